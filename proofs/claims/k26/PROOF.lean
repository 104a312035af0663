import PyProof.Rows.All
import Wide.All
import OpenK.AllK
import Wide.FinOn
import Lean
import PyProof.EqAt
import PyProof.EqKinds
import PyProof.TupleCall
import PySem.Challenge.RW_voucherstack_k26_bills_of_beginnings
set_option Elab.async false
set_option linter.all false
set_option maxRecDepth 100000
open Array renaming length_toList → Rb, size_zip → RG, getElem?_eq_getElem → Se, getElem?_toList → Sx
open Bool renaming false_ne_true → FW, false_eq_true → Cv, and_eq_true → Re, eq_iff_iff → Rw, false_and → RY, or_eq_true → Sb
open List renaming length_map → FJ, replicate → FO, range → FU, mem_of_getElem? → FV, map_append → FX, getElem?_eq_some_iff → FZ, getElem?_map → F0, length_take → F2, size_toArray → F3, mem_map → F4, mem_cons → F5, getD_eq_getElem?_getD → F6, map_cons → F7, mem_cons_of_mem → F9, length_append → Ca, map_map → Cb, mem_cons_self → Cd, flatten_cons → Cf, lookup_cons → Ck, zipWith → Cp, mem_append → Cq, mem_append_right → Cr, length_cons → Cu, take_length → Cw, map_congr_left → Cy, take_of_length_le → Cz, not_mem_nil → CA, lookup → CD, nodup_cons → CG, length_replicate → CI, mem_filter → CJ, getElem?_eq_getElem → CU, take_add_one → CV, mem_singleton → CW, range_succ → CY, mem_flatten → CZ, map_take → C0, take_nil → C1, of_mem_zip → C3, replicate_succ → C4, ext_getElem → C5, any_cons → C6, append_assoc → C7, pairwise_iff_getElem → C9, mem_iff_getElem? → Ra, getElem?_append_right → Rc, Pairwise → Rf, all_eq_true → Rg, drop_zero → Rh, length_zipWith → Ri, mem_of_mem_take → Rj, take_succ_cons → Rk, getElem?_append_left → Rn, find?_cons → Rp, getElem_map → Rq, getElem?_zipWith → Rr, filter_append → Rt, getElem?_set_self → Ru, getElem?_set_ne → Rv, length → RA, length_drop → RB, all_cons → RC, reverse_cons → RD, nil_append → RE, flatten_append → RJ, nodup_range → RK, length_filter_le → RL, getElem_range → RM, pairwise_cons → RN, Perm → RO, getElem?_range → RP, replicate_succ' → RQ, sum_append → RS, take_zero → RT, getElem?_eq_none_iff → RU, filterMap_cons → RW, mem_append_left → RX, append_nil → R4, getElem?_replicate → R6, map_nil → R7, length_singleton → R9, length_dropLast → Sa, nodup_nil → Sd, cons_append → Sf, count_cons → Sg, zipIdx_cons → Sh, pairwise_lt_range → Si, getElem?_eq_none → Sj, take_append_drop → Sk, nodup_append → Sl, pairwise_map → Sm, map_drop → Sn, getLastD_eq_getLast? → So, sum_cons → Sq, drop_eq_getElem_cons → Sr, drop_length → Ss, getElem?_take_of_lt → Sw, take_eq_take_iff → Sy, getElem_cons_drop → SC, sublist_append_left → SD, getLast?_eq_some_getLast → SE, drop_of_length_le → SF
open Nat renaming le_refl → FM, le_trans → FQ, le_of_lt → FY, lt_of_lt_of_le → F8, ne_of_lt → Cc, zero_le → Cm, ne_of_gt → CC, lt_irrefl → CP, lt_of_le_of_lt → CT, min_self → C8, le_succ → Rm, min_eq_left → Ro, le_of_eq → Ry, lt_succ_self → R1
open Option renaming map_some → RF, getD_none → R8
open PySem.F renaming plainAttrs_list → Ct, slot_list_append → CN, type_list_append → CO, slot_dict_setdefault → Sz, plainAttrs_dict → SA, slot_dict_values → SB, slot_list_extend → SG, type_list_extend → SH
open PySem.W renaming fnOf → FI, Frag → FK, findIn → FL, keepIn → FN, nsIn → FP, codeIn → FR, mg_of → FS, mroIn → FT, kitOne → F1, isFn → Ce, mg_none_of → Cg, plainGet → Ci, typeIn → Cj, hasDictIn → Cn, makesIn → Co, plainOver → Cs, kia_one → CF, emptyDict → CQ, instObj → C2, specialIn → Rl, lookIn → Rx, callWith_K → Rz, kla_obj → RH, tabObj → RI, methodObj → RV, plainGet_of → RZ, takerIn → R0, takesIn → R3, methodCall_KW → R5, callWith_K0 → Su, cellsFrom_some → Sv
namespace L2
open PySem PySem.Spec PyProof.Rows
noncomputable abbrev Key := Sum Int Str
noncomputable def keyIs : Key → Value → Bool
 | .inl k, v => Value.isInt k v
 | .inr x, v => Value.isStrOf x v
noncomputable def keyH (w : World) : Key → Int
 | .inl k => hashInt k
 | .inr x => hashStr w x
theorem kbz : ∀ {k : Key} {v : Value}, keyIs k v = true → (∃ i t, k = Sum.inl i ∧ v = Value.int i t) ∨ (∃ x t, k = Sum.inr x ∧ v = Value.str x t)
 | .inl i, v, h => by
  obtain ⟨t, e⟩ := Value.isInt_shape (k := i) (v := v) h
  exact .inl ⟨i, t, rfl, e⟩
 | .inr x, v, h => by
  obtain ⟨t, e⟩ := Value.isStrOf_shape (x := x) (v := v) h
  exact .inr ⟨x, t, rfl, e⟩
theorem khG (i : Int) (t : Tok) : keyIs (.inl i) (.int i t) = true := by simp [keyIs, Value.isInt]
theorem kkW (a b : Int) : decide ((Sum.inl a : Key) = Sum.inl b) = (a == b) := by
 by_cases e : a = b
 ·subst e; simp
 ·have h : ¬ (Sum.inl a : Key) = Sum.inl b := fun q => e (Sum.inl.inj q)
  rw [decide_eq_false h]
  exact (beq_eq_false_iff_ne.mpr e).symm
theorem kkT (a b : Str) : decide ((Sum.inr a : Key) = Sum.inr b) = decide (a = b) := by
 by_cases e : a = b
 ·subst e; simp
 ·have h : ¬ (Sum.inr a : Key) = Sum.inr b := fun q => e (Sum.inr.inj q)
  rw [decide_eq_false h, decide_eq_false e]
theorem kkV (a : Int) (b : Str) : decide ((Sum.inl a : Key) = Sum.inr b) = false := decide_eq_false (fun q => nomatch q)
theorem kkU (a : Str) (b : Int) : decide ((Sum.inr a : Key) = Sum.inl b) = false := decide_eq_false (fun q => nomatch q)
noncomputable def kcV (prog : Program) (w : World) : PySem.KeyKind prog w Key where
 is := keyIs
 hash := keyH w
 inj := fun v a b ha hb => by
  rcases kbz ha with ⟨i, t, rfl, rfl⟩ | ⟨x, t, rfl, rfl⟩
  ·rcases kbz hb with ⟨j, u, rfl, e⟩ | ⟨y, u, rfl, e⟩
   ·injection e with e1 _; rw [e1]
   ·exact nomatch e
  ·rcases kbz hb with ⟨j, u, rfl, e⟩ | ⟨y, u, rfl, e⟩
   ·exact nomatch e
   ·injection e with e1 _; rw [e1]
 byValue := fun k v h => by
  rcases kbz h with ⟨i, t, rfl, rfl⟩ | ⟨x, t, rfl, rfl⟩ <;> rfl
 pyHash := fun hv h => by
  rcases kbz hv with ⟨i, t, rfl, rfl⟩ | ⟨x, t, rfl, rfl⟩
  ·exact wpAny_pyHash_int h
  ·exact wpAny_pyHash_str h
 eqBool := fun hu hv h => by
  rcases kbz hu with ⟨i, t, rfl, rfl⟩ | ⟨x, t, rfl, rfl⟩
  ·rcases kbz hv with ⟨j, u, rfl, rfl⟩ | ⟨y, u, rfl, rfl⟩
   ·rw [kkW] at h; exact wpAny_eqBool_int h
   ·rw [kkV] at h; exact SeqAt.EqAt.int_str i t y u _ _ _ _ h
  ·rcases kbz hv with ⟨j, u, rfl, rfl⟩ | ⟨y, u, rfl, rfl⟩
   ·rw [kkU] at h; exact SeqAt.EqAt.str_int x t j u _ _ _ _ h
   ·rw [kkT] at h; exact wpAny_eqBool_str h
 «strs» := fun k x t v h => by
  rcases kbz h with ⟨i, u, rfl, e⟩ | ⟨y, u, rfl, e⟩
  ·exact nomatch e
  ·injection e with e1 _
   subst e1
   cases v <;> rfl
theorem kfX (prog : Program) (w : World) (i : Int) (t : Tok) : (kcV prog w).is (.inl i) (.int i t) = true := khG i t
end L2
namespace L2
open PySem PySem.Spec PyProof.Rows
inductive V where
 | non | bl (b : Bool) | int (i : Int) | str (x : Str) | byt (b : Array UInt8) | flt (b : UInt64) | ref (a : Addr) | ty (n : String)
 deriving DecidableEq
noncomputable def RelV : V → Value → Prop
 | .non, u => u = Value.none
 | .bl b, u => u = Value.bool b
 | .int i, u => ∃ t, u = Value.int i t
 | .str x, u => ∃ t, u = Value.str x t
 | .byt b, u => ∃ t, u = Value.bytes b t
 | .flt b, u => ∃ t, u = Value.float b t
 | .ref a, u => u = Value.ref a
 | .ty n, u => u = Value.type n
noncomputable abbrev Vals : List V → List Value → Prop := Paired RelV
theorem Vals.length {xs : List V} {us : List Value} (r : Vals xs us) : xs.length = us.length := Paired.length r
theorem Vals.get : ∀ {xs : List V} {us : List Value} {i : Nat} {x : V}, Vals xs us → xs[i]? = some x → ∃ u, us[i]? = some u ∧ RelV x u
 | _, _, _, _, .nil, e => by simp at e
 | _, _, 0, _, .cons r _, e => by simp at e; subst e; exact ⟨_, rfl, r⟩
 | _, _, i + 1, x, .cons _ t, e => by
  obtain ⟨u, h1, h2⟩ := Vals.get (i := i) (x := x) t (by simpa using e)
  exact ⟨u, by simpa using h1, h2⟩
theorem Vals.set {x : V} {u : Value} (r : RelV x u) : ∀ {xs : List V} {us : List Value} (i : Nat), Vals xs us → Vals (xs.set i x) (us.set i u)
 | _, _, _, .nil => .nil
 | _, _, 0, .cons _ t => .cons r t
 | _, _, i + 1, .cons q t => .cons q (Vals.set r i t)
theorem Vals.append : ∀ {xs ys : List V} {us ws : List Value}, Vals xs us → Vals ys ws → Vals (xs ++ ys) (us ++ ws)
 | _, _, _, _, .nil, s => s
 | _, _, _, _, .cons r t, s => .cons r (Vals.append t s)
theorem Vals.take : ∀ {xs : List V} {us : List Value} (n : Nat), Vals xs us → Vals (xs.take n) (us.take n)
 | _, _, 0, _ => .nil
 | _, _, _ + 1, .nil => .nil
 | _, _, n + 1, .cons r t => .cons r (Vals.take n t)
theorem Vals.drop : ∀ {xs : List V} {us : List Value} (n : Nat), Vals xs us → Vals (xs.drop n) (us.drop n)
 | _, _, 0, r => r
 | _, _, _ + 1, .nil => .nil
 | _, _, n + 1, .cons _ t => Vals.drop n t
theorem Vals.none_of : ∀ {xs : List V} {us : List Value} {i : Nat}, Vals xs us → xs[i]? = none → us[i]? = none := fun {xs us i} r e => by
 have h1 := r.length
 have h2 : xs.length ≤ i := RU.mp e
 exact RU.mpr (by omega)
noncomputable def RelO : Option V → Option Value → Prop
 | some v, some u => RelV v u
 | none, none => True
 | _, _ => False
noncomputable def KV {κ : Type} : List (κ × V) → List (κ × Value) → Prop := Paired fun (p : κ × V) (q : κ × Value) => p.1 = q.1 ∧ RelV p.2 q.2
noncomputable def kV : Key → V
 | .inl i => .int i
 | .inr x => .str x
inductive HO where
 | lst (xs : List V)
 | tup (xs : List V)
 | dK (kvs : List (Key × V)) | dT (kvs : List (List Key × V))
 | set (S : Int → Bool) (n : Nat)
 | ins (C dx : Addr) (fs : List (Str × V))
 | own (x : Addr)
 | xd (fs : List (Str × V))
 | met (f x : Addr)
 | rng (lo hi : Int)
 | frz (o : Obj) (u : HO)
 | tbl (ps : Array Value)
 | ext (φ : Heap → Prop)
noncomputable abbrev Hp := Addr → Option HO
noncomputable def upd (H : Hp) (a : Addr) (o : HO) : Hp := fun b => if b = a then some o else H b
theorem kad {H : Hp} {a : Addr} {o : HO} : upd H a o a = some o := by unfold upd; rw [if_pos rfl]
theorem kam {H : Hp} {a b : Addr} {o : HO} (h : b ≠ a) : upd H a o b = H b := by unfold upd; rw [if_neg h]
theorem kjz {H : Hp} {a : Addr} {o u : HO} : upd (upd H a o) a u = upd H a u := by
 funext b; unfold upd; split <;> rfl
theorem ne_of {H : Hp} {a b : Addr} {o u : HO} (h : H a = some o) (h' : H b = some u) (d : o ≠ u) : a ≠ b := by
 intro e; subst e; rw [h] at h'; exact d (Option.some.inj h')
theorem kal {H : Hp} {a b : Addr} {o : HO} (h : H a = some o) (h' : H b = none) : a ≠ b := by
 intro e; subst e; rw [h] at h'; cases h'
section
variable (P : Program) (w : World)
noncomputable def ObjOk (H : Hp) (h : Heap) (a : Addr) : HO → Prop
 | .lst xs => xs.length ≤ sizeLine ∧ ∃ (its : List Value) (n : Nat), Vals xs its ∧ h.get? a = some { cls := .type "list", data := .seq its.toArray n }
 | .tup xs => xs.length ≤ sizeLine ∧ ∃ its : List Value, Vals xs its ∧ IsTup h a its.toArray
 | .dK kvs => kvs.length ≤ sizeLine ∧ (a == sysModules) = false ∧ ∃ vs, KV kvs vs ∧ h.DictOf (kcV P w) a vs
 | .dT kvs => kvs.length ≤ sizeLine ∧ (a == sysModules) = false ∧ ∃ xs : List (List Key × Addr × Value),
   Paired (fun (p : List Key × V) (q : List Key × Addr × Value) => p.1 = q.1 ∧ H q.2.1 = some (.tup (p.1.map kV)) ∧ RelV p.2 q.2.2) kvs xs ∧
   ∃ o es ep, h.get? a = some o ∧ o.ExactDict ∧ o.data = .dict es ep ∧ es.toList = xs.map (entryOfKey (tupleKind (kcV P w))) ∧ (xs.map (·.1)).Nodup
 | .set S n => h.SetOf (intKind P w) a S n
 | .ins C dx fs => H dx = some (.own a) ∧ fs.length ≤ 1000 ∧ dx ≠ a ∧ h.get? a = some (C2 C dx) ∧
   ∃ mA, h.Ns1 dx mA ∧ (∀ f, RelO (fs.lookup f) (mA f)) ∧ PySem.Within mA (fs.map (·.1))
 | .own _ => ∃ o, h.get? a = some o
 | .xd fs => ∃ mA, h.Ns1 a mA ∧ ∀ f, RelO (fs.lookup f) (mA f)
 | .rng lo hi => ∃ t u v, h.get? a = some { cls := .type "range", data := .fields #[.int lo t, .int hi u, .int 1 v] }
 | .frz o u => h.get? a = some o ∧ ObjOk H h a u
 | .tbl ps => h.get? a = some { cls := .none, data := .fields ps }
 | .met f x => h.get? a = some (RV (.ref f) (.ref x))
 | .ext φ => φ h ∧ (∃ o, h.get? a = some o) ∧ ∀ h1 h2 : Heap, φ h1 → (∀ o, h1.get? a = some o → h2.get? a = some o) → φ h2
noncomputable def HOk (H : Hp) (h : Heap) : Prop := ∀ a o, H a = some o → ObjOk P w H h a o
end
section
variable {P : Program} {w : World} {H H' : Hp} {h h' : Heap} {a : Addr} {o : HO}
theorem ObjOk.lt (x : ObjOk P w H h a o) : a < h.objs.size := by
 cases o with
 | lst xs => obtain ⟨_, _, _, _, e⟩ := x; exact Heap.lt_size e
 | tup xs => obtain ⟨_, _, _, p⟩ := x; exact p.lt
 | dK kvs => obtain ⟨_, _, _, _, o, _, _, e, _⟩ := x; exact Heap.lt_size e
 | dT kvs => obtain ⟨_, _, _, _, o, _, _, e, _⟩ := x; exact Heap.lt_size e
 | set S n => obtain ⟨o, _, _, _, e, _⟩ := x; exact Heap.lt_size e
 | ins C dx fs => obtain ⟨_, _, _, e, _⟩ := x; exact Heap.lt_size e
 | own y => obtain ⟨_, e⟩ := x; exact Heap.lt_size e
 | xd fs => obtain ⟨_, ⟨_, _, _, e, _⟩, _⟩ := x; exact Heap.lt_size e
 | rng lo hi => obtain ⟨_, _, _, e⟩ := x; exact Heap.lt_size e
 | frz ob u => obtain ⟨e, _⟩ := x; exact Heap.lt_size e
 | tbl ps => exact Heap.lt_size (show h.get? a = some _ from x)
 | met f y => exact Heap.lt_size (show h.get? a = some _ from x)
 | ext φ => obtain ⟨_, ⟨_, e⟩, _⟩ := x; exact Heap.lt_size e
theorem Paired.mapP {α β : Type} {F G : α → β → Prop} : ∀ {l₁ : List α} {l₂ : List β}, Paired F l₁ l₂ → (∀ a b, F a b → G a b) → Paired G l₁ l₂
 | _, _, .nil, _ => .nil
 | _, _, .cons r t, f => .cons (f _ _ r) (Paired.mapP t f)
theorem ObjOk.stay (x : ObjOk P w H h a o) (k : ∀ b u, (b = a ∨ H b = some (.own a)) → h.get? b = some u → h'.get? b = some u)
  (ho : ∀ b, H b = some (.own a) → H' b = some (.own a)) (ht : ∀ b xs, H b = some (.tup xs) → H' b = some (.tup xs)) : ObjOk P w H' h' a o := by
 induction o with
 | lst xs => obtain ⟨z, its, n, r, e⟩ := x; exact ⟨z, its, n, r, k _ _ (.inl rfl) e⟩
 | tup xs => obtain ⟨z, its, r, ob, e, c⟩ := x; exact ⟨z, its, r, ob, k _ _ (.inl rfl) e, c⟩
 | dK kvs => obtain ⟨z, y, vs, r, ob, es, ep, e, c⟩ := x; exact ⟨z, y, vs, r, ob, es, ep, k _ _ (.inl rfl) e, c⟩
 | dT kvs =>
  obtain ⟨z, y, xs, r, ob, es, ep, e, c⟩ := x
  exact ⟨z, y, xs, Paired.mapP r fun p q z => ⟨z.1, ht _ _ z.2.1, z.2.2⟩, ob, es, ep, k _ _ (.inl rfl) e, c⟩
 | set S n => obtain ⟨ob, es, ep, t, e, c⟩ := x; exact ⟨ob, es, ep, t, k _ _ (.inl rfl) e, c⟩
 | ins C dx fs =>
  obtain ⟨d, z, ne, e, mA, ⟨od, es, ep, e2, c⟩, r⟩ := x
  exact ⟨ho _ d, z, ne, k _ _ (.inl rfl) e, mA, ⟨od, es, ep, k _ _ (.inr d) e2, c⟩, r⟩
 | own y => obtain ⟨ob, e⟩ := x; exact ⟨ob, k _ _ (.inl rfl) e⟩
 | xd fs => obtain ⟨mA, ⟨od, es, ep, e, c⟩, r⟩ := x; exact ⟨mA, ⟨od, es, ep, k _ _ (.inl rfl) e, c⟩, r⟩
 | rng lo hi => obtain ⟨t, u, v, e⟩ := x; exact ⟨t, u, v, k _ _ (.inl rfl) e⟩
 | frz ob u ih => obtain ⟨e, q⟩ := x; exact ⟨k _ _ (.inl rfl) e, ih q⟩
 | tbl ps =>
  have e : h.get? a = some { cls := .none, data := .fields ps } := x
  show h'.get? a = some { cls := .none, data := .fields ps }
  exact k a _ (.inl rfl) e
 | met f y =>
  have e : h.get? a = some (RV (.ref f) (.ref y)) := x
  show h'.get? a = some (RV (.ref f) (.ref y))
  exact k a _ (.inl rfl) e
 | ext φ => obtain ⟨p, ⟨o, e⟩, st⟩ := x; exact ⟨st _ _ p fun o q => k _ _ (.inl rfl) q, ⟨o, k _ _ (.inl rfl) e⟩, st⟩
theorem HOk.lt (x : HOk P w H h) (e : H a = some o) : a < h.objs.size := (x a o e).lt
theorem HOk.fresh (x : HOk P w H h) (e : h.objs.size ≤ a) : H a = none := by
 cases q : H a with
 | none => rfl
 | some u => exact absurd (F8 (x.lt q) e) (CP _)
theorem HOk.kept (x : HOk P w H h) (k : ∀ b u, h.get? b = some u → h'.get? b = some u) : HOk P w H h' := fun a o e =>
 (x a o e).stay (fun b u _ q => k b u q) (fun _ q => q) fun _ _ q => q
theorem HOk.laid (x : HOk P w H h) (k : ∀ b u, h.get? b = some u → h'.get? b = some u) (hp : h.objs.size ≤ a) (new : ObjOk P w (upd H a o) h' a o) : HOk P w (upd H a o) h' := fun b u e => by
 have hn := x.fresh hp
 by_cases hb : b = a
 ·subst hb; rw [kad] at e; cases e; exact new
 ·rw [kam hb] at e
  exact (x b u e).stay (fun c v _ q => k c v q) (fun c q => by rw [kam (kal q hn)]; exact q) fun c xs q => by rw [kam (kal q hn)]; exact q
end
noncomputable def Rd (H : Hp) (a : Addr) (u : HO) : Prop := H a = some u ∨ ∃ o, H a = some (.frz o u)
theorem Rd.of {H : Hp} {a : Addr} {u : HO} (h : H a = some u) : Rd H a u := .inl h
theorem Rd.ok {P : Program} {w : World} {H : Hp} {h : Heap} {a : Addr} {u : HO} (r : Rd H a u) (x : HOk P w H h) : ObjOk P w H h a u := by
 rcases r with r | ⟨o, r⟩
 ·exact x a u r
 ·obtain ⟨_, q⟩ := x a _ r
  exact q
noncomputable def Mut : Option HO → Prop
 | some (.lst _) => True
 | some (.dK _) => True
 | some (.dT _) => True
 | some (.set _ _) => True
 | some (.ins _ _ _) => True
 | some (.ext _) => True
 | _ => False
section
variable {P : Program} {w : World} {H : Hp} {h h' : Heap} {x e : Addr} {o' : HO}
theorem HOk.write (ok : HOk P w H h) (mu : Mut (H x)) (he : e = x ∨ H e = some (.own x)) (k : ∀ b u, b ≠ e → h.get? b = some u → h'.get? b = some u) (heo : ∃ u, h'.get? e = some u)
  (new : ObjOk P w (upd H x o') h' x o') : HOk P w (upd H x o') h' := fun b u q => by
 have nown : ∀ c y, H c = some (.own y) → c ≠ x := fun c y r z => by subst z; rw [r] at mu; exact mu
 have ntup : ∀ c xs, H c = some (.tup xs) → c ≠ x := fun c xs r z => by subst z; rw [r] at mu; exact mu
 by_cases hb : b = x
 ·subst hb; rw [kad] at q; cases q; exact new
 ·rw [kam hb] at q
  by_cases hbe : b = e
  ·have q' : H b = some (.own x) := by
    rcases he with z | z
    ·exact absurd (hbe.trans z) hb
    ·rw [hbe]; exact z
   rw [q] at q'; cases q'
   obtain ⟨v, hv⟩ := heo
   exact ⟨v, by rw [hbe]; exact hv⟩
  ·refine (ok b u q).stay (fun c v hc r => k c v ?_ r) (fun c r => by rw [kam (nown c b r)]; exact r) fun c xs r => by rw [kam (ntup c xs r)]; exact r
   rcases hc with rfl | hc
   ·exact hbe
   ·rintro rfl
    rcases he with z | z
    ·exact nown c b hc z
    ·rw [hc] at z; cases z; exact hb rfl
end
structure Un (fs ex : List Addr) (H H' : Hp) (h h' : Heap) : Prop where
 keep : ∀ b o, h.get? b = some o → H b = none → b ∉ fs → b ∉ ex → h'.get? b = some o
 slot : ∀ b o, h.get? b = some o → H b = none → b ∈ fs → b ∉ ex → ∃ sl, h'.get? b = some { o with slots := sl }
 free : ∀ b o, h.get? b = some o → H b = none → b ∉ ex → H' b = none
 there : ∀ b o, h.get? b = some o → b ∉ ex → ∃ o', h'.get? b = some o'
 tups : ∀ b xs, H b = some (.tup xs) → H' b = some (.tup xs)
 frzs : ∀ b o u, H b = some (.frz o u) → H' b = some (.frz o u)
 tbls : ∀ b ps, H b = some (.tbl ps) → ∃ more, H' b = some (.tbl (ps ++ more))
section
variable {fs fs' ex ex' : List Addr} {H H1 H2 : Hp} {h h1 h2 h' : Heap} {a x e : Addr} {o : HO}
theorem Un.any (u : Un fs ex H H1 h h1) {b : Addr} {ob : Obj} (q : h.get? b = some ob) (n : H b = none) (hx : b ∉ ex) : ∃ sl, h1.get? b = some { ob with slots := sl } := by
 by_cases hb : b ∈ fs
 ·exact u.slot b ob q n hb hx
 ·exact ⟨ob.slots, u.keep b ob q n hb hx⟩
theorem Un.trans (a : Un fs ex H H1 h h1) (b : Un fs ex H1 H2 h1 h2) : Un fs ex H H2 h h2 where
 keep := fun c ob q n hc hx => b.keep c ob (a.keep c ob q n hc hx) (a.free c ob q n hx) hc hx
 slot := fun c ob q n hc hx => by
  obtain ⟨sl, e1⟩ := a.slot c ob q n hc hx
  obtain ⟨sl', e2⟩ := b.slot c _ e1 (a.free c ob q n hx) hc hx
  exact ⟨sl', e2⟩
 free := fun c ob q n hx => by
  obtain ⟨o', e1⟩ := a.there c ob q hx
  exact b.free c o' e1 (a.free c ob q n hx) hx
 there := fun c ob q hx => by
  obtain ⟨o', e1⟩ := a.there c ob q hx
  exact b.there c o' e1 hx
 tups := fun c xs q => b.tups c xs (a.tups c xs q)
 frzs := fun c ob xs q => b.frzs c ob xs (a.frzs c ob xs q)
 tbls := fun c ps q => by
  obtain ⟨m1, e1⟩ := a.tbls c ps q
  obtain ⟨m2, e2⟩ := b.tbls c _ e1
  exact ⟨m1 ++ m2, by rw [e2, Array.append_assoc]⟩
theorem Un.kept (k : ∀ b u, h.get? b = some u → h'.get? b = some u) : Un fs ex H H h h' :=
 ⟨fun b ob q _ _ _ => k b ob q, fun b ob q _ _ _ => ⟨ob.slots, k b ob q⟩, fun _ _ _ n _ => n, fun b ob q _ => ⟨ob, k b ob q⟩, fun _ _ q => q, fun _ _ _ q => q, fun _ ps q => ⟨#[], by rw [q]; simp⟩⟩
theorem Un.refl : Un fs ex H H h h := Un.kept fun _ _ q => q
theorem Un.laid (k : ∀ b u, h.get? b = some u → h'.get? b = some u) (hp : h.objs.size ≤ a) (hn : H a = none) : Un fs ex H (upd H a o) h h' where
 keep := fun b u q _ _ _ => k b u q
 slot := fun b u q _ _ _ => ⟨u.slots, k b u q⟩
 free := fun b u q n _ => by rw [kam (Cc (F8 (Heap.lt_size q) hp))]; exact n
 there := fun b u q _ => ⟨u, k b u q⟩
 tups := fun b xs q => by rw [kam (kal q hn)]; exact q
 frzs := fun b u xs q => by rw [kam (kal q hn)]; exact q
 tbls := fun b ps q => ⟨#[], by rw [kam (kal q hn), q]; simp⟩
theorem Un.write (mu : Mut (H x)) (he : e = x ∨ H e = some (.own x)) (k : ∀ b u, b ≠ e → h.get? b = some u → h'.get? b = some u) (heo : ∃ u, h'.get? e = some u) : Un fs ex H (upd H x o) h h' := by
 have hx : ∀ b, H b = none → b ≠ x := fun b n z => by subst z; rw [n] at mu; exact mu
 have hb : ∀ b, H b = none → b ≠ e := fun b n z => by
  subst z
  rcases he with r | r
  ·exact hx b n r
  ·rw [n] at r; cases r
 have hm : ∀ b u, H b = some u → ¬ Mut (some u) → b ≠ x := fun b u q nm z => by subst z; rw [q] at mu; exact nm mu
 refine ⟨fun b u q n _ _ => k b u (hb b n) q, fun b u q n _ _ => ⟨u.slots, k b u (hb b n) q⟩, fun b u q n _ => by rw [kam (hx b n)]; exact n, fun b u q _ => ?_,
  fun b xs q => by rw [kam (hm b _ q fun z => z)]; exact q, fun b u xs q => by rw [kam (hm b _ q fun z => z)]; exact q, fun b ps q => ⟨#[], by rw [kam (hm b _ q fun z => z), q]; simp⟩⟩
 by_cases hbe : b = e
 ·subst hbe; exact heo
 ·exact ⟨u, k b u hbe q⟩
theorem Un.mono (u : Un fs ex H H1 h h1) (hs : ∀ b ∈ fs, b ∈ fs') (hx : ∀ b ∈ ex, b ∈ ex') : Un fs' ex' H H1 h h1 :=
 ⟨fun b ob q n hb he => u.keep b ob q n (fun z => hb (hs b z)) fun z => he (hx b z), fun _ _ q n _ he => u.any q n fun z => he (hx _ z), fun b ob q n he => u.free b ob q n fun z => he (hx b z), fun b ob q he => u.there b ob q fun z => he (hx b z), u.tups, u.frzs, u.tbls⟩
end
noncomputable def trk (h : Heap) (H : Hp) : List Addr := (FU h.objs.size).filter fun a => (H a).isSome
noncomputable def hidT (h : Heap) (H : Hp) : Heap := PySem.W.hideAll h (trk h H)
theorem khN (h : Heap) (H : Hp) : (hidT h H).objs.size = h.objs.size := PySem.W.hideAll_size _ _
theorem kiU {h : Heap} {H : Hp} {b : Addr} {o : Obj} (e : h.get? b = some o) (n : H b = none) : (hidT h H).get? b = some o :=
 PySem.W.hideAll_get _ e fun hm => by
  have q : (H b).isSome = true := (CJ.mp hm).2
  rw [n] at q; simp at q
theorem kka {h : Heap} {H : Hp} {b : Addr} {o : Obj} (e : (hidT h H).get? b = some o) : h.get? b = some o ∧ H b = none := by
 have e' : h.get? b = some o := PySem.W.of_hideAll (trk h H) e
 refine ⟨e', ?_⟩
 cases q : H b with
 | none => rfl
 | some x =>
  have hm : b ∈ trk h H := CJ.mpr ⟨List.mem_range.mpr (Heap.lt_size e'), by simp [q]⟩
  have z : (hidT h H).get? b = none := PySem.W.hideAll_none (trk h H) hm
  rw [z] at e; cases e
noncomputable def kku (g h : Heap) (L : Addr) : List (Addr × Obj) := (FU h.objs.size).filterMap fun a => if a = L ∨ (g.get? a).isSome = true then none else (h.get? a).map fun o => (a, o)
noncomputable def rest (g h : Heap) (L d : Addr) : List (Addr × Obj) := (kku g h L).filter fun p => decide (p.1 ≠ d)
end L2
namespace L2
open PySem PySem.Spec PyProof.Rows
structure Mod (K : FK) (mg : Str → Option Value) (base : Heap) : Prop where
 kin : K.In base
 glob : base.Ns mainGlobals mg
 blt : ∃ mb, base.Ns builtinsNs mb ∧ ∀ x : Str, x ≠ "__name__" → mb x = bootBuiltins x
 nolimit : base.NoLimit
structure Cx where
 prog : Program
 w : World
 K : FK
 mg : Str → Option Value
 base : Heap
 A : Around
 N : List Str
 s₀ : Shared
 H₀ : Hp
 env : Env
 outer : List Env
 stack : List Env
 ex : List Addr
 fn : Str → Bool
 calm : Bool
 pn : List (Addr × Obj)
 xe : Value → Shared → Prop
noncomputable def frs (l : List Env) : List Addr := l.filterMap (·.frame)
noncomputable abbrev Cx.fs (X : Cx) : List Addr := frs X.outer
noncomputable def Vis (sc : Scope) (x : Str) : Prop := sc.names.lookup x = some .local ∨ sc.names.lookup x = some .cell ∨ sc.names.lookup x = some .free
noncomputable def Loc (sc : Scope) (x : Str) : Prop := sc.names.lookup x = some .local ∨ sc.names.lookup x = some .cell
noncomputable def Look (env : Env) (h : Heap) (m : Str → Option Value) (x : Str) (u : Value) : Prop :=
 (env.kindOf x = some .local ∧ m x = some u) ∨ ((env.kindOf x = some .cell ∨ env.kindOf x = some .free) ∧ ∃ c, env.cells.lookup x = some c ∧ h.IsCell c (some u))
structure Cx.Ok (X : Cx) : Prop where
 mod : Mod X.K X.mg X.base
 kind : X.env.scope.kind = .function
 glob : X.env.globals = mainGlobals
 blt : X.env.builtins = builtinsNs
 above : X.s₀.heap.objs.size ≤ X.env.locals
 inj : ∀ x y c, X.env.cells.lookup x = some c → X.env.cells.lookup y = some c → x = y
 has : ∀ x, (X.env.kindOf x = some .cell ∨ X.env.kindOf x = some .free) → ∃ c, X.env.cells.lookup x = some c
 cab : ∀ x c, X.fn x = true → X.env.cells.lookup x = some c → X.s₀.heap.objs.size ≤ c
 hd : X.calm = true → X.A.handled = none
 frames : X.A.frames = some X.stack
 stk : X.stack = X.outer ∨ (X.stack = X.env :: X.outer ∧ X.env.frame = some X.env.locals)
 exf : ∀ b ∈ X.ex, b ≠ X.env.locals ∧ ∀ x c, X.env.cells.lookup x = some c → c ≠ b
 bs : ∀ b o, X.base.get? b = some o → X.s₀.heap.get? b = some o ∧ X.H₀ b = none
 bsz : X.base.objs.size ≤ X.s₀.heap.objs.size
 noex : ∀ b o, X.base.get? b = some o → b ∉ X.ex
 exfs : ∀ b ∈ X.ex, b ∉ X.fs
 funs : X.s₀.heap.FunFrames X.base X.outer
 frf : ∀ b ∈ X.fs, X.H₀ b = none
structure Inv (X : Cx) (pins : List (Addr × Obj)) (σ : List (Option V)) (H : Hp) (s : Shared) : Prop where
 ok : X.Ok
 os : s.os = X.s₀.os
 bare : AllBare s.gens
 base : Un X.fs X.ex X.H₀ H X.s₀.heap s.heap
 loc : ∃ m, s.heap.Ns X.env.locals m ∧ ∀ (i : Nat) (x : Str) (v : V), X.N[i]? = some x → σ[i]? = some (some v) → Vis X.env.scope x → ∃ u, RelV v u ∧ Look X.env s.heap m x u
 cell : ∀ x c, X.env.cells.lookup x = some c → ∃ v, s.heap.IsCell c v
 free : H X.env.locals = none
 freeC : ∀ x c, X.env.cells.lookup x = some c → H c = none
 pin : ∀ p ∈ X.pn ++ pins, s.heap.get? p.1 = some p.2 ∧ H p.1 = none ∧ p.1 ≠ X.env.locals ∧ p.1 ∉ X.fs ∧ ∀ v, p.2.data ≠ .cell v
 hok : HOk X.prog X.w H s.heap
 len : σ.length = X.N.length
section
variable {X : Cx} {pins : List (Addr × Obj)} {σ : List (Option V)} {H H' : Hp} {s : Shared} {h' : Heap}
theorem Cx.Ok.nofr (ok : X.Ok) {b : Addr} {o : Obj} (e : X.base.get? b = some o) : b ∉ X.fs := fun hb => by
 have := (ok.funs.mem hb).1
 rw [e] at this; cases this
theorem Inv.bs (I : Inv X pins σ H s) : ∀ b o, X.base.get? b = some o → s.heap.get? b = some o ∧ H b = none := fun b o e =>
 ⟨I.base.keep b o (I.ok.bs b o e).1 (I.ok.bs b o e).2 (I.ok.nofr e) (I.ok.noex b o e), I.base.free b o (I.ok.bs b o e).1 (I.ok.bs b o e).2 (I.ok.noex b o e)⟩
theorem Inv.bk (I : Inv X pins σ H s) : ∀ b o, X.base.get? b = some o → s.heap.get? b = some o := fun b o e => (I.bs b o e).1
theorem Inv.mod (I : Inv X pins σ H s) : Mod X.K X.mg X.base := I.ok.mod
theorem Inv.kIn (I : Inv X pins σ H s) : X.K.In s.heap := I.ok.mod.kin.keeps I.bk
theorem Inv.nolimit (I : Inv X pins σ H s) : s.heap.NoLimit := I.ok.mod.nolimit.keeps I.bk
theorem Inv.fr (I : Inv X pins σ H s) : ∃ m, Fr X.base X.env.locals s.heap m :=
 let ⟨m, hn, _⟩ := I.loc
 ⟨m, hn, I.bk, FQ I.ok.bsz I.ok.above⟩
theorem Inv.lt (I : Inv X pins σ H s) : X.env.locals < s.heap.objs.size := let ⟨_, hn, _⟩ := I.loc; hn.lt
theorem Inv.sz (I : Inv X pins σ H s) : X.s₀.heap.objs.size ≤ s.heap.objs.size := FQ I.ok.above (FY I.lt)
theorem Inv.nofs (I : Inv X pins σ H s) {a : Addr} (h : s.heap.objs.size ≤ a) : a ∉ X.fs := fun hb => by
 obtain ⟨_, o, ho, _⟩ := I.ok.funs.mem hb
 exact absurd (F8 (Heap.lt_size ho) (FQ I.sz h)) (CP _)
theorem Inv.cne (I : Inv X pins σ H s) : ∀ x c, X.env.cells.lookup x = some c → c ≠ X.env.locals := fun x c e z => by
 obtain ⟨v, o, ho, hd⟩ := I.cell x c e
 obtain ⟨m, ⟨o', es, ep, ho', hd', _⟩, _⟩ := I.loc
 rw [z, ho'] at ho; cases ho; rw [hd'] at hd; cases hd
theorem Inv.funs (I : Inv X pins σ H s) : s.heap.FunFrames X.base X.outer := by
 have all : ∀ (l : List Env), (∀ b ∈ frs l, b ∈ X.fs) → X.s₀.heap.FunFrames X.base l → s.heap.FunFrames X.base l := by
  intro l
  induction l with
  | nil => intro _ _; trivial
  | cons env r ih =>
   intro hs hl
   obtain ⟨hk, ⟨L, o, hf, hn, ho, hd⟩, hr⟩ := hl
   have hL : L ∈ X.fs := hs L (by unfold frs; rw [RW, hf]; exact Cd)
   obtain ⟨sl, e⟩ := I.base.slot L o ho (I.ok.frf L hL) hL fun z => I.ok.exfs L z hL
   exact ⟨hk, ⟨L, _, hf, hn, e, hd⟩, ih (fun b hb => hs b (by unfold frs; rw [RW, hf]; exact F9 _ hb)) hr⟩
 exact all X.outer (fun _ hb => hb) I.ok.funs
theorem Inv.stack (I : Inv X pins σ H s) : s.heap.FunFrames X.base X.stack := by
 rcases I.ok.stk with e | ⟨e, hf⟩
 ·rw [e]; exact I.funs
 ·rw [e]
  obtain ⟨m, hn, _⟩ := I.loc
  refine .cons (by rw [I.ok.kind]; decide) hf hn ?_ I.funs
  exact Heap.get?_none_of_le (FQ I.ok.bsz I.ok.above)
theorem Inv.stkSub (I : Inv X pins σ H s) : ∀ b ∈ frs X.stack, b ∈ X.env.locals :: X.fs := fun b hb => by
 rcases I.ok.stk with e | ⟨e, hf⟩
 ·rw [e] at hb; exact F9 _ hb
 ·rw [e] at hb
  unfold frs at hb
  rw [RW, hf] at hb
  exact hb
theorem Inv.stkFree (I : Inv X pins σ H s) : ∀ b ∈ frs X.stack, H b = none := fun b hb => by
 rcases F5.mp (I.stkSub b hb) with e | hb
 ·rw [e]; exact I.free
 ·obtain ⟨_, o, ho, _⟩ := I.ok.funs.mem hb
  exact I.base.free b o ho (I.ok.frf b hb) fun z => I.ok.exfs b z hb
theorem Inv.step {g' : Array GenState} {t' : Nat} {d' : Drawn} {ch : List Addr} (I : Inv X pins σ H s)
  (hch : ∀ b ∈ ch, (b ∈ X.ex ∨ X.s₀.heap.objs.size ≤ b) ∧ b ≠ X.env.locals ∧ (∀ x c, X.env.cells.lookup x = some c → c ≠ b) ∧ ∀ p ∈ X.pn ++ pins, p.1 ≠ b)
  (keep : ∀ b o, b ≠ X.env.locals → b ∉ X.fs → b ∉ ch → s.heap.get? b = some o → H b = none → h'.get? b = some o)
  (slot : ∀ b o, b ≠ X.env.locals → b ∈ X.fs → b ∉ ch → s.heap.get? b = some o → H b = none → ∃ sl, h'.get? b = some { o with slots := sl }) (free : ∀ b o, b ∉ ch → s.heap.get? b = some o → H b = none → H' b = none)
  (there : ∀ b o, b ∉ ch → s.heap.get? b = some o → ∃ o', h'.get? b = some o')
  (tups : ∀ b xs, H b = some (.tup xs) → H' b = some (.tup xs)) (frzs : ∀ b o u, H b = some (.frz o u) → H' b = some (.frz o u)) (tbls : ∀ b ps, H b = some (.tbl ps) → ∃ more, H' b = some (.tbl (ps ++ more)))
  (ns : ∀ m, s.heap.Ns X.env.locals m → h'.Ns X.env.locals m) (hok : HOk X.prog X.w H' h') (hg : AllBare g') :
  Inv X pins σ H' { s with heap := h', gens := g', drawn := d', toks := t' } := by
 have neL : ∀ b o, X.s₀.heap.get? b = some o → b ≠ X.env.locals := fun b o e => Cc (F8 (Heap.lt_size e) I.ok.above)
 have neC : ∀ b o, X.s₀.heap.get? b = some o → b ∉ X.ex → b ∉ ch := fun b o e hx hb => by
  rcases (hch b hb).1 with z | z
  ·exact hx z
  ·exact absurd (F8 (Heap.lt_size e) z) (CP _)
 have cellK : ∀ x c, X.env.cells.lookup x = some c → ∀ v, s.heap.IsCell c v → h'.IsCell c v := fun x c e v ⟨o, ho, hd⟩ => by
  have nch : c ∉ ch := fun z => (hch c z).2.2.1 x c e rfl
  by_cases hc : c ∈ X.fs
  ·obtain ⟨sl, q⟩ := slot c o (I.cne x c e) hc nch ho (I.freeC x c e)
   exact ⟨_, q, hd⟩
  ·exact ⟨o, keep c o (I.cne x c e) hc nch ho (I.freeC x c e), hd⟩
 refine ⟨I.ok, I.os, hg, ⟨fun b o e n hb hx => ?_, fun b o e n hb hx => ?_, fun b o e n hx => ?_, fun b o e hx => ?_, fun b xs e => tups b xs (I.base.tups b xs e), fun b o xs e => frzs b o xs (I.base.frzs b o xs e), fun b ps e => ?_⟩, ?_, fun x c e => ?_, ?_, fun x c e => ?_, fun p hp => ?_, hok, I.len⟩
 ·exact keep b o (neL b o e) hb (neC b o e hx) (I.base.keep b o e n hb hx) (I.base.free b o e n hx)
 ·obtain ⟨sl, e1⟩ := I.base.slot b o e n hb hx
  obtain ⟨sl', e2⟩ := slot b _ (neL b o e) hb (neC b o e hx) e1 (I.base.free b o e n hx)
  exact ⟨sl', e2⟩
 ·obtain ⟨o', e1⟩ := I.base.there b o e hx
  exact free b o' (neC b o e hx) e1 (I.base.free b o e n hx)
 ·obtain ⟨o', e1⟩ := I.base.there b o e hx
  exact there b o' (neC b o e hx) e1
 ·obtain ⟨m1, e1⟩ := I.base.tbls b ps e
  obtain ⟨m2, e2⟩ := tbls b _ e1
  exact ⟨m1 ++ m2, by rw [e2, Array.append_assoc]⟩
 ·obtain ⟨m, hn, hl⟩ := I.loc
  refine ⟨m, ns m hn, fun i x v e1 e2 e3 => ?_⟩
  obtain ⟨u, r, l⟩ := hl i x v e1 e2 e3
  refine ⟨u, r, ?_⟩
  rcases l with l | ⟨k, c, e, z⟩
  ·exact .inl l
  ·exact .inr ⟨k, c, e, cellK x c e _ z⟩
 ·obtain ⟨v, z⟩ := I.cell x c e
  exact ⟨v, cellK x c e v z⟩
 ·obtain ⟨m, ⟨o, _, _, ho, _⟩, _⟩ := I.loc
  exact free _ o (fun z => (hch _ z).2.1 rfl) ho I.free
 ·obtain ⟨v, o, ho, hd⟩ := I.cell x c e
  exact free c o (fun z => (hch c z).2.2.1 x c e rfl) ho (I.freeC x c e)
 ·obtain ⟨e, n, ne, nf, d⟩ := I.pin p hp
  have nch : p.1 ∉ ch := fun z => (hch p.1 z).2.2.2 p hp rfl
  exact ⟨keep p.1 p.2 ne nf nch e n, free p.1 p.2 nch e n, ne, nf, d⟩
theorem Inv.un {t' : Nat} (I : Inv X pins σ H s) (u : Un X.fs [] H H' s.heap h') (hok : HOk X.prog X.w H' h') : Inv X pins σ H' { s with heap := h', toks := t' } := by
 obtain ⟨m, ⟨o, es, ep, ho, r⟩, _⟩ := id I.loc
 obtain ⟨sl, hL⟩ := u.any ho I.free (by simp)
 exact I.step (g' := s.gens) (d' := s.drawn) (ch := []) (fun _ z => nomatch z) (fun b o _ hb _ e n => u.keep b o e n hb (by simp)) (fun b o _ hb _ e n => u.slot b o e n hb (by simp)) (fun b o _ e n => u.free b o e n (by simp)) (fun b o _ e => u.there b o e (by simp)) u.tups u.frzs u.tbls (fun m' hm => by
  obtain ⟨o', es', ep', ho', r'⟩ := hm
  rw [ho] at ho'; cases ho'
  exact ⟨_, es', ep', hL, r'⟩) hok I.bare
theorem Inv.call {g' : Array GenState} {t' : Nat} {d' : Drawn} {ch : List Addr} (I : Inv X pins σ H s) (u : Un (frs X.stack) ch H H' s.heap h') (hok : HOk X.prog X.w H' h') (hg : AllBare g')
  (hch : ∀ b ∈ ch, (b ∈ X.ex ∨ X.s₀.heap.objs.size ≤ b) ∧ b ≠ X.env.locals ∧ (∀ x c, X.env.cells.lookup x = some c → c ≠ b) ∧ ∀ p ∈ X.pn ++ pins, p.1 ≠ b) :
  Inv X pins σ H' { s with heap := h', gens := g', drawn := d', toks := t' } := by
 obtain ⟨m, ⟨o, es, ep, ho, r⟩, _⟩ := id I.loc
 obtain ⟨sl, hL⟩ := u.any ho I.free fun z => (hch _ z).2.1 rfl
 exact I.step (ch := ch) hch (fun b o hL hb hc e n => u.keep b o e n (fun z => (F5.mp (I.stkSub b z)).elim hL hb) hc) (fun b o _ _ hc e n => u.any e n hc) (fun b o hc e n => u.free b o e n hc) (fun b o hc e => u.there b o e hc) u.tups u.frzs u.tbls (fun m' hm => by
  obtain ⟨o', es', ep', ho', r'⟩ := hm
  rw [ho] at ho'; cases ho'
  exact ⟨_, es', ep', hL, r'⟩) hok hg
theorem Inv.turned {t' : Nat} {it : Addr} (I : Inv X pins σ H s) (k : ∀ b o, b ≠ it → s.heap.get? b = some o → h'.get? b = some o) (hn : H it = none) (hL : it ≠ X.env.locals)
  (h1 : it ∈ X.ex ∨ X.s₀.heap.objs.size ≤ it) (h2 : ∀ x c, X.env.cells.lookup x = some c → c ≠ it) (h3 : ∀ p ∈ X.pn ++ pins, p.1 ≠ it) : Inv X pins σ H { s with heap := h', toks := t' } := by
 have nit : ∀ b u, H b = some u → b ≠ it := fun b u e z => by rw [z, hn] at e; cases e
 refine I.step (g' := s.gens) (d' := s.drawn) (ch := [it]) (fun b hb => ?_) (fun b o _ _ hc e _ => k b o (fun z => hc (by simp [z])) e) (fun b o _ _ hc e _ => ⟨o.slots, k b o (fun z => hc (by simp [z])) e⟩) (fun _ _ _ _ n => n)
  (fun b o hc e => ⟨o, k b o (fun z => hc (by simp [z])) e⟩) (fun _ _ e => e) (fun _ _ _ e => e) (fun b ps e => ⟨#[], by rw [e]; simp⟩) (fun m hm => ?_) (fun b u e => ?_) I.bare
 ·have e : b = it := by simpa using hb
  subst e
  exact ⟨h1, hL, h2, h3⟩
 ·obtain ⟨o, es, ep, ho, r⟩ := hm
  exact ⟨o, es, ep, k _ o (Ne.symm hL) ho, r⟩
 ·refine (I.hok b u e).stay (fun c v hc q => k c v ?_ q) (fun _ q => q) fun _ _ q => q
  rcases hc with z | z
  ·rw [z]; exact nit b u e
  ·exact nit c _ z
theorem Inv.tok (I : Inv X pins σ H s) (t : Nat) : Inv X pins σ H { s with toks := t } := I.un (h' := s.heap) (t' := t) Un.refl I.hok
theorem Inv.kept {t' : Nat} (I : Inv X pins σ H s) (k : ∀ b u, s.heap.get? b = some u → h'.get? b = some u) : Inv X pins σ H { s with heap := h', toks := t' } := I.un (Un.kept k) (I.hok.kept k)
theorem Inv.laid {a : Addr} {o : HO} {t' : Nat} (I : Inv X pins σ H s) (k : ∀ b u, s.heap.get? b = some u → h'.get? b = some u) (hp : s.heap.objs.size ≤ a) (new : ObjOk X.prog X.w (upd H a o) h' a o) :
  Inv X pins σ (upd H a o) { s with heap := h', toks := t' } := I.un (Un.laid k hp (I.hok.fresh hp)) (I.hok.laid k hp new)
theorem Inv.write {x e : Addr} {o : HO} {t' : Nat} (I : Inv X pins σ H s) (mu : Mut (H x)) (he : e = x ∨ H e = some (.own x)) (k : ∀ b u, b ≠ e → s.heap.get? b = some u → h'.get? b = some u) (heo : ∃ u, h'.get? e = some u)
  (new : ObjOk X.prog X.w (upd H x o) h' x o) : Inv X pins σ (upd H x o) { s with heap := h', toks := t' } := I.un (Un.write mu he k heo) (I.hok.write mu he k heo new)
theorem Inv.pins_of {pins' : List (Addr × Obj)} (I : Inv X pins σ H s) (h : ∀ p ∈ pins', s.heap.get? p.1 = some p.2 ∧ H p.1 = none ∧ p.1 ≠ X.env.locals ∧ p.1 ∉ X.fs ∧ ∀ v, p.2.data ≠ .cell v) : Inv X pins' σ H s :=
 ⟨I.ok, I.os, I.bare, I.base, I.loc, I.cell, I.free, I.freeC, fun p hp => (Cq.mp hp).elim (fun z => I.pin p (RX _ z)) (h p), I.hok, I.len⟩
theorem kgr {N : List Str} (hN : N.Nodup) {i j : Nat} {x : Str} (a : N[i]? = some x) (b : N[j]? = some x) : i = j := by
 obtain ⟨h1, e1⟩ := FZ.mp a
 obtain ⟨h2, e2⟩ := FZ.mp b
 exact (List.getElem_inj hN).mp (e1.trans e2.symm)
theorem kg4 {M : Model} {A : Around} {E : Value → Shared → Prop} {i : Nat} {x : Str} {v : V} {u : Value} {Q : Unit → Shared → Prop} (I : Inv X pins σ H s) (hN : X.N.Nodup) (hi : X.N[i]? = some x) (hx : Loc X.env.scope x) (r : RelV v u)
  (h : ∀ s', Inv X pins (σ.set i (some v)) H s' → (∃ a, Heap.SameBut a s.heap s'.heap ∧ (a = X.env.locals ∨ X.env.cells.lookup x = some a)) → Q () s') (hf : X.fn x = true ∨ X.env.scope.names.lookup x = some .local := by first | exact .inl rfl | exact .inr rfl | assumption) : wpAny M A (storeName X.env x u) Q E s := by
 obtain ⟨m, hn, hl⟩ := id I.loc
 have hcls : (X.env.scope.kind == .class || (X.env.scope.kind == .module && X.env.locals != X.env.globals)) = false := by rw [I.ok.kind]; rfl
 have hiσ : i < σ.length := by rw [I.len]; exact (FZ.mp hi).1
 have cne := I.cne
 have tracked : ∀ {a : Addr} {h' : Heap}, (∃ o, s.heap.get? a = some o ∧ H a = none) → Heap.SameBut a s.heap h' → HOk X.prog X.w H h' := fun {a h'} ha hs b ob e => by
  obtain ⟨_, _, hfree⟩ := ha
  refine (I.hok b ob e).stay (fun c w' hc q => (hs.2 c ?_).trans q) (fun _ q => q) fun _ _ q => q
  rintro rfl
  rcases hc with rfl | hc
  ·rw [hfree] at e; cases e
  ·rw [hfree] at hc; cases hc
 rcases hx with hk | hk
 ·refine wpAny_storeName_local hk hn (fun h' hn' hs => ?_) hcls
  obtain ⟨oL, _, _, hoL, _⟩ := id hn
  refine h _ ⟨I.ok, I.os, I.bare, ⟨fun b o e n hb hx => ?_, fun b o e n hb hx => ?_, I.base.free, fun b o e hx => ?_, I.base.tups, I.base.frzs, I.base.tbls⟩, ⟨_, hn', fun j y v' e1 e2 e3 => ?_⟩, fun y c e => ?_, I.free, I.freeC, fun p hp => ?_, tracked ⟨oL, hoL, I.free⟩ hs, by simpa using I.len⟩ ⟨_, hs, .inl rfl⟩
  ·exact (hs.2 b (Cc (F8 (Heap.lt_size e) I.ok.above))).trans (I.base.keep b o e n hb hx)
  ·obtain ⟨sl, e1⟩ := I.base.slot b o e n hb hx
   exact ⟨sl, (hs.2 b (Cc (F8 (Heap.lt_size e) I.ok.above))).trans e1⟩
  ·obtain ⟨o', e1⟩ := I.base.there b o e hx
   exact ⟨o', (hs.2 b (Cc (F8 (Heap.lt_size e) I.ok.above))).trans e1⟩
  ·by_cases hj : j = i
   ·subst hj
    rw [hi] at e1; cases e1
    rw [Ru hiσ] at e2
    cases e2
    exact ⟨u, r, .inl ⟨hk, by simp⟩⟩
   ·rw [Rv (Ne.symm hj)] at e2
    obtain ⟨u', r', q⟩ := hl j y v' e1 e2 e3
    refine ⟨u', r', ?_⟩
    rcases q with ⟨k, e⟩ | ⟨k, c, e, z⟩
    ·refine .inl ⟨k, ?_⟩
     have : y ≠ x := fun e => hj (kgr hN e1 (e ▸ hi))
     simp [this, e]
    ·exact .inr ⟨k, c, e, z.sameBut hs (cne y c e)⟩
  ·obtain ⟨w', z⟩ := I.cell y c e
   exact ⟨w', z.sameBut hs (cne y c e)⟩
  ·obtain ⟨e, n, ne, nf, d⟩ := I.pin p hp
   exact ⟨(hs.2 p.1 ne).trans e, n, ne, nf, d⟩
 ·have hfn : X.fn x = true := by
   rcases hf with z | z
   ·exact z
   ·rw [z] at hk; cases hk
  obtain ⟨c, hc⟩ := I.ok.has x (.inl hk)
  obtain ⟨w', z⟩ := I.cell x c hc
  refine wpAny_storeName_cell I.ok.kind hk hc z (fun h' hc' hs => ?_)
  obtain ⟨oc, hoc, hocd⟩ := id z
  refine h { s with heap := h' } ⟨I.ok, I.os, I.bare, ⟨fun b o e n hb hx => ?_, fun b o e n hb hx => ?_, I.base.free, fun b o e hx => ?_, I.base.tups, I.base.frzs, I.base.tbls⟩, ⟨m, hn.sameBut hs (Ne.symm (cne x c hc)), fun j y v' e1 e2 e3 => ?_⟩, fun y c' e => ?_, I.free, I.freeC, fun p hp => ?_, tracked ⟨oc, hoc, I.freeC x c hc⟩ hs, by simpa using I.len⟩ ⟨c, hs, .inr hc⟩
  ·exact (hs.2 b (Cc (F8 (Heap.lt_size e) (I.ok.cab x c hfn hc)))).trans (I.base.keep b o e n hb hx)
  ·obtain ⟨sl, e1⟩ := I.base.slot b o e n hb hx
   exact ⟨sl, (hs.2 b (Cc (F8 (Heap.lt_size e) (I.ok.cab x c hfn hc)))).trans e1⟩
  ·obtain ⟨o', e1⟩ := I.base.there b o e hx
   exact ⟨o', (hs.2 b (Cc (F8 (Heap.lt_size e) (I.ok.cab x c hfn hc)))).trans e1⟩
  ·by_cases hj : j = i
   ·subst hj
    rw [hi] at e1; cases e1
    rw [Ru hiσ] at e2
    cases e2
    exact ⟨u, r, .inr ⟨.inl hk, c, hc, hc'⟩⟩
   ·rw [Rv (Ne.symm hj)] at e2
    obtain ⟨u', r', q⟩ := hl j y v' e1 e2 e3
    refine ⟨u', r', ?_⟩
    rcases q with q | ⟨k, c', e, z'⟩
    ·exact .inl q
    ·refine .inr ⟨k, c', e, z'.sameBut hs ?_⟩
     rintro rfl
     exact hj (kgr hN e1 (I.ok.inj _ _ _ e hc ▸ hi))
  ·by_cases hcc : c' = c
   ·subst hcc; exact ⟨_, hc'⟩
   ·obtain ⟨w2, z2⟩ := I.cell y c' e
    exact ⟨w2, z2.sameBut hs hcc⟩
  ·obtain ⟨e, n, ne, nf, d⟩ := I.pin p hp
   refine ⟨(hs.2 p.1 ?_).trans e, n, ne, nf, d⟩
   intro q
   rw [q, hoc] at e
   have q' : oc = p.2 := Option.some.inj e
   exact d w' (by rw [← q']; exact hocd)
theorem keL {M : Model} {A : Around} {E : Value → Shared → Prop} {i : Nat} {x : Str} {v : V} {u : Value} {Q : Unit → Shared → Prop} (I : Inv X pins σ H s) (hN : X.N.Nodup) (hi : X.N[i]? = some x) (hx : Loc X.env.scope x) (r : RelV v u)
  (h : ∀ s', Inv X pins (σ.set i (some v)) H s' → Q () s') (hf : X.fn x = true ∨ X.env.scope.names.lookup x = some .local := by first | exact .inl rfl | exact .inr rfl | assumption) : wpAny M A (storeName X.env x u) Q E s :=
 kg4 I hN hi hx r (fun s' I' _ => h s' I') hf
theorem Inv.call' {s' : Shared} {ch : List Addr} (I : Inv X pins σ H s) (ho : s'.os = s.os) (u : Un (frs X.stack) ch H H' s.heap s'.heap) (hok : HOk X.prog X.w H' s'.heap) (hg : AllBare s'.gens)
  (hch : ∀ b ∈ ch, (b ∈ X.ex ∨ X.s₀.heap.objs.size ≤ b) ∧ b ≠ X.env.locals ∧ (∀ x c, X.env.cells.lookup x = some c → c ≠ b) ∧ ∀ p ∈ X.pn ++ pins, p.1 ≠ b) : Inv X pins σ H' s' := by
 obtain ⟨h', g', d', t', o'⟩ := s'
 have e : o' = s.os := ho
 subst e
 exact I.call (g' := g') (t' := t') (d' := d') u hok hg hch
end
noncomputable abbrev XK := Value → Option Addr → Hp → Prop
noncomputable abbrev St := List (Option V)
noncomputable abbrev VK := V → Hp → Prop
noncomputable abbrev TE := St → Hp → VK → Prop
noncomputable abbrev TT := St → Hp → (Bool → Hp → Prop) → Prop
noncomputable abbrev TA := St → Hp → (List V → Hp → Prop) → Prop
structure Ends where
 nx : St → Hp → Prop
 rt : VK
 bk : St → Hp → Prop := fun _ _ => False
 ct : St → Hp → Prop := fun _ _ => False
noncomputable abbrev TS := Ends → St → Hp → Prop
noncomputable def EP (X : Cx) (pins : List (Addr × Obj)) (σ : St) (Q : VK) (u : Value) (s' : Shared) : Prop := ∃ v H', Inv X pins σ H' s' ∧ RelV v u ∧ Q v H'
noncomputable def TP (X : Cx) (pins : List (Addr × Obj)) (σ : St) (Q : Bool → Hp → Prop) (b : Bool) (s' : Shared) : Prop := ∃ H', Inv X pins σ H' s' ∧ Q b H'
noncomputable def AP (X : Cx) (pins : List (Addr × Obj)) (σ : St) (Q : List V → Hp → Prop) (us : List Value) (s' : Shared) : Prop := ∃ vs H', Inv X pins σ H' s' ∧ Vals vs us ∧ Q vs H'
noncomputable def SP (X : Cx) (pins : List (Addr × Obj)) (D : Ends) (f : Flow) (s' : Shared) : Prop :=
 match f with
 | .next => ∃ σ' H', Inv X pins σ' H' s' ∧ D.nx σ' H'
 | .brk => ∃ σ' H', Inv X pins σ' H' s' ∧ D.bk σ' H'
 | .cont => ∃ σ' H', Inv X pins σ' H' s' ∧ D.ct σ' H'
 | .ret u => ∃ v σ' H', Inv X pins σ' H' s' ∧ RelV v u ∧ D.rt v H'
noncomputable def PE (X : Cx) (e : Expr) (t : TE) : Prop :=
 ∀ (pins : List (Addr × Obj)) (s : Shared) (σ : St) (H : Hp) (Q : VK), Inv X pins σ H s → t σ H Q → wpAny (model X.prog X.w) X.A (eval e X.env) (EP X pins σ Q) X.xe s
noncomputable def PT (X : Cx) (e : Expr) (t : TT) : Prop :=
 ∀ (pins : List (Addr × Obj)) (s : Shared) (σ : St) (H : Hp) (Q : Bool → Hp → Prop), Inv X pins σ H s → t σ H Q → wpAny (model X.prog X.w) X.A (isTrue e X.env (eval e X.env)) (TP X pins σ Q) X.xe s
noncomputable def PW (X : Cx) (e : Expr) (t : TT) : Prop :=
 ∀ (whole : Sem Value) (pins : List (Addr × Obj)) (s : Shared) (σ : St) (H : Hp) (Q : Bool → Hp → Prop), Inv X pins σ H s → t σ H Q → wpAny (model X.prog X.w) X.A (isTrue e X.env whole) (TP X pins σ Q) X.xe s
theorem PW.pt {X : Cx} {e : Expr} {t : TT} (h : PW X e t) : PT X e t := h _
noncomputable def PA (X : Cx) (es : List Expr) (t : TA) : Prop :=
 ∀ (pos : Pos) (pins : List (Addr × Obj)) (s : Shared) (σ : St) (H : Hp) (Q : List V → Hp → Prop), Inv X pins σ H s → t σ H Q → wpAny (model X.prog X.w) X.A (spliced (backTo pos (starEach es X.env))) (AP X pins σ Q) X.xe s
noncomputable def PS (X : Cx) (st : Stmt) (t : TS) : Prop :=
 ∀ (pins : List (Addr × Obj)) (s : Shared) (σ : St) (H : Hp) (D : Ends), Inv X pins σ H s → t D σ H → wpAny (model X.prog X.w) X.A (exec st X.env) (SP X pins D) X.xe s
noncomputable def PSs (X : Cx) (st : List Stmt) (t : TS) : Prop :=
 ∀ (pins : List (Addr × Obj)) (s : Shared) (σ : St) (H : Hp) (D : Ends), Inv X pins σ H s → t D σ H → wpAny (model X.prog X.w) X.A (execs st X.env) (SP X pins D) X.xe s
theorem thn {α : Type} {t : Sem α} {Q Q' : α → Shared → Prop} {M : Model} {A : Around} {E : Value → Shared → Prop} {s : Shared} (h : wpAny M A t Q E s) (hQ : ∀ a s, Q a s → Q' a s) : wpAny M A t Q' E s := wpAny_mono h hQ fun _ _ x => x
end L2
namespace L2
open PySem PySem.Spec PyProof.Rows
section
variable {X : Cx}
noncomputable def tVar (i : Nat) : TE := fun σ H Q => ∃ v, σ[i]? = some (some v) ∧ Q v H
noncomputable def tC (v : V) : TE := fun _ H Q => Q v H
theorem kkK {i : Nat} {x : Str} {pos : Pos} (hN : X.N[i]? = some x) (hv : Vis X.env.scope x) (hd : (x == ("__debug__" : Str)) = false := by decide) (hcd : (x == ("__classdict__" : Str)) = false := by decide) : PE X (.Name x pos) (tVar i) := by
 intro pins s σ H Q I h
 obtain ⟨v, e, h⟩ := h
 obtain ⟨m, hn, hl⟩ := I.loc
 obtain ⟨u, r, l⟩ := hl i x v hN e hv
 have fin : EP X pins σ Q u s := ⟨v, H, I, r, h⟩
 rcases l with ⟨hk, hm⟩ | ⟨hk, c, hc, hcell⟩
 ·exact wpAny_Name (wpAny_loadName_local I.ok.kind hk hn hm fin) hd
 ·rcases hk with hk | hk
  ·exact wpAny_Name (wpAny_loadName_cell I.ok.kind hk hc hcell fin) hd
  ·exact wpAny_Name (wpAny_loadName_free I.ok.kind hk hc hcell fin hcd) hd
theorem kai {i j pos} : PE X (.Constant (.int i) j pos) (tC (.int i)) := fun _ _ _ H _ I h => wpAny_Constant_int ⟨.int i, H, I.tok _, ⟨_, rfl⟩, h⟩
theorem pe_bl {b j pos} : PE X (.Constant (.bool b) j pos) (tC (.bl b)) := fun _ _ _ H _ I h => Constant_bool ⟨.bl b, H, I, rfl, h⟩
theorem kbC {j pos} : PE X (.Constant .none j pos) (tC .non) := fun _ _ _ H _ I h => Constant_none ⟨.non, H, I, rfl, h⟩
theorem kb7 {x j pos} : PE X (.Constant (.str x) j pos) (tC (.str x)) := fun _ _ _ H _ I h => Calls.Constant_str ⟨.str x, H, I.tok _, ⟨_, rfl⟩, h⟩
noncomputable def Gl (X : Cx) (x : Str) : Prop := X.env.kindOf x = some .globalImplicit
theorem ke5 {E : Value → Shared → Prop} {pins : List (Addr × Obj)} {s : Shared} {σ : St} {H : Hp} {x : Str} {u : Value} {pos : Pos} {Q : Value → Shared → Prop} (I : Inv X pins σ H s) (hg : Gl X x) (hm : X.mg x = some u) (h : Q u s)
  (hd : (x == ("__debug__" : Str)) = false := by decide) : wpAny (model X.prog X.w) X.A (eval (.Name x pos) X.env) Q E s :=
 Calls.Name_function_global I.ok.kind hg (Calls.loadGlobal_global (by rw [I.ok.glob]; exact I.mod.glob.keeps I.bk) hm h) hd
theorem kdy {E : Value → Shared → Prop} {pins : List (Addr × Obj)} {s : Shared} {σ : St} {H : Hp} {x : Str} {u : Value} {pos : Pos} {Q : Value → Shared → Prop} (I : Inv X pins σ H s) (hg : Gl X x) (hm : X.mg x = none) (hv : bootBuiltins x = some u) (h : Q u s)
  (hn : x ≠ "__name__" := by decide) (hd : (x == ("__debug__" : Str)) = false := by decide) : wpAny (model X.prog X.w) X.A (eval (.Name x pos) X.env) Q E s := by
 obtain ⟨mb, h1, h2⟩ := I.mod.blt
 exact Calls.Name_function_global I.ok.kind hg (Calls.loadGlobal_builtin (by rw [I.ok.glob]; exact I.mod.glob.keeps I.bk) hm (by rw [I.ok.blt]; exact h1.keeps I.bk) ((h2 x hn).trans hv) h) hd
theorem kdl {x : Str} {v : V} {u : Value} {pos : Pos} (hg : Gl X x) (hm : X.mg x = some u) (r : RelV v u) (hd : (x == ("__debug__" : Str)) = false := by decide) : PE X (.Name x pos) (tC v) :=
 fun _ _ _ H _ I h => ke5 I hg hm ⟨v, H, I, r, h⟩ hd
variable {a b : Expr} {ta tb : TE} {pos : Pos}
noncomputable def tB (t : TE) : TT := fun σ H Q => t σ H fun x H1 => ∃ c, x = .bl c ∧ Q c H1
theorem kbF {e : Expr} {t : TE} (h : PE X e t) (he : ∀ whole, isTrue e X.env whole = (do let v ← whole; standAt e.pos; holding [v] (truthy v)) := by intro _; rfl) : PT X e (tB t) := by
 intro pins s σ H Q I hw
 refine isTrue_plain (thn (h pins s σ H _ I hw) fun v s1 ⟨x, H1, I1, r1, q1⟩ => ?_) (he _)
 obtain ⟨d, rfl, q⟩ := q1
 cases r1
 exact wpAny_truthy_bool ⟨H1, I1, q⟩
variable {tA tB' : TT} {rest : List Expr}
noncomputable def tAnd (t u : TT) : TT := fun σ H Q => t σ H fun c H1 => if c = true then u σ H1 Q else Q false H1
noncomputable def tOr (t u : TT) : TT := fun σ H Q => t σ H fun c H1 => if c = true then Q true H1 else u σ H1 Q
noncomputable def tNot (t : TT) : TT := fun σ H Q => t σ H fun c H1 => Q (!c) H1
theorem kbS (ha : PT X a tA) : PW X (.BoolOp .And [a] pos) tA := by
 intro wh pins s σ H Q I h
 refine isTrue_and (thn (ha pins s σ H Q I h) fun c s1 e => ?_)
 cases c with
 | true => exact isTrue_and_nil e
 | false => exact e
theorem kfn (ha : PT X a tA) : PW X (.BoolOp .Or [a] pos) tA := by
 intro wh pins s σ H Q I h
 refine isTrue_or (thn (ha pins s σ H Q I h) fun c s1 e => ?_)
 cases c with
 | false => exact isTrue_or_nil e
 | true => exact e
theorem kb6 (ha : PT X a tA) (hb : PW X (.BoolOp .And (b :: rest) pos) tB') : PW X (.BoolOp .And (a :: b :: rest) pos) (tAnd tA tB') := by
 intro wh pins s σ H Q I h
 refine isTrue_and (thn (ha pins s σ H _ I h) fun c s1 ⟨H1, I1, q1⟩ => ?_)
 cases c with
 | true => exact hb wh pins s1 σ H1 Q I1 q1
 | false => exact ⟨H1, I1, q1⟩
theorem pw_or (ha : PT X a tA) (hb : PW X (.BoolOp .Or (b :: rest) pos) tB') : PW X (.BoolOp .Or (a :: b :: rest) pos) (tOr tA tB') := by
 intro wh pins s σ H Q I h
 refine isTrue_or (thn (ha pins s σ H _ I h) fun c s1 ⟨H1, I1, q1⟩ => ?_)
 cases c with
 | true => exact ⟨H1, I1, q1⟩
 | false => exact hb wh pins s1 σ H1 Q I1 q1
theorem kfo (ha : PT X a tA) : PT X (.UnaryOp .Not a pos) (tNot tA) := by
 intro pins s σ H Q I h
 exact isTrue_not (ha pins s σ H (fun c H1 => Q (!c) H1) I h)
noncomputable def tAndV (ta tb : TE) : TE := fun σ H Q => ta σ H fun x H1 => ∃ c, x = .bl c ∧ if c = true then tb σ H1 Q else Q (.bl false) H1
noncomputable def tOrV (ta tb : TE) : TE := fun σ H Q => ta σ H fun x H1 => ∃ c, x = .bl c ∧ if c = true then Q (.bl true) H1 else tb σ H1 Q
theorem khp {op} {t : TE} (h : PE X a t) : PE X (.BoolOp op [a] pos) t := fun pins s σ H Q I hw => BoolOp_one (h pins s σ H Q I hw)
theorem kjj (ha : PE X a ta) (hb : PE X (.BoolOp .And (b :: rest) pos) tb) : PE X (.BoolOp .And (a :: b :: rest) pos) (tAndV ta tb) := by
 intro pins s σ H Q I h
 refine BoolOp_and (thn (ha pins s σ H _ I h) fun v s1 ⟨x, H1, I1, r1, q1⟩ => ?_)
 obtain ⟨c, rfl, q1⟩ := q1
 cases r1
 refine wpAny_truthy_bool ?_
 cases c with
 | true => exact hb pins s1 σ H1 Q I1 q1
 | false => exact ⟨.bl false, H1, I1, rfl, q1⟩
theorem pe_or (ha : PE X a ta) (hb : PE X (.BoolOp .Or (b :: rest) pos) tb) : PE X (.BoolOp .Or (a :: b :: rest) pos) (tOrV ta tb) := by
 intro pins s σ H Q I h
 refine BoolOp_or (thn (ha pins s σ H _ I h) fun v s1 ⟨x, H1, I1, r1, q1⟩ => ?_)
 obtain ⟨c, rfl, q1⟩ := q1
 cases r1
 refine wpAny_truthy_bool ?_
 cases c with
 | false => exact hb pins s1 σ H1 Q I1 q1
 | true => exact ⟨.bl true, H1, I1, rfl, q1⟩
noncomputable def tIf (t : TT) (ta tb : TE) : TE := fun σ H Q => t σ H fun c H1 => if c = true then ta σ H1 Q else tb σ H1 Q
theorem kgl {c : Expr} (hc : PT X c tA) (ha : PE X a ta) (hb : PE X b tb) : PE X (.IfExp c a b pos) (tIf tA ta tb) := by
 intro pins s σ H Q I h
 refine wpAny_IfExp (thn (hc pins s σ H _ I h) fun d s1 ⟨H1, I1, q1⟩ => ?_)
 cases d with
 | true => exact ha pins s1 σ H1 Q I1 q1
 | false => exact hb pins s1 σ H1 Q I1 q1
end
end L2
namespace L2
open PySem PySem.Spec PyProof.Rows
noncomputable def SqL (K : FK) (H : Hp) (a : Addr) (xs : List V) : Prop :=
 Rd H a (.lst xs) ∨
  ∃ (o : Obj) (its : Array Value) (n : Nat), K.lookup a = some o ∧ o.cls = .type "list" ∧ o.dict = none ∧ o.data = .seq its n ∧ its.size ≤ sizeLine ∧ Vals xs its.toList
noncomputable def SqT (K : FK) (H : Hp) (a : Addr) (xs : List V) : Prop :=
 Rd H a (.tup xs) ∨
  ∃ (o : Obj) (its : Array Value) (n : Nat), K.lookup a = some o ∧ o.cls = .type "tuple" ∧ o.data = .seq its n ∧ its.size ≤ sizeLine ∧ Vals xs its.toList
noncomputable def absV : Value → Option V
 | .none => some .non
 | .bool b => some (.bl b)
 | .int i _ => some (.int i)
 | .str x _ => some (.str x)
 | .bytes b _ => some (.byt b)
 | .float b _ => some (.flt b)
 | .ref a => some (.ref a)
 | .type n => some (.ty n)
 | _ => none
theorem RelV.abs {x : V} {u : Value} (r : RelV x u) : absV u = some x := by
 cases x with
 | non => cases r; rfl
 | bl _ => cases r; rfl
 | int _ => obtain ⟨t, rfl⟩ := r; rfl
 | str _ => obtain ⟨t, rfl⟩ := r; rfl
 | byt _ => obtain ⟨t, rfl⟩ := r; rfl
 | flt _ => obtain ⟨t, rfl⟩ := r; rfl
 | ref _ => cases r; rfl
 | ty _ => cases r; rfl
theorem RelV.inj {x y : V} {u : Value} (r : RelV x u) (q : RelV y u) : x = y := Option.some.inj (r.abs.symm.trans q.abs)
theorem Vals.inj : ∀ {xs ys : List V} {us : List Value}, Vals xs us → Vals ys us → xs = ys
 | _, _, _, .nil, .nil => rfl
 | _, _, _, .cons r t, .cons r' t' => by rw [r.inj r', Vals.inj t t']
section
variable {X : Cx} {pins : List (Addr × Obj)} {σ : St} {H : Hp} {s : Shared} {a : Addr} {xs ys : List V}
theorem SqL.of {K : FK} (h : H a = some (.lst xs)) : SqL K H a xs := .inl (.inl h)
theorem SqT.of {K : FK} (h : H a = some (.tup xs)) : SqT K H a xs := .inl (.inl h)
theorem Inv.list (I : Inv X pins σ H s) (h : SqL X.K H a xs) : ∃ its : List Value, Vals xs its ∧ PlainL s.heap a its.toArray ∧ xs.length ≤ sizeLine := by
 rcases h with h | ⟨o, its, n, hk, hc, hd, hs, hz, r⟩
 ·obtain ⟨z, its, n, r, e⟩ := h.ok I.hok
  exact ⟨its, r, ⟨_, n, e, rfl, rfl, rfl⟩, z⟩
 ·refine ⟨its.toList, r, ⟨o, n, I.kIn a o hk, hc, hd, by simpa using hs⟩, ?_⟩
  have e := r.length
  simp only [Rb] at e
  omega
theorem Inv.tuple (I : Inv X pins σ H s) (h : SqT X.K H a xs) : ∃ its : List Value, Vals xs its ∧ IsTup s.heap a its.toArray ∧ xs.length ≤ sizeLine := by
 rcases h with h | ⟨o, its, n, hk, hc, hs, hz, r⟩
 ·obtain ⟨z, its, r, p⟩ := h.ok I.hok
  exact ⟨its, r, p, z⟩
 ·refine ⟨its.toList, r, ⟨o, I.kIn a o hk, hc, n, by simpa using hs⟩, ?_⟩
  have e := r.length
  simp only [Rb] at e
  omega
theorem Inv.list_inj (I : Inv X pins σ H s) (h : SqL X.K H a xs) (h' : SqL X.K H a ys) : xs = ys := by
 obtain ⟨its, r, ⟨o, n, e, _, _, d⟩, _⟩ := I.list h
 obtain ⟨its', r', ⟨o', n', e', _, _, d'⟩, _⟩ := I.list h'
 rw [e] at e'; cases e'
 rw [d] at d'
 injection d' with d1 _
 have : its = its' := by simpa using congrArg Array.toList d1
 subst this
 exact r.inj r'
end
noncomputable abbrev Cx.wish (X : Cx) (E : Value → Shared → Prop) : Cx := { X with xe := E }
noncomputable abbrev Cx.nox (X : Cx) : Cx := X.wish fun _ _ => False
theorem Cx.Ok.wish {X : Cx} (ok : X.Ok) (E : Value → Shared → Prop) : (X.wish E).Ok :=
 ⟨ok.mod, ok.kind, ok.glob, ok.blt, ok.above, ok.inj, ok.has, ok.cab, ok.hd, ok.frames, ok.stk, ok.exf, ok.bs, ok.bsz, ok.noex, ok.exfs, ok.funs, ok.frf⟩
theorem Cx.Ok.unwish {X : Cx} {E : Value → Shared → Prop} (ok : (X.wish E).Ok) : X.Ok :=
 ⟨ok.mod, ok.kind, ok.glob, ok.blt, ok.above, ok.inj, ok.has, ok.cab, ok.hd, ok.frames, ok.stk, ok.exf, ok.bs, ok.bsz, ok.noex, ok.exfs, ok.funs, ok.frf⟩
section
variable {X : Cx} {pins : List (Addr × Obj)} {σ : St} {H : Hp} {s : Shared} {E : Value → Shared → Prop}
theorem Inv.wish (I : Inv X pins σ H s) (E : Value → Shared → Prop) : Inv (X.wish E) pins σ H s := ⟨I.ok.wish E, I.os, I.bare, I.base, I.loc, I.cell, I.free, I.freeC, I.pin, I.hok, I.len⟩
theorem Inv.unwish (I : Inv (X.wish E) pins σ H s) : Inv X pins σ H s := ⟨I.ok.unwish, I.os, I.bare, I.base, I.loc, I.cell, I.free, I.freeC, I.pin, I.hok, I.len⟩
theorem SP.unwish {D : Ends} {f : Flow} {s' : Shared} (h : SP (X.wish E) pins D f s') : SP X pins D f s' := by
 cases f with
 | next => obtain ⟨σ', H', I, q⟩ := h; exact ⟨σ', H', I.unwish, q⟩
 | brk => obtain ⟨σ', H', I, q⟩ := h; exact ⟨σ', H', I.unwish, q⟩
 | cont => obtain ⟨σ', H', I, q⟩ := h; exact ⟨σ', H', I.unwish, q⟩
 | ret u => obtain ⟨v, σ', H', I, r, q⟩ := h; exact ⟨v, σ', H', I.unwish, r, q⟩
theorem PE.nox {e : Expr} {t : TE} (h : PE X.nox e t) : PE X e t := fun pins s σ H Q I hw =>
 wpAny_mono (h pins s σ H Q (I.wish _) hw) (fun _ _ ⟨v, H', I', r, q⟩ => ⟨v, H', I'.unwish, r, q⟩) fun _ _ z => False.elim z
theorem PT.nox {e : Expr} {t : TT} (h : PT X.nox e t) : PT X e t := fun pins s σ H Q I hw =>
 wpAny_mono (h pins s σ H Q (I.wish _) hw) (fun _ _ ⟨H', I', q⟩ => ⟨H', I'.unwish, q⟩) fun _ _ z => False.elim z
theorem PSs.nox {st : List Stmt} {t : TS} (h : PSs X.nox st t) : PSs X st t := fun pins s σ H D I hw =>
 wpAny_mono (h pins s σ H D (I.wish _) hw) (fun _ _ q => q.unwish) fun _ _ z => False.elim z
end
section
variable {X : Cx} {st : Stmt} {rest : List Stmt} {t u : TS} {e : Expr} {te : TE} {pos : Pos}
noncomputable def tNext : TS := fun D σ H => D.nx σ H
noncomputable def tSeq (t u : TS) : TS := fun D σ H => t { D with nx := u D } σ H
theorem kaA : PSs X [] tNext := fun _ _ σ H _ I h => wpAny_execs_nil ⟨σ, H, I, h⟩
theorem kae (h1 : PS X st t) (h2 : PSs X rest u) : PSs X (st :: rest) (tSeq t u) := by
 intro pins s σ H D I h
 refine wpAny_execs_cons (thn (h1 pins s σ H { D with nx := u D } I h) fun f s1 q => ?_)
 cases f with
 | next =>
  obtain ⟨σ', H', I', q⟩ := q
  exact h2 pins s1 σ' H' D I' q
 | ret v => exact q
 | brk => exact q
 | cont => exact q
theorem kak (h1 : PS X st t) : PSs X [st] t := by
 intro pins s σ H D I h
 refine wpAny_execs_cons (thn (h1 pins s σ H D I h) fun f s1 q => ?_)
 cases f with
 | next => exact wpAny_execs_nil q
 | ret v => exact q
 | brk => exact q
 | cont => exact q
theorem Inv.quiet {pins : List (Addr × Obj)} {σ : St} {H : Hp} {s : Shared} (I : Inv X pins σ H s) : interactive X.env = false := by simp [interactive, I.ok.kind]
noncomputable def tDrop (te : TE) : TS := fun D σ H => te σ H fun _ H1 => D.nx σ H1
theorem kby (he : PE X e te) (hs : swapsWith e none pos.line X.env = pure false := by rfl) : PS X (.Expr e pos) (tDrop te) := by
 intro pins s σ H D I h
 exact wpAny_Expr_any (thn (he pins s σ H _ I h) fun v s1 ⟨x, H1, I1, r1, q1⟩ => ⟨σ, H1, I1, q1⟩) I.quiet hs
noncomputable def tRet (te : TE) : TS := fun D σ H => te σ H D.rt
theorem kat (he : PE X e te) : PS X (.Return (some e) pos) (tRet te) := by
 intro pins s σ H D I h
 exact wpAny_Return_some (thn (he pins s σ H _ I h) fun v s1 ⟨x, H1, I1, r1, q1⟩ => ⟨x, σ, H1, I1, r1, q1⟩)
noncomputable def tIfS (c : TT) (t u : TS) : TS := fun D σ H => c σ H fun b H1 => if b = true then t D σ H1 else u D σ H1
theorem ps_if {c : Expr} {a b : List Stmt} {tc : TT} (hc : PT X c tc) (ha : PSs X a t) (hb : PSs X b u) : PS X (.If c a b pos) (tIfS tc t u) := by
 intro pins s σ H D I h
 refine wpAny_If (thn (hc pins s σ H _ I h) fun d s1 ⟨H1, I1, q1⟩ => ?_)
 cases d with
 | true => exact ha pins s1 σ H1 D I1 q1
 | false => exact hb pins s1 σ H1 D I1 q1
end
noncomputable abbrev TG := V → St → Hp → (St → Hp → Prop) → Prop
noncomputable abbrev TGs := List V → St → Hp → (St → Hp → Prop) → Prop
noncomputable def PG (X : Cx) (target : Expr) (t : TG) : Prop :=
 ∀ (pins : List (Addr × Obj)) (s : Shared) (σ : St) (H : Hp) (v : V) (u : Value) (Q : St → Hp → Prop), Inv X pins σ H s → RelV v u → t v σ H Q →
  wpAny (model X.prog X.w) X.A (assign target X.env u) (fun _ s' => ∃ σ' H', Inv X pins σ' H' s' ∧ Q σ' H') X.xe s
noncomputable def PGs (X : Cx) (ts : List Expr) (t : TGs) : Prop :=
 ∀ (pins : List (Addr × Obj)) (s : Shared) (σ : St) (H : Hp) (vs : List V) (us : List Value) (Q : St → Hp → Prop), Inv X pins σ H s → Vals vs us → t vs σ H Q →
  wpAny (model X.prog X.w) X.A (assignInOrder ((assignEach ts X.env).map (·.2)) us) (fun _ s' => ∃ σ' H', Inv X pins σ' H' s' ∧ Q σ' H') X.xe s
noncomputable abbrev TSet := V → V → V → Hp → (Hp → Prop) → Prop
noncomputable def PSet (X : Cx) (t : TSet) : Prop :=
 ∀ (pins : List (Addr × Obj)) (s : Shared) (σ : St) (H : Hp) (o i v : V) (ov iv u : Value) (Q : Hp → Prop), Inv X pins σ H s → RelV o ov → RelV i iv → RelV v u → t o i v H Q →
  wpAny (model X.prog X.w) X.A (setItem ov iv u) (fun _ s' => ∃ H', Inv X pins σ H' s' ∧ Q H') X.xe s
noncomputable abbrev TIp := V → V → Hp → VK → Prop
noncomputable def PIp (X : Cx) (op : Operator) (t : TIp) : Prop :=
 ∀ (pins : List (Addr × Obj)) (s : Shared) (σ : St) (H : Hp) (x y : V) (v u : Value) (Q : VK), Inv X pins σ H s → RelV x v → RelV y u → t x y H Q →
  wpAny (model X.prog X.w) X.A (inplaceOp op v u) (EP X pins σ Q) X.xe s
section
variable {X : Cx} {pos : Pos}
noncomputable def gName (i : Nat) : TG := fun v σ H Q => Q (σ.set i (some v)) H
theorem kau {i : Nat} {x : Str} (hN : X.N.Nodup) (hi : X.N[i]? = some x) (hx : Loc X.env.scope x) (hf : X.fn x = true ∨ X.env.scope.names.lookup x = some .local := by first | exact .inl rfl | exact .inr rfl | assumption) : PG X (.Name x pos) (gName i) := by
 intro pins s σ H v u Q I r h
 exact wpAny_assign_Name (keL I hN hi hx r (fun s' I' => ⟨_, H, I', h⟩) hf)
noncomputable def gNil : TGs := fun vs σ H Q => vs = [] ∧ Q σ H
noncomputable def gCons (t : TG) (u : TGs) : TGs := fun vs σ H Q => ∃ v r, vs = v :: r ∧ t v σ H fun σ' H' => u r σ' H' Q
theorem kbR : PGs X [] gNil := by
 intro pins s σ H vs us Q I r h
 obtain ⟨e, h⟩ := h
 subst e
 cases r
 exact assignInOrder_nil ⟨σ, H, I, h⟩
theorem kaK {e : Expr} {es : List Expr} {t : TG} {u : TGs} (h1 : PG X e t) (h2 : PGs X es u)
  (hs : (assignEach (e :: es) X.env).map (·.2) = assign e X.env :: (assignEach es X.env).map (·.2) := by rfl) : PGs X (e :: es) (gCons t u) := by
 intro pins s σ H vs us Q I r h
 obtain ⟨v, vr, e1, h⟩ := h
 subst e1
 cases r with
 | cons r rr =>
  rw [hs]
  refine assignInOrder_cons (thn (h1 pins s σ H _ _ _ I r h) fun _ s1 ⟨σ1, H1, I1, q1⟩ => ?_)
  exact h2 pins s1 σ1 H1 _ _ Q I1 rr q1
noncomputable def gTup (K : FK) (n : Nat) (t : TGs) : TG := fun v σ H Q => ∃ a xs, v = .ref a ∧ SqT K H a xs ∧ xs.length = n ∧ t xs σ H Q
theorem kcZ {es : List Expr} {k : Nat} {t : TGs} {n : Nat} (hc : X.calm = true) (h : PGs X es t)
  (hn : (assignEach es X.env).length = n := by rfl) (hst : (assignEach es X.env).findIdx? (·.1) = none := by rfl) : PG X (.Tuple es k pos) (gTup X.K n t) := by
 intro pins s σ H v u Q I r hw
 obtain ⟨a, xs, e1, hq, hl, hw⟩ := hw
 subst e1
 cases r
 obtain ⟨its, rv, ht, hz⟩ := I.tuple hq
 refine assign_Tuple_tuple (I.ok.hd hc) ht (by simp [hn, ← hl, rv.length]) hst fun h' hx => ?_
 have I1 : Inv X pins σ H { s with heap := h' } := I.kept (t' := s.toks) fun b o e => hx b o (Cc (Heap.lt_size e)) e
 exact h pins _ σ H xs _ Q I1 (by simpa using rv) hw
noncomputable def gSub (to ti : TE) (t : TSet) : TG := fun v σ H Q => to σ H fun o H1 => ti σ H1 fun i H2 => t o i v H2 fun H3 => Q σ H3
theorem kji {o i : Expr} {to ti : TE} {t : TSet} (ho : PE X o to) (hi : PE X i ti) (hs : PSet X t)
  (ha : ∀ v, assign (.Subscript o i pos) X.env v = (do
   let ov ← holding [v] (eval o X.env)
   let iv ← holding [v, ov] (eval i X.env)
   standAt pos
   holding [v, ov, iv] (setItem ov iv v)
   release [v, ov, iv] []) := by intro _; rfl) : PG X (.Subscript o i pos) (gSub to ti t) := by
 intro pins s σ H v u Q I r h
 rw [ha]
 refine wpAny_bind (wpAny_holding (thn (ho pins s σ H _ I h) fun ov s1 ⟨x, H1, I1, r1, q1⟩ => ?_))
 refine wpAny_bind (wpAny_holding (thn (hi pins s1 σ H1 _ I1 q1) fun iv s2 ⟨y, H2, I2, r2, q2⟩ => ?_))
 refine wpAny_bind (wpAny_standAt (wpAny_bind (wpAny_holding (thn (hs pins s2 σ H2 x y v ov iv u _ I2 r1 r2 r q2) fun _ s3 ⟨H3, I3, q3⟩ => ?_))))
 exact wpAny_release ⟨σ, H3, I3, q3⟩
noncomputable def tAsg (te : TE) (g : TG) : TS := fun D σ H => te σ H fun x H1 => g x σ H1 D.nx
theorem kjg {tg e : Expr} {te : TE} {g : TG} (he : PE X e te) (hg : PG X tg g) (hs : swapsWithSole [tg] e pos.line X.env = pure false := by rfl) (hw : swappedStores [tg] e X.env = pure none := by rfl)
  (h1 : (assignEach [tg] X.env).map (·.2) = [assign tg X.env] := by rfl) : PS X (.Assign [tg] e pos) (tAsg te g) := by
 intro pins s σ H D I h
 refine wpAny_Assign_stores (thn (he pins s σ H _ I h) fun v s1 ⟨x, H1, I1, r1, q1⟩ => ?_) hs hw
 rw [h1]
 exact thn (hg pins s1 σ H1 x v _ I1 r1 q1) fun _ s2 q => q
theorem kav {i : Nat} {x : Str} {e : Expr} {te : TE} {pos' : Pos} (hN : X.N.Nodup) (hi : X.N[i]? = some x) (hx : Loc X.env.scope x) (he : PE X e te) (hs : swapsWith e (some (.Name x pos')) pos.line X.env = pure false := by rfl) (hf : X.fn x = true ∨ X.env.scope.names.lookup x = some .local := by first | exact .inl rfl | exact .inr rfl | assumption) :
  PS X (.Assign [.Name x pos'] e pos) (tAsg te (gName i)) := by
 intro pins s σ H D I h
 refine wpAny_Assign_Name (thn (he pins s σ H _ I h) fun v s1 ⟨y, H1, I1, r1, q1⟩ => ?_) hs
 exact keL I1 hN hi hx r1 (fun s2 I2 => ⟨_, H1, I2, q1⟩) hf
noncomputable def tAug (i : Nat) (te : TE) (ti : TIp) : TS := fun D σ H => ∃ x, σ[i]? = some (some x) ∧ te σ H fun y H1 => ti x y H1 fun z H2 => D.nx (σ.set i (some z)) H2
theorem kkJ {i : Nat} {x : Str} {e : Expr} {te : TE} {op : Operator} {ti : TIp} {pos' : Pos} (hN : X.N.Nodup) (hi : X.N[i]? = some x) (hx : Loc X.env.scope x) (he : PE X e te) (ho : PIp X op ti) (hf : X.fn x = true ∨ X.env.scope.names.lookup x = some .local := by first | exact .inl rfl | exact .inr rfl | assumption) :
  PS X (.AugAssign (.Name x pos') op e pos) (tAug i te ti) := by
 intro pins s σ H D I h
 obtain ⟨v, e1, h⟩ := h
 obtain ⟨m, hn, hl⟩ := I.loc
 have vis : Vis X.env.scope x := by rcases hx with k | k; exact .inl k; exact .inr (.inl k)
 obtain ⟨u, r, l⟩ := hl i x v hi e1 vis
 refine wpAny_AugAssign_Name ?_
 have go : wpAny (model X.prog X.w) X.A (eval e X.env) (fun w s₂ => wpAny (model X.prog X.w) X.A (inplaceOp op u w) (fun r s₃ => wpAny (model X.prog X.w) X.A (storeName X.env x r) (fun _ => SP X pins D .next) X.xe s₃) X.xe s₂) X.xe s := by
  refine thn (he pins s σ H _ I h) fun w s1 ⟨y, H1, I1, r1, q1⟩ => ?_
  refine thn (ho pins s1 σ H1 v y u w _ I1 r r1 q1) fun z s2 ⟨zv, H2, I2, r2, q2⟩ => ?_
  exact keL I2 hN hi hx r2 (fun s3 I3 => ⟨_, H2, I3, q2⟩) hf
 rcases l with ⟨hk, hm⟩ | ⟨hk, c, hc, hcell⟩
 ·exact wpAny_loadName_local I.ok.kind hk hn hm go
 ·rcases hk with hk | hk
  ·exact wpAny_loadName_cell I.ok.kind hk hc hcell go
  ·rcases hx with k | k
   ·have : X.env.scope.names.lookup x = some .free := hk
    rw [k] at this; cases this
   ·have : X.env.scope.names.lookup x = some .free := hk
    rw [k] at this; cases this
noncomputable def ipI (f : Int → Int → Int) : TIp := fun x y H Q => ∃ i j, x = .int i ∧ y = .int j ∧ Q (.int (f i j)) H
theorem kkY : PIp X .Add (ipI fun i j => i + j) := by
 intro pins s σ H x y v u Q I r1 r2 h
 obtain ⟨i, j, e1, e2, q⟩ := h
 subst e1; subst e2
 obtain ⟨t, rfl⟩ := r1
 obtain ⟨t', rfl⟩ := r2
 exact iadd_int ⟨.int _, H, I.tok _, ⟨_, rfl⟩, q⟩
end
section
variable {X : Cx} {pos : Pos}
noncomputable def kjc (c : TT) (tb : TS) : TS := fun D σ H => ∃ W : Nat → St → Hp → Prop, (∃ m, W m σ H) ∧ ∀ m σ H, W m σ H →
 c σ H fun b H1 => if b = true then ∃ N : St → Hp → Prop, (∀ σ' H', N σ' H' → ∃ m', m' < m ∧ W m' σ' H') ∧ tb { D with nx := N, ct := N, bk := D.nx } σ H1 else D.nx σ H1
theorem kgg {c : Expr} {body : List Stmt} {tc : TT} {tb : TS} (hp : PassesOwn (model X.prog X.w) X.A X.env X.xe) (hc : PT X c tc) (hb : PSs X body tb) : PS X (.While c body [] pos) (kjc tc tb) := by
 intro pins s σ H D I h
 obtain ⟨W, ⟨m0, w0⟩, turn⟩ := h
 refine wpAny_While (codeAny_whileLoop (fun n s' => ∃ σ' H', Inv X pins σ' H' s' ∧ W n σ' H') ?_ m0 ⟨σ, H, I, w0⟩)
 rintro n s1 ⟨σ1, H1, I1, w1⟩
 refine wpAny_passesOwn hp (thn (hc pins s1 σ1 H1 _ I1 (turn n σ1 H1 w1)) fun b s2 ⟨H2, I2, q2⟩ => ?_)
 cases b with
 | true =>
  obtain ⟨N, hN, q2⟩ := q2
  rw [if_pos rfl]
  refine wpAny_passesOwn hp (thn (hb pins s2 σ1 H2 _ I2 q2) fun f s3 q3 => ?_)
  cases f with
  | next =>
   obtain ⟨σ3, H3, I3, n3⟩ := q3
   obtain ⟨m', hm, w3⟩ := hN σ3 H3 n3
   exact ⟨m', hm, σ3, H3, I3, w3⟩
  | cont =>
   obtain ⟨σ3, H3, I3, n3⟩ := q3
   obtain ⟨m', hm, w3⟩ := hN σ3 H3 n3
   exact ⟨m', hm, σ3, H3, I3, w3⟩
  | brk => exact q3
  | ret v => exact q3
 | false =>
  rw [if_neg FW]
  exact wpAny_execs_nil ⟨σ1, H2, I2, q2⟩
end
structure It where
 go : Nat → Hp → Prop
 yld : Nat → Hp → V → Hp → Prop
 stop : Nat → Hp → Prop
noncomputable def FpOk (X : Cx) (pins : List (Addr × Obj)) (H : Hp) (b : Addr) : Prop :=
 H b = none ∧ b ≠ X.env.locals ∧ b ∉ X.fs ∧ (b ∈ X.ex ∨ X.s₀.heap.objs.size ≤ b) ∧ (∀ x c, X.env.cells.lookup x = some c → c ≠ b) ∧ ∀ p ∈ X.pn ++ pins, p.1 ≠ b
theorem Inv.fpOk {X : Cx} {pins : List (Addr × Obj)} {σ : St} {H H' : Hp} {s : Shared} {b : Addr} (I : Inv X pins σ H s) (hb : s.heap.objs.size ≤ b) (hn : H' b = none) : FpOk X pins H' b := by
 refine ⟨hn, CC (F8 I.lt hb), I.nofs hb, .inr (FQ I.sz hb), fun x c e z => ?_, fun p hp z => ?_⟩
 ·obtain ⟨v, q⟩ := I.cell x c e
  exact absurd (F8 q.lt (by rw [z]; exact hb)) (CP _)
 ·exact absurd (F8 (Heap.lt_size (I.pin p hp).1) (by rw [z]; exact hb)) (CP _)
structure Turn (P : Program) (w : World) (K : FK) (tg : Expr) (J : It) (fp : List Addr) (it : Addr) (tn : Nat → Heap → Prop) : Prop where
 mem : it ∈ fp
 obj : ∀ i h, tn i h → ∀ b ∈ fp, ∃ o, h.get? b = some o ∧ ∀ v, o.data ≠ .cell v
 keep : ∀ i h h', tn i h → (∀ b ∈ fp, ∀ o, h.get? b = some o → h'.get? b = some o) → tn i h'
 item : ∀ (X : Cx), X.prog = P → X.w = w → X.K = K → X.calm = true → ∀ (i : Nat) (pins : List (Addr × Obj)) (s : Shared) (σ : St) (H : Hp) (E : Value → Shared → Prop), Inv X pins σ H s → (∀ b ∈ fp, FpOk X pins H b) → tn i s.heap → J.go i H →
  wpAny (model P w) X.A (pyNext (.ref it)) (fun r s1 => ∃ u, r = some u ∧
   wpAny (model P w) X.A (letOwnedTupleGo tg (.ref it) u) (fun _ s2 => ∃ x H', Inv X pins σ H' s2 ∧ RelV x u ∧ J.yld i H x H' ∧ tn (i + 1) s2.heap ∧ ∀ b ∈ fp, H' b = none) E s1) E s
 done : ∀ (X : Cx), X.prog = P → X.w = w → X.K = K → X.calm = true → ∀ (i : Nat) (pins : List (Addr × Obj)) (s : Shared) (σ : St) (H : Hp) (E : Value → Shared → Prop), Inv X pins σ H s → (∀ b ∈ fp, FpOk X pins H b) → tn i s.heap → J.stop i H →
  wpAny (model P w) X.A (pyNext (.ref it)) (fun r s1 => r = none ∧ Inv X pins σ H s1) E s
 self : ∀ (A : Around) (i : Nat) (s : Shared) (Q : Value → Shared → Prop) (E : Value → Shared → Prop), tn i s.heap → Q (.ref it) s → wpAny (model P w) A (pyIter (.ref it)) Q E s
noncomputable abbrev TI := St → Hp → (It → Hp → Prop) → Prop
noncomputable def PIE (X : Cx) (pins : List (Addr × Obj)) (σ : St) (tg : Expr) (R : It → Hp → Prop) (itv : Value) (s2 : Shared) : Prop :=
 ∃ (it : Addr) (fp : List Addr) (tn : Nat → Heap → Prop) (J : It) (H' : Hp), itv = .ref it ∧ Inv X pins σ H' s2 ∧ Turn X.prog X.w X.K tg J fp it tn ∧ tn 0 s2.heap ∧ (∀ b ∈ fp, FpOk X pins H' b) ∧ R J H'
noncomputable def PI (X : Cx) (tg iter : Expr) (wi : TI) : Prop :=
 ∀ (pins : List (Addr × Obj)) (s : Shared) (σ : St) (H : Hp) (R : It → Hp → Prop), Inv X pins σ H s → wi σ H R →
  wpAny (model X.prog X.w) X.A (eval iter X.env) (fun v s1 => wpAny (model X.prog X.w) X.A (pyIter v) (PIE X pins σ tg R) X.xe s1) X.xe s
theorem go_of {M : Model} {A : Around} {E : Value → Shared → Prop} {s : Shared} {tg : Expr} {it : Addr} {u : Value} {o : Obj} {n : String} {vs : Array Value} {Q : Unit → Shared → Prop} (ho : s.heap.get? it = some o) (hc : o.cls = .type n) (hd : o.data = .fields vs)
    (hn : ["enumerate", "zip", "dict_itemiterator", "dict_reverseitemiterator", "odict_iterator", "itertools.zip_longest", "itertools.pairwise"].contains n = false) (hQ : Q () s) : wpAny M A (letOwnedTupleGo tg (.ref it) u) Q E s := by
  unfold letOwnedTupleGo
  cases tg <;> first
    | exact wpAny_pure hQ
    | (cases u <;> first
        | exact wpAny_pure hQ
        | (refine wpAny_bind (wpAny_load ho ?_)
           rw [hc, hd]
           show wpAny M A (if (["enumerate", "zip", "dict_itemiterator", "dict_reverseitemiterator", "odict_iterator", "itertools.zip_longest", "itertools.pairwise"].contains n && vs[0]? == some (rawInt _)) = true then _ else _) Q E s
           rw [if_neg (by intro h; rw [hn, RY] at h; cases h)]
           exact wpAny_pure hQ))
noncomputable def Itl (K : FK) (a : Addr) : It :=
 ⟨fun i H => ∃ xs x, SqL K H a xs ∧ xs[i]? = some x, fun i H x H' => H' = H ∧ ∀ xs, SqL K H a xs → xs[i]? = some x, fun i H => ∃ xs, SqL K H a xs ∧ xs.length ≤ i⟩
noncomputable def Itr (lo : Int) (n : Nat) : It := ⟨fun i _ => i < n, fun i H x H' => H' = H ∧ x = .int (lo + i), fun i _ => n ≤ i⟩
theorem kg0 {P : Program} {w : World} {K : FK} {tg : Expr} (a it : Addr) : Turn P w K tg (Itl K a) [it] it (fun i h => h.IsListIter it a i) where
 mem := by simp
 obj := fun i h st b hb => by
  have e : b = it := by simpa using hb
  subst e
  obtain ⟨o, e, c, d⟩ := st
  exact ⟨o, e, fun v z => by rw [d] at z; cases z⟩
 keep := fun i h h' st k => st.at fun o e => k it (by simp) o e
 item := by
  intro X hP hw hK hc i pins s σ H E I hf st hg
  subst hP hw hK
  obtain ⟨xs, x, hq, hx⟩ := hg
  obtain ⟨its, rv, p, hz⟩ := I.list hq
  obtain ⟨u, hu, ru⟩ := rv.get hx
  obtain ⟨f0, f1, f2, f3, f4, f5⟩ := hf it (by simp)
  refine wpAny_pyNext_list_item st p.isList (x := u) (by simpa using hu) fun h' st' sb => ?_
  have I1 : Inv X pins σ H { s with heap := h' } := I.turned (t' := s.toks) (fun b o hb e => (sb.2 b hb).trans e) f0 f1 f3 f4 f5
  obtain ⟨o, e, c, d⟩ := id st'
  exact ⟨u, rfl, go_of (s := { s with heap := h' }) e c d (by decide) ⟨x, H, I1, ru, ⟨rfl, fun ys hy => by rw [I.list_inj hy hq]; exact hx⟩, st', fun b hb => (hf b hb).1⟩⟩
 done := by
  intro X hP hw hK hc i pins s σ H E I hf st hg
  subst hP hw hK
  obtain ⟨xs, hq, hx⟩ := hg
  obtain ⟨its, rv, p, hz⟩ := I.list hq
  obtain ⟨f0, f1, f2, f3, f4, f5⟩ := hf it (by simp)
  have hl := rv.length
  exact wpAny_pyNext_list_end (I.ok.hd hc) st p.isList (by simp; omega) fun h' eb => ⟨rfl, I.turned (t' := s.toks) (fun b o hb e => eb b o hb e) f0 f1 f3 f4 f5⟩
 self := fun _ _ _ _ _ st h => wpAny_pyIter_listiter st h
theorem kgD {P : Program} {w : World} {K : FK} {tg : Expr} (it : Addr) (lo : Int) (n : Nat) : Turn P w K tg (Itr lo n) [it] it (fun i h => IsRangeIter h it (lo + (i : Nat) * 1) ((n : Int) - (i : Nat)) 1) where
 mem := by simp
 obj := fun i h st b hb => by
  have e : b = it := by simpa using hb
  subst e
  exact ⟨_, st, fun v z => by
   have z' : Data.fields _ = Data.cell v := z
   cases z'⟩
 keep := fun i h h' st k => k it (by simp) _ st
 item := by
  intro X hP hw hK hc i pins s σ H E I hf st hg
  subst hP hw hK
  obtain ⟨f0, f1, f2, f3, f4, f5⟩ := hf it (by simp)
  have W := Walks.range (prog := X.prog) (w := X.w) (I.ok.hd hc) it lo 1 n
  refine W.item i s _ _ hg st fun v h' tk hv st' kk => ?_
  obtain ⟨t, rfl⟩ := hv
  have I1 : Inv X pins σ H { s with heap := h', toks := tk } := I.turned (fun b o hb e => kk b o (by simpa using hb) e) f0 f1 f3 f4 f5
  refine ⟨_, rfl, go_of (s := { s with heap := h', toks := tk }) (n := "range_iterator") st' rfl rfl (by decide) ⟨.int (lo + i), H, I1, ⟨t, ?_⟩, ⟨rfl, rfl⟩, st', fun b hb => (hf b hb).1⟩⟩
  rw [Int.mul_one]
 done := by
  intro X hP hw hK hc i pins s σ H E I hf st hg
  subst hP hw hK
  obtain ⟨f0, f1, f2, f3, f4, f5⟩ := hf it (by simp)
  exact wpAny_pyNext_range_end (I.ok.hd hc) st (by have : n ≤ i := hg; omega) fun h' eb => ⟨rfl, I.turned (t' := s.toks) (fun b o hb e => eb b o hb e) f0 f1 f3 f4 f5⟩
 self := fun _ _ _ _ _ st h => wpAny_pyIter_rangeiter st h
end L2
namespace L2
open PySem PySem.Spec PyProof.Rows
section
variable {X : Cx} {tg : Expr}
noncomputable def iList (K : FK) (tl : TE) : TI := fun σ H R => tl σ H fun x H1 => ∃ a, x = .ref a ∧ (∃ xs, SqL K H1 a xs) ∧ R (Itl K a) H1
theorem kbx {l : Expr} {tl : TE} (hl : PE X l tl) : PI X tg l (iList X.K tl) := by
 intro pins s σ H R I h
 refine thn (hl pins s σ H _ I h) fun v s1 ⟨x, H1, I1, r1, q1⟩ => ?_
 obtain ⟨a, e, ⟨xs, hq⟩, q⟩ := q1
 subst e
 cases r1
 obtain ⟨its, rv, p, hz⟩ := I1.list hq
 refine wpAny_pyIter_list p.isList ?_
 refine ⟨s1.heap.objs.size, [s1.heap.objs.size], _, _, H1, rfl, I1.kept (t' := s1.toks) fun b o e => Heap.get?_push_of_some _ e, kg0 a _, ⟨_, Heap.get?_push_size _ rfl, rfl, rfl⟩, fun b hb => ?_, q⟩
 have e : b = s1.heap.objs.size := by simpa using hb
 subst e
 exact I1.fpOk (FM _) (I1.hok.fresh (FM _))
theorem kiz {pins : List (Addr × Obj)} {σ : St} {H : Hp} {s : Shared} {R : It → Hp → Prop} {E : Value → Shared → Prop} {lo hi : Int} {t u v : Tok} {tk : Nat} (I : Inv X pins σ H s) (h1 : -(2 ^ 62) ≤ lo) (h2 : lo < 2 ^ 62) (h3 : -(2 ^ 62) ≤ hi) (h4 : hi < 2 ^ 62)
  (q : R (Itr lo (hi - lo).toNat) H) : wpAny (model X.prog X.w) X.A (pyIter (.ref s.heap.objs.size)) (PIE X pins σ tg R) E { s with heap := s.heap.push { cls := .type "range", data := .fields #[.int lo t, .int hi u, .int 1 v] }, toks := tk } := by
 refine wpAny_pyIter_range (IsRange.new ..) (small_one h1 h2 h3 h4) ?_
 have I1 : Inv X pins σ H { s with heap := s.heap.push { cls := .type "range", data := .fields #[.int lo t, .int hi u, .int 1 v] }, toks := tk } := I.kept fun b o e => Heap.get?_push_of_some _ e
 refine ⟨(s.heap.push { cls := .type "range", data := .fields #[.int lo t, .int hi u, .int 1 v] }).objs.size, [(s.heap.push { cls := .type "range", data := .fields #[.int lo t, .int hi u, .int 1 v] }).objs.size], _, _, H, rfl,
  I1.kept (t' := tk) fun b o e => Heap.get?_push_of_some _ e, kgD _ lo (hi - lo).toNat, ?_, fun b hb => ?_, q⟩
 ·have e1 : lo + ((0 : Nat) : Int) * 1 = lo := by simp
  have e2 : (((hi - lo).toNat : Nat) : Int) - ((0 : Nat) : Int) = Builtin.Range.rangeSize lo hi 1 := by rw [rangeSize_one]; split <;> omega
  show IsRangeIter _ _ (lo + ((0 : Nat) : Int) * 1) ((((hi - lo).toNat : Nat) : Int) - ((0 : Nat) : Int)) 1
  rw [e1, e2]
  exact Heap.get?_push_size _ rfl
 ·have e : b = (s.heap.push { cls := .type "range", data := .fields #[.int lo t, .int hi u, .int 1 v] }).objs.size := by simpa using hb
  subst e
  exact I1.fpOk (FM _) (I1.hok.fresh (FM _))
noncomputable def iRng1 (ta : TA) : TI := fun σ H R => ta σ H fun vs H1 => ∃ j : Int, vs = [.int j] ∧ -(2 ^ 62) ≤ j ∧ j < 2 ^ 62 ∧ R (Itr 0 j.toNat) H1
theorem kbX {a : Expr} {ta : TA} {p pos : Pos} (hg : Gl X "range") (hm : X.mg "range" = none) (ha : PA X [a] ta) (hs : starEach [a] X.env = [(false, eval a X.env)] := by rfl) : PI X tg (.Call (.Name "range" p) [a] [] pos) (iRng1 ta) := by
 intro pins s σ H R I h
 refine Call_ (kdy I hg hm boot_range (PyProof.Rows.callWith_type1 (thn (ha pos pins s σ H _ I h) fun us s1 ⟨vs, H1, I1, r1, q1⟩ => ?_) hs rfl))
 obtain ⟨j, e, q1, q2, q⟩ := q1
 subst e
 cases r1 with
 | cons r rr =>
  cases rr
  obtain ⟨t, rfl⟩ := r
  exact call_range_1 (kiz I1 (by omega) (by omega) q1 q2 (by simpa using q))
noncomputable def tFor (wi : TI) (g : TG) (tb : TS) : TS := fun D σ H => wi σ H fun J H1 => ∃ W : Nat → Nat → St → Hp → Prop, (∃ m, W 0 m σ H1) ∧ ∀ i m σ H, W i m σ H →
 (J.stop i H ∧ D.nx σ H) ∨ (J.go i H ∧ ∃ N : St → Hp → Prop, (∀ σ' H', N σ' H' → ∃ m', m' < m ∧ W (i + 1) m' σ' H') ∧ ∀ x H', J.yld i H x H' → g x σ H' fun σ2 H2 => tb { D with nx := N, ct := N, bk := D.nx } σ2 H2)
noncomputable def kgj (fp : List Addr) (h : Heap) : List (Addr × Obj) := fp.filterMap fun b => (h.get? b).map fun o => (b, o)
theorem kcL {fp : List Addr} {h : Heap} {b : Addr} {o : Obj} (hb : b ∈ fp) (e : h.get? b = some o) : (b, o) ∈ kgj fp h := List.mem_filterMap.mpr ⟨b, hb, by rw [e]; rfl⟩
theorem khw {fp : List Addr} {h : Heap} {p : Addr × Obj} (hp : p ∈ kgj fp h) : p.1 ∈ fp ∧ h.get? p.1 = some p.2 := by
 obtain ⟨b, hb, e⟩ := List.mem_filterMap.mp hp
 cases q : h.get? b with
 | none => rw [q] at e; cases e
 | some o =>
  rw [q] at e
  have e' : (b, o) = p := Option.some.inj e
  subst e'
  exact ⟨hb, q⟩
theorem Inv.pinned {pins : List (Addr × Obj)} {σ : St} {H : Hp} {s : Shared} {fp : List Addr} (I : Inv X pins σ H s) (hf : ∀ b ∈ fp, FpOk X pins H b) (ho : ∀ b ∈ fp, ∃ o, s.heap.get? b = some o ∧ ∀ v, o.data ≠ .cell v) : Inv X (pins ++ kgj fp s.heap) σ H s :=
 I.pins_of fun p hp => (Cq.mp hp).elim (fun z => I.pin p (Cr _ z)) fun z => by
  obtain ⟨hb, e⟩ := khw z
  obtain ⟨f0, f1, f2, _⟩ := hf p.1 hb
  obtain ⟨o, e', d⟩ := ho p.1 hb
  rw [e] at e'; cases e'
  exact ⟨e, f0, f1, f2, d⟩
theorem Inv.unpinned {pins pl : List (Addr × Obj)} {σ : St} {H : Hp} {s : Shared} (I : Inv X (pins ++ pl) σ H s) : Inv X pins σ H s := I.pins_of fun p hp => I.pin p (Cr _ (RX _ hp))
theorem kbQ {iter : Expr} {body : List Stmt} {wi : TI} {g : TG} {tb : TS} {pos : Pos} (hp : PassesOwn (model X.prog X.w) X.A X.env X.xe) (hc : X.calm = true) (hi : PI X tg iter wi) (hg : PG X tg g) (hb : PSs X body tb)
  (hs : ∀ x, foldedSetIterable iter X.env x = pure x := by intro _; rfl) : PS X (.For tg iter body [] pos) (tFor wi g tb) := by
 intro pins s σ H D I h
 refine wpAny_For (thn (hi pins s σ H _ I h) fun v s1 h1 => thn h1 fun itv s2 h2 => ?_) hs
 obtain ⟨it, fp, tn, J, H2, e, I2, T, st2, f2, W, ⟨m0, w0⟩, turn⟩ := h2
 subst e
 have stat : ∀ {H' : Hp}, (∀ b ∈ fp, H' b = none) → ∀ b ∈ fp, FpOk X pins H' b := fun hn b hb => ⟨hn b hb, (f2 b hb).2⟩
 refine codeAny_forLoop_any (fun n s' => ∃ i σ' H', Inv X pins σ' H' s' ∧ tn i s'.heap ∧ (∀ b ∈ fp, H' b = none) ∧ W i n σ' H') ?_ m0 ⟨0, σ, H2, I2, st2, fun b hb => (f2 b hb).1, w0⟩
 rintro n s3 ⟨i, σ3, H3, I3, st3, fr3, w3⟩
 rcases turn i n σ3 H3 w3 with ⟨stop, qn⟩ | ⟨go, N, hN, step⟩
 ·refine wpAny_passesOwn hp (thn (T.done X rfl rfl rfl hc i pins s3 σ3 H3 X.xe I3 (stat fr3) st3 stop) fun r s4 ⟨hr, I4⟩ => ?_)
  subst hr
  exact wpAny_execs_nil ⟨σ3, H3, I4, qn⟩
 ·refine wpAny_passesOwn hp (thn (T.item X rfl rfl rfl hc i pins s3 σ3 H3 X.xe I3 (stat fr3) st3 go) fun r s4 ⟨u, hr, h4⟩ => ?_)
  subst hr
  refine wpAny_passesOwn hp (thn h4 fun _ s5 ⟨x, H5, I5, r5, y5, st5, fr5⟩ => ?_)
  have I5' := I5.pinned (stat fr5) (T.obj _ _ st5)
  refine wpAny_passesOwn hp (thn (hg _ s5 σ3 H5 x u _ I5' r5 (step x H5 y5)) fun _ s6 ⟨σ6, H6, I6, q6⟩ => ?_)
  refine wpAny_passesOwn hp (thn (hb _ s6 σ6 H6 _ I6 q6) fun f s7 q7 => ?_)
  have again : ∀ {σ7 : St} {H7 : Hp}, Inv X (pins ++ kgj fp s5.heap) σ7 H7 s7 → N σ7 H7 → ∃ m, m < n ∧ ∃ i σ' H', Inv X pins σ' H' s7 ∧ tn i s7.heap ∧ (∀ b ∈ fp, H' b = none) ∧ W i m σ' H' := fun {σ7 H7} I7 n7 => by
   obtain ⟨m', hm, w7⟩ := hN σ7 H7 n7
   refine ⟨m', hm, i + 1, σ7, H7, I7.unpinned, T.keep _ _ _ st5 fun b hb o e => (I7.pin (b, o) (Cr _ (Cr _ (kcL hb e)))).1, fun b hb => ?_, w7⟩
   obtain ⟨o, e, d⟩ := T.obj _ _ st5 b hb
   exact (I7.pin (b, o) (Cr _ (Cr _ (kcL hb e)))).2.1
  cases f with
  | next => obtain ⟨σ7, H7, I7, n7⟩ := q7; exact again I7 n7
  | cont => obtain ⟨σ7, H7, I7, n7⟩ := q7; exact again I7 n7
  | brk => obtain ⟨σ7, H7, I7, q7⟩ := q7; exact ⟨σ7, H7, I7.unpinned, q7⟩
  | ret v => obtain ⟨x7, σ7, H7, I7, r7, q7⟩ := q7; exact ⟨x7, σ7, H7, I7.unpinned, r7, q7⟩
end
theorem kbW {K : FK} {a : Addr} {xs : List V} {g : TG} {tb : TS} {D : Ends} {σ : St} {H : Hp} (Pv : Nat → St → Hp → Prop) (h0 : Pv 0 σ H) (hl : ∀ i σ H, i ≤ xs.length → Pv i σ H → SqL K H a xs)
  (hs : ∀ i x σ H, xs[i]? = some x → Pv i σ H → g x σ H fun σ2 H2 => tb { D with nx := Pv (i + 1), ct := Pv (i + 1), bk := D.nx } σ2 H2) (hd : ∀ σ H, Pv xs.length σ H → D.nx σ H) :
  ∃ W : Nat → Nat → St → Hp → Prop, (∃ m, W 0 m σ H) ∧ ∀ i m σ H, W i m σ H →
   ((Itl K a).stop i H ∧ D.nx σ H) ∨ ((Itl K a).go i H ∧ ∃ N : St → Hp → Prop, (∀ σ' H', N σ' H' → ∃ m', m' < m ∧ W (i + 1) m' σ' H') ∧ ∀ x H', (Itl K a).yld i H x H' → g x σ H' fun σ2 H2 => tb { D with nx := N, ct := N, bk := D.nx } σ2 H2) := by
 refine ⟨fun i m σ H => m = xs.length - i ∧ i ≤ xs.length ∧ Pv i σ H, ⟨xs.length, by simp, Cm _, h0⟩, ?_⟩
 rintro i m σ H ⟨rfl, hi, p⟩
 have q := hl i σ H hi p
 by_cases hlt : i < xs.length
 ·refine .inr ⟨⟨xs, xs[i], q, by simp [hlt]⟩, Pv (i + 1), fun σ' H' p' => ⟨xs.length - (i + 1), by omega, rfl, hlt, p'⟩, fun x H' y => ?_⟩
  obtain ⟨e, y⟩ := y
  subst e
  exact hs i x σ _ (y xs q) p
 ·have e : i = xs.length := by omega
  subst e
  exact .inl ⟨⟨xs, q, FM _⟩, hd σ H p⟩
theorem kcn {lo : Int} {n : Nat} {g : TG} {tb : TS} {D : Ends} {σ : St} {H : Hp} (Pv : Nat → St → Hp → Prop) (h0 : Pv 0 σ H)
  (hs : ∀ i σ H, i < n → Pv i σ H → g (.int (lo + i)) σ H fun σ2 H2 => tb { D with nx := Pv (i + 1), ct := Pv (i + 1), bk := D.nx } σ2 H2) (hd : ∀ σ H, Pv n σ H → D.nx σ H) :
  ∃ W : Nat → Nat → St → Hp → Prop, (∃ m, W 0 m σ H) ∧ ∀ i m σ H, W i m σ H →
   ((Itr lo n).stop i H ∧ D.nx σ H) ∨ ((Itr lo n).go i H ∧ ∃ N : St → Hp → Prop, (∀ σ' H', N σ' H' → ∃ m', m' < m ∧ W (i + 1) m' σ' H') ∧ ∀ x H', (Itr lo n).yld i H x H' → g x σ H' fun σ2 H2 => tb { D with nx := N, ct := N, bk := D.nx } σ2 H2) := by
 refine ⟨fun i m σ H => m = n - i ∧ i ≤ n ∧ Pv i σ H, ⟨n, by simp, Cm _, h0⟩, ?_⟩
 rintro i m σ H ⟨rfl, hi, p⟩
 by_cases hlt : i < n
 ·refine .inr ⟨hlt, Pv (i + 1), fun σ' H' p' => ⟨n - (i + 1), by omega, rfl, hlt, p'⟩, fun x H' y => ?_⟩
  obtain ⟨e, y⟩ := y
  subst e y
  exact hs i σ _ hlt p
 ·have e : i = n := by omega
  subst e
  exact .inl ⟨FM _, hd σ H p⟩
theorem kf9 {c : TT} {tb : TS} {D : Ends} {σ : St} {H : Hp} (Pv : St → Hp → Prop) (μ : St → Hp → Nat) (h0 : Pv σ H)
  (hs : ∀ σ H, Pv σ H → c σ H fun b H1 => if b = true then tb { D with nx := fun σ' H' => Pv σ' H' ∧ μ σ' H' < μ σ H, ct := fun σ' H' => Pv σ' H' ∧ μ σ' H' < μ σ H, bk := D.nx } σ H1 else D.nx σ H1)
  (mono : ∀ σ H Q Q', (∀ b H1, Q b H1 → Q' b H1) → c σ H Q → c σ H Q') : kjc c tb D σ H := by
 refine ⟨fun m σ H => m = μ σ H ∧ Pv σ H, ⟨_, rfl, h0⟩, ?_⟩
 rintro m σ H ⟨rfl, p⟩
 refine mono σ H _ _ (fun b H1 q => ?_) (hs σ H p)
 cases b with
 | true => exact ⟨_, fun σ' H' ⟨p', l⟩ => ⟨_, l, rfl, p'⟩, q⟩
 | false => exact q
end L2
namespace L2
open PySem PySem.Spec PyProof.Rows
noncomputable abbrev R2 := V → V → Hp → VK → Prop
noncomputable def OpR (X : Cx) (f : Value → Value → Sem Value) (r : R2) : Prop :=
 ∀ (pins : List (Addr × Obj)) (s : Shared) (σ : St) (H : Hp) (x y : V) (v u : Value) (Q : VK), Inv X pins σ H s → RelV x v → RelV y u → r x y H Q →
  wpAny (model X.prog X.w) X.A (f v u) (EP X pins σ Q) X.xe s
noncomputable def UnR (X : Cx) (f : Value → Sem Value) (r : V → Hp → VK → Prop) : Prop :=
 ∀ (pins : List (Addr × Obj)) (s : Shared) (σ : St) (H : Hp) (x : V) (v : Value) (Q : VK), Inv X pins σ H s → RelV x v → r x H Q →
  wpAny (model X.prog X.w) X.A (f v) (EP X pins σ Q) X.xe s
noncomputable def CallR (X : Cx) (f : Value) (r : List V → Hp → VK → Prop) : Prop :=
 ∀ (pins : List (Addr × Obj)) (s : Shared) (σ : St) (H : Hp) (xs : List V) (us : List Value) (Q : VK), Inv X pins σ H s → Vals xs us → r xs H Q →
  wpAny (model X.prog X.w) X.A (call f us) (EP X pins σ Q) X.xe s
noncomputable def tOp (r : R2) (ta tb : TE) : TE := fun σ H Q => ta σ H fun x H1 => tb σ H1 fun y H2 => r x y H2 Q
noncomputable def tUn (r : V → Hp → VK → Prop) (ta : TE) : TE := fun σ H Q => ta σ H fun x H1 => r x H1 Q
noncomputable def rI (C : Int → Int → Prop) (g : Int → Int → V) : R2 := fun x y H Q => ∃ i j, x = .int i ∧ y = .int j ∧ C i j ∧ Q (g i j) H
noncomputable def rI0 (g : Int → Int → V) : R2 := fun x y H Q => ∃ i j, x = .int i ∧ y = .int j ∧ Q (g i j) H
noncomputable def rU (g : Int → V) : V → Hp → VK → Prop := fun x H Q => ∃ i, x = .int i ∧ Q (g i) H
section
variable {X : Cx} {a b c : Expr} {ta tb tc : TE} {pos : Pos}
theorem binT (ha : PE X a ta) (hb : PE X b tb) {pins : List (Addr × Obj)} {s : Shared} {σ : St} {H : Hp} {R : V → V → Hp → Prop} (I : Inv X pins σ H s)
  (h : ta σ H fun x H1 => tb σ H1 fun y H2 => R x y H2) {Q : Value → Shared → Prop} {f : Value → Value → Sem Value}
  (hf : ∀ v u s2 x y H2, Inv X pins σ H2 s2 → RelV x v → RelV y u → R x y H2 → wpAny (model X.prog X.w) X.A (f v u) Q X.xe s2) :
  wpAny (model X.prog X.w) X.A (eval a X.env) (fun v s₁ => wpAny (model X.prog X.w) X.A (eval b X.env) (fun u s₂ => wpAny (model X.prog X.w) X.A (f v u) Q X.xe s₂) X.xe s₁) X.xe s := by
 refine thn (ha pins s σ H _ I h) fun v s1 ⟨x, H1, I1, r1, q1⟩ => ?_
 refine thn (hb pins s1 σ H1 _ I1 q1) fun u s2 ⟨y, H2, I2, r2, q2⟩ => ?_
 exact hf v u s2 x y H2 I2 r1 r2 q2
theorem pe_op {op : Operator} {r : R2} (ho : OpR X (binaryOp op) r) (ha : PE X a ta) (hb : PE X b tb) : PE X (.BinOp a op b pos) (tOp r ta tb) := by
 intro pins s σ H Q I h
 exact wpAny_BinOp (binT ha hb I h fun v u s2 x y H2 I2 rx ry q => ho pins s2 σ H2 x y v u Q I2 rx ry q)
theorem pe_un {op : UnaryOp} {r : V → Hp → VK → Prop} (ho : UnR X (unaryOp op) r) (ha : PE X a ta) : PE X (.UnaryOp op a pos) (tUn r ta) := by
 intro pins s σ H Q I h
 exact UnaryOp_ (thn (ha pins s σ H _ I h) fun v s1 ⟨x, H1, I1, r1, q1⟩ => ho pins s1 σ H1 x v Q I1 r1 q1)
theorem opI {f : Value → Value → Sem Value} {C : Int → Int → Prop} {g : Int → Int → Int}
  (rule : ∀ (i j : Int) (t u : Tok) (s : Shared) (Q : Value → Shared → Prop) (E : Value → Shared → Prop), C i j → Q (.int (g i j) s.toks) { s with toks := s.toks + 1 } → wpAny (model X.prog X.w) X.A (f (.int i t) (.int j u)) Q E s) :
  OpR X f (rI C fun i j => .int (g i j)) := by
 intro pins s σ H x y v u Q I rx ry h
 obtain ⟨i, j, rfl, rfl, hc, q⟩ := h
 obtain ⟨t, rfl⟩ := rx
 obtain ⟨t', rfl⟩ := ry
 exact rule i j t t' s _ _ hc ⟨.int (g i j), H, I.tok _, ⟨_, rfl⟩, q⟩
theorem opI0 {f : Value → Value → Sem Value} {g : Int → Int → Int}
  (rule : ∀ (i j : Int) (t u : Tok) (s : Shared) (Q : Value → Shared → Prop) (E : Value → Shared → Prop), Q (.int (g i j) s.toks) { s with toks := s.toks + 1 } → wpAny (model X.prog X.w) X.A (f (.int i t) (.int j u)) Q E s) :
  OpR X f (rI0 fun i j => .int (g i j)) := by
 intro pins s σ H x y v u Q I rx ry h
 obtain ⟨i, j, rfl, rfl, q⟩ := h
 obtain ⟨t, rfl⟩ := rx
 obtain ⟨t', rfl⟩ := ry
 exact rule i j t t' s _ _ ⟨.int (g i j), H, I.tok _, ⟨_, rfl⟩, q⟩
theorem opB0 {f : Value → Value → Sem Value} {g : Int → Int → Bool}
  (rule : ∀ (i j : Int) (t u : Tok) (s : Shared) (Q : Value → Shared → Prop) (E : Value → Shared → Prop), Q (.bool (g i j)) s → wpAny (model X.prog X.w) X.A (f (.int i t) (.int j u)) Q E s) :
  OpR X f (rI0 fun i j => .bl (g i j)) := by
 intro pins s σ H x y v u Q I rx ry h
 obtain ⟨i, j, rfl, rfl, q⟩ := h
 obtain ⟨t, rfl⟩ := rx
 obtain ⟨t', rfl⟩ := ry
 exact rule i j t t' s _ _ ⟨.bl (g i j), H, I, rfl, q⟩
noncomputable def CDiv (i j : Int) : Prop := 0 < j ∧ j < 1073741824
noncomputable def CMul (i j : Int) : Prop := (-(2 ^ 64) < i ∧ i < 2 ^ 64) ∨ (-(2 ^ 64) < j ∧ j < 2 ^ 64)
theorem CMul.ok {i j : Int} (h : CMul i j) : IntMulOk i j := by
 rcases h with ⟨h1, h2⟩ | ⟨h1, h2⟩
 ·exact .of_left (intBits_le_64 h1 h2)
 ·exact .of_right (intBits_le_64 h1 h2)
theorem kaY : OpR X (binaryOp .Add) (rI0 fun i j => .int (i + j)) := opI0 fun _ _ _ _ _ _ _ q => add_int q
theorem kd3 : OpR X (binaryOp .Sub) (rI0 fun i j => .int (i - j)) := opI0 fun _ _ _ _ _ _ _ q => sub_int q
theorem kca : OpR X (binaryOp .Mult) (rI CMul fun i j => .int (i * j)) := opI fun _ _ _ _ _ _ _ hc q => mul_int q hc.ok
theorem kd5 : OpR X (binaryOp .FloorDiv) (rI CDiv fun i j => .int (i / j)) := opI fun i j _ _ _ _ _ hc q => by
 have h1 : (0 : Int) < j := hc.1
 have h2 : j < 1073741824 := hc.2
 exact floordiv_int (by omega) (by rw [Int.fdiv_eq_ediv_of_nonneg i (by omega)]; exact q) (.inl (PyProof.noPylong_small (by omega)))
theorem kd4 : OpR X (binaryOp .Mod) (rI (fun _ j => 0 < j) fun i j => .int (i % j)) := opI fun i j _ _ _ _ _ hc q => by
 have h1 : (0 : Int) < j := hc
 exact mod_int' (by omega) (by rw [Int.fmod_eq_emod_of_nonneg i (by omega)]; exact q)
theorem unI {f : Value → Sem Value} {g : Int → Int}
  (rule : ∀ (i : Int) (t : Tok) (s : Shared) (Q : Value → Shared → Prop) (E : Value → Shared → Prop), Q (.int (g i) s.toks) { s with toks := s.toks + 1 } → wpAny (model X.prog X.w) X.A (f (.int i t)) Q E s) :
  UnR X f (rU fun i => .int (g i)) := by
 intro pins s σ H x v Q I rx h
 obtain ⟨i, rfl, q⟩ := h
 obtain ⟨t, rfl⟩ := rx
 exact rule i t s _ _ ⟨.int (g i), H, I.tok _, ⟨_, rfl⟩, q⟩
theorem kjb : UnR X (unaryOp .USub) (rU fun i => .int (-i)) := unI fun _ _ _ _ _ q => neg_int q
end
noncomputable def scal : V → V → Bool
 | .non, .non => true | .non, .int _ => true | .int _, .non => true | .non, .bl _ => true | .bl _, .non => true | .non, .str _ => true | .str _, .non => true
 | .int _, .int _ => true | .bl _, .bl _ => true | .str _, .str _ => true | .byt _, .byt _ => true
 | .int _, .str _ => true | .str _, .int _ => true | .bl _, .str _ => true | .str _, .bl _ => true
 | _, _ => false
noncomputable def rEq : R2 := fun x y H Q => scal x y = true ∧ Q (.bl (decide (x = y))) H
noncomputable def rNe : R2 := fun x y H Q => scal x y = true ∧ Q (.bl (!decide (x = y))) H
theorem kh3 {i j : Int} : decide (V.int i = V.int j) = (i == j) := by
 rw [Rw]
 simp
theorem kjt {i j : Bool} : decide (V.bl i = V.bl j) = (i == j) := by
 rw [Rw]
 simp
theorem kh2 {i j : Str} : decide (V.str i = V.str j) = (i == j) := by
 rw [Rw]
 simp
theorem kh4 {i j : Array UInt8} : decide (V.byt i = V.byt j) = (i.toList == j.toList) := by
 rw [Rw]
 cases i
 cases j
 simp
section
variable {X : Cx} {a b c : Expr} {ta tb tc : TE} {pos : Pos}
theorem kbs {pins : List (Addr × Obj)} {σ : St} {H : Hp} {s : Shared} {Q : VK} {k k' : Bool} (I : Inv X pins σ H s) (q : Q (.bl k) H) (e : k = k') : EP X pins σ Q (.bool k') s := by
 subst e
 exact ⟨.bl k, H, I, rfl, q⟩
theorem op_eq : OpR X (compareOp .Eq) rEq := by
 intro pins s σ H x y v u Q I rx ry h
 obtain ⟨hs, q⟩ := h
 cases x with
 | non =>
  cases rx
  cases y with
  | non => cases ry; exact PySem.EqNone.eq_none_none (kbs I q (by simp))
  | bl j => cases ry; exact PySem.EqNone.eq_none_bool (kbs I q (by simp))
  | int j => obtain ⟨t', rfl⟩ := ry; exact PySem.EqNone.eq_none_int (kbs I q (by simp))
  | str j => obtain ⟨t', rfl⟩ := ry; exact PySem.EqNone.eq_none_str (kbs I q (by simp))
  | _ => exact absurd (show false = true from hs) FW
 | bl i =>
  cases rx
  cases y with
  | non => cases ry; exact PySem.EqNone.eq_bool_none (kbs I q (by simp))
  | bl j => cases ry; exact eq_bool (kbs I q kjt)
  | str j => obtain ⟨t', rfl⟩ := ry; exact PySem.EqMixed.eq_bool_str (kbs I q (by simp))
  | _ => exact absurd (show false = true from hs) FW
 | int i =>
  obtain ⟨t, rfl⟩ := rx
  cases y with
  | non => cases ry; exact PySem.EqNone.eq_int_none (kbs I q (by simp))
  | int j => obtain ⟨t', rfl⟩ := ry; exact eq_int (kbs I q kh3)
  | str j => obtain ⟨t', rfl⟩ := ry; exact PySem.EqMixed.eq_int_str (kbs I q (by simp))
  | _ => exact absurd (show false = true from hs) FW
 | str i =>
  obtain ⟨t, rfl⟩ := rx
  cases y with
  | non => cases ry; exact PySem.EqNone.eq_str_none (kbs I q (by simp))
  | bl j => cases ry; exact PySem.EqMixed.eq_str_bool (kbs I q (by simp))
  | int j => obtain ⟨t', rfl⟩ := ry; exact PySem.EqMixed.eq_str_int (kbs I q (by simp))
  | str j => obtain ⟨t', rfl⟩ := ry; exact eq_str (kbs I q kh2)
  | _ => exact absurd (show false = true from hs) FW
 | byt i =>
  obtain ⟨t, rfl⟩ := rx
  cases y with
  | byt j => obtain ⟨t', rfl⟩ := ry; exact PySem.W.eq_bytes (kbs I q kh4)
  | _ => exact absurd (show false = true from hs) FW
 | _ => cases y <;> exact absurd (show false = true from hs) FW
theorem op_ne : OpR X (compareOp .NotEq) rNe := by
 intro pins s σ H x y v u Q I rx ry h
 obtain ⟨hs, q⟩ := h
 cases x with
 | non =>
  cases rx
  cases y with
  | non => cases ry; exact PySem.EqNone.ne_none_none (kbs I q (by simp))
  | bl j => cases ry; exact PySem.EqNone.ne_none_bool (kbs I q (by simp))
  | int j => obtain ⟨t', rfl⟩ := ry; exact PySem.EqNone.ne_none_int (kbs I q (by simp))
  | str j => obtain ⟨t', rfl⟩ := ry; exact PySem.EqNone.ne_none_str (kbs I q (by simp))
  | _ => exact absurd (show false = true from hs) FW
 | bl i =>
  cases rx
  cases y with
  | non => cases ry; exact PySem.EqNone.ne_bool_none (kbs I q (by simp))
  | bl j => cases ry; exact ne_bool (kbs I q (congrArg not kjt))
  | str j => obtain ⟨t', rfl⟩ := ry; exact PySem.EqMixed.ne_bool_str (kbs I q (by simp))
  | _ => exact absurd (show false = true from hs) FW
 | int i =>
  obtain ⟨t, rfl⟩ := rx
  cases y with
  | non => cases ry; exact PySem.EqNone.ne_int_none (kbs I q (by simp))
  | int j => obtain ⟨t', rfl⟩ := ry; exact ne_int (kbs I q (congrArg not kh3))
  | str j => obtain ⟨t', rfl⟩ := ry; exact PySem.EqMixed.ne_int_str (kbs I q (by simp))
  | _ => exact absurd (show false = true from hs) FW
 | str i =>
  obtain ⟨t, rfl⟩ := rx
  cases y with
  | non => cases ry; exact PySem.EqNone.ne_str_none (kbs I q (by simp))
  | bl j => cases ry; exact PySem.EqMixed.ne_str_bool (kbs I q (by simp))
  | int j => obtain ⟨t', rfl⟩ := ry; exact PySem.EqMixed.ne_str_int (kbs I q (by simp))
  | str j => obtain ⟨t', rfl⟩ := ry; exact ne_str (kbs I q (congrArg not kh2))
  | _ => exact absurd (show false = true from hs) FW
 | byt i =>
  obtain ⟨t, rfl⟩ := rx
  cases y with
  | byt j => obtain ⟨t', rfl⟩ := ry; exact PySem.W.ne_bytes (kbs I q (congrArg not kh4))
  | _ => exact absurd (show false = true from hs) FW
 | _ => cases y <;> exact absurd (show false = true from hs) FW
theorem op_lt : OpR X (compareOp .Lt) (rI0 fun i j => .bl (decide (i < j))) := opB0 fun _ _ _ _ _ _ _ q => lt_int q
theorem op_le : OpR X (compareOp .LtE) (rI0 fun i j => .bl (decide (i ≤ j))) := opB0 fun _ _ _ _ _ _ _ q => le_int q
theorem op_gt : OpR X (compareOp .Gt) (rI0 fun i j => .bl (decide (j < i))) := opB0 fun _ _ _ _ _ _ _ q => gt_int q
theorem kez : OpR X (compareOp .Is) (fun x y H Q => y = .non ∧ Q (.bl (decide (x = .non))) H) := by
 intro pins s σ H x y v u Q I rx ry h
 obtain ⟨rfl, q⟩ := h
 cases ry
 refine is_none_gen (kbs I q ?_)
 cases x <;> first
  | (cases rx; rfl)
  | (obtain ⟨t, rfl⟩ := rx; rfl)
theorem kcy : OpR X (compareOp .IsNot) (fun x y H Q => y = .non ∧ Q (.bl (!decide (x = .non))) H) := by
 intro pins s σ H x y v u Q I rx ry h
 obtain ⟨rfl, q⟩ := h
 cases ry
 refine isnot_none_gen (kbs I q ?_)
 cases x <;> first
  | (cases rx; rfl)
  | (obtain ⟨t, rfl⟩ := rx; rfl)
theorem OpR.or {f : Value → Value → Sem Value} {r r' : R2} (h : OpR X f r) (h' : OpR X f r') : OpR X f (fun x y H Q => r x y H Q ∨ r' x y H Q) := by
 intro pins s σ H x y v u Q I rx ry q
 rcases q with q | q
 ·exact h pins s σ H x y v u Q I rx ry q
 ·exact h' pins s σ H x y v u Q I rx ry q
theorem kaF (b : Expr) {op : CmpOp} (h : op ≠ .In := by decide) (h2 : op ≠ .NotIn := by decide) : behindInMarks op b = false := by
 have e1 : (op == CmpOp.In) = false := by cases op <;> first | rfl | exact absurd rfl h
 have e2 : (op == CmpOp.NotIn) = false := by cases op <;> first | rfl | exact absurd rfl h2
 cases b <;> simp [behindInMarks, e1, e2]
theorem kbU {op : CmpOp} {r : R2} (ho : OpR X (compareOp op) r) (ha : PE X a ta) (hb : PE X b tb) (hm : behindInMarks op b = false) : PE X (.Compare a [op] [b] pos) (tOp r ta tb) := by
 intro pins s σ H Q I h
 exact wpAny_Compare1 (binT ha hb I h fun v u s2 x y H2 I2 rx ry q => ho pins s2 σ H2 x y v u Q I2 rx ry q) hm
noncomputable def tTest (t : TE) : TT := fun σ H Q => t σ H fun x H' => ∃ k, x = .bl k ∧ Q k H'
theorem kay {op : CmpOp} {r : R2} (ho : OpR X (compareOp op) r) (ha : PE X a ta) (hb : PE X b tb) (hm : behindInMarks op b = false) : PT X (.Compare a [op] [b] pos) (tTest (tOp r ta tb)) := by
 intro pins s σ H Q I h
 refine wpAny_isTrue_Compare1 (thn (ha pins s σ H _ I h) fun v s1 ⟨x, H1, I1, r1, q1⟩ => thn (hb pins s1 σ H1 _ I1 q1) fun u s2 ⟨y, H2, I2, r2, q2⟩ =>
  thn (ho pins s2 σ H2 x y v u _ I2 r1 r2 q2) fun c s3 ⟨z, H3, I3, r3, k, e, q3⟩ => ?_) hm
 subst e
 cases r3
 exact wpAny_truthy_bool ⟨H3, I3, q3⟩
noncomputable def kjd (r r' : R2) (ta tb tc : TE) : TE := fun σ H Q => ta σ H fun x H1 => tb σ H1 fun y H2 => r x y H2 fun z H3 => ∃ k, z = .bl k ∧
 (if k = true then tc σ H3 fun w' H4 => r' y w' H4 Q else Q (.bl false) H3)
theorem kiE {op op' : CmpOp} {r r' : R2} (ho : OpR X (compareOp op) r) (ho' : OpR X (compareOp op') r') (ha : PE X a ta) (hb : PE X b tb) (hc : PE X c tc)
  (hm : lastMarks [op, op'] [b, c] = false := by with_unfolding_all rfl) : PE X (.Compare a [op, op'] [b, c] pos) (kjd r r' ta tb tc) := by
 intro pins s σ H Q I h
 refine Compare_chain (thn (ha pins s σ H _ I h) fun v s1 ⟨x, H1, I1, r1, q1⟩ => chain_link (thn (hb pins s1 σ H1 _ I1 q1) fun u s2 ⟨y, H2, I2, r2, q2⟩ =>
  thn (ho pins s2 σ H2 x y v u _ I2 r1 r2 q2) fun d s3 ⟨z, H3, I3, r3, k, e, q3⟩ => ?_)) hm
 subst e
 cases r3
 refine wpAny_truthy_bool ?_
 cases k with
 | false => exact ite_ff ⟨.bl false, H3, I3, rfl, q3⟩
 | true => exact ite_tt (chain_last (thn (hc pins s3 σ H3 _ I3 q3) fun w' s4 ⟨z', H4, I4, r4, q4⟩ => ho' pins s4 σ H4 y z' u w' Q I4 r2 r4 q4))
theorem kgf {op op' : CmpOp} {r r' : R2} (ho : OpR X (compareOp op) r) (ho' : OpR X (compareOp op') r') (ha : PE X a ta) (hb : PE X b tb) (hc : PE X c tc)
  (hm : lastMarks [op, op'] [b, c] = false := by with_unfolding_all rfl) : PT X (.Compare a [op, op'] [b, c] pos) (tTest (kjd r r' ta tb tc)) := by
 intro pins s σ H Q I h
 refine isTrue_chain (thn (ha pins s σ H _ I h) fun v s1 ⟨x, H1, I1, r1, q1⟩ => test_link (thn (hb pins s1 σ H1 _ I1 q1) fun u s2 ⟨y, H2, I2, r2, q2⟩ =>
  thn (ho pins s2 σ H2 x y v u _ I2 r1 r2 q2) fun d s3 ⟨z, H3, I3, r3, k, e, q3⟩ => ?_)) hm
 subst e
 cases r3
 refine wpAny_truthy_bool ?_
 cases k with
 | false =>
  obtain ⟨k', e', q'⟩ := q3
  cases e'
  exact ite_ff ⟨H3, I3, q'⟩
 | true =>
  refine ite_tt (test_last (thn (hc pins s3 σ H3 _ I3 q3) fun w' s4 ⟨z', H4, I4, r4, q4⟩ => thn (ho' pins s4 σ H4 y z' u w' _ I4 r2 r4 q4) fun d' s5 ⟨z2, H5, I5, r5, k2, e2, q5⟩ => ?_))
  subst e2
  cases r5
  exact wpAny_truthy_bool ⟨H5, I5, q5⟩
theorem kfy : (sizeLine : Nat) < 2 ^ 63 := by rw [sizeLine_eq]; decide
theorem vals1 {x : V} {us : List Value} (r : Vals [x] us) : ∃ u, us = [u] ∧ RelV x u := by
 cases r with
 | cons r1 r2 => cases r2; exact ⟨_, rfl, r1⟩
theorem vals2 {x y : V} {us : List Value} (r : Vals [x, y] us) : ∃ u w', us = [u, w'] ∧ RelV x u ∧ RelV y w' := by
 cases r with
 | cons r1 r2 =>
  cases r2 with
  | cons r3 r4 => cases r4; exact ⟨_, _, rfl, r1, r3⟩
theorem kh9 (hc : X.calm = true) : CallR X (.builtin "max") (fun xs H Q => ∃ i j, xs = [.int i, .int j] ∧ Q (.int (if j > i then j else i)) H) := by
 intro pins s σ H xs us Q I r h
 obtain ⟨i, j, rfl, q⟩ := h
 obtain ⟨u, w', rfl, ⟨t, rfl⟩, ⟨t', rfl⟩⟩ := vals2 r
 refine max_two_ints (I.ok.hd hc) fun h' tk k => ⟨_, H, I.kept k, ?_, q⟩
 by_cases hj : j > i
 ·rw [if_pos hj, if_pos hj]; exact ⟨_, rfl⟩
 ·rw [if_neg hj, if_neg hj]; exact ⟨_, rfl⟩
theorem kek (hc : X.calm = true) : CallR X (.builtin "min") (fun xs H Q => ∃ i j, xs = [.int i, .int j] ∧ Q (.int (if j < i then j else i)) H) := by
 intro pins s σ H xs us Q I r h
 obtain ⟨i, j, rfl, q⟩ := h
 obtain ⟨u, w', rfl, ⟨t, rfl⟩, ⟨t', rfl⟩⟩ := vals2 r
 refine min_two_ints (I.ok.hd hc) fun h' tk k => ⟨_, H, I.kept k, ?_, q⟩
 by_cases hj : j < i
 ·rw [if_pos hj, if_pos hj]; exact ⟨_, rfl⟩
 ·rw [if_neg hj, if_neg hj]; exact ⟨_, rfl⟩
theorem kfE : CallR X (.type "int") (fun xs H Q => (∃ i, xs = [.int i] ∧ Q (.int i) H) ∨ ∃ k, xs = [.bl k] ∧ Q (.int (if k then 1 else 0)) H) := by
 intro pins s σ H xs us Q I r h
 rcases h with ⟨i, rfl, q⟩ | ⟨k, rfl, q⟩
 ·obtain ⟨u, rfl, t, rfl⟩ := vals1 r
  exact call_int_int ⟨.int i, H, I, ⟨_, rfl⟩, q⟩
 ·obtain ⟨u, rfl, r1⟩ := vals1 r
  cases r1
  exact call_int_bool ⟨.int (if k then 1 else 0), H, I.tok _, ⟨_, rfl⟩, q⟩
end
end L2
namespace L2
open PySem PySem.Spec PyProof.Rows
structure ObjM (h : Heap) (x dx C : Addr) (mA : Str → Option Value) : Prop where
 obj : h.get? x = some (C2 C dx)
 ns : h.Ns1 dx mA
 ne : dx ≠ x
theorem khB {h : Heap} {dx : Addr} {mA : Str → Option Value} (n : h.Ns1 dx mA) : ∃ od, h.get? dx = some od ∧ ∀ name, Rx name od = some (mA name) := by
 obtain ⟨o, es, ep, ho, hd, hk, _, hm⟩ := n
 refine ⟨o, ho, fun name => ?_⟩
 have e := hm name
 unfold nsFind findBy at e
 rw [← Array.find?_toList] at e
 unfold Rx
 rw [hd]
 dsimp only
 split
 ·rename_i y q
  rw [q] at e
  exact congrArg some e
 ·rename_i q
  rw [q] at e
  have a : es.toList.any (·.refKey) = false := by
   rw [List.any_eq_false]
   intro y hy
   obtain ⟨z, t, hkey⟩ := hk y (Array.mem_toList_iff.mp hy)
   simp [DictEntry.refKey, hkey]
  have a' : ¬ es.toList.any (·.refKey) = true := by rw [a]; exact FW
  rw [if_neg a']
  exact congrArg some e
theorem ObjM.look {h : Heap} {x dx C : Addr} {mA : Str → Option Value} (I : ObjM h x dx C mA) : ∃ od, PySem.W.InstAt h x (C2 C dx) C (some od) ∧ ∀ name, Rx name od = some (mA name) :=
 let ⟨od, ho, hl⟩ := khB I.ns
 ⟨od, ⟨I.obj, rfl, rfl, ho⟩, hl⟩
section
variable {prog : Program} {w : World} {A : Around} {E : Value → Shared → Prop} {s : Shared} {K : FK} {x dx C f : Addr} {mA : Str → Option Value} {name : Str} {v : Value}
theorem get_map {expr : Bool} {Q : Value → Shared → Prop} (X : K.In s.heap) (I : ObjM s.heap x dx C mA) (hg : Ci K C name = true) (hh : Cn K C = true)
  (ha : FL K (.ref C) name = some none) (hv : mA name = some v) (hv' : PySem.W.handedIn v = true) (h : Q v { s with toks := s.toks + 1 }) :
  wpAny (model prog w) A (getAttr (.ref x) name expr) Q E s := by
 obtain ⟨od, J, hl⟩ := I.look
 exact PySem.W.get_value X J (RZ hg).1 (PySem.W.findObj_own hh ha rfl (by rw [hl, hv])) hv' h
theorem kiX {pl : Sem Bool} {Q : Value × List Value → Shared → Prop} (X : K.In s.heap) (I : ObjM s.heap x dx C mA) (hg : Ci K C name = true)
  (hf : FL K (.ref C) name = some (some (.ref f))) (ht : Ce K (.ref f) = true) (hv : mA name = none) (h : Q (.ref f, [.ref x]) s) :
  wpAny (model prog w) A (getMethod (.ref x) name pl) Q E s := by
 obtain ⟨od, J, hl⟩ := I.look
 exact PySem.W.method_fn X J (RZ hg).1 (RZ hg).2 hf (beq_iff_eq.mp ht) (by show (Rx name od).map (·.isSome) = some false; rw [hl, hv]; rfl) h
theorem kjW {ns : List Str} {Q : Unit → Shared → Prop} (X : K.In s.heap) (I : ObjM s.heap x dx C mA)
  (hs : FL K (.ref C) "__setattr__" = some (some (.builtin "object.__setattr__"))) (hp : Cs K C = true) (ht : R0 K C name = some none) (hh : Cn K C = true)
  (hw : PySem.Within mA ns) (hsz : ns.length ≤ sizeLine)
  (h : ∀ h', ObjM h' x dx C (fun y => if y = name then some v else mA y) → Heap.SameBut dx s.heap h' → Q () { s with heap := h', toks := s.toks + 2 }) :
  wpAny (model prog w) A (setAttr (.ref x) name v) Q E s := by
 obtain ⟨od, J, hl⟩ := I.look
 refine PySem.W.set_plain X J hs (PySem.W.osa_open (s := { s with toks := s.toks + 1 }) (r := none) X J hp ht fun b => ?_)
 obtain ⟨cd, hc, hd'⟩ := PySem.W.any_some hh
 have hx : s.heap.get? x = some ⟨.ref C, some dx, .plain, #[]⟩ := I.obj
 refine wpAny_bind (wpAny_pure (wpAny_bind (wpAny_bind (wpAny_loadPart hx (wpAny_bind (PySem.W.Looks.here (s := { s with toks := s.toks + 1 }) (PySem.W.looks_clsIn X hc) ?_))))))
 rw [hd']
 refine wpAny_pure (a := some dx) (wpAny_bind (wpAny_pure (wpAny_bind ?_)))
 refine wpAny_nsSet1 (s := { s with toks := s.toks + 1 }) I.ns fun h' hn2 hs2 => ?_
 obtain ⟨oD, esD, epD, hoD, hdD, hcD⟩ := hn2.count (PySem.Within.cons name v hw)
 refine wpAny_bind (wpAny_lookBehind hoD (by rw [hdD]; exact pastItsLine_dict (FQ hcD (by rw [Cu]; omega))) ?_)
 exact wpAny_pure (h _ ⟨(hs2.2 _ (Ne.symm I.ne)).trans I.obj, hn2, I.ne⟩ hs2)
theorem kiO {R : Result → Shared → Prop} {vs : List Value} {kw : List (Str × Value)} (X : K.In s.heap) (hm : Co K C = true)
  (hi : FL K (.ref C) "__init__" = some (some (.ref f))) (hf : Cj K (.ref f) = some (.type "function"))
  (h : codeAny (model prog w) (A.under (.builtin "type.__call__" ⟨.ref C :: vs, kw⟩)) (.call (.ref f) ⟨.ref (s.heap.objs.size + 1) :: vs, kw⟩) (PySem.W.InitBack (s.heap.objs.size + 1) R)
   { s with heap := (s.heap.push CQ).push (C2 C s.heap.objs.size) }) :
  codeAny (model prog w) A (.call (.ref C) ⟨vs, kw⟩) R s := by
 obtain ⟨hh, g, d, t, os⟩ := s
 exact PySem.W.make_core (PySem.W.makes_of X hm) (PySem.W.looks_findIn X hi) (fun self => PySem.W.bind_fn X self hf) (.inl rfl) h
end
noncomputable def putF (f : Str) (v : V) : List (Str × V) → List (Str × V)
 | [] => [(f, v)]
 | (g, x) :: r => if g = f then (g, v) :: r else (g, x) :: putF f v r
theorem kac (f g : Str) (v : V) : ∀ fs : List (Str × V), (putF f v fs).lookup g = if g = f then some v else fs.lookup g
 | [] => by
  show CD g [(f, v)] = _
  by_cases h : g = f
  ·have hb : (g == f) = true := beq_iff_eq.mpr h
   simp only [CD, hb, if_pos h]
  ·have hb : (g == f) = false := beq_eq_false_iff_ne.mpr h
   simp only [CD, hb, if_neg h]
 | (k, x) :: r => by
  have ih := kac f g v r
  rw [show putF f v ((k, x) :: r) = (if k = f then (k, v) :: r else (k, x) :: putF f v r) from rfl]
  by_cases hk : k = f
  ·rw [if_pos hk]
   by_cases h : g = k
   ·have hb : (g == k) = true := beq_iff_eq.mpr h
    simp only [CD, hb, if_pos (h.trans hk)]
   ·have hb : (g == k) = false := beq_eq_false_iff_ne.mpr h
    simp only [CD, hb, if_neg (fun e : g = f => h (e.trans hk.symm))]
  ·rw [if_neg hk]
   by_cases h : g = k
   ·have hb : (g == k) = true := beq_iff_eq.mpr h
    simp only [CD, hb, if_neg (fun e : g = f => hk (h.symm.trans e))]
   ·have hb : (g == k) = false := beq_eq_false_iff_ne.mpr h
    simp only [CD, hb]
    exact ih
theorem kee (f : Str) (v : V) : ∀ fs : List (Str × V), f ∈ (putF f v fs).map (·.1) ∧ ∀ g, g ∈ fs.map (·.1) → g ∈ (putF f v fs).map (·.1)
 | [] => ⟨by simp [putF], fun g h => by simp at h⟩
 | (k, x) :: r => by
  obtain ⟨i1, i2⟩ := kee f v r
  rw [show putF f v ((k, x) :: r) = (if k = f then (k, v) :: r else (k, x) :: putF f v r) from rfl]
  by_cases hk : k = f
  ·rw [if_pos hk]
   subst hk
   exact ⟨by simp, fun g h => by simpa using h⟩
  ·rw [if_neg hk]
   refine ⟨?_, fun g h => ?_⟩
   ·rw [F7]
    exact F9 _ i1
   ·rw [F7] at h ⊢
    rcases F5.mp h with e | e
    ·exact F5.mpr (.inl e)
    ·exact F9 _ (i2 g e)
theorem ked (f : Str) (v : V) : ∀ fs : List (Str × V), (putF f v fs).length ≤ fs.length + 1
 | [] => by simp [putF]
 | (k, x) :: r => by
  have ih := ked f v r
  rw [show putF f v ((k, x) :: r) = (if k = f then (k, v) :: r else (k, x) :: putF f v r) from rfl]
  by_cases hk : k = f
  ·rw [if_pos hk, Cu, Cu]; omega
  ·rw [if_neg hk, Cu, Cu]; omega
theorem RelO.some_of {v : V} {o : Option Value} (r : RelO (some v) o) : ∃ u, o = some u ∧ RelV v u := by
 cases o with
 | none => exact (show False from r).elim
 | some u => exact ⟨u, rfl, r⟩
theorem RelO.none_of {o : Option Value} (r : RelO none o) : o = none := by
 cases o with
 | none => rfl
 | some u => exact (show False from r).elim
theorem khO {v : V} {u : Value} (r : RelV v u) : PySem.W.handedIn u = true := by
 cases v with
 | non => cases (show u = Value.none from r); rfl
 | bl b => cases (show u = Value.bool b from r); rfl
 | int i => obtain ⟨t, e⟩ := (show ∃ t, u = Value.int i t from r); cases e; rfl
 | str x => obtain ⟨t, e⟩ := (show ∃ t, u = Value.str x t from r); cases e; rfl
 | byt b => obtain ⟨t, e⟩ := (show ∃ t, u = Value.bytes b t from r); cases e; rfl
 | flt b => obtain ⟨t, e⟩ := (show ∃ t, u = Value.float b t from r); cases e; rfl
 | ref a => cases (show u = Value.ref a from r); rfl
 | ty n => cases (show u = Value.type n from r); rfl
section
variable {P : Program} {w : World} {H H' : Hp} {h h' : Heap} {a C dx : Addr} {fs fs' : List (Str × V)}
theorem ke6 (hok : HOk P w H h) (e : H a = some (.ins C dx fs)) : ∃ mA, ObjM h a dx C mA ∧ (∀ f, RelO (fs.lookup f) (mA f)) ∧ PySem.Within mA (fs.map (·.1)) ∧ fs.length ≤ 1000 ∧ H dx = some (.own a) := by
 obtain ⟨d, z, ne, ob, mA, n, r, q⟩ := (show ObjOk P w H h a (.ins C dx fs) from hok a _ e)
 exact ⟨mA, ⟨ob, n, ne⟩, r, q, z, d⟩
end
structure Cls (K : FK) (C : Addr) : Prop where
 pg : Ci K C Str.empty = true
 hd : Cn K C = true
 po : Cs K C = true
 sa : FL K (.ref C) "__setattr__" = some (some (.builtin "object.__setattr__"))
theorem Cls.get {K : FK} {C : Addr} (c : Cls K C) (f : Str) : Ci K C f = true := c.pg
noncomputable def NoAttr (K : FK) (C : Addr) (f : Str) : Prop := FL K (.ref C) f = some none
theorem NoAttr.taker {K : FK} {C : Addr} {f : Str} (n : NoAttr K C f) : R0 K C f = some none := by
 unfold R0
 rw [show FL K (.ref C) f = some none from n]
 rfl
structure Meth (K : FK) (C : Addr) (m : Str) (f : Addr) : Prop where
 at_ : FL K (.ref C) m = some (some (.ref f))
 fn : Ce K (.ref f) = true
 kp : FN K (.ref f) = true
section
variable {X : Cx} {pins : List (Addr × Obj)} {σ : St} {H : Hp} {s : Shared} {a C dx : Addr} {fs : List (Str × V)} {f : Str} {v : V} {A : Around} {E : Value → Shared → Prop}
theorem kgS {b : Bool} {Q : Value → Shared → Prop} (I : Inv X pins σ H s) (e : H a = some (.ins C dx fs)) (c : Cls X.K C) (n : NoAttr X.K C f) (l : fs.lookup f = some v)
  (h : ∀ u s', Inv X pins σ H s' → RelV v u → Q u s') : wpAny (model X.prog X.w) A (getAttr (.ref a) f b) Q E s := by
 obtain ⟨mA, O, r, _, _, _⟩ := ke6 I.hok e
 obtain ⟨u, hu, ru⟩ := RelO.some_of (v := v) (o := mA f) (by rw [← l]; exact r f)
 exact get_map I.kIn O (c.get f) c.hd n hu (khO ru) (h u _ (I.tok _) ru)
theorem keD {m : Str} {g : Addr} {pl : Sem Bool} {Q : Value × List Value → Shared → Prop} (I : Inv X pins σ H s) (e : H a = some (.ins C dx fs)) (c : Cls X.K C) (k : Meth X.K C m g) (l : fs.lookup m = none)
  (h : Q (.ref g, [.ref a]) s) : wpAny (model X.prog X.w) A (getMethod (.ref a) m pl) Q E s := by
 obtain ⟨mA, O, r, _, _, _⟩ := ke6 I.hok e
 have hn : mA m = none := RelO.none_of (by rw [← l]; exact r m)
 exact kiX I.kIn O (c.get m) k.at_ k.fn hn h
theorem kgH {y : V} {u : Value} {Q : Unit → Shared → Prop} (I : Inv X pins σ H s) (e : H a = some (.ins C dx fs)) (c : Cls X.K C) (n : NoAttr X.K C f) (hl : fs.length < 1000) (ry : RelV y u)
  (h : ∀ s', Inv X pins σ (upd H a (.ins C dx (putF f y fs))) s' → Q () s') : wpAny (model X.prog X.w) A (setAttr (.ref a) f u) Q E s := by
 obtain ⟨mA, O, r, wi, _, ho⟩ := ke6 I.hok e
 have hz : (fs.map (·.1)).length ≤ sizeLine := by rw [FJ, sizeLine_eq]; omega
 refine kjW I.kIn O c.sa c.po n.taker c.hd wi hz fun h' O' sb => h _ ?_
 have hd : ∃ o, h'.get? dx = some o := let ⟨o, _, _, e', _⟩ := O'.ns; ⟨o, e'⟩
 refine I.write (x := a) (e := dx) (by rw [e]; exact True.intro) (.inr ho) (fun b q hb z => (sb.2 b hb).trans z) hd ?_
 refine ⟨by rw [kam O.ne]; exact ho, ?_, O.ne, O'.obj, _, O'.ns, fun g => ?_, fun g hg => ?_⟩
 ·have := ked f y fs; omega
 ·show RelO ((putF f y fs).lookup g) (if g = f then some u else mA g)
  rw [kac]
  by_cases q : g = f
  ·rw [if_pos q, if_pos q]; exact ry
  ·rw [if_neg q, if_neg q]; exact r g
 ·by_cases q : g = f
  ·rw [q]; exact (kee f y fs).1
  ·refine (kee f y fs).2 g (wi g fun z => hg ?_)
   show (if g = f then some u else mA g) = none
   rw [if_neg q]; exact z
theorem Inv.made (I : Inv X pins σ H s) : Inv X pins σ (upd (upd H s.heap.objs.size (.own (s.heap.objs.size + 1))) (s.heap.objs.size + 1) (.ins C s.heap.objs.size []))
  { s with heap := (s.heap.push CQ).push (C2 C s.heap.objs.size) } := by
 have e1 : (s.heap.push CQ).get? s.heap.objs.size = some CQ := Heap.get?_push_size s.heap rfl
 have e2 : ((s.heap.push CQ).push (C2 C s.heap.objs.size)).get? (s.heap.objs.size + 1) = some (C2 C s.heap.objs.size) := by
  have := Heap.get?_push_size (s.heap.push CQ) (o := C2 C s.heap.objs.size) rfl
  rwa [Heap.size_push] at this
 have e3 : (s.heap.push CQ).Ns s.heap.objs.size (fun _ => none) := ⟨CQ, #[], _, e1, rfl, (fun e he => absurd he (by simp)), fun _ => rfl⟩
 have I1 := I.laid (a := s.heap.objs.size) (o := .own (s.heap.objs.size + 1)) (h' := s.heap.push CQ) (t' := s.toks) (fun b u q => Heap.get?_push_of_some _ q) (FM _) ⟨_, e1⟩
 refine I1.laid (a := s.heap.objs.size + 1) (o := .ins C s.heap.objs.size []) (t' := s.toks) (fun b u q => Heap.get?_push_of_some _ q) (Ry (Heap.size_push _ _)) ?_
 have ne : s.heap.objs.size ≠ s.heap.objs.size + 1 := Cc (R1 _)
 refine ⟨by rw [kam ne, kad], Cm _, ne, e2, fun _ => none, (Heap.Ns1.of_empty e3).at fun o q => Heap.get?_push_of_some _ q, fun _ => True.intro, fun y hy => absurd rfl hy⟩
theorem kks {prog : Program} {w : World} {env : Env} {e : Expr} {f : Str} {pos : Pos} {s : Shared} {Q : Value → Shared → Prop} (hb : attributeBase e f env (eval e env) = eval e env)
  (h : wpAny (model prog w) A (eval e env) (fun o s₁ => wpAny (model prog w) A (getAttr o f true) Q E s₁) E s) : wpAny (model prog w) A (eval (.Attribute e f pos) env) Q E s :=
 Attribute_any_ h (by rw [arm_eval_Attribute, hb])
end
noncomputable def tFld (K : FK) (ta : TE) (f : Str) : TE := fun σ H Q => ta σ H fun x H1 => ∃ a C dx fs v, x = .ref a ∧ H1 a = some (.ins C dx fs) ∧ Cls K C ∧ NoAttr K C f ∧ fs.lookup f = some v ∧ Q v H1
noncomputable def sFld (K : FK) (ta tv : TE) (f : Str) : TS := fun D σ H => tv σ H fun y H1 => ta σ H1 fun x H2 => ∃ a C dx fs, x = .ref a ∧ H2 a = some (.ins C dx fs) ∧ Cls K C ∧ NoAttr K C f ∧ fs.length < 1000 ∧
 D.nx σ (upd H2 a (.ins C dx (putF f y fs)))
section
variable {X : Cx} {o e value : Expr} {f : Str} {pos pos' tpos : Pos} {ta tv : TE}
theorem kap (he : PE X e ta) (hb : attributeBase e f X.env (eval e X.env) = eval e X.env) : PE X (.Attribute e f pos) (tFld X.K ta f) := by
 intro pins s σ H Q I h
 refine kks hb (thn (he pins s σ H _ I h) fun u s1 ⟨x, H1, I1, rx, a, C, dx, fs, v, ex, ea, c, n, l, q⟩ => ?_)
 subst ex
 obtain rfl : u = Value.ref a := rx
 exact kgS I1 ea c n l fun u' s2 I2 ru => ⟨v, H1, I2, ru, q⟩
theorem ka5 (ha : PE X o ta) (hv : PE X value tv) (hs : swapsWith value (some (.Attribute o f pos')) pos.line X.env = pure false) : PS X (.Assign [.Attribute o f pos'] value pos) (sFld X.K ta tv f) := by
 intro pins s σ H D I h
 refine plainObj_wpAny_Assign_Attribute (thn (hv pins s σ H _ I h) fun u s1 ⟨y, H1, I1, ry, q⟩ => thn (ha pins s1 σ H1 _ I1 q) fun ov s2 ⟨x, H2, I2, rx, a, C, dx, fs, ex, ea, c, n, l, q2⟩ => ?_) hs
 subst ex
 obtain rfl : ov = Value.ref a := rx
 exact kgH I2 ea c n l ry fun s3 I3 => ⟨σ, _, I3, q2⟩
end
section
variable {X : Cx} {pins : List (Addr × Obj)} {σ : St} {H : Hp} {s : Shared} {A : Around} {E : Value → Shared → Prop} {Q : Value → Shared → Prop} {c : Value} {b : Bool}
inductive TyOf (K : FK) (H : Hp) : V → Value → Prop where
 | non : TyOf K H .non (.type "NoneType")
 | bl (x : Bool) : TyOf K H (.bl x) (.type "bool")
 | int (i : Int) : TyOf K H (.int i) (.type "int")
 | str (x : Str) : TyOf K H (.str x) (.type "str")
 | flt (x : UInt64) : TyOf K H (.flt x) (.type "float")
 | lst {a : Addr} {xs : List V} (e : H a = some (.lst xs)) : TyOf K H (.ref a) (.type "list")
 | frz {a : Addr} {o : Obj} {xs : List V} (e : H a = some (.frz o (.lst xs))) : TyOf K H (.ref a) (.type "list")
 | tup {a : Addr} {xs : List V} (e : H a = some (.tup xs)) : TyOf K H (.ref a) (.type "tuple")
 | dK {a : Addr} {kvs : List (Key × V)} (e : H a = some (.dK kvs)) : TyOf K H (.ref a) (.type "dict")
 | dT {a : Addr} {kvs : List (List Key × V)} (e : H a = some (.dT kvs)) : TyOf K H (.ref a) (.type "dict")
 | ins {a C dx : Addr} {fs : List (Str × V)} (e : H a = some (.ins C dx fs)) (cl : Cls K C) (ha : FL K (.ref C) "__class__" = some (some (.builtin "object.__class__")))
   (hn : Rl K (.builtin "object.__class__") "__get__" = some (some (.builtin "getset_descriptor.__get__"))) (htk : R3 K (.builtin "object.__class__") = some true)
   (hm : FT K C (.type "object") = some true) : TyOf K H (.ref a) (.ref C)
theorem khK {x : V} {u t : Value} (I : Inv X pins σ H s) (rx : RelV x u) (ty : TyOf X.K H x t) (e : F1 X.K t c = some b) (h : ∀ tk, Q (.bool b) { s with toks := tk }) :
  wpAny (model X.prog X.w) A (call (.builtin "isinstance") [u, c]) Q E s := by
 cases ty with
 | non => cases (show u = Value.none from rx); exact CF PySem.W.kitx_none I.kIn True.intro e (fun z => nomatch z) h
 | bl y => cases (show u = Value.bool y from rx); exact CF PySem.W.kitx_bool I.kIn True.intro e (fun z => nomatch z) h
 | int i => obtain ⟨t, q⟩ := (show ∃ t, u = Value.int i t from rx); cases q; exact CF PySem.W.kitx_int I.kIn True.intro e (fun z => nomatch z) h
 | str y => obtain ⟨t, q⟩ := (show ∃ t, u = Value.str y t from rx); cases q; exact CF PySem.W.kitx_str I.kIn True.intro e (fun z => nomatch z) h
 | flt y => obtain ⟨t, q⟩ := (show ∃ t, u = Value.float y t from rx); cases q; exact CF PySem.W.kitx_float I.kIn True.intro e (fun z => nomatch z) h
 | @lst a xs ea =>
  cases (show u = Value.ref a from rx)
  obtain ⟨_, _, n, _, h1⟩ := (show ObjOk X.prog X.w H s.heap a (.lst xs) from I.hok a _ ea)
  exact CF PySem.W.kitx_list I.kIn ⟨_, h1, rfl⟩ e (fun z => nomatch z) h
 | @frz a ob xs ea =>
  cases (show u = Value.ref a from rx)
  obtain ⟨_, _, _, n, _, h1⟩ := (show ObjOk X.prog X.w H s.heap a (.frz ob (.lst xs)) from I.hok a _ ea)
  exact CF PySem.W.kitx_list I.kIn ⟨_, h1, rfl⟩ e (fun z => nomatch z) h
 | @tup a xs ea =>
  cases (show u = Value.ref a from rx)
  obtain ⟨_, _, _, p⟩ := (show ObjOk X.prog X.w H s.heap a (.tup xs) from I.hok a _ ea)
  obtain ⟨o, h1, h2, _⟩ := p
  exact CF PySem.W.kitx_tuple I.kIn ⟨o, h1, h2⟩ e (fun z => nomatch z) h
 | @dK a kvs ea =>
  cases (show u = Value.ref a from rx)
  obtain ⟨_, _, vs, _, p⟩ := (show ObjOk X.prog X.w H s.heap a (.dK kvs) from I.hok a _ ea)
  obtain ⟨o, es, ep, h1, h2, _⟩ := p
  exact CF PySem.W.kitx_dict I.kIn ⟨o, h1, h2.1⟩ e (fun z => nomatch z) h
 | @dT a kvs ea =>
  cases (show u = Value.ref a from rx)
  obtain ⟨_, _, xs, _, o, es, ep, h1, h2, _⟩ := (show ObjOk X.prog X.w H s.heap a (.dT kvs) from I.hok a _ ea)
  exact CF PySem.W.kitx_dict I.kIn ⟨o, h1, h2.1⟩ e (fun z => nomatch z) h
 | @ins a C dx fs ea cl ha hn htk hm =>
  cases (show u = Value.ref a from rx)
  obtain ⟨mA, O, _⟩ := ke6 I.hok ea
  obtain ⟨od, J, _⟩ := O.look
  exact CF (PySem.W.kitx_own (cl.get _) cl.hd ha hn htk hm) I.kIn J e (fun z => nomatch z) h
end
end L2
namespace L2
open PySem PySem.Spec PyProof.Rows
structure Room (k : Nat) (A : Around) : Prop where
 hd : A.handled = none
 dp : A.depth + 3 * k + 5 < recursionLimit
 un : A.units + 16 * k + 200 < cLine
theorem Room.mono {j k : Nat} {A : Around} (r : Room k A) (h : j ≤ k) : Room j A := ⟨r.hd, by have := r.dp; omega, by have := r.un; omega⟩
theorem Room.deeper {k : Nat} {A : Around} (r : Room (k + 1) A) (env : Env) : Room k (A.deeper env) :=
 ⟨r.hd, by have := r.dp; show A.depth + 1 + 3 * k + 5 < _; omega, by have := r.un; show A.units + 3 + 16 * k + 200 < _; omega⟩
theorem Room.in1 {k : Nat} {A : Around} (r : Room (k + 1) A) : Room k A.in1 :=
 ⟨r.hd, by have := r.dp; show A.depth + 3 * k + 5 < _; omega, by have := r.un; show A.units + 1 + 16 * k + 200 < _; omega⟩
theorem kgQ {A : Around} {C : Addr} {us : List Value} {kw : List (Str × Value)} : (A.under (.builtin "type.__call__" ⟨.ref C :: us, kw⟩)).depth = A.depth + 1 := by
 first | rfl | simp [Around.under, Code.weight, Code.isCreation, Code.isGuard, Code.isCaller, Code.frames, Code.isFrame, guardIds]
theorem kgP {A : Around} {C : Addr} {us : List Value} {kw : List (Str × Value)} : (A.under (.builtin "type.__call__" ⟨.ref C :: us, kw⟩)).units = A.units + 1 := by
 first | rfl | simp [Around.under, Code.cUnits, Code.frames, Code.isFrame]
theorem Room.make {k : Nat} {A : Around} (r : Room (k + 1) A) (C : Addr) (us : List Value) (kw : List (Str × Value)) : Room k (A.under (.builtin "type.__call__" ⟨.ref C :: us, kw⟩)) :=
 ⟨r.hd, by have := r.dp; rw [kgQ]; omega, by have := r.un; rw [kgP]; omega⟩
theorem Room.depth {k : Nat} {A : Around} (r : Room k A) : A.depth < recursionLimit := by have := r.dp; omega
theorem Room.units {k : Nat} {A : Around} (r : Room k A) : A.units + 64 < cLine := by have := r.un; omega
theorem Room.units0 {k : Nat} {A : Around} (r : Room k A) : A.units < cLine := by have := r.un; omega
noncomputable def tNil : TA := fun _ H Q => Q [] H
noncomputable def tCons (ta : TE) (tr : TA) : TA := fun σ H Q => ta σ H fun x H1 => tr σ H1 fun xs H2 => Q (x :: xs) H2
section
variable {X : Cx} {e : Expr} {es : List Expr} {te : TE} {t : TA} {pos : Pos}
theorem kah : PA X [] tNil := fun _ _ _ _ H Q I h => Calls.spliced_nil ⟨[], H, I, .nil, h⟩
theorem kaa (ha : PE X e te) (hr : PA X es t) (hs : starEach (e :: es) X.env = (false, eval e X.env) :: starEach es X.env := by rfl) : PA X (e :: es) (tCons te t) := by
 intro pos pins s σ H Q I h
 rw [hs]
 show wpAny _ _ (spliced ((false, eval e X.env) :: backTo pos (starEach es X.env))) _ _ s
 refine Calls.spliced_cons (thn (ha pins s σ H _ I h) fun u s1 ⟨x, H1, I1, r1, q1⟩ => ?_)
 exact thn (hr pos pins s1 σ H1 _ I1 q1) fun us s2 ⟨xs, H2, I2, r2, q2⟩ => ⟨x :: xs, H2, I2, .cons r1 r2, q2⟩
noncomputable def tTup (t : TA) : TE := fun σ H Q => t σ H fun xs H1 => xs.length ≤ sizeLine ∧ ∀ p, H1 p = none → Q (.ref p) (upd H1 p (.tup xs))
noncomputable def tLst (t : TA) : TE := fun σ H Q => t σ H fun xs H1 => xs.length ≤ sizeLine ∧ ∀ p, H1 p = none → Q (.ref p) (upd H1 p (.lst xs))
theorem kcM {x1} (h : PA X es t) : PE X (.Tuple es x1 pos) (tTup t) := by
 intro pins s σ H Q I hq
 refine wpAny_Tuple_spliced (thn (h pos pins s σ H _ I hq) fun us s1 ⟨xs, H1, I1, r, z, q⟩ => ⟨by rw [← r.length]; exact z, ?_⟩)
 have hf : H1 s1.heap.objs.size = none := I1.hok.fresh (FM _)
 refine ⟨.ref s1.heap.objs.size, upd H1 s1.heap.objs.size (.tup xs), I1.laid (t' := s1.toks) (fun b u e => Heap.get?_push_of_some _ e) (FM _) ?_, rfl, q _ hf⟩
 exact ⟨z, us, r, ⟨_, Heap.get?_push_size _ rfl, rfl, _, rfl⟩⟩
theorem kbw (h : PA X es t) : PE X (.List es pos) (tLst t) := by
 intro pins s σ H Q I hq
 refine wpAny_List_spliced (thn (h pos pins s σ H _ I hq) fun us s1 ⟨xs, H1, I1, r, z, q⟩ => ⟨by rw [← r.length]; exact z, ?_⟩)
 have hf : H1 s1.heap.objs.size = none := I1.hok.fresh (FM _)
 refine ⟨.ref s1.heap.objs.size, upd H1 s1.heap.objs.size (.lst xs), I1.laid (t' := s1.toks) (fun b u e => Heap.get?_push_of_some _ e) (FM _) ?_, rfl, q _ hf⟩
 exact ⟨z, us, 0, r, Heap.get?_push_size _ rfl⟩
end
noncomputable abbrev Sp := List V → Hp → VK → XK → Prop
noncomputable abbrev CXT := List Env → Hp → Shared → XK → Value → Shared → Prop
structure Env0 (P : Program) (w : World) (K : FK) (mg : Str → Option Value) (base : Heap) (A : Around) (outer : List Env) (s : Shared) (H : Hp) : Prop where
 frames : A.frames = some outer
 mod : Mod K mg base
 bs : ∀ b o, base.get? b = some o → s.heap.get? b = some o ∧ H b = none
 bsz : base.objs.size ≤ s.heap.objs.size
 funs : s.heap.FunFrames base outer
 frf : ∀ b ∈ frs outer, H b = none
 hok : HOk P w H s.heap
 bare : AllBare s.gens
noncomputable def CE (outer : List Env) (P : Program) (w : World) (H : Hp) (s : Shared) (Q : VK) (u : Value) (s' : Shared) : Prop :=
 ∃ v H', s'.os = s.os ∧ AllBare s'.gens ∧ Un (frs outer) [] H H' s.heap s'.heap ∧ HOk P w H' s'.heap ∧ RelV v u ∧ Q v H'
noncomputable def CR (CX : CXT) (outer : List Env) (P : Program) (w : World) (H : Hp) (s : Shared) (Q : VK) (E : XK) (r : Result) (s' : Shared) : Prop :=
 match r with
 | .ok (.ret u) => CE outer P w H s Q u s'
 | .ok _ => False
 | .error e => CX outer H s E e s'
structure FnOk (P : Program) (w : World) (K : FK) (mg : Str → Option Value) (base : Heap) (CX : CXT) (k : Nat) (f : Addr) (fd : FuncData) (ps : List Str) (sp : Sp) : Prop where
 len : ∀ vs H Q E, sp vs H Q E → vs.length = ps.length
 run : ∀ (A : Around) (outer : List Env) (s : Shared) (H : Hp) (args : Args) (us : List Value) (vs : List V) (Q : VK) (E : XK), Room k A → Env0 P w K mg base A outer s H → BindsTo s fd args (ps.zip us) → Vals vs us → sp vs H Q E →
  codeAny (model P w) A (.call (.ref f) args) (CR CX outer P w H s Q E) s
theorem FnOk.mono {P : Program} {w : World} {K : FK} {mg : Str → Option Value} {base : Heap} {CX : CXT} {j k : Nat} {f : Addr} {fd : FuncData} {ps : List Str} {sp : Sp} (F : FnOk P w K mg base CX j f fd ps sp) (h : j ≤ k) :
  FnOk P w K mg base CX k f fd ps sp := ⟨F.len, fun A outer s H args us vs Q E hr => F.run A outer s H args us vs Q E (hr.mono h)⟩
theorem FnOk.imp {P : Program} {w : World} {K : FK} {mg : Str → Option Value} {base : Heap} {CX : CXT} {k : Nat} {f : Addr} {fd : FuncData} {ps : List Str} {sp sp' : Sp} (F : FnOk P w K mg base CX k f fd ps sp)
  (h : ∀ vs H Q E, sp' vs H Q E → sp vs H Q E) : FnOk P w K mg base CX k f fd ps sp' :=
 ⟨fun vs H Q E q => F.len vs H Q E (h _ _ _ _ q), fun A outer s H args us vs Q E hr he hb hv hs => F.run A outer s H args us vs Q E hr he hb hv (h _ _ _ _ hs)⟩
theorem Env0.make {P : Program} {w : World} {K : FK} {mg : Str → Option Value} {base : Heap} {A : Around} {outer : List Env} {s : Shared} {H : Hp} (e : Env0 P w K mg base A outer s H) (C : Addr) (us : List Value) (kw : List (Str × Value)) :
  Env0 P w K mg base (A.under (.builtin "type.__call__" ⟨.ref C :: us, kw⟩)) outer s H := ⟨by first | exact e.frames | (simpa [Around.under, Code.envs, Code.isFrame, pushEnvs] using e.frames), e.mod, e.bs, e.bsz, e.funs, e.frf, e.hok, e.bare⟩
theorem Env0.in1 {P : Program} {w : World} {K : FK} {mg : Str → Option Value} {base : Heap} {A : Around} {outer : List Env} {s : Shared} {H : Hp} (e : Env0 P w K mg base A outer s H) :
  Env0 P w K mg base A.in1 outer s H := ⟨e.frames, e.mod, e.bs, e.bsz, e.funs, e.frf, e.hok, e.bare⟩
section
variable {X : Cx} {pins : List (Addr × Obj)} {σ : St} {H : Hp} {s s' : Shared}
theorem Inv.env0 (I : Inv X pins σ H s) : Env0 X.prog X.w X.K X.mg X.base X.A X.stack s H :=
 ⟨I.ok.frames, I.ok.mod, I.bs, FQ I.ok.bsz I.sz, I.stack, I.stkFree, I.hok, I.bare⟩
theorem Inv.after {Q : VK} {u : Value} (I : Inv X pins σ H s) (h : CE X.stack X.prog X.w H s Q u s') : EP X pins σ Q u s' := by
 obtain ⟨v, H', os, bare, un, hok, r, q⟩ := h
 obtain ⟨hh, g, d, t, os'⟩ := s'
 obtain rfl : os' = s.os := os
 exact ⟨v, H', I.call (h' := hh) (g' := g) (d' := d) (t' := t) (ch := []) un hok bare (fun b z => absurd z (by simp)), r, q⟩
end
noncomputable def tCall (sp : Sp) (dvs : List V) (E : XK) (t : TA) : TE := fun σ H Q => t σ H fun vs H1 => sp (vs ++ dvs) H1 Q E
noncomputable def tMeth (C : Addr) (m : Str) (sp : Sp) (dvs : List V) (E : XK) (ta : TE) (t : TA) : TE := fun σ H Q => ta σ H fun x H1 => ∃ a dx fs, x = .ref a ∧ H1 a = some (.ins C dx fs) ∧ fs.lookup m = none ∧
 t σ H1 fun vs H2 => sp (x :: (vs ++ dvs)) H2 Q E
noncomputable def tMake (C : Addr) (sp : Sp) (dvs : List V) (E : XK) (t : TA) : TE := fun σ H Q => t σ H fun vs H1 => ∀ x dx, H1 x = none → H1 dx = none → dx ≠ x →
 sp (.ref x :: (vs ++ dvs)) (upd (upd H1 dx (.own x)) x (.ins C dx [])) (fun v H2 => v = .non ∧ Q (.ref x) H2) E
noncomputable def Binds (K : FK) (fd : FuncData) (ps : List Str) (ds : List Value) : Prop :=
 ∀ (s : Shared) (us : List Value), K.In s.heap → (us ++ ds).length = ps.length → BindsTo s fd ⟨us, []⟩ (ps.zip (us ++ ds))
theorem Binds.all {K : FK} {fd : FuncData} {ps : List Str} (h : ∀ us : List Value, us.length = ps.length → bindArgs fd ⟨us, []⟩ = pure (ps.zip us)) : Binds K fd ps [] := fun s us _ hl => by
 rw [R4] at hl ⊢
 exact .of_eq (h us hl)
noncomputable def kdb (CX : CXT) (X : Cx) (E : XK) : Prop := ∀ (pins : List (Addr × Obj)) (σ : St) (H : Hp) (s : Shared) (e : Value) (s' : Shared), Inv X pins σ H s → CX X.stack H s E e s' → X.xe e s'
section
variable {X : Cx} {CX : CXT} {k : Nat} {f C : Addr} {fd : FuncData} {ps : List Str} {sp : Sp} {dvs : List V} {ds : List Value} {E : XK} {x m : Str} {p pos apos : Pos} {e o : Expr} {es : List Expr} {ta : TE} {t : TA}
theorem kge {pins : List (Addr × Obj)} {σ : St} {H : Hp} {s : Shared} {Q : VK} {us : List Value} {vs : List V} (F : FnOk X.prog X.w X.K X.mg X.base CX k f fd ps sp) (hr : Room k X.A) (hb : Binds X.K fd ps ds) (hd : Vals dvs ds) (hx : kdb CX X E)
  (I : Inv X pins σ H s) (r : Vals vs us) (h : sp (vs ++ dvs) H Q E) : wpAny (model X.prog X.w) X.A (call (.ref f) us) (EP X pins σ Q) X.xe s := by
 have r2 : Vals (vs ++ dvs) (us ++ ds) := r.append hd
 have hl : (us ++ ds).length = ps.length := by rw [← r2.length]; exact F.len _ _ _ _ h
 refine wpAny_call (codeAny_mono (F.run X.A X.stack s H ⟨us, []⟩ (us ++ ds) (vs ++ dvs) Q E hr I.env0 (hb s us I.kIn hl) r2 h) fun r s' hq => ?_)
 cases r with
 | error e => exact hx pins σ H s e s' I hq
 | ok fl =>
  cases fl with
  | ret u => exact I.after hq
  | next => exact False.elim hq
  | brk => exact False.elim hq
  | cont => exact False.elim hq
theorem kao (F : FnOk X.prog X.w X.K X.mg X.base CX k f fd ps sp) (hr : Room k X.A) (hg : Gl X x) (hm : X.mg x = some (.ref f)) (hk : FN X.K (.ref f) = true) (hb : Binds X.K fd ps ds) (hd : Vals dvs ds) (hx : kdb CX X E)
  (ha : PA X (e :: es) t) (hdb : (x == ("__debug__" : Str)) = false := by decide) (he : starEach (e :: es) X.env = (false, eval e X.env) :: starEach es X.env := by rfl) (hpl : (backTo pos (starEach es X.env)).any (·.1) = false := by rfl) :
  PE X (.Call (.Name x p) (e :: es) [] pos) (tCall sp dvs E t) := by
 intro pins s σ H Q I h
 refine wpAny_Call_Name_kw (ke5 I hg hm ?_ hdb)
 refine Rz (h₀ := X.base) I.ok.mod.kin hk (thn (ha pos pins s σ H _ I h) fun us s1 ⟨vs, H1, I1, r, q⟩ => ⟨I1.kIn, ?_⟩) he hpl
 exact kge F hr hb hd hx I1 r q
theorem keU {pl : Sem Bool} (he : PE X o ta) (c : Cls X.K C) (hm : Meth X.K C m f) (F : FnOk X.prog X.w X.K X.mg X.base CX k f fd ps sp) (hr : Room k X.A) (hb : Binds X.K fd ps ds) (hd : Vals dvs ds) (hx : kdb CX X E) (ha : PA X (e :: es) t)
  (hst : starEach (e :: es) X.env = (false, eval e X.env) :: starEach es X.env := by rfl) (hpl : (backTo pos (starEach es X.env)).any (·.1) = false := by rfl)
  (ht : eval (.Call (.Attribute o m apos) (e :: es) [] pos) X.env = (do
   let ov ← eval o X.env
   standAt apos.atName
   let (f, first) ← holding [ov] (getMethod ov m pl)
   callWith pos f first (backTo pos (starEach (e :: es) X.env)) (backToKw pos (keywordEach [] X.env))) := by rfl) :
  PE X (.Call (.Attribute o m apos) (e :: es) [] pos) (tMeth C m sp dvs E ta t) := by
 intro pins s σ H Q I h
 refine R5 (pl := pl) (thn (he pins s σ H _ I h) fun u s1 ⟨x, H1, I1, rx, a, dx, fs, ex, ea, l, q⟩ => ?_) ht
 subst ex
 obtain rfl : u = Value.ref a := rx
 refine keD I1 ea c hm l ?_
 refine Rz (first := [.ref a]) (h₀ := X.base) I.ok.mod.kin hm.kp (thn (ha pos pins s1 σ H1 _ I1 q) fun us s2 ⟨vs, H2, I2, r, q2⟩ => ⟨I2.kIn, ?_⟩) hst hpl
 exact kge (us := .ref a :: us) (vs := .ref a :: vs) F hr hb hd hx I2 (.cons rfl r) q2
theorem kgk {pl : Sem Bool} (he : PE X o ta) (c : Cls X.K C) (hm : Meth X.K C m f) (F : FnOk X.prog X.w X.K X.mg X.base CX k f fd ps sp) (hr : Room k X.A) (hb : Binds X.K fd ps ds) (hd : Vals dvs ds) (hx : kdb CX X E)
  (ht : eval (.Call (.Attribute o m apos) [] [] pos) X.env = (do
   let ov ← eval o X.env
   standAt apos.atName
   let (f, first) ← holding [ov] (getMethod ov m pl)
   callWith pos f first (backTo pos (starEach [] X.env)) (backToKw pos (keywordEach [] X.env))) := by rfl) :
  PE X (.Call (.Attribute o m apos) [] [] pos) (tMeth C m sp dvs E ta tNil) := by
 intro pins s σ H Q I h
 refine R5 (pl := pl) (thn (he pins s σ H _ I h) fun u s1 ⟨x, H1, I1, rx, a, dx, fs, ex, ea, l, q⟩ => ?_) ht
 subst ex
 obtain rfl : u = Value.ref a := rx
 refine keD I1 ea c hm l ?_
 exact Su (first := [.ref a]) I1.kIn hm.kp (kge (us := [.ref a]) (vs := [.ref a]) F hr hb hd hx I1 (.cons rfl .nil) q)
structure Mk (K : FK) (C f : Addr) : Prop where
 makes : Co K C = true
 init : FL K (.ref C) "__init__" = some (some (.ref f))
 fn : Ce K (.ref f) = true
 kp : FN K (.ref C) = true
theorem kgd {pins : List (Addr × Obj)} {σ : St} {H : Hp} {s : Shared} {Q : VK} {us : List Value} {vs : List V} (M : Mk X.K C f) (F : FnOk X.prog X.w X.K X.mg X.base CX k f fd ps sp) (hr : Room (k + 1) X.A) (hb : Binds X.K fd ps ds) (hd : Vals dvs ds)
  (hx : kdb CX X E) (I : Inv X pins σ H s) (r : Vals vs us)
  (h : ∀ x dx, H x = none → H dx = none → dx ≠ x → sp (.ref x :: (vs ++ dvs)) (upd (upd H dx (.own x)) x (.ins C dx [])) (fun v H2 => v = .non ∧ Q (.ref x) H2) E) :
  wpAny (model X.prog X.w) X.A (call (.ref C) us) (EP X pins σ Q) X.xe s := by
 have hq := h (s.heap.objs.size + 1) s.heap.objs.size (I.hok.fresh (Rm _)) (I.hok.fresh (FM _)) (Cc (R1 _))
 have I2 := Inv.made (C := C) I
 have r2 : Vals (V.ref (s.heap.objs.size + 1) :: (vs ++ dvs)) (Value.ref (s.heap.objs.size + 1) :: (us ++ ds)) := .cons rfl (r.append hd)
 have hl : (Value.ref (s.heap.objs.size + 1) :: us ++ ds).length = ps.length := by
  have e := r2.length
  rw [F.len _ _ _ _ hq] at e
  exact e.symm
 refine wpAny_call (kiO (f := f) I.kIn M.makes M.init (beq_iff_eq.mp M.fn) (codeAny_mono (F.run _ X.stack _ _ ⟨Value.ref (s.heap.objs.size + 1) :: us, []⟩ (Value.ref (s.heap.objs.size + 1) :: (us ++ ds)) _ _ E (hr.make C us [])
  (I2.env0.make C us []) (hb _ (Value.ref (s.heap.objs.size + 1) :: us) I2.kIn hl) r2 hq) fun r s' hq' => ?_))
 cases r with
 | error e => exact hx pins σ _ _ e s' I2 hq'
 | ok fl =>
  cases fl with
  | ret u =>
   obtain ⟨v, H', I3, rv, ev, q3⟩ := I2.after hq'
   subst ev
   exact ⟨rv, ⟨V.ref (s.heap.objs.size + 1), H', I3, rfl, q3⟩⟩
  | next => exact False.elim hq'
  | brk => exact False.elim hq'
  | cont => exact False.elim hq'
theorem kbM (M : Mk X.K C f) (F : FnOk X.prog X.w X.K X.mg X.base CX k f fd ps sp) (hr : Room (k + 1) X.A) (hg : Gl X x) (hm : X.mg x = some (.ref C)) (hb : Binds X.K fd ps ds) (hd : Vals dvs ds) (hx : kdb CX X E)
  (ha : PA X (e :: es) t) (hdb : (x == ("__debug__" : Str)) = false := by decide) (he : starEach (e :: es) X.env = (false, eval e X.env) :: starEach es X.env := by rfl) (hpl : (backTo pos (starEach es X.env)).any (·.1) = false := by rfl) :
  PE X (.Call (.Name x p) (e :: es) [] pos) (tMake C sp dvs E t) := by
 intro pins s σ H Q I h
 refine wpAny_Call_Name_kw (ke5 I hg hm ?_ hdb)
 refine Rz (h₀ := X.base) I.ok.mod.kin M.kp (thn (ha pos pins s σ H _ I h) fun us s1 ⟨vs, H1, I1, r, q⟩ => ⟨I1.kIn, ?_⟩) he hpl
 exact kgd M F hr hb hd hx I1 r q
theorem kiB (M : Mk X.K C f) (F : FnOk X.prog X.w X.K X.mg X.base CX k f fd ps sp) (hr : Room (k + 1) X.A) (hg : Gl X x) (hm : X.mg x = some (.ref C)) (hb : Binds X.K fd ps ds) (hd : Vals dvs ds) (hx : kdb CX X E)
  (hdb : (x == ("__debug__" : Str)) = false := by decide) : PE X (.Call (.Name x p) [] [] pos) (tMake C sp dvs E tNil) := by
 intro pins s σ H Q I h
 refine wpAny_Call_Name_kw (ke5 I hg hm ?_ hdb)
 exact Su I.kIn M.kp (kgd (us := []) M F hr hb hd hx I .nil h)
end
section
variable {X : Cx} {CX : CXT} {k : Nat} {f C : Addr} {fd : FuncData} {ps ks : List Str} {sp : Sp} {E : XK} {x m : Str} {p pos apos kpos : Pos} {e o : Expr} {es : List Expr} {kws : List Keyword} {te ta : TE} {t tk : TA} {nm : Option Str}
variable {g : List Value → List Value → List Value} {gV : List V → List V → List V}
end
structure kas (N P : List Str) (sc : Scope) : Prop where
 kind : sc.kind = .function
 co : sc.isCoroutine = false
 gen : sc.isGenerator = false
 nd : N.Nodup
 pre : N.take P.length = P
 par : ∀ x ∈ P, sc.names.lookup x = some .local ∨ sc.names.lookup x = some .cell
 nofree : ∀ y ∈ sc.names, y.2 ≠ .free
theorem kfG {kindOf : Str → Option NameKind} {x : Str} : ∀ {binds : List (Str × Value)} {m : Str → Option Value}, (∀ v, (x, v) ∉ binds) → bindL kindOf binds m x = m x
 | [], _, _ => rfl
 | (n, v) :: r, m, h => by
  unfold bindL
  rw [kfG fun w hw => h w (F9 _ hw)]
  split
  ·have : x ≠ n := by rintro rfl; exact h v Cd
   simp [this]
  ·rfl
theorem kfI {kindOf : Str → Option NameKind} {x : Str} : ∀ {binds : List (Str × Value)} {m : Str → Option Value}, (∀ v, (x, v) ∉ binds) → bindC kindOf binds m x = m x
 | [], _, _ => rfl
 | (n, v) :: r, m, h => by
  unfold bindC
  rw [kfI fun w hw => h w (F9 _ hw)]
  split
  ·rfl
  ·have : x ≠ n := by rintro rfl; exact h v Cd
   simp [this]
theorem kfH {kindOf : Str → Option NameKind} {x : Str} {v : Value} : ∀ {P : List Str} {vs : List Value} {i : Nat} {m : Str → Option Value}, P.Nodup → P[i]? = some x → vs[i]? = some v → kindOf x = some .local →
  bindL kindOf (P.zip vs) m x = some v
 | [], _, _, _, _, h, _, _ => by simp at h
 | _ :: _, [], _, _, _, _, h, _ => by simp at h
 | p :: P, w :: vs, 0, m, nd, h1, h2, hk => by
  simp at h1 h2; subst h1; subst h2
  show bindL kindOf ((p, w) :: P.zip vs) m p = _
  unfold bindL
  rw [kfG fun v hv => (CG.mp nd).1 (C3 hv).1, if_pos hk]
  simp
 | p :: P, w :: vs, i + 1, m, nd, h1, h2, hk => by
  show bindL kindOf ((p, w) :: P.zip vs) m x = _
  unfold bindL
  exact kfH (i := i) (CG.mp nd).2 (by simpa using h1) (by simpa using h2) hk
theorem kfJ {kindOf : Str → Option NameKind} {x : Str} {v : Value} : ∀ {P : List Str} {vs : List Value} {i : Nat} {m : Str → Option Value}, P.Nodup → P[i]? = some x → vs[i]? = some v → kindOf x ≠ some .local →
  bindC kindOf (P.zip vs) m x = some v
 | [], _, _, _, _, h, _, _ => by simp at h
 | _ :: _, [], _, _, _, _, h, _ => by simp at h
 | p :: P, w :: vs, 0, m, nd, h1, h2, hk => by
  simp at h1 h2; subst h1; subst h2
  show bindC kindOf ((p, w) :: P.zip vs) m p = _
  unfold bindC
  rw [kfI fun v hv => (CG.mp nd).1 (C3 hv).1, if_neg hk]
  simp
 | p :: P, w :: vs, i + 1, m, nd, h1, h2, hk => by
  show bindC kindOf ((p, w) :: P.zip vs) m x = _
  unfold bindC
  exact kfJ (i := i) (CG.mp nd).2 (by simpa using h1) (by simpa using h2) hk
noncomputable def start (N : List Str) (vs : List V) : St := vs.map some ++ FO (N.length - vs.length) none
noncomputable def cxOf (CX : CXT) (P : Program) (w : World) (K : FK) (mg : Str → Option Value) (base : Heap) (N : List Str) (qual : Str) (scope : Scope) (f : Addr) (cd : Value) (A : Around) (outer : List Env) (s : Shared) (H : Hp) (E : XK) : Cx where
 prog := P
 w := w
 K := K
 mg := mg
 base := base
 A := A.deeper (envOfC qual scope s.heap.objs.size f cd)
 N := N
 s₀ := s
 H₀ := H
 env := envOfC qual scope s.heap.objs.size f cd
 outer := outer
 stack := envOfC qual scope s.heap.objs.size f cd :: outer
 ex := []
 calm := true
 fn := fun _ => true
 pn := []
 xe := fun e s' => wpAny (model P w) (A.deeper (envOfC qual scope s.heap.objs.size f cd)) (leaving (envOfC qual scope s.heap.objs.size f cd) e) (fun _ s'' => CX outer H s E e s'') (fun e' s'' => CX outer H s E e' s'') s'
theorem kdR {sc : Scope} {n : Nat} {x : Str} (h : sc.names.lookup x = some .cell) : ∃ c, (cellsFrom n sc.names []).lookup x = some c := by
 have q := Sv sc.names n [] (.inl h)
 exact Option.isSome_iff_exists.mp q
theorem khL {CX : CXT} {P : Program} {w : World} {K : FK} {mg : Str → Option Value} {base : Heap} {N ps : List Str} {qual : Str} {scope : Scope} {f : Addr} {cd : Value} {A : Around} {outer : List Env} {s s1 : Shared} {H : Hp} {E : XK} {us : List Value} {vs : List V}
  (S : kas N ps scope) (hd : A.handled = none) (e0 : Env0 P w K mg base A outer s H) (hl : vs.length = ps.length) (r : Vals vs us)
  (x : InCallC s s.heap.objs.size (bindL (envOfC qual scope s.heap.objs.size f cd).kindOf (ps.zip us) fun _ => none) (cellsFrom (s.heap.objs.size + 1) scope.names []) (bindC (envOfC qual scope s.heap.objs.size f cd).kindOf (ps.zip us) fun _ => none) s1) :
  Inv (cxOf CX P w K mg base N qual scope f cd A outer s H E) [] (start N vs) H s1 := by
 have hpl : ps.length ≤ N.length := by have := congrArg RA S.pre; rw [F2] at this; omega
 obtain ⟨h1, tk, rfl, hk⟩ := x.done
 have noA : ∀ b : Addr, b ∉ (cxOf CX P w K mg base N qual scope f cd A outer s H E).ex := fun b z => absurd (show b ∈ ([] : List Addr) from z) (by simp)
 refine ⟨⟨e0.mod, S.kind, rfl, rfl, FM _, fun y z c h1 h2 => ?_, fun y hy => ?_, fun y c _ h => ?_, fun _ => hd, Around.frames_deeper e0.frames, .inr ⟨rfl, rfl⟩, fun b z => absurd z (noA b), e0.bs, e0.bsz, fun b _ _ => noA b, fun b z => absurd z (noA b), e0.funs, e0.frf⟩,
  rfl, e0.bare, Un.kept hk, ⟨_, x.toInCall.ns, fun i y v h1 h2 h3 => ?_⟩, fun y c h => ⟨_, x.cell y c h⟩, e0.hok.fresh (FM _), fun y c h => ?_, fun p hp => absurd (show p ∈ ([] : List (Addr × Obj)) from hp) (by simp), e0.hok.kept hk, ?_⟩
 ·exact name_of_addr x.apart (PySem.mem_of_lookup h1) (PySem.mem_of_lookup h2)
 ·have hy : scope.names.lookup y = some .cell ∨ scope.names.lookup y = some .free := hy
  rcases hy with hy | hy
  ·exact kdR hy
  ·exact absurd rfl (S.nofree _ (PySem.mem_of_lookup hy))
 ·exact FY (x.above y c (PySem.mem_of_lookup h))
 ·have hi : i < vs.length := by
   unfold start at h2
   by_cases hi : i < vs.length
   ·exact hi
   ·rw [Rc (by simpa using hi)] at h2
    rw [R6] at h2
    split at h2 <;> cases h2
  have ha : vs[i]? = some v := by
   unfold start at h2
   rw [Rn (by simpa using hi), F0] at h2
   cases e : vs[i]? with
   | none => rw [e] at h2; cases h2
   | some a => rw [e] at h2; cases h2; rfl
  obtain ⟨u, hu, rv⟩ := r.get ha
  have hp : ps[i]? = some y := by
   rw [← S.pre, Sw (by omega)]; exact h1
  have ndP : ps.Nodup := by rw [← S.pre]; exact S.nd.sublist (List.take_sublist _ _)
  refine ⟨u, rv, ?_⟩
  rcases S.par y (FV hp) with k | k
  ·exact .inl ⟨k, kfH ndP hp hu k⟩
  ·obtain ⟨c, e⟩ := kdR (n := s.heap.objs.size + 1) k
   refine .inr ⟨.inl k, c, e, ?_⟩
   have q := x.cell y c e
   rw [kfJ ndP hp hu (by show scope.names.lookup y ≠ _; rw [k]; decide)] at q
   exact q
 ·exact e0.hok.fresh (FY (x.above y c (PySem.mem_of_lookup h)))
 ·unfold start
  show _ = N.length
  rw [Ca, FJ, CI]
  omega
theorem fn_of {CX : CXT} {P : Program} {w : World} {K : FK} {mg : Str → Option Value} {base : Heap} {k : Nat} {f : Addr} {name qual : Str} {params : Arguments} {body : List Stmt} {scope : Scope} {dV kV doc pm cdv ct oc : Value} {an od : Option Addr}
  {osl : Array (Option Value)} {N ps : List Str} {sp : Sp} (lk : K.lookup f = some ⟨oc, od, .func (FI name qual params body scope dV kV doc pm an cdv ct), osl⟩) (hcd : FR K cdv qual = true) (S : kas N ps scope)
  (len : ∀ vs H Q E, sp vs H Q E → vs.length = ps.length)
  (hbody : ∀ (A : Around) (outer : List Env) (s : Shared) (H : Hp) (vs : List V) (Q : VK) (E : XK), Room k (A.deeper (envOfC qual scope s.heap.objs.size f cdv)) → sp vs H Q E →
   ∃ t, PSs (cxOf CX P w K mg base N qual scope f cdv A outer s H E) body t ∧ t { nx := fun _ H' => Q .non H', rt := Q } (start N vs) H) :
  FnOk P w K mg base CX (k + 1) f (FI name qual params body scope dV kV doc pm an cdv ct) ps sp := by
 refine ⟨len, fun A outer s H args us vs Q E hr e0 hb r hsp => ?_⟩
 have hl := len _ _ _ _ hsp
 have KX : K.In s.heap := e0.mod.kin.keeps fun b o e => (e0.bs b o e).1
 have lim : s.heap.NoLimit := e0.mod.nolimit.keeps fun b o e => (e0.bs b o e).1
 have hkind : ∀ y ∈ ps.zip us, scope.names.lookup y.1 = some .local ∨ (scope.names.lookup y.1 = some .cell ∧ ((cellsFrom (s.heap.objs.size + 1) scope.names []).lookup y.1).isSome = true) := fun ⟨n, v⟩ hy => by
  rcases S.par n (C3 hy).1 with q | q
  ·exact .inl q
  ·exact .inr ⟨q, Sv _ _ _ (.inl q)⟩
 refine codeAny_call_function hr.depth (KX _ _ lk) rfl S.co S.gen rfl (PySem.W.codeRec_of KX hcd) (hb _ _ _ _ ?_)
 refine wpAny_newFunctionEnv_cells S.kind hkind fun env he s1 x => ?_
 subst he
 refine ⟨lim.keeps x.toInCall.keep, codeAny_func ?_⟩
 obtain ⟨t, ht, hq⟩ := hbody A outer s H vs Q E (hr.deeper _) hsp
 have I : Inv (cxOf CX P w K mg base N qual scope f cdv A outer s H E) [] (start N vs) H s1 := khL S hr.hd e0 hl r x
 refine wpAny_mono (ht [] s1 (start N vs) H _ I hq) (fun fl s' hs => ?_) fun e s' hs => hs
 have fin : ∀ {σ' : St} {H' : Hp} {v : V} {u : Value}, Inv (cxOf CX P w K mg base N qual scope f cdv A outer s H E) [] σ' H' s' → RelV v u → Q v H' → CE outer P w H s Q u s' :=
  fun {σ' H' v u} J rv q => ⟨v, H', J.os, J.bare, J.base, J.hok, rv, q⟩
 cases fl with
 | ret u =>
  obtain ⟨v, σ', H', J, rv, q⟩ := hs
  exact fin J rv q
 | next =>
  obtain ⟨σ', H', J, q⟩ := hs
  exact fin (v := V.non) (u := Value.none) J rfl q
 | brk =>
  obtain ⟨_, _, _, q⟩ := hs
  exact False.elim q
 | cont =>
  obtain ⟨_, _, _, q⟩ := hs
  exact False.elim q
end L2
namespace L2
open PySem PySem.Spec PyProof.Rows
section
variable {X : Cx} {x : Str} {p pos : Pos} {e : Expr} {es : List Expr} {t : TA} {id T : String} {r : List V → Hp → VK → Prop}
noncomputable def tCB (r : List V → Hp → VK → Prop) (t : TA) : TE := fun σ H Q => t σ H fun vs H1 => r vs H1 Q
theorem kaQ (hc : CallR X (.builtin id) r) (hg : Gl X x) (hm : X.mg x = none) (hv : bootBuiltins x = some (.builtin id)) (ha : PA X (e :: es) t) (hn : x ≠ "__name__" := by decide) (hdb : (x == ("__debug__" : Str)) = false := by decide)
  (he : starEach (e :: es) X.env = (false, eval e X.env) :: starEach es X.env := by rfl) (hpl : (backTo pos (starEach es X.env)).any (·.1) = false := by rfl) : PE X (.Call (.Name x p) (e :: es) [] pos) (tCB r t) := by
 intro pins s σ H Q I h
 refine wpAny_Call_Name_kw (kdy I hg hm hv ?_ hn hdb)
 exact PyProof.Rows.callWith_builtin1 (thn (ha pos pins s σ H _ I h) fun us s1 ⟨vs, H1, I1, r1, q1⟩ => hc pins s1 σ H1 vs us Q I1 r1 q1) he hpl
theorem kbB (hc : CallR X (.type T) r) (hg : Gl X x) (hm : X.mg x = none) (hv : bootBuiltins x = some (.type T)) (ha : PA X (e :: es) t) (hn : x ≠ "__name__" := by decide) (hdb : (x == ("__debug__" : Str)) = false := by decide)
  (he : starEach (e :: es) X.env = (false, eval e X.env) :: starEach es X.env := by rfl) (hpl : (backTo pos (starEach es X.env)).any (·.1) = false := by rfl) : PE X (.Call (.Name x p) (e :: es) [] pos) (tCB r t) := by
 intro pins s σ H Q I h
 refine wpAny_Call_Name_kw (kdy I hg hm hv ?_ hn hdb)
 exact PyProof.Rows.callWith_type1 (thn (ha pos pins s σ H _ I h) fun us s1 ⟨vs, H1, I1, r1, q1⟩ => hc pins s1 σ H1 vs us Q I1 r1 q1) he hpl
end
end L2
namespace HT
open PySem PyProof.Rows
section
open PySem.SeqAt
open PySem.AutoSeq1 (wpAny_loadPart')
open PySem.MeetsSeq PySem.MeetsSeq2 PySem.MeetsSeq3
end
section
variable {prog : Program} {w : World} {A : Around} {E : Value → Shared → Prop} {s : Shared}
noncomputable def sIx (n d : Nat) : Option Int → Nat
 | none => d
 | some v => if v < 0 then (v + (n : Int)).toNat else min v.toNat n
theorem sIx_none (n d : Nat) : sIx n d none = d := rfl
theorem sIx_nat (n d k : Nat) : sIx n d (some (k : Int)) = min k n := by
 show (if (k : Int) < 0 then ((k : Int) + (n : Int)).toNat else min (k : Int).toNat n) = min k n
 rw [if_neg (by omega), Int.toNat_natCast]
end
end HT
namespace L2
open PySem PySem.Spec PyProof.Rows
noncomputable abbrev TO := St → Hp → (Option Int → Hp → Prop) → Prop
noncomputable def PO (X : Cx) (e : Option Expr) (t : TO) : Prop :=
 ∀ (pins : List (Addr × Obj)) (s : Shared) (σ : St) (H : Hp) (Q : Option Int → Hp → Prop), Inv X pins σ H s → t σ H Q →
  wpAny (model X.prog X.w) X.A (evalPart e X.env) (fun u s' => ∃ o H', Inv X pins σ H' s' ∧ IsPart u o ∧ Q o H') X.xe s
noncomputable def kjC : TO := fun _ H Q => Q none H
noncomputable def tPart (t : TE) : TO := fun σ H Q => t σ H fun x H1 => ∃ i, x = .int i ∧ Q (some i) H1
theorem intsAre_of {ns : List Int} : ∀ {us : List Value}, Vals (ns.map V.int) us → IntsAre us ns := by
 induction ns with
 | nil => intro us r; rw [R7] at r; cases r; exact .nil
 | cons n ns ih =>
  intro us r
  rw [F7] at r
  cases r with
  | cons r1 r2 =>
   obtain ⟨t, e⟩ := r1
   subst e
   exact .cons n t (ih r2)
section
variable {X : Cx} {e : Expr} {te : TE} {lo hi : Option Expr} {tl th : TO} {pos p2 : Pos}
theorem kdW : PO X none kjC := by
 intro pins s σ H Q I h
 rw [evalPart_none]
 exact wpAny_pure ⟨none, H, I, .none, h⟩
theorem kcT (h : PE X e te) : PO X (some e) (tPart te) := by
 intro pins s σ H Q I hw
 rw [evalPart_some]
 refine thn (h pins s σ H _ I hw) fun u s1 ⟨x, H1, I1, r1, q1⟩ => ?_
 obtain ⟨i, rfl, q⟩ := q1
 obtain ⟨t, rfl⟩ := r1
 exact ⟨some i, H1, I1, .int i t, q⟩
noncomputable def SlR (X : Cx) (r : V → Option Int → Option Int → Hp → VK → Prop) : Prop :=
 ∀ (pins : List (Addr × Obj)) (s : Shared) (σ : St) (H : Hp) (x : V) (v vl vu : Value) (lo hi : Option Int) (sl : Addr) (Q : VK), Inv X pins σ H s → RelV x v → s.heap.IsSliceOf sl vl vu .none → IsPart vl lo → IsPart vu hi → r x lo hi H Q →
  ∃ T id, typeLookup (.type T) "__getitem__" = pure (some (.builtin id)) ∧ s.TypeIs v T ∧ wpAny (model X.prog X.w) X.A (getItem v (.ref sl)) (EP X pins σ Q) X.xe s
theorem SlR.or {r r' : V → Option Int → Option Int → Hp → VK → Prop} (h : SlR X r) (h' : SlR X r') : SlR X (fun x lo hi H Q => r x lo hi H Q ∨ r' x lo hi H Q) := by
 intro pins s σ H x v vl vu lo hi sl Q I rx hs pl pu q
 rcases q with q | q
 ·exact h pins s σ H x v vl vu lo hi sl Q I rx hs pl pu q
 ·exact h' pins s σ H x v vl vu lo hi sl Q I rx hs pl pu q
noncomputable def tSl (r : V → Option Int → Option Int → Hp → VK → Prop) (te : TE) (tl th : TO) : TE := fun σ H Q => te σ H fun x H1 => tl σ H1 fun l H2 => th σ H2 fun u H3 => r x l u H3 Q
theorem kcK {r : V → Option Int → Option Int → Hp → VK → Prop} (hr : SlR X r) (he : PE X e te) (hl : PO X lo tl) (hu : PO X hi th) : PE X (.Subscript e (.Slice lo hi none p2) pos) (tSl r te tl th) := by
 intro pins s σ H Q I h
 refine Subscript_ (thn (he pins s σ H _ I h) fun v s1 ⟨x, H1, I1, r1, q1⟩ => ?_)
 refine wpAny_Slice (thn (hl pins s1 σ H1 _ I1 q1) fun vl s2 ⟨l, H2, I2, pl, q2⟩ => thn (hu pins s2 σ H2 _ I2 q2) fun vu s3 ⟨u, H3, I3, pu, q3⟩ => ?_)
 rw [evalPart_none]
 refine wpAny_pure ?_
 have I4 : Inv X pins σ H3 { s3 with heap := s3.heap.push { cls := .type "slice", data := .fields #[vl, vu, .none] } } := I3.kept (t' := s3.toks) fun b ob q => Heap.get?_push_of_some _ q
 obtain ⟨T, id, hT, ht, hg⟩ := hr pins { s3 with heap := s3.heap.push { cls := .type "slice", data := .fields #[vl, vu, .none] } } σ H3 x v vl vu l u s3.heap.objs.size Q I4 r1 (Heap.IsSliceOf.new ..) pl pu q3
 show wpAny (model X.prog X.w) X.A (subscriptTail e (.Slice lo hi none p2) v (.ref s3.heap.objs.size)) (EP X pins σ Q) X.xe { s3 with heap := s3.heap.push { cls := .type "slice", data := .fields #[vl, vu, .none] } }
 exact tail_any (ops := [.ref s3.heap.objs.size, v]) ht hT hg (by with_unfolding_all rfl)
noncomputable def cutV (xs : List V) (lo hi : Option Int) : List V := (xs.drop (HT.sIx xs.length 0 lo)).take (HT.sIx xs.length xs.length hi - HT.sIx xs.length 0 lo)
theorem kf5 (xs : List V) (lo hi : Option Int) : (cutV xs lo hi).length ≤ xs.length := by
 unfold cutV
 rw [F2, RB]
 omega
end
end L2
namespace L2
open PySem PySem.Spec PyProof.Rows
noncomputable def ixN (n : Nat) (i : Int) : Option Nat := if 0 ≤ i then (if i < n then some i.toNat else none) else if -(n : Int) ≤ i then some (i + n).toNat else none
noncomputable def atI {α : Type} (xs : List α) (i : Int) : Option α := (ixN xs.length i).bind fun j => xs[j]?
theorem khI {n : Nat} {i : Int} {j : Nat} (h : ixN n i = some j) : seqIndex? i n = some j ∧ j < n ∧ -(n : Int) ≤ i ∧ i < n := by
 unfold ixN at h
 by_cases h0 : 0 ≤ i
 ·rw [if_pos h0] at h
  by_cases h1 : i < n
  ·rw [if_pos h1] at h
   have e : i.toNat = j := Option.some.inj h
   exact ⟨by rw [seqIndex_of h0 h1, e], by omega, by omega, h1⟩
  ·rw [if_neg h1] at h; cases h
 ·rw [if_neg h0] at h
  by_cases h1 : -(n : Int) ≤ i
  ·rw [if_pos h1] at h
   have e : (i + n).toNat = j := Option.some.inj h
   exact ⟨by rw [seqIndex_neg (by omega) h1, e], by omega, h1, by omega⟩
  ·rw [if_neg h1] at h; cases h
theorem kid {α : Type} {xs : List α} {i : Int} {v : α} (h : atI xs i = some v) : ∃ j, seqIndex? i xs.length = some j ∧ xs[j]? = some v ∧ j < xs.length ∧ -(xs.length : Int) ≤ i ∧ i < xs.length := by
 unfold atI at h
 cases e : ixN xs.length i with
 | none => rw [e] at h; cases h
 | some j =>
  rw [e] at h
  obtain ⟨h1, h2, h3, h4⟩ := khI e
  exact ⟨j, h1, h, h2, h3, h4⟩
theorem kbN {α : Type} {xs : List α} {j : Nat} {v : α} (h : xs[j]? = some v) : atI xs (j : Int) = some v := by
 have hj : j < xs.length := (FZ.mp h).1
 have e : ixN xs.length (j : Int) = some j := by
  unfold ixN
  rw [if_pos (by omega), if_pos (by omega)]; simp
 unfold atI; rw [e]; exact h
noncomputable def kkv (b : Expr) : Prop := ∀ o i, subscripted b false o i = operate [o, i] (getItem o i)
noncomputable def IxR (X : Cx) (r : R2) : Prop :=
 ∀ (value slice : Expr) (pins : List (Addr × Obj)) (s : Shared) (σ : St) (H : Hp) (x y : V) (v u : Value) (Q : VK), Inv X pins σ H s → RelV x v → RelV y u → r x y H Q →
  subscripted slice false v u = operate [v, u] (getItem v u) → wpAny (model X.prog X.w) X.A (subscriptTail value slice v u) (EP X pins σ Q) X.xe s
noncomputable def MtR (X : Cx) (id : String) (r : V → List V → Hp → VK → Prop) : Prop :=
 ∀ (pins : List (Addr × Obj)) (s : Shared) (σ : St) (H : Hp) (x : V) (xs : List V) (v : Value) (us : List Value) (Q : VK), Inv X pins σ H s → RelV x v → Vals xs us → r x xs H Q →
  wpAny (model X.prog X.w) X.A (call (.builtin id) (v :: us)) (EP X pins σ Q) X.xe s
section
variable {X : Cx} {a b : Expr} {ta tb : TE} {pos : Pos}
theorem IxR.or {r r' : R2} (h : IxR X r) (h' : IxR X r') : IxR X (fun x y H Q => r x y H Q ∨ r' x y H Q) := by
 intro value slice pins s σ H x y v u Q I rx ry q hs
 rcases q with q | q
 ·exact h value slice pins s σ H x y v u Q I rx ry q hs
 ·exact h' value slice pins s σ H x y v u Q I rx ry q hs
theorem MtR.or {id : String} {r r' : V → List V → Hp → VK → Prop} (h : MtR X id r) (h' : MtR X id r') : MtR X id (fun x xs H Q => r x xs H Q ∨ r' x xs H Q) := by
 intro pins s σ H x xs v us Q I rx rs q
 rcases q with q | q
 ·exact h pins s σ H x xs v us Q I rx rs q
 ·exact h' pins s σ H x xs v us Q I rx rs q
theorem pe_ix {r : R2} (hr : IxR X r) (ha : PE X a ta) (hb : PE X b tb) (hs : kkv b) : PE X (.Subscript a b pos) (tOp r ta tb) := by
 intro pins s σ H Q I h
 exact Subscript_ (binT ha hb I h fun v u s2 x y H2 I2 rx ry q => hr a b pins s2 σ H2 x y v u Q I2 rx ry q (hs _ _))
noncomputable def rIxL (K : FK) : R2 := fun x y H Q => ∃ p xs i v, x = .ref p ∧ y = .int i ∧ SqL K H p xs ∧ atI xs i = some v ∧ Q v H
noncomputable def rIxT (K : FK) : R2 := fun x y H Q => ∃ p xs i v, x = .ref p ∧ y = .int i ∧ SqT K H p xs ∧ atI xs i = some v ∧ Q v H
theorem kbu : IxR X (rIxL X.K) := by
 intro value slice pins s σ H x y v u Q I rx ry h hs
 obtain ⟨p, xs, i, z, rfl, rfl, hq, he, q⟩ := h
 cases rx
 obtain ⟨t, rfl⟩ := ry
 obtain ⟨its, r, pl, hz⟩ := I.list hq
 obtain ⟨j, h1, h2, h3, h4, h5⟩ := kid he
 obtain ⟨w, ew, rw'⟩ := r.get h2
 have hl := r.length
 have hn := kfy
 have fin : EP X pins σ Q w s := ⟨z, H, I, rw', q⟩
 by_cases h0 : 0 ≤ i
 ·have hj : i.toNat = j := by
   rw [seqIndex_of h0 h5] at h1
   exact Option.some.inj h1
  exact item_listR pl.isList h0 (by omega) (by rw [hj]; simpa using ew) fin hs
 ·have hj : (i + (its.toArray.size : Int)).toNat = j := by
   rw [seqIndex_neg (by omega) h4] at h1
   rw [F3, ← hl]
   exact Option.some.inj h1
  exact subscriptTail_builtinR (x := w) pl.isList.typeIs slot_list_getitem.lookup
   (wpAny_getItem_list_neg (Q := fun r s' => r = w ∧ EP X pins σ Q r s') pl.isList (by omega) (by rw [F3] <;> omega) (by omega) (by rw [hj]; simpa using ew) ⟨rfl, fin⟩) hs
theorem khH : IxR X (rIxT X.K) := by
 intro value slice pins s σ H x y v u Q I rx ry h hs
 obtain ⟨p, xs, i, z, rfl, rfl, hq, he, q⟩ := h
 cases rx
 obtain ⟨t, rfl⟩ := ry
 obtain ⟨its, r, pl, hz⟩ := I.tuple hq
 obtain ⟨j, h1, h2, h3, h4, h5⟩ := kid he
 obtain ⟨w, ew, rw'⟩ := r.get h2
 have hl := r.length
 have hn := kfy
 have fin : EP X pins σ Q w s := ⟨z, H, I, rw', q⟩
 exact subscriptTail_builtinR (x := w) pl.typeIs slot_tuple_getitem.lookup
  (getItem_tuple (j := j) (Q := fun r s' => r = w ∧ EP X pins σ Q r s') pl (by omega) (by omega) (by rw [F3, ← hl]; exact h1) (by simpa using ew) ⟨rfl, fin⟩) hs
theorem kgO (its : List Value) (n j : Nat) (u : Value) : Obj.mapSeq (·.setIfInBounds j u) { cls := .type "list", data := .seq its.toArray n } = { cls := .type "list", data := .seq (its.set j u).toArray n } := by
 simp [Obj.mapSeq]
theorem Inv.lst {pins : List (Addr × Obj)} {σ : St} {H : Hp} {s : Shared} {p : Addr} {xs : List V} (I : Inv X pins σ H s) (h : H p = some (.lst xs)) :
  ∃ (its : List Value) (n : Nat), Vals xs its ∧ s.heap.get? p = some { cls := .type "list", data := .seq its.toArray n } ∧ xs.length ≤ sizeLine := by
 obtain ⟨z, its, n, r, e⟩ := I.hok p _ h
 exact ⟨its, n, r, e, z⟩
theorem Inv.lstUpd {pins : List (Addr × Obj)} {σ : St} {H : Hp} {s : Shared} {p : Addr} {xs ys : List V} {its its' : List Value} {n n' : Nat} {f : Obj → Obj} (I : Inv X pins σ H s) (h : H p = some (.lst xs))
  (ho : s.heap.get? p = some { cls := .type "list", data := .seq its.toArray n }) (hf : f { cls := .type "list", data := .seq its.toArray n } = { cls := .type "list", data := .seq its'.toArray n' }) (r : Vals ys its') (hz : ys.length ≤ sizeLine) (t : Nat) :
  Inv X pins σ (upd H p (.lst ys)) { s with heap := s.heap.update p f, toks := t } := by
 have e : (s.heap.update p f).get? p = some { cls := .type "list", data := .seq its'.toArray n' } := by
  rw [Heap.get?_update_self f ho (by rw [hf] <;> rfl), hf]
 refine I.write (x := p) (e := p) (by rw [h]; trivial) (.inl rfl) (fun b u hb q => (Heap.get?_update_other _ _ (Ne.symm hb)).trans q) ⟨_, e⟩ ?_
 exact ⟨hz, its', n', r, e⟩
noncomputable def rSetL : V → V → V → Hp → (Hp → Prop) → Prop := fun o i v H Q => ∃ p xs k j, o = .ref p ∧ i = .int k ∧ H p = some (.lst xs) ∧ ixN xs.length k = some j ∧ Q (upd H p (.lst (xs.set j v)))
theorem set_list : PSet X rSetL := by
 intro pins s σ H o i v ov iv u Q I ro ri rv h
 obtain ⟨p, xs, k, j, rfl, rfl, hp, hj, q⟩ := h
 cases ro
 obtain ⟨t, rfl⟩ := ri
 obtain ⟨its, n, r, ho, hz⟩ := I.lst hp
 obtain ⟨h1, h2, h3, h4⟩ := khI hj
 have hl := r.length
 have hn := kfy
 have I' : Inv X pins σ (upd H p (.lst (xs.set j v))) { s with heap := s.heap.update p (Obj.mapSeq (·.setIfInBounds j u)) } :=
  I.lstUpd hp ho (kgO its n j u) (r.set rv j) (by rw [List.length_set]; exact hz) s.toks
 by_cases h0 : 0 ≤ k
 ·have hk : k.toNat = j := by
   rw [seqIndex_of h0 h4] at h1
   exact Option.some.inj h1
  exact PySem.W.ki_setAt ho h0 (by omega) (by rw [F3, ← hl]; exact h4) (by rw [hk]; exact ⟨_, I', q⟩)
 ·have hk : (k + (its.toArray.size : Int)).toNat = j := by
   rw [seqIndex_neg (by omega) h3] at h1
   rw [F3, ← hl]
   exact Option.some.inj h1
  exact PySem.W.ki_setBack ho (by omega) (by rw [F3, ← hl]; exact h3) (by omega) (by rw [hk]; exact ⟨_, I', q⟩)
theorem kfg (lo hi : Option Int) (n : Nat) : (sliceBounds lo hi none n).1 = ((HT.sIx n 0 lo : Nat) : Int) ∧ (sliceBounds lo hi none n).2.1 = ((HT.sIx n n hi : Nat) : Int) ∧ (sliceBounds lo hi none n).2.2 = 1 := by
 refine ⟨?_, ?_, rfl⟩
 ·cases lo with
  | none => simp [sliceBounds, HT.sIx]
  | some i =>
   simp only [sliceBounds, HT.sIx, R8, show (1 : Int) > 0 by decide, if_true]
   by_cases h : i < 0
   ·simp only [h, if_true] <;> omega
   ·simp only [h, if_false] <;> omega
 ·cases hi with
  | none => simp [sliceBounds, HT.sIx]
  | some i =>
   simp only [sliceBounds, HT.sIx, R8, show (1 : Int) > 0 by decide, if_true]
   by_cases h : i < 0
   ·simp only [h, if_true] <;> omega
   ·simp only [h, if_false] <;> omega
theorem keN (its : List Value) (lo hi : Option Int) : slicePick its.toArray lo hi none = ((its.drop (HT.sIx its.length 0 lo)).take (HT.sIx its.length its.length hi - HT.sIx its.length 0 lo)).toArray := by
 obtain ⟨h1, h2, h3⟩ := kfg lo hi its.toArray.size
 unfold slicePick
 rw [h1, h2, h3]
 simp only [sliceRange_one, pick_run, F3] <;> rfl
noncomputable def rSlL (K : FK) : V → Option Int → Option Int → Hp → VK → Prop := fun x lo hi H Q => ∃ a xs, x = .ref a ∧ SqL K H a xs ∧ ∀ p, H p = none → Q (.ref p) (upd H p (.lst (cutV xs lo hi)))
theorem kde : SlR X (rSlL X.K) := by
 intro pins s σ H x v vl vu lo hi sl Q I rx hs pl pu h
 obtain ⟨a, xs, rfl, hx, q⟩ := h
 cases rx
 obtain ⟨its, r, ht, hz⟩ := I.list hx
 have hlen := r.length
 refine ⟨"list", _, slot_list_getitem.lookup, ht.isList.typeIs, ?_⟩
 refine wpAny_getItem_list_slice ht.isList hs pl pu .none (by simp) ?_ (by rw [F3] <;> omega)
 rw [keN, ← hlen]
 refine ⟨.ref s.heap.objs.size, _, I.laid (t' := s.toks) (o := .lst (cutV xs lo hi)) (fun b ob q => Heap.get?_push_of_some _ q) (FM _) ?_, rfl, q _ (I.hok.fresh (FM _))⟩
 exact ⟨FQ (kf5 xs lo hi) hz, _, 0, (r.drop (HT.sIx xs.length 0 lo)).take (HT.sIx xs.length xs.length hi - HT.sIx xs.length 0 lo), Heap.get?_push_size _ rfl⟩
noncomputable def flatV : V → Bool
 | .non => true
 | .bl _ => true
 | .int _ => true
 | .str _ => true
 | _ => false
noncomputable def eqV : V → V → Bool
 | .non, .non => true
 | .bl a, .bl b => a == b
 | .bl a, .int b => (if a then 1 else 0) == b
 | .int a, .bl b => a == (if b then 1 else 0)
 | .int a, .int b => a == b
 | .str a, .str b => a == b
 | _, _ => false
theorem kh0 {A : Around} {s : Shared} {y x : V} {u v : Value} (ry : RelV y u) (rx : RelV x v) (fy : flatV y = true) (fx : flatV x = true) : SeqAt.EqAt A s u v (eqV y x) := by
 cases y with
 | non =>
  cases ry
  cases x with
  | non => cases rx; exact SeqAt.EqAt.same _
  | bl b => cases rx; exact SeqAt.EqAt.none_bool b
  | int b => obtain ⟨t, rfl⟩ := rx; exact SeqAt.EqAt.none_int b t
  | str b => obtain ⟨t, rfl⟩ := rx; exact SeqAt.EqAt.none_str b t
  | _ => exact absurd (show false = true from fx) FW
 | bl a =>
  cases ry
  cases x with
  | non => cases rx; exact SeqAt.EqAt.bool_none a
  | bl b => cases rx; exact SeqAt.EqAt.bool_bool a b
  | int b => obtain ⟨t, rfl⟩ := rx; exact SeqAt.EqAt.bool_int a b t
  | str b => obtain ⟨t, rfl⟩ := rx; exact SeqAt.EqAt.bool_str a b t
  | _ => exact absurd (show false = true from fx) FW
 | int a =>
  obtain ⟨t', rfl⟩ := ry
  cases x with
  | non => cases rx; exact SeqAt.EqAt.int_none a t'
  | bl b => cases rx; exact SeqAt.EqAt.int_bool a t' b
  | int b => obtain ⟨t, rfl⟩ := rx; exact SeqAt.EqAt.int_int a t' b t
  | str b => obtain ⟨t, rfl⟩ := rx; exact SeqAt.EqAt.int_str a t' b t
  | _ => exact absurd (show false = true from fx) FW
 | str a =>
  obtain ⟨t', rfl⟩ := ry
  cases x with
  | non => cases rx; exact SeqAt.EqAt.str_none a t'
  | bl b => cases rx; exact SeqAt.EqAt.str_bool a t' b
  | int b => obtain ⟨t, rfl⟩ := rx; exact SeqAt.EqAt.str_int a t' b t
  | str b => obtain ⟨t, rfl⟩ := rx; exact SeqAt.EqAt.str_str a t' b t
  | _ => exact absurd (show false = true from fx) FW
 | _ => exact absurd (show false = true from fy) FW
noncomputable def eqU (x : V) (u : Value) : Bool := match u with
 | .none => eqV .non x
 | .bool b => eqV (.bl b) x
 | .int i _ => eqV (.int i) x
 | .str z _ => eqV (.str z) x
 | _ => false
theorem kjr {x y : V} {u : Value} (r : RelV y u) (f : flatV y = true) : eqU x u = eqV y x := by
 cases y with
 | non => cases r; rfl
 | bl b => cases r; rfl
 | int i => obtain ⟨t, rfl⟩ := r; rfl
 | str z => obtain ⟨t, rfl⟩ := r; rfl
 | _ => exact absurd (show false = true from f) FW
theorem ken {x : V} : ∀ {xs : List V} {us : List Value}, Vals xs us → xs.all flatV = true → us.any (eqU x) = xs.any fun y => eqV y x
 | _, _, .nil, _ => rfl
 | y :: xs, u :: us, .cons r t, f => by
  rw [RC, Re] at f
  rw [C6, C6, kjr r f.1, ken t f.2]
theorem kc4 {A : Around} {s : Shared} {x : V} {v : Value} (rx : RelV x v) (fx : flatV x = true) : ∀ {xs : List V} {us : List Value}, Vals xs us → xs.all flatV = true → ∀ u ∈ us, SeqAt.EqAt A s u v (eqU x u)
 | _, _, .nil, _ => fun u hu => by cases hu
 | y :: xs, u :: us, .cons r t, f => fun u' hu => by
  rw [RC, Re] at f
  rcases F5.mp hu with rfl | hu
  ·rw [kjr r f.1]; exact kh0 r rx f.1 fx
  ·exact kc4 rx fx t f.2 u' hu
noncomputable def inV (x : V) (xs : List V) : Bool := xs.any fun y => eqV y x
noncomputable def rIn (K : FK) (neg : Bool) : R2 := fun x y H Q => ∃ p xs, y = .ref p ∧ (SqL K H p xs ∨ SqT K H p xs) ∧ flatV x = true ∧ xs.all flatV = true ∧ Q (.bl (if neg then !inV x xs else inV x xs)) H
theorem kcz : OpR X (compareOp .In) (rIn X.K false) := by
 intro pins s σ H x y v u Q I rx ry h
 obtain ⟨p, xs, rfl, hq, fx, fs, q⟩ := h
 cases ry
 rcases hq with hq | hq
 ·obtain ⟨its, r, pl, hz⟩ := I.list hq
  refine SeqAt.in_listAt (eqU x) pl.isList (fun w hw => kc4 rx fx r fs w (by simpa using hw)) ⟨.bl _, H, I, rfl, ?_⟩
  rw [show its.toArray.any (eqU x) = its.any (eqU x) by simp, ken r fs]
  exact q
 ·obtain ⟨its, r, pl, hz⟩ := I.tuple hq
  refine SeqAt.in_tupleAt (eqU x) pl (fun w hw => kc4 rx fx r fs w (by simpa using hw)) ⟨.bl _, H, I, rfl, ?_⟩
  rw [show its.toArray.any (eqU x) = its.any (eqU x) by simp, ken r fs]
  exact q
theorem kfp : OpR X (compareOp .NotIn) (rIn X.K true) := by
 intro pins s σ H x y v u Q I rx ry h
 obtain ⟨p, xs, rfl, hq, fx, fs, q⟩ := h
 cases ry
 rcases hq with hq | hq
 ·obtain ⟨its, r, pl, hz⟩ := I.list hq
  refine SeqAt.notIn_listAt (eqU x) pl.isList (fun w hw => kc4 rx fx r fs w (by simpa using hw)) ⟨.bl _, H, I, rfl, ?_⟩
  rw [show its.toArray.any (eqU x) = its.any (eqU x) by simp, ken r fs]
  exact q
 ·obtain ⟨its, r, pl, hz⟩ := I.tuple hq
  refine SeqAt.notIn_tupleAt (eqU x) pl (fun w hw => kc4 rx fx r fs w (by simpa using hw)) ⟨.bl _, H, I, rfl, ?_⟩
  rw [show its.toArray.any (eqU x) = its.any (eqU x) by simp, ken r fs]
  exact q
theorem ka6 : CallR X (.builtin "len") (fun xs H Q => ∃ p ys, xs = [.ref p] ∧ (SqL X.K H p ys ∨ SqT X.K H p ys) ∧ Q (.int ys.length) H) := by
 intro pins s σ H xs us Q I r h
 obtain ⟨p, ys, rfl, hq, q⟩ := h
 obtain ⟨u, rfl, rx⟩ := vals1 r
 cases rx
 have hn := kfy
 rcases hq with hq | hq
 ·obtain ⟨its, r', pl, hz⟩ := I.list hq
  have hlen := r'.length
  exact Calls.call_len_list pl.isList (by simp only [F3] <;> omega) ⟨.int ys.length, H, I.tok _, ⟨s.toks + 1, by rw [F3, hlen]⟩, q⟩
 ·obtain ⟨its, r', pl, hz⟩ := I.tuple hq
  have hlen := r'.length
  exact len_tuple pl (by simp only [F3] <;> omega) ⟨.int ys.length, H, I.tok _, ⟨s.toks + 1, by rw [F3, hlen]⟩, q⟩
theorem CallR.or {f : Value} {r r' : List V → Hp → VK → Prop} (h : CallR X f r) (h' : CallR X f r') : CallR X f (fun xs H Q => r xs H Q ∨ r' xs H Q) := by
 intro pins s σ H xs us Q I rs q
 rcases q with q | q
 ·exact h pins s σ H xs us Q I rs q
 ·exact h' pins s σ H xs us Q I rs q
theorem kbt : CallR X (.type "list") (fun xs H Q => ∃ p ys, xs = [.ref p] ∧ (SqL X.K H p ys ∨ SqT X.K H p ys) ∧ ∀ l, H l = none → Q (.ref l) (upd H l (.lst ys))) := by
 intro pins s σ H xs us Q I r h
 obtain ⟨p, ys, rfl, hq, q⟩ := h
 obtain ⟨u, rfl, rx⟩ := vals1 r
 cases rx
 have fin : ∀ (its : List Value), Vals ys its → ys.length ≤ sizeLine → ∀ (h' : Heap) (c' : Nat), (∀ b o', s.heap.get? b = some o' → h'.get? b = some o') →
   h'.get? s.heap.objs.size = some { cls := .type "list", dict := none, data := .seq its.toArray c', slots := #[] } → EP X pins σ Q (.ref s.heap.objs.size) { s with heap := h' } := fun its r' hz h' c' kp e =>
  ⟨.ref s.heap.objs.size, _, I.laid (t' := s.toks) kp (FM _) (show ObjOk X.prog X.w _ h' _ (.lst ys) from ⟨hz, its, c', r', e⟩), rfl, q _ (I.hok.fresh (FM _))⟩
 rcases hq with hq | hq
 ·obtain ⟨its, r', pl, hz⟩ := I.list hq
  have hlen := r'.length
  obtain ⟨o, ho, hc, n, hd⟩ := pl.isList
  exact call_list_seq p (.inl rfl) ho hc hd (fun h' c' kp e => fin its r' hz h' c' kp e) (by simp only [F3] <;> omega)
 ·obtain ⟨its, r', pl, hz⟩ := I.tuple hq
  have hlen := r'.length
  obtain ⟨o, ho, hc, n, hd⟩ := pl
  exact call_list_seq p (.inr rfl) ho hc hd (fun h' c' kp e => fin its r' hz h' c' kp e) (by simp only [F3] <;> omega)
noncomputable def tyV (K : FK) (T : String) (x : V) (H : Hp) : Prop := match x with
 | .str _ => T = "str"
 | .int _ => T = "int"
 | .ref p => (T = "list" ∧ ∃ xs, SqL K H p xs) ∨ (T = "tuple" ∧ ∃ o, K.lookup p = some o ∧ o.cls = .type "tuple" ∧ o.dict = none) ∨
   (T = "dict" ∧ ((∃ kvs, H p = some (.dK kvs)) ∨ ∃ kvs, H p = some (.dT kvs))) ∨ (T = "set" ∧ ∃ S n, H p = some (.set S n))
 | _ => False
theorem kgY {pins : List (Addr × Obj)} {σ : St} {H : Hp} {s : Shared} {T : String} {x : V} {v : Value} (I : Inv X pins σ H s) (r : RelV x v) (ty : tyV X.K T x H) :
  s.TypeIs v T ∧ ∀ a, v = .ref a → ∃ ob, s.heap.get? a = some ob ∧ ob.dict = none := by
 cases x with
 | str z =>
  obtain ⟨t, rfl⟩ := r
  cases (show T = "str" from ty)
  exact ⟨typeIs_str s z t, fun _ e => nomatch e⟩
 | int i =>
  obtain ⟨t, rfl⟩ := r
  cases (show T = "int" from ty)
  exact ⟨typeIs_int s i t, fun _ e => nomatch e⟩
 | ref p =>
  cases r
  rcases ty with ⟨rfl, xs, hq⟩ | ⟨rfl, o, hk, hc, hd⟩ | ⟨rfl, hk⟩ | ⟨rfl, S, n, hk⟩
  ·obtain ⟨its, _, pl, _⟩ := I.list hq
   refine ⟨pl.isList.typeIs, fun a e => ?_⟩
   cases e
   obtain ⟨o, n, e, c, hd, _⟩ := pl
   exact ⟨o, e, hd⟩
  ·refine ⟨⟨o, I.kIn p o hk, hc⟩, fun a e => ?_⟩
   cases e
   exact ⟨o, I.kIn _ o hk, hd⟩
  ·have z : ∃ o, s.heap.get? p = some o ∧ o.ExactDict := by
    rcases hk with ⟨kvs, hk⟩ | ⟨kvs, hk⟩
    ·obtain ⟨_, _, _, _, o, _, _, e, ex, _⟩ := I.hok p _ hk
     exact ⟨o, e, ex⟩
    ·obtain ⟨_, _, _, _, o, _, _, e, ex, _⟩ := I.hok p _ hk
     exact ⟨o, e, ex⟩
   obtain ⟨o, e, ex⟩ := z
   refine ⟨⟨o, e, ex.1⟩, fun a e2 => ?_⟩
   cases e2
   exact ⟨o, e, ex.2.1⟩
  ·obtain ⟨o, _, _, _, e, ex, _⟩ := I.hok p _ hk
   refine ⟨⟨o, e, ex.1⟩, fun a e2 => ?_⟩
   cases e2
   exact ⟨o, e, ex.2.1⟩
 | _ => exact False.elim ty
noncomputable def tBM0 (K : FK) (T : String) (r : V → List V → Hp → VK → Prop) (to : TE) : TE := fun σ H Q => to σ H fun x H1 => tyV K T x H1 ∧ r x [] H1 Q
noncomputable def tBM (K : FK) (T : String) (r : V → List V → Hp → VK → Prop) (to : TE) (t : TA) : TE := fun σ H Q => to σ H fun x H1 => tyV K T x H1 ∧ t σ H1 fun xs H2 => r x xs H2 Q
variable {o e : Expr} {es : List Expr} {to : TE} {t : TA} {name : Str} {apos cpos : Pos} {T id : String} {r : V → List V → Hp → VK → Prop}
theorem kkM (pa : PlainAttrs T) (slot : Slot T name id) (hty : typeOf (.builtin id) = pure (.type "method_descriptor")) (hm : MtR X id r) (ho : PE X o to)
  (hbase : attributeBase o name X.env (eval o X.env) = eval o X.env := by rfl) (hline : (apos.endLine == cpos.line) = true := by rfl) : PE X (.Call (.Attribute o name apos) [] [] cpos) (tBM0 X.K T r to) := by
 intro pins s σ H Q I h
 refine wpAny_Call_method0_late hbase hline (thn (ho pins s σ H _ I h) fun v s1 ⟨x, H1, I1, r1, ty, q1⟩ => ?_)
 obtain ⟨h1, h2⟩ := kgY I1 r1 ty
 exact ⟨T, id, pa, slot, hty, h1, h2, Calls.callWith_builtin rfl (PySem.evalArgs_none (hm pins s1 σ H1 x [] v [] Q I1 r1 .nil q1))⟩
theorem pe_bm (pa : PlainAttrs T) (slot : Slot T name id) (hty : typeOf (.builtin id) = pure (.type "method_descriptor")) (hm : MtR X id r) (ho : PE X o to) (ha : PA X (e :: es) t)
  (hbase : attributeBase o name X.env (eval o X.env) = eval o X.env := by rfl)
  (hfew : ((backTo cpos (starEach (e :: es) X.env)).all (fun x => !x.1) && (backToKw cpos (keywordEach [] X.env)).all (fun x => x.1.isSome)
   && decide ((e :: es).length + ([] : List Keyword).length + (if ([] : List Keyword).isEmpty then 0 else 1) < 30)) = true := by rfl)
  (hline : (apos.endLine == cpos.line) = true := by rfl) (hs : starEach (e :: es) X.env = (false, eval e X.env) :: starEach es X.env := by rfl) (hplain : (backTo cpos (starEach es X.env)).any (·.1) = false := by rfl) :
  PE X (.Call (.Attribute o name apos) (e :: es) [] cpos) (tBM X.K T r to t) := by
 intro pins s σ H Q I h
 refine wpAny_Call_method_late hbase hfew hline rfl (thn (ho pins s σ H _ I h) fun v s1 ⟨x, H1, I1, r1, ty, q1⟩ => ?_)
 obtain ⟨h1, h2⟩ := kgY I1 r1 ty
 refine ⟨T, id, pa, slot, hty, h1, h2, ?_⟩
 have hA := ha cpos pins s1 σ H1 _ I1 q1
 rw [hs] at hA ⊢
 refine Calls.callWith_builtin (by show (false || (backTo cpos (starEach es X.env)).any (·.1)) = false; rw [hplain] <;> rfl) (Calls.evalArgs_plain ?_)
 exact thn hA fun us s2 ⟨vs, H2, I2, r2, q2⟩ => hm pins s2 σ H2 x vs v us Q I2 r1 r2 q2
end
end L2
namespace L2
open PySem PySem.Spec PyProof.Rows
noncomputable def MtM (X : Cx) (id : String) (r : V → List V → Hp → VK → Prop) : Prop :=
 ∀ (pins : List (Addr × Obj)) (s : Shared) (σ : St) (H : Hp) (x : V) (xs : List V) (v : Value) (us : List Value) (Q : VK), Inv X pins σ H s → RelV x v → Vals xs us → r x xs H Q →
  wpAny (model X.prog X.w) X.A (call (.builtin id) (v :: us)) (EP X pins σ Q) X.xe s
theorem Vals.one : ∀ {x : V} {us : List Value}, Vals [x] us → ∃ u, us = [u] ∧ RelV x u
 | _, _, .cons r .nil => ⟨_, rfl, r⟩
theorem Vals.two : ∀ {x y : V} {us : List Value}, Vals [x, y] us → ∃ u v, us = [u, v] ∧ RelV x u ∧ RelV y v
 | _, _, _, .cons r (.cons q .nil) => ⟨_, _, rfl, r, q⟩
theorem Vals.zero : ∀ {us : List Value}, Vals [] us → us = []
 | _, .nil => rfl
theorem Vals.dropLast {xs : List V} {us : List Value} (h : Vals xs us) : Vals xs.dropLast us.dropLast := by
 induction h with
 | nil => exact .nil
 | cons r t ih =>
  cases t with
  | nil => exact .nil
  | cons q t' => exact .cons r ih
theorem Vals.eraseIdx : ∀ {xs : List V} {us : List Value} (i : Nat), Vals xs us → Vals (xs.eraseIdx i) (us.eraseIdx i)
 | _, _, _, .nil => .nil
 | _, _, 0, .cons _ t => t
 | _, _, i + 1, .cons r t => .cons r (Vals.eraseIdx i t)
theorem Vals.reverse {xs : List V} {us : List Value} (h : Vals xs us) : Vals xs.reverse us.reverse := by
 induction h with
 | nil => exact .nil
 | cons r t ih => rw [RD, RD]; exact Vals.append ih (.cons r .nil)
theorem Vals.rep {xs : List V} {us : List Value} (h : Vals xs us) : ∀ k : Nat, Vals (FO k xs).flatten (FO k us).flatten
 | 0 => .nil
 | k + 1 => by
  rw [C4, C4, Cf, Cf]
  exact Vals.append h (Vals.rep h k)
theorem kgU {α : Type} (l : List α) : l.eraseIdx (l.length - 1) = l.dropLast := by
 induction l with
 | nil => rfl
 | cons a r ih =>
  cases r with
  | nil => rfl
  | cons b r =>
   have e : (a :: b :: r).length - 1 = ((b :: r).length - 1) + 1 := by
    have h1 : (a :: b :: r).length = r.length + 2 := rfl
    have h2 : (b :: r).length = r.length + 1 := rfl
    omega
   rw [e, List.eraseIdx_cons_succ, ih]
   all_goals rfl
theorem foldl_rep (its : List Value) : ∀ (k : Nat) (acc : List Value),
  List.foldl (fun x1 x2 => x1 ++ x2) acc.toArray (FO k its.toArray) = (acc ++ (FO k its).flatten).toArray
 | 0, acc => by simp
 | k + 1, acc => by
  have e : acc.toArray ++ its.toArray = (acc ++ its).toArray := by simp
  have e2 : (acc ++ its) ++ (FO k its).flatten = acc ++ (FO (k + 1) its).flatten := by
   rw [C4, Cf, C7]
  rw [← e2, ← foldl_rep its k (acc ++ its), ← e, C4, List.foldl_cons]
section
variable {X : Cx} {pins : List (Addr × Obj)} {σ : St} {H : Hp} {s : Shared} {l b : Addr} {xs ys zs : List V}
theorem Inv.lset {its its' : List Value} {n : Nat} {f : Array Value → Array Value} {t' : Nat} (I : Inv X pins σ H s) (hH : H l = some (.lst xs))
  (e : s.heap.get? l = some { cls := .type "list", data := .seq its.toArray n }) (hf : f its.toArray = its'.toArray) (hv : Vals ys its') (hz : ys.length ≤ sizeLine) :
  Inv X pins σ (upd H l (.lst ys)) { s with heap := s.heap.update l (Obj.mapSeq f), toks := t' } := by
 have q := PySem.IsL.update e f
 rw [hf] at q
 refine I.write (x := l) (e := l) (by rw [hH]; exact trivial) (.inl rfl) (fun b' u hb hu => (Heap.get?_update_other s.heap (Obj.mapSeq f) (Ne.symm hb)).trans hu) ⟨_, q⟩ ?_
 exact ⟨hz, its', _, hv, q⟩
theorem Inv.lnew {its : List Value} {t' : Nat} (I : Inv X pins σ H s) (hv : Vals ys its) (hz : ys.length ≤ sizeLine) :
  Inv X pins σ (upd H s.heap.objs.size (.lst ys)) { s with heap := s.heap.push { cls := .type "list", data := .seq its.toArray }, toks := t' } :=
 I.laid (fun _ _ q => Heap.get?_push_of_some _ q) (FM _) ⟨hz, its, 0, hv, Heap.get?_push_size _ rfl⟩
theorem Inv.fresh (I : Inv X pins σ H s) : H s.heap.objs.size = none := I.hok.fresh (FM _)
theorem Inv.lstM (I : Inv X pins σ H s) (hH : H l = some (.lst xs)) : xs.length ≤ sizeLine ∧ ∃ (its : List Value) (n : Nat), Vals xs its ∧ xs.length = its.length ∧ s.heap.get? l = some { cls := .type "list", data := .seq its.toArray n } := by
 obtain ⟨z, its, n, r, e⟩ := I.hok l _ hH
 exact ⟨z, its, n, r, r.length, e⟩
theorem kgq {n : Nat} (h : n ≤ sizeLine) : Builtin.List.listTooLong n = false := by
 unfold Builtin.List.listTooLong
 exact decide_eq_false (by omega)
end
section
variable {X : Cx}
noncomputable def khi : V → List V → Hp → VK → Prop := fun x vs H Q => ∃ l xs y, x = .ref l ∧ vs = [y] ∧ H l = some (.lst xs) ∧ xs.length < sizeLine ∧ Q .non (upd H l (.lst (xs ++ [y])))
theorem kbG : MtM X "list.append" khi := by
 intro pins s σ H x vs v us Q I rx rv h
 obtain ⟨l, xs, y, rfl, rfl, hH, hz, q⟩ := h
 cases rx
 obtain ⟨u, rfl, ru⟩ := rv.one
 obtain ⟨z, its, n, r, hl, e⟩ := I.lstM hH
 refine call_meets F.slot_list_append ⟨_, e, rfl⟩ F.entry_list_append (F.args_list_append_2 _ _) (PySem.list_append l its.toArray n u (by rw [F3]; omega)) ⟨e, ?_⟩
 refine ⟨.non, _, I.lset (its' := its ++ [u]) hH e (by simp) (r.append (.cons ru .nil)) ?_, rfl, q⟩
 rw [Ca, R9]
 omega
noncomputable def kj3 : V → List V → Hp → VK → Prop := fun x vs H Q => ∃ l b xs zs, x = .ref l ∧ vs = [.ref b] ∧ H l = some (.lst xs) ∧ H b = some (.lst zs) ∧ xs.length + zs.length ≤ sizeLine ∧ Q .non (upd H l (.lst (xs ++ zs)))
theorem kfw : MtM X "list.extend" kj3 := by
 intro pins s σ H x vs v us Q I rx rv h
 obtain ⟨l, b, xs, zs, rfl, rfl, hH, hB, hz, q⟩ := h
 cases rx
 obtain ⟨u, rfl, ru⟩ := rv.one
 cases ru
 obtain ⟨z, its, n, r, hl, e⟩ := I.lstM hH
 obtain ⟨z2, its2, n2, r2, hl2, e2⟩ := I.lstM hB
 have hsz : its.toArray.size + its2.toArray.size ≤ sizeLine := by rw [F3, F3]; omega
 have hlong : ¬ (!its.toArray.isEmpty && Builtin.List.listTooLong (its.toArray.size + its2.toArray.size)) = true := by
  rw [kgq hsz, Bool.and_false]
  exact FW
 refine call_meets F.slot_list_extend ⟨_, e, rfl⟩ F.entry_list_extend (F.args_list_extend_2 _ _)
  (AutoSeq1.list_extend_list_list_0 l its.toArray n b its2.toArray n2 hlong (by rw [F3]; omega) (by omega)) ⟨e, e2, ?_⟩
 refine ⟨.non, _, I.lset (its' := its ++ its2) hH e (by simp) (r.append r2) ?_, rfl, q⟩
 rw [Ca]
 omega
noncomputable def rPop : V → List V → Hp → VK → Prop := fun x vs H Q => ∃ l xs y, x = .ref l ∧ vs = [] ∧ H l = some (.lst xs) ∧ xs[xs.length - 1]? = some y ∧ Q y (upd H l (.lst xs.dropLast))
theorem kkR : MtM X "list.pop" rPop := by
 intro pins s σ H x vs v us Q I rx rv h
 obtain ⟨l, xs, y, rfl, rfl, hH, hy, q⟩ := h
 cases rx
 have hus := rv.zero
 subst hus
 obtain ⟨z, its, n, r, hl, e⟩ := I.lstM hH
 obtain ⟨u, hu, ru⟩ := r.get hy
 have hy' : its.toArray[its.toArray.size - 1]? = some u := by
  show its.toArray[its.length - 1]? = some u
  rw [← Sx, ← hl]
  exact hu
 refine call_meets F.slot_list_pop ⟨_, e, rfl⟩ F.entry_list_pop (F.args_list_pop_1 _) (MeetsSeq.list_pop_last l its.toArray n u hy' (by rw [F3]; omega)) ⟨e, ?_⟩
 refine ⟨y, _, I.lset (its' := its.dropLast) hH e ?_ r.dropLast ?_, ru, q⟩
 ·show its.toArray.eraseIdxIfInBounds (its.toArray.size - 1) = its.dropLast.toArray
  rw [F3, List.eraseIdxIfInBounds_toArray, kgU]
 ·rw [Sa]
  omega
noncomputable def rCat : R2 := fun x y H Q => ∃ l b xs zs, x = .ref l ∧ y = .ref b ∧ H l = some (.lst xs) ∧ H b = some (.lst zs) ∧ xs.length + zs.length ≤ sizeLine ∧ ∀ p, H p = none → Q (.ref p) (upd H p (.lst (xs ++ zs)))
theorem kgo : OpR X (binaryOp .Add) rCat := by
 intro pins s σ H x y v u Q I rx ry h
 obtain ⟨l, b, xs, zs, rfl, rfl, hH, hB, hz, q⟩ := h
 cases rx
 cases ry
 obtain ⟨z, its, n, r, hl, e⟩ := I.lstM hH
 obtain ⟨z2, its2, n2, r2, hl2, e2⟩ := I.lstM hB
 refine PySem.P.add_list e e2 ?_ (by rw [F3, F3]; omega)
 have ea : its.toArray ++ its2.toArray = (its ++ its2).toArray := by simp
 rw [ea]
 exact ⟨.ref _, _, I.lnew (t' := s.toks) (r.append r2) (by rw [Ca]; omega), rfl, q _ I.fresh⟩
noncomputable def rRep : R2 := fun x y H Q => ∃ l k xs, x = .ref l ∧ y = .int k ∧ H l = some (.lst xs) ∧ -(2 ^ 63) ≤ k ∧ k < 2 ^ 63 ∧ xs.length * k.toNat ≤ sizeLine ∧
 ∀ p, H p = none → Q (.ref p) (upd H p (.lst (FO k.toNat xs).flatten))
theorem len_rep {α : Type} (xs : List α) (k : Nat) : (FO k xs).flatten.length = k * xs.length := by
 induction k with
 | zero => simp
 | succ k ih => rw [C4, Cf, Ca, ih, Nat.succ_mul, Nat.add_comm]
theorem kht : OpR X (binaryOp .Mult) rRep := by
 intro pins s σ H x y v u Q I rx ry h
 obtain ⟨l, k, xs, rfl, rfl, hH, h1, h2, hz, q⟩ := h
 cases rx
 obtain ⟨t, rfl⟩ := ry
 obtain ⟨z, its, n, r, hl, e⟩ := I.lstM hH
 have hlen : its.toArray.size * k.toNat ≤ sizeLine := by rw [F3, ← hl]; exact hz
 have hcap : ¬ its.toArray.size * k.toNat > (2 ^ 63 - 1) / 8 := by
  have : (sizeLine : Nat) ≤ (2 ^ 63 - 1) / 8 := by decide
  omega
 have hfit : ¬ (!Builtin.List.listFitsIndex k) = true := by
  rw [fitsIndex_both h1 h2]
  exact FW
 have hlong : ¬ Builtin.List.listTooLong (its.toArray.size * k.toNat) = true := by
  rw [kgq hlen]
  exact FW
 have hnew : List.foldl (fun x1 x2 => x1 ++ x2) #[] (FO (if its.toArray.isEmpty = true then 0 else k.toNat) its.toArray) = (FO k.toNat its).flatten.toArray := by
  have f0 : ∀ m : Nat, List.foldl (fun x1 x2 => x1 ++ x2) #[] (FO m its.toArray) = (FO m its).flatten.toArray := fun m => by
   have := foldl_rep its m []
   rw [RE] at this
   exact this
  rw [f0]
  cases its with
  | nil => simp
  | cons a r' => rw [if_neg (by simp)]
 refine wpAny_binaryOp_repeat_ref (T := "list") (U := "int") (by decide) ⟨_, e, rfl⟩ (fun s' => typeIs_int s' k t) noFill_list_mul F.fills_int_mul F.slot_int_rmul repeat_list F.slot_int_index.lookup
  (call_meets F.slot_int_rmul (typeIs_int s k t) F.entry_int_rmul (F.args_int_rmul_2 _ _) (int___rmul___int_list k t l its.toArray n)
   ⟨e, rfl, ⟨_, e, rfl⟩, call_meets F.slot_list_mul ⟨_, e, rfl⟩ F.entry_list_mul (F.args_list_mul_2 _ _) (AutoListH.list___mul___list_int_3 l its.toArray n k t hfit hcap hlong) ⟨e, ?_⟩⟩)
 rw [hnew]
 exact ⟨.ref _, _, I.lnew (t' := s.toks) (r.rep k.toNat) (by rw [len_rep, Nat.mul_comm]; exact hz), rfl, q _ I.fresh⟩
end
section
variable {prog : Program} {w : World} {A : Around} {E : Value → Shared → Prop} {s : Shared}
set_option maxRecDepth 100000 in
end
section
variable {X : Cx}
end
end L2
namespace Att
open PySem PySem.W PySem.Calls PyProof.Rows
theorem kef {P : Params} {h : Heap} : ∀ (ns : List Int) (vs : List Value), WellAll P h vs (ns.map WData.int) → IntsAre vs ns := by
 intro ns
 induction ns with
 | nil =>
  intro vs w
  rw [R7] at w
  cases w
  exact .nil
 | cons n ns ih =>
  intro vs w
  rw [F7] at w
  cases w with
  | cons a b =>
   cases a
   exact .cons _ _ (ih _ b)
theorem khg {l : OpenLaw} {n : Nat} (hn : l.most = some n) {P : Params} {h : Heap} {args : List WData} {vals : List Value}
  (hpre : l.row.toRowW.claim.pre args = true) (hwl : WellAll P h vals args) :
  ∃ a vs ns, vals = [Value.ref a] ∧ args = [WData.list (ns.map WData.int)] ∧ h.get? a = some { cls := .type "list", data := .seq vs.toArray } ∧ IntsAre vs ns ∧ ns.length ≤ n := by
 have hsh : WShape.hasAll [] args [.list .int] = true := (pre_splitW hpre).1
 have hc : l.pre.holds [] { args := args } = true := (pre_splitW hpre).2
 obtain ⟨d, r, rfl, h1, h2⟩ := hasAllW_cons hsh
 obtain rfl := hasAllW_nil h2
 obtain ⟨xs, rfl, h3⟩ := hasW_list h1
 obtain ⟨ns, rfl⟩ := items_int h3
 have hlen : ns.length ≤ n := by
  unfold OpenLaw.pre at hc
  have h4 : (WTm.not (.lt (.lit (.int (n : Int))) (.len (.arg 0)))).holds [] { args := [.list (ns.map .int)] } = true := by
   have h4 := (holds_andW hc).1
   rw [hn] at h4
   exact h4
  have h5 := condW_of h4 (w_not (w_lt w_lit (w_len_list (w_arg rfl))))
  rw [FJ] at h5
  refine Nat.le_of_not_lt fun q => ?_
  have q' : (n : Int) < ((ns.length : Nat) : Int) := by omega
  first
   | (rw [decide_eq_true q'] at h5; exact absurd h5 (by decide))
   | (simp at h5; omega)
 cases hwl with
 | cons w1 w2 =>
  cases w2
  cases w1 with
  | list ho hall => exact ⟨_, _, ns, rfl, rfl, ho, kef ns _ hall, hlen⟩
theorem khm (l : OpenLaw) (args : List WData) : l.row.toRowW.claim.post args (.bool true) args = true :=
 postW_of (r := l.row.toRowW) (X := (true == true))
  (show WShape.has [] (.bool true) .bool = true by first | rfl | decide | simp [WShape.has, WShape.arms, WShape.armsAll])
  (show (WTm.eq .res (.lit (.bool true))).value [] { args := args, res := some (.bool true), after := args } = some (.bool (true == true)) from w_eq_bool (w_res rfl) w_lit) rfl
theorem attach_call {l : OpenLaw} {n : Nat} {q : Program} {loose : List Str} {XP : (Str → Option Value) → Heap → Prop} {YP : World → Heap → Prop} {d : DefRec}
  (hn : l.most = some n) (hdf : d.params.defaults = [])
  (call : ∀ (w : World) (s₀ s₁ : Shared) (mg mb : Str → Option Value) (fa : Addr) (o : Obj) (pm cd doc : Value) (a : Addr) (vs : List Value) (ns : List Int),
   Ground q loose [] XP w s₀ mg mb s₁.heap → YP w s₁.heap →
   s₁.heap.get? fa = some o → o.data = .func (docDef d.name d.params d.body d.scope pm cd doc) → s₁.heap.CodeRec cd d.name → mg d.name = some (.ref fa) →
   s₁.heap.get? a = some { cls := .type "list", data := .seq vs.toArray } → IntsAre vs ns → ns.length ≤ n → s₁.gens = #[] →
   codeAny (model l.prog w) callerA (.call (.ref fa) ⟨[.ref a], []⟩) (fun r s' => r = .ok (.ret (.bool true)) ∧ OldK s₁.heap s'.heap ∧ s'.os = s₁.os ∧ AllBare s'.gens) s₁) :
  WalkO q loose XP YP l.row.toRowW d [] (fun f vs => PySem.call f vs) := by
 intro w s₀ s₁ mg mb G Y fa o pm cd doc dV kV ho hd hcd hD hmg hg args vals as hpre hlay hrd hwl hlo
 obtain rfl : dV = .none := Dflts.none hD hdf
 obtain rfl : kV = .none := Dflts.noKw hD
 obtain ⟨a, vs, ns, rfl, rfl, hobj, hints, hlen⟩ := khg hn hpre hwl
 refine enter_call (codeAny_mono (call w s₀ s₁ mg mb fa o pm cd doc a vs ns G Y ho (fd_plain hd) hcd hmg hobj hints hlen hg) fun r s' hq => ?_)
 obtain ⟨rfl, h2, h3, h4⟩ := hq
 exact ⟨.inl ⟨.bool true, .bool true, [], rfl, fun _ => rfl, .bool true, khm l _, fun _ => ⟨Rf.nil, fun _ hm => (nomatch hm)⟩⟩, h2, h3, h4⟩
section
variable {prog : Program} {w : World} {A : Around} {E : Value → Shared → Prop} {s : Shared} {K : Frag}
end
end Att
namespace L2
open PySem PySem.Spec PyProof.Rows
theorem kfd : ∀ {vs : List Value} {ns : List Int}, IntsAre vs ns → Vals (ns.map V.int) vs
 | _, _, .nil => .nil
 | _, _, .cons n t h => .cons ⟨t, rfl⟩ (kfd h)
end L2
namespace L2
open PySem PySem.Spec PyProof.Rows
end L2
namespace L2
open PySem PySem.Spec PyProof.Rows
noncomputable def inClass (s : Stmt) (j : Nat) : Stmt := match s with
 | .ClassDef _ _ _ body _ _ _ _ _ _ _ => body.getD j (.Pass ⟨0, 0, 0, 0⟩)
 | _ => .Pass ⟨0, 0, 0, 0⟩
noncomputable def kag (s : Stmt) : Arguments := match s with
 | .FunctionDef _ a _ _ _ _ _ _ _ _ => a
 | _ => { posonlyargs := [], args := [], vararg := none, kwonlyargs := [], kw_defaults := [], kwarg := none, defaults := [] }
noncomputable def kaf (s : Stmt) : List Stmt := match s with
 | .FunctionDef _ _ b _ _ _ _ _ _ _ => b
 | _ => []
noncomputable def kab (s : Stmt) : Scope := match s with
 | .FunctionDef _ _ _ _ _ _ sc _ _ _ => sc
 | _ => { kind := .function, names := [], isGenerator := false, isCoroutine := false }
noncomputable abbrev CX0 : CXT := fun _ _ _ _ _ _ => False
noncomputable abbrev E0 : XK := fun _ _ _ => False
theorem pass0 {X : Cx} : kdb CX0 X E0 := fun _ _ _ _ _ _ _ h => h.elim
structure Fun (K : FK) (x qual : Str) (st : Stmt) (f : Addr) (fd : FuncData) : Prop where
 ex : ∃ (oc : Value) (od : Option Addr) (kV doc pm : Value) (an : Option Addr) (cdv ct : Value) (osl : Array (Option Value)),
  fd = FI x qual (kag st) (kaf st) (kab st) .none kV doc pm an cdv ct ∧ K.lookup f = some ⟨oc, od, .func fd, osl⟩ ∧ FR K cdv qual = true
 kp : FN K (.ref f) = true
section
variable {P : Program} {w : World} {K : FK} {mg : Str → Option Value} {base : Heap}
theorem Fun.ok {x qual : Str} {st : Stmt} {f : Addr} {fd : FuncData} {N ps : List Str} {k : Nat} {sp : Sp} (F : Fun K x qual st f fd) (S : kas N ps (kab st)) (len : ∀ vs H Q E, sp vs H Q E → vs.length = ps.length)
  (hbody : ∀ (cdv : Value) (A : Around) (outer : List Env) (s : Shared) (H : Hp) (vs : List V) (Q : VK) (E : XK), Room k (A.deeper (envOfC qual (kab st) s.heap.objs.size f cdv)) → sp vs H Q E →
   ∃ t, PSs (cxOf CX0 P w K mg base N qual (kab st) f cdv A outer s H E).nox (kaf st) t ∧ t { nx := fun _ H' => Q .non H', rt := Q } (start N vs) H) : FnOk P w K mg base CX0 (k + 1) f fd ps sp := by
 obtain ⟨oc, od, kV, doc, pm, an, cdv, ct, osl, rfl, lk, hcd⟩ := F.ex
 refine fn_of lk hcd S len fun A outer s H vs Q E hr hsp => ?_
 obtain ⟨t, h, q⟩ := hbody cdv A outer s H vs Q E hr hsp
 exact ⟨t, h.nox, q⟩
theorem Fun.binds {x qual : Str} {st : Stmt} {f : Addr} {fd : FuncData} {ps : List Str} (F : Fun K x qual st f fd)
  (h : ∀ (kV doc pm : Value) (an : Option Addr) (cdv ct : Value) (us : List Value), us.length = ps.length → bindArgs (FI x qual (kag st) (kaf st) (kab st) .none kV doc pm an cdv ct) ⟨us, []⟩ = pure (ps.zip us)) : Binds K fd ps [] := by
 obtain ⟨oc, od, kV, doc, pm, an, cdv, ct, osl, rfl, lk, hcd⟩ := F.ex
 exact .all (h kV doc pm an cdv ct)
end
theorem kar {n : Nat} (h : n ≤ 1000) : n < sizeLine := CT h (by decide)
section
variable {X : Cx}
theorem pv (i : Nat) {x : Str} {pos : Pos} (hN : X.N[i]? = some x := by rfl) (hv : Vis X.env.scope x := by first | exact Or.inl rfl | exact Or.inr (Or.inl rfl) | exact Or.inr (Or.inr rfl)) (hd : (x == ("__debug__" : Str)) = false := by decide)
  (hcd : (x == ("__classdict__" : Str)) = false := by decide) : PE X (.Name x pos) (tVar i) := kkK hN hv hd hcd
end
theorem iteF {A B : Prop} (h : B) : if false = true then A else B := by
 rw [if_neg FW]
 exact h
theorem iteT {A B : Prop} (h : A) : if true = true then A else B := by
 rw [if_pos rfl]
 exact h
theorem ite2 {c A B : Prop} [Decidable c] (h1 : c → A) (h2 : ¬ c → B) : if c then A else B := by
 by_cases h : c
 ·rw [if_pos h]
  exact h1 h
 ·rw [if_neg h]
  exact h2 h
end L2
set_option maxHeartbeats 4000000
namespace L3
end L3
namespace L2
open PySem PySem.Spec PyProof.Rows
section
variable {X : Cx}
theorem log2_small {n : Nat} (h : n < 2 ^ 200) : n.log2 < 9000 := by
 by_cases h0 : n = 0
 ·subst h0
  decide
 ·have h1 : n.log2 < 200 := (Nat.log2_lt h0).mpr h
  omega
noncomputable def CDivB (_ j : Int) : Prop := 0 < j ∧ j < 2 ^ 199
theorem kiH : OpR X (binaryOp .FloorDiv) (rI CDivB fun i j => .int (i / j)) := opI fun i j _ _ _ _ _ hc q => by
 have h1 : (0 : Int) < j := hc.1
 have h2 : j < 2 ^ 199 := hc.2
 have h3 : j.natAbs < 2 ^ 200 := by omega
 exact floordiv_int (by omega) (by rw [Int.fdiv_eq_ediv_of_nonneg i (by omega)]; exact q) (.inl (PyProof.noPylong_of_log2 (log2_small h3)))
theorem kci (hc : X.calm = true) : CallR X (.builtin "sum") (fun xs H Q => ∃ (p : Addr) (ns : List Int), xs = [.ref p] ∧ SqL X.K H p (ns.map V.int) ∧ Q (.int ns.sum) H) := by
 intro pins s σ H xs us Q I r h
 obtain ⟨p, ns, rfl, hq, q⟩ := h
 obtain ⟨u, rfl, rx⟩ := vals1 r
 cases rx
 obtain ⟨its, r', pl, hz⟩ := I.list hq
 have hi : IntsAre its ns := intsAre_of r'
 have ha := hi.allInts
 obtain ⟨zs, hx⟩ := ha.items
 have hl := pl.isList
 rw [hx] at hl
 refine sum_intListG (I.ok.hd hc) hl fun h' tk t' hk => ⟨.int ns.sum, H, I.kept hk, ⟨t', ?_⟩, q⟩
 have e2 : preSum (numAt zs) zs.size = (numsOf (intItems zs).toList).sum := by
  rw [nums_intItems, preSum_eq, Cz (by simp)]
 have e3 : numsOf its.toArray.toList = ns := hi.numsOf
 rw [e2, ← hx, e3]
noncomputable def eqVs : List V → List V → Bool
 | [], [] => true
 | x :: xs, y :: ys => eqV x y && eqVs xs ys
 | _, _ => false
theorem ke9 : ∀ {xs ys : List V}, xs.length ≠ ys.length → eqVs xs ys = false
 | [], [], h => absurd rfl h
 | [], _ :: _, _ => rfl
 | _ :: _, [], _ => rfl
 | x :: xs, y :: ys, h => by
  show (eqV x y && eqVs xs ys) = false
  rw [ke9 (fun e => h (by simp [e])), Bool.and_false]
theorem kdi : ∀ (xs ys : List V), xs.length = ys.length → (FU xs.length).all (fun j => eqV (xs.getD j .non) (ys.getD j .non)) = eqVs xs ys
 | [], [], _ => rfl
 | [], _ :: _, h => by simp at h
 | _ :: _, [], h => by simp at h
 | x :: xs, y :: ys, h => by
  have ih := kdi xs ys (by simpa using h)
  show (FU (xs.length + 1)).all _ = (eqV x y && eqVs xs ys)
  rw [List.range_succ_eq_map, RC, List.all_map]
  show (eqV x y && _) = _
  rw [← ih]
  rfl
theorem kgz : ∀ {x : V}, flatV x = true → eqV x x = true
 | .non, _ => rfl
 | .bl b, _ => by simp [eqV]
 | .int i, _ => by simp [eqV]
 | .str z, _ => by simp [eqV]
theorem kei : ∀ {xs : List V}, xs.all flatV = true → eqVs xs xs = true
 | [], _ => rfl
 | x :: xs, h => by
  rw [RC, Re] at h
  show (eqV x x && eqVs xs xs) = true
  rw [kgz h.1, kei h.2]
  rfl
noncomputable def rEqL (K : FK) (neg : Bool) : R2 := fun x y H Q => ∃ a b xs ys, x = .ref a ∧ y = .ref b ∧ SqL K H a xs ∧ SqL K H b ys ∧ xs.all flatV = true ∧ ys.all flatV = true ∧ Q (.bl (if neg then !eqVs xs ys else eqVs xs ys)) H
theorem khV {xs : List V} (h : xs.all flatV = true) {j : Nat} (hj : j < xs.length) : flatV xs[j] = true := by
 rw [Rg] at h
 exact h _ (List.getElem_mem hj)
theorem khZ {A : Around} {s : Shared} {xs ys : List V} {us ws : List Value} (r : Vals xs us) (q : Vals ys ws) (fx : xs.all flatV = true) (fy : ys.all flatV = true) :
  ∀ j (h1 : j < us.toArray.size) (h2 : j < ws.toArray.size), SeqAt.EqAt A s us.toArray[j] ws.toArray[j] (eqV (xs.getD j .non) (ys.getD j .non)) := by
 intro j h1 h2
 have l1 := r.length
 have l2 := q.length
 have h1' : j < us.length := by simpa using h1
 have h2' : j < ws.length := by simpa using h2
 have k1 : j < xs.length := by omega
 have k2 : j < ys.length := by omega
 obtain ⟨u, e1, r1⟩ := r.get (i := j) (x := xs[j]) (by simp [k1])
 obtain ⟨w, e2, r2⟩ := q.get (i := j) (x := ys[j]) (by simp [k2])
 have g1 : us.toArray[j] = u := by
  have := FZ.mp e1
  obtain ⟨_, e⟩ := this
  simpa using e
 have g2 : ws.toArray[j] = w := by
  have := FZ.mp e2
  obtain ⟨_, e⟩ := this
  simpa using e
 have d1 : xs.getD j .non = xs[j] := by simp [k1]
 have d2 : ys.getD j .non = ys[j] := by simp [k2]
 rw [g1, g2, d1, d2]
 exact kh0 r1 r2 (khV fx k1) (khV fy k2)
theorem kkP (hu : X.A.units < cLine) : OpR X (compareOp .Eq) (rEqL X.K false) := by
 intro pins s σ H x y v u Q I rx ry h
 obtain ⟨a, b, xs, ys, rfl, rfl, hx, hy, fx, fy, q⟩ := h
 cases rx
 cases ry
 obtain ⟨us, r1, p1, z1⟩ := I.list hx
 obtain ⟨ws, r2, p2, z2⟩ := I.list hy
 have l1 := r1.length
 have l2 := r2.length
 by_cases hl : xs.length = ys.length
 ·refine SeqAt.eq_listAt p1.isList p2.isList (by simp; omega) hu (khZ r1 r2 fx fy) ⟨.bl (eqVs xs ys), H, I, ?_, q⟩
  have e : us.toArray.size = xs.length := by simp [l1]
  rw [e, kdi xs ys hl]
  rfl
 ·refine SeqAt.eq_list_lengthsAt p1.isList p2.isList (by simp; omega) hu ⟨.bl (eqVs xs ys), H, I, ?_, q⟩
  rw [ke9 hl]
  rfl
theorem kkN (hu : X.A.units < cLine) : OpR X (compareOp .NotEq) (rEqL X.K true) := by
 intro pins s σ H x y v u Q I rx ry h
 obtain ⟨a, b, xs, ys, rfl, rfl, hx, hy, fx, fy, q⟩ := h
 cases rx
 cases ry
 obtain ⟨us, r1, p1, z1⟩ := I.list hx
 obtain ⟨ws, r2, p2, z2⟩ := I.list hy
 have l1 := r1.length
 have l2 := r2.length
 show wpAny _ _ (richCompare .NotEq (.ref a) (.ref b)) _ _ s
 by_cases hl : xs.length = ys.length
 ·refine SeqAt.RcNeAt.lists p1.isList p2.isList (by simp; omega) hu (khZ r1 r2 fx fy) _ _ _ _ ⟨.bl (!eqVs xs ys), H, I, ?_, q⟩
  have e : us.toArray.size = xs.length := by simp [l1]
  rw [e, kdi xs ys hl]
  rfl
 ·refine SeqAt.RcNeAt.lists_lengths p1.isList p2.isList (by simp; omega) hu _ _ _ _ ⟨.bl (!eqVs xs ys), H, I, ?_, q⟩
  rw [ke9 hl]
  rfl
noncomputable def cV : V → Value
 | .ty n => .type n
 | .ref a => .ref a
 | _ => .none
theorem kcd : CallR X (.builtin "isinstance") (fun xs H Q => ∃ x c t b, xs = [x, c] ∧ ((∃ n, c = .ty n) ∨ ∃ a, c = .ref a) ∧ TyOf X.K H x t ∧ F1 X.K t (cV c) = some b ∧ Q (.bl b) H) := by
 intro pins s σ H xs us Q I r h
 obtain ⟨x, c, t, b, rfl, hc, ty, e, q⟩ := h
 obtain ⟨u, w', rfl, r1, r2⟩ := vals2 r
 have ew : w' = cV c := by
  rcases hc with ⟨n, rfl⟩ | ⟨a, rfl⟩
  ·exact r2
  ·exact r2
 subst ew
 exact khK I r1 ty e fun tk => ⟨.bl b, H, I.tok tk, rfl, q⟩
theorem b_isi : bootBuiltins "isinstance" = some (.builtin "isinstance") := by decide +kernel
theorem b_int : bootBuiltins "int" = some (.type "int") := by decide +kernel
theorem kcJ : bootBuiltins "list" = some (.type "list") := by decide +kernel
theorem b_sum : bootBuiltins "sum" = some (.builtin "sum") := by decide +kernel
theorem b_min : bootBuiltins "min" = some (.builtin "min") := by decide +kernel
theorem b_max : bootBuiltins "max" = some (.builtin "max") := by decide +kernel
theorem b_len : bootBuiltins "len" = some (.builtin "len") := by decide +kernel
theorem kc7 (K : FK) (t : Value) : F1 K t t = some true := by
 unfold F1
 rw [if_pos (by simp)]
noncomputable def tCut (t : TS) : TS := fun D σ H => ∃ P : St → Hp → Prop, t { D with nx := P } σ H ∧ ∀ σ' H', P σ' H' → D.nx σ' H'
theorem kcY {st : Stmt} {t : TS} (h : PS X st t) : PS X st (tCut t) := by
 intro pins s σ H D I hw
 obtain ⟨P, h1, h2⟩ := hw
 refine thn (h pins s σ H { D with nx := P } I h1) fun f s' q => ?_
 cases f with
 | next =>
  obtain ⟨σ', H', I', q'⟩ := q
  exact ⟨σ', H', I', h2 σ' H' q'⟩
 | brk => exact q
 | cont => exact q
 | ret u => exact q
noncomputable def tCutE (t : TE) : TE := fun σ H Q => ∃ P : V → Hp → Prop, t σ H P ∧ ∀ v H', P v H' → Q v H'
theorem kkL {e : Expr} {t : TE} (h : PE X e t) : PE X e (tCutE t) := by
 intro pins s σ H Q I hw
 obtain ⟨P, h1, h2⟩ := hw
 exact thn (h pins s σ H P I h1) fun u s' ⟨v, H', I', r, q⟩ => ⟨v, H', I', r, h2 v H' q⟩
noncomputable def Its (lo st : Int) (n : Nat) : It := ⟨fun i _ => i < n, fun i H x H' => H' = H ∧ x = .int (lo + i * st), fun i _ => n ≤ i⟩
theorem kgZ {P : Program} {w : World} {K : FK} {tg : Expr} (it : Addr) (lo st : Int) (n : Nat) : Turn P w K tg (Its lo st n) [it] it (fun i h => IsRangeIter h it (lo + (i : Nat) * st) ((n : Int) - (i : Nat)) st) where
 mem := by simp
 obj := fun i h st b hb => by
  have e : b = it := by simpa using hb
  subst e
  exact ⟨_, st, fun v z => by
   have z' : Data.fields _ = Data.cell v := z
   cases z'⟩
 keep := fun i h h' st k => k it (by simp) _ st
 item := by
  intro X hP hw hK hc i pins s σ H E I hf st' hg
  subst hP hw hK
  obtain ⟨f0, f1, f2, f3, f4, f5⟩ := hf it (by simp)
  have W := Walks.range (prog := X.prog) (w := X.w) (I.ok.hd hc) it lo st n
  refine W.item i s _ _ hg st' fun v h' tk hv st'' kk => ?_
  obtain ⟨t, rfl⟩ := hv
  have I1 : Inv X pins σ H { s with heap := h', toks := tk } := I.turned (fun b o hb e => kk b o (by simpa using hb) e) f0 f1 f3 f4 f5
  exact ⟨_, rfl, go_of (s := { s with heap := h', toks := tk }) (n := "range_iterator") st'' rfl rfl (by decide) ⟨.int (lo + i * st), H, I1, ⟨t, rfl⟩, ⟨rfl, rfl⟩, st'', fun b hb => (hf b hb).1⟩⟩
 done := by
  intro X hP hw hK hc i pins s σ H E I hf st hg
  subst hP hw hK
  obtain ⟨f0, f1, f2, f3, f4, f5⟩ := hf it (by simp)
  exact wpAny_pyNext_range_end (I.ok.hd hc) st (by have : n ≤ i := hg; omega) fun h' eb => ⟨rfl, I.turned (t' := s.toks) (fun b o hb e => eb b o hb e) f0 f1 f3 f4 f5⟩
 self := fun _ _ _ _ _ st h => wpAny_pyIter_rangeiter st h
theorem kfh {a b c : Int} (hc : 0 < c) (ha : -(2 ^ 31) ≤ a ∧ a < 2 ^ 31) (hb : -(2 ^ 31) ≤ b ∧ b < 2 ^ 31) : 0 ≤ Builtin.Range.rangeSize a b c ∧ Builtin.Range.rangeSize a b c < 2 ^ 33 := by
 unfold Builtin.Range.rangeSize
 rw [if_pos hc]
 split
 ·have h1 : 0 ≤ (b - a - 1) / c := Int.ediv_nonneg (by omega) (by omega)
  have h2 : (b - a - 1) / c ≤ b - a - 1 := Int.ediv_le_self _ (by omega)
  omega
 ·omega
theorem kgG {a b c : Int} (hc : 0 < c) (hc2 : c < 2 ^ 30) (ha : -(2 ^ 31) ≤ a ∧ a < 2 ^ 31) (hb : -(2 ^ 31) ≤ b ∧ b < 2 ^ 31) : Builtin.Range.small a b c = true := by
 have h := kfh hc ha hb
 unfold Builtin.Range.small
 generalize Builtin.Range.rangeSize a b c = n at h
 simp only [Builtin.Range.rangeFitsLong, Re, Sb, decide_eq_true_eq, beq_iff_eq, show c > 0 from hc, if_true]
 omega
end
theorem kfB (xs : List V) (k : Nat) : cutV xs none (some (k : Int)) = xs.take k := by
 unfold cutV
 rw [HT.sIx_none, HT.sIx_nat, Rh, Nat.sub_zero, Sy]
 omega
end L2
namespace L2
open PySem PySem.Spec PyProof.Rows
theorem Inv.adopt {X : Cx} {pins : List (Addr × Obj)} {σ : St} {H : Hp} {s : Shared} {a : Addr} {o : HO} (I : Inv X pins σ H s) (f : FpOk X pins H a) (h0 : X.s₀.heap.objs.size ≤ a) (new : ObjOk X.prog X.w (upd H a o) s.heap a o) : Inv X pins σ (upd H a o) s := by
 obtain ⟨hn, hL, _, _, hC, hp⟩ := f
 have nt : ∀ b u, H b = some u → b ≠ a := fun b u e => kal e hn
 refine ⟨I.ok, I.os, I.bare, ⟨I.base.keep, I.base.slot, fun b ob e n hx => ?_, I.base.there, fun b xs e => ?_, fun b ob u e => ?_, fun b ps e => ?_⟩, I.loc, I.cell, ?_, fun x c e => ?_, fun p hp' => ?_, fun b u e => ?_, I.len⟩
 ·rw [kam (Cc (F8 (Heap.lt_size e) h0))]
  exact I.base.free b ob e n hx
 ·have q := I.base.tups b xs e
  rw [kam (nt _ _ q)]
  exact q
 ·have q := I.base.frzs b ob u e
  rw [kam (nt _ _ q)]
  exact q
 ·obtain ⟨m, q⟩ := I.base.tbls b ps e
  exact ⟨m, by rw [kam (nt _ _ q)]; exact q⟩
 ·rw [kam (Ne.symm hL)]
  exact I.free
 ·rw [kam (hC x c e)]
  exact I.freeC x c e
 ·obtain ⟨e, n, r⟩ := I.pin p hp'
  exact ⟨e, by rw [kam (hp p hp')]; exact n, r⟩
 ·by_cases hb : b = a
  ·subst hb
   rw [kad] at e
   cases e
   exact new
  ·rw [kam hb] at e
   exact (I.hok b u e).stay (fun c v _ q => q) (fun c q => by rw [kam (nt _ _ q)]; exact q) fun c xs q => by rw [kam (nt _ _ q)]; exact q
noncomputable def capσ (cap : List (Option Nat)) (σ : St) : St := cap.map fun o => match o with
 | some i => (σ[i]?).getD none
 | none => none
noncomputable def closL (cells : List (Str × Addr)) (names : List (Str × NameKind)) : List (Str × Addr) → List (Str × Addr) := fun acc => names.foldl (fun acc p => if p.2 == .free then (p.1, (cells.lookup p.1).getD 0) :: acc else acc) acc
theorem keg {α β : Type} {f : α → β → Sem (ForInStep β)} {g : β → α → β} : ∀ (l : List α) (b : β), (∀ x ∈ l, ∀ b, f x b = pure (.yield (g b x))) → forIn l b f = pure (l.foldl g b)
 | [], b, _ => by rw [List.forIn_nil]; rfl
 | x :: l, b, h => by
  rw [List.forIn_cons, h x Cd]
  show forIn l (g b x) f = _
  rw [keg l (g b x) fun y hy => h y (F9 _ hy)]
  rfl
theorem kfa {scope : Scope} {env : Env} (h : ∀ x ∈ scope.names, x.2 = .free → ∃ c, env.cells.lookup x.1 = some c) : closureFor scope env = pure (closL env.cells scope.names []) := by
 unfold closureFor
 dsimp only
 rw [keg (g := fun acc p => if p.2 == .free then (p.1, (env.cells.lookup p.1).getD 0) :: acc else acc) scope.names [] fun x hx b => ?_]
 ·rfl
 ·obtain ⟨n, k⟩ := x
  by_cases hk : k = .free
  ·subst hk
   obtain ⟨c, ec⟩ := h _ hx rfl
   have ec' : env.cells.lookup n = some c := ec
   have e1 : cellOf env n = pure c := by unfold cellOf; rw [ec']
   simp only [beq_self_eq_true, if_true, e1, ec', Option.getD_some]
   rfl
  ·have : (k == NameKind.free) = false := by simpa using hk
   simp only [this, Cv, if_false]
theorem keG (cells : List (Str × Addr)) (p : Str × NameKind) (r : List (Str × NameKind)) (acc : List (Str × Addr)) : closL cells (p :: r) acc = closL cells r (if p.2 == .free then (p.1, (cells.lookup p.1).getD 0) :: acc else acc) := rfl
theorem kdQ {cells : List (Str × Addr)} {x : Str} {c : Addr} : ∀ (names : List (Str × NameKind)) (acc : List (Str × Addr)), (closL cells names acc).lookup x = some c → (((x, NameKind.free) ∈ names ∧ c = (cells.lookup x).getD 0) ∨ acc.lookup x = some c)
 | [], acc, h => .inr h
 | (n, k) :: r, acc, h => by
  rw [keG] at h
  rcases kdQ r _ h with ⟨h1, h2⟩ | h1
  ·exact .inl ⟨F9 _ h1, h2⟩
  ·by_cases hk : k = .free
   ·subst hk
    simp only [beq_self_eq_true, if_true] at h1
    rw [Ck] at h1
    by_cases hx : x = n
    ·subst hx
     simp only [beq_self_eq_true] at h1
     exact .inl ⟨Cd, (Option.some.inj h1).symm⟩
    ·have hb : (x == n) = false := beq_eq_false_iff_ne.mpr hx
     rw [hb] at h1
     exact .inr h1
   ·have : (k == NameKind.free) = false := by simpa using hk
    simp only [this, Cv, if_false] at h1
    exact .inr h1
theorem kcH {cells : List (Str × Addr)} {x : Str} : ∀ (names : List (Str × NameKind)) (acc : List (Str × Addr)), ((x, NameKind.free) ∈ names ∨ ∃ c, acc.lookup x = some c) → ∃ c, (closL cells names acc).lookup x = some c
 | [], acc, h => by
  rcases h with h | h
  ·cases h
  ·exact h
 | (n, k) :: r, acc, h => by
  rw [keG]
  refine kcH r _ ?_
  by_cases hm : (x, NameKind.free) ∈ r
  ·exact .inl hm
  ·refine .inr ?_
   rcases h with h | ⟨c, h⟩
   ·rcases F5.mp h with e | h
    ·cases e
     simp [Ck]
    ·exact absurd h hm
   ·split
    ·rw [Ck]
     by_cases hx : x = n
     ·subst hx
      simp
     ·have hb : (x == n) = false := beq_eq_false_iff_ne.mpr hx
      rw [hb]
      exact ⟨c, h⟩
    ·exact ⟨c, h⟩
theorem kcp : ∀ (names : List (Str × NameKind)) (n : Nat) (acc acc' : List (Str × Addr)), cellsFrom n names (acc ++ acc') = cellsFrom n names acc ++ acc'
 | [], _, _, _ => rfl
 | (m, k) :: r, n, acc, acc' => by
  unfold cellsFrom
  split
  ·exact kcp r (n + 1) ((m, n) :: acc) acc'
  ·exact kcp r n acc acc'
theorem kcc (names : List (Str × NameKind)) (n : Nat) (acc : List (Str × Addr)) (x : Str) : (cellsFrom n names acc).lookup x = ((cellsFrom n names []).lookup x).or (acc.lookup x) := by
 rw [← List.lookup_append, ← kcp, RE]
theorem kco {x : Str} : ∀ (names : List (Str × NameKind)) (n : Nat) (acc : List (Str × Addr)), (x, NameKind.cell) ∉ names → (cellsFrom n names acc).lookup x = acc.lookup x
 | [], _, _, _ => rfl
 | (m, k) :: r, n, acc, h => by
  unfold cellsFrom
  by_cases hk : k = .cell
  ·subst hk
   simp only [beq_self_eq_true, if_true]
   rw [kco r _ _ fun z => h (F9 _ z), Ck]
   have hx : x ≠ m := fun e => h (by rw [e]; exact Cd)
   have hb : (x == m) = false := beq_eq_false_iff_ne.mpr hx
   rw [hb]
  ·have : (k == NameKind.cell) = false := by simpa using hk
   simp only [this, Cv, if_false]
   exact kco r _ _ fun z => h (F9 _ z)
noncomputable def relN (names ns : List (Str × NameKind)) : List (Str × NameKind) := names.map fun (n, k) => if (k == .free && ns.lookup n == some .cell) then (n, .cell) else (n, k)
theorem kcX {scope : Scope} {env : Env} (hk : env.scope.kind = .function) : (relabel scope env).names = relN scope.names env.scope.names := by
 unfold relabel relN
 have e : (ScopeKind.function == ScopeKind.function) = true := by decide
 simp only [hk, e, Bool.and_true]
 rfl
theorem kcS {ns : List (Str × NameKind)} {x : Str} : ∀ (names : List (Str × NameKind)), (relN names ns).lookup x = (names.lookup x).map fun k => if (k == .free && ns.lookup x == some .cell) then .cell else k
 | [] => rfl
 | (n, k) :: r => by
  have ih := kcS (ns := ns) (x := x) r
  show CD x ((if (k == .free && ns.lookup n == some .cell) = true then (n, NameKind.cell) else (n, k)) :: relN r ns) = _
  by_cases hx : x = n
  ·subst hx
   by_cases hc : (k == .free && ns.lookup x == some .cell) = true
   ·rw [if_pos hc]
    simp only [Ck, beq_self_eq_true, RF]
    rw [if_pos hc]
   ·rw [if_neg hc]
    simp only [Ck, beq_self_eq_true, RF]
    rw [if_neg hc]
  ·have hb : (x == n) = false := beq_eq_false_iff_ne.mpr hx
   by_cases hc : (k == .free && ns.lookup n == some .cell) = true
   ·rw [if_pos hc]
    simp only [Ck, hb]
    exact ih
   ·rw [if_neg hc]
    simp only [Ck, hb]
    exact ih
theorem kjZ {names ns : List (Str × NameKind)} {x : Str} (h : (relN names ns).lookup x = some .cell ∨ (relN names ns).lookup x = some .free) : names.lookup x = some .cell ∨ names.lookup x = some .free := by
 rw [kcS] at h
 cases e : names.lookup x with
 | none => rw [e] at h; simp at h
 | some k =>
  rw [e] at h
  cases k <;> simp_all
theorem khh {names ns : List (Str × NameKind)} {x : Str} (h : names.lookup x = some .free) : (relN names ns).lookup x = some .cell ∨ (relN names ns).lookup x = some .free := by
 rw [kcS, h]
 by_cases hc : ns.lookup x == some .cell
 ·left; simp [hc]
 ·right; simp [hc]
structure CompScope (X : Cx) (scope : Scope) (N : List Str) (cap : List (Option Nat)) : Prop where
 kind : scope.kind = .function
 names : ∀ x ∈ scope.names, x.2 = .local → scope.names.lookup x.1 = some .local
 free : ∀ x ∈ scope.names, x.2 = .free → X.env.scope.names.lookup x.1 = some .cell ∨ X.env.scope.names.lookup x.1 = some .free
 nd : N.Nodup
 len : cap.length = N.length
 cap : ∀ (j i : Nat) (x : Str), cap[j]? = some (some i) → N[j]? = some x → X.N[i]? = some x ∧ scope.names.lookup x = some .free ∧ (x, NameKind.cell) ∉ scope.names
noncomputable def kdA (X : Cx) (scope : Scope) (C : Addr) : List (Str × Addr) := cellsFrom (C + 1) scope.names (closL X.env.cells scope.names [])
noncomputable def cxC (X : Cx) (scope : Scope) (N : List Str) (fp : List Addr) (s : Shared) (H : Hp) (C : Addr) : Cx :=
 { X with N := N, s₀ := s, H₀ := H, env := compEnvC scope (kdA X scope C) C X.env, outer := X.stack, ex := fp, fn := fun x => scope.names.lookup x == some .cell, pn := [], xe := fun _ _ => False }
theorem ke3 {M : Model} {A : Around} {E : Value → Shared → Prop} {s : Shared} {scope : Scope} {globals : Addr} {cl : List (Str × Addr)} {qual : Str} {func : Option Addr} {code : Value} {outer : Env} {builtins : Addr} {Q : Env → Shared → Prop}
  (hQ : Q (newEnv scope s.heap.objs.size globals (cellsFrom (s.heap.objs.size + 1) scope.names cl) qual func code (some outer) builtins) { s with heap := pushCells (s.heap.push { cls := .type "dict", data := .dict #[] }) scope.names }) :
  wpAny M A (newFunctionEnv scope globals cl [] qual func code (some outer) builtins) Q E s := by
 simp only [newFunctionEnv, Option.isSome_some, if_true]
 refine wpAny_bind (wpAny_alloc ?_)
 refine wpAny_bind (wpAny_layCells _ (fun name kind cells => by cases hkc : kind == NameKind.cell <;> simp [hkc]) _ _ _ _ ?_)
 rw [show ({ s with heap := s.heap.push { cls := .type "dict", data := .dict #[] } } : Shared).heap.objs.size = s.heap.objs.size + 1 from Heap.size_push ..]
 exact wpAny_bind (wpAny_pure (wpAny_pure hQ))
section
variable {X : Cx} {scope : Scope} {N : List Str} {cap : List (Option Nat)} {pins : List (Addr × Obj)} {σ : St} {H : Hp} {s : Shared}
theorem kg5 (I : Inv X pins σ H s) {b : Addr} (hb : b ∈ frs X.stack) : b < s.heap.objs.size := by
 obtain ⟨_, o, ho, _⟩ := I.stack.mem hb
 exact Heap.lt_size ho
theorem kcG (S : CompScope X scope N cap) (I : Inv X pins σ H s) : closureFor scope X.env = pure (closL X.env.cells scope.names []) :=
 kfa fun x hx hf => I.ok.has x.1 (S.free x hx hf)
theorem kce {C : Addr} {x : Str} {c : Addr} (S : CompScope X scope N cap) (I : Inv X pins σ H s) (h : (kdA X scope C).lookup x = some c) : (cellsFrom (C + 1) scope.names []).lookup x = some c ∨ X.env.cells.lookup x = some c := by
 unfold kdA at h
 rw [kcc] at h
 cases e : (cellsFrom (C + 1) scope.names []).lookup x with
 | some c' =>
  rw [e] at h
  exact .inl h
 | none =>
  rw [e] at h
  have h' : (closL X.env.cells scope.names []).lookup x = some c := h
  rcases kdQ _ _ h' with ⟨h1, h2⟩ | h1
  ·obtain ⟨c', ec⟩ := I.ok.has x (S.free _ h1 rfl)
   rw [ec] at h2
   rw [h2]
   exact .inr ec
  ·cases h1
theorem kiS {fp : List Addr} {C D : Addr} {o : Obj} {s4 : Shared} {m : Str → Option Value} (S : CompScope X scope N cap) (I : Inv X pins σ H s) (f : ∀ b ∈ fp, FpOk X pins H b) (hfp : ∀ b ∈ fp, b < s.heap.objs.size)
  (hk : ∀ b u, s.heap.get? b = some u → s4.heap.get? b = some u) (hns : s4.heap.Ns C m) (hC : s.heap.objs.size ≤ C) (hD : s.heap.objs.size ≤ D) (hDC : D ≠ C) (eD : s4.heap.get? D = some o) (hcell : ∀ v, o.data ≠ .cell v)
  (hnew : CellsOk s4.heap (C + 1) (cellsFrom (C + 1) scope.names [])) (hos : s4.os = s.os) (hg : s4.gens = s.gens) : Inv (cxC X scope N fp s H C) [(D, o)] (capσ cap σ) H s4 := by
 have stkne : ∀ b ∈ fp, b ∉ frs X.stack := fun b hb hz => by
  obtain ⟨_, h1, h2, _⟩ := f b hb
  rcases F5.mp (I.stkSub b hz) with e | e
  ·exact h1 e
  ·exact h2 e
 have nw : ∀ {x : Str} {c : Addr}, (cellsFrom (C + 1) scope.names []).lookup x = some c → s4.heap.IsCell c none ∧ Nat.lt C c := fun {x c} h => hnew.empty x c (PySem.mem_of_lookup h)
 have od : ∀ {x : Str} {c : Addr}, X.env.cells.lookup x = some c → c < s.heap.objs.size := fun {x c} h => let ⟨_, q⟩ := I.cell x c h; q.lt
 refine ⟨⟨I.ok.mod, S.kind, I.ok.glob, I.ok.blt, hC, fun x y c h1 h2 => ?_, fun x h => ?_, fun x c h1 h2 => ?_, I.ok.hd, I.ok.frames, .inl rfl, fun b hb => ⟨?_, fun x c e => ?_⟩, I.bs, FQ I.ok.bsz I.sz, fun b ob e hb => ?_, stkne, I.stack, I.stkFree⟩,
  hos, by rw [hg]; exact I.bare, Un.kept hk, ⟨m, hns, fun j x v e1 e2 e3 => ?_⟩, fun x c e => ?_, I.hok.fresh hC, fun x c e => ?_, fun p hp => ?_, I.hok.kept hk, ?_⟩
 ·rcases kce S I h1 with q1 | q1 <;> rcases kce S I h2 with q2 | q2
  ·exact name_of_addr hnew.apart (PySem.mem_of_lookup q1) (PySem.mem_of_lookup q2)
  ·exact absurd (CT hC (nw q1).2) (Nat.not_lt_of_lt (od q2))
  ·exact absurd (CT hC (nw q2).2) (Nat.not_lt_of_lt (od q1))
  ·exact I.ok.inj x y c q1 q2
 ·have h' : (relabel scope X.env).names.lookup x = some .cell ∨ (relabel scope X.env).names.lookup x = some .free := h
  rw [kcX I.ok.kind] at h'
  show ∃ c, (cellsFrom (C + 1) scope.names (closL X.env.cells scope.names [])).lookup x = some c
  rw [kcc]
  rcases kjZ h' with q | q
  ·obtain ⟨c, e⟩ := kdR (n := C + 1) q
   exact ⟨c, by rw [e]; rfl⟩
  ·obtain ⟨c, e⟩ := kcH (cells := X.env.cells) scope.names [] (.inl (PySem.mem_of_lookup q))
   cases e2 : (cellsFrom (C + 1) scope.names []).lookup x with
   | some c' => exact ⟨c', rfl⟩
   | none => exact ⟨c, e⟩
 ·have h1' : (scope.names.lookup x == some .cell) = true := h1
  have q : scope.names.lookup x = some .cell := by simpa using h1'
  obtain ⟨c', e⟩ := kdR (n := C + 1) q
  have h2' : (cellsFrom (C + 1) scope.names (closL X.env.cells scope.names [])).lookup x = some c := h2
  rw [kcc, e] at h2'
  have h3 : c' = c := Option.some.inj h2'
  rw [← h3]
  exact FY (CT hC (nw e).2)
 ·exact Cc (F8 (hfp b hb) hC)
 ·rcases kce S I e with q | q
  ·exact CC (Nat.lt_trans (F8 (hfp b hb) hC) (nw q).2)
  ·exact (f b hb).2.2.2.2.1 x c q
 ·obtain ⟨_, _, _, h4, _⟩ := f b hb
  rcases h4 with h4 | h4
  ·exact I.ok.noex b ob e h4
  ·exact absurd (F8 (Heap.lt_size e) (FQ I.ok.bsz h4)) (CP _)
 ·
  have e2' : (cap.map fun o => match o with | some i => (σ[i]?).getD none | none => none)[j]? = some (some v) := e2
  rw [F0] at e2'
  cases ec : cap[j]? with
  | none => rw [ec] at e2'; cases e2'
  | some oi =>
   rw [ec] at e2'
   cases oi with
   | none => cases e2'
   | some i =>
    have e4 : (σ[i]?).getD none = some v := Option.some.inj e2'
    have e5 : σ[i]? = some (some v) := by
     cases q : σ[i]? with
     | none => rw [q] at e4; cases e4
     | some w => rw [q] at e4; exact congrArg some e4
    obtain ⟨h1, hf, hnc⟩ := S.cap j i x ec e1
    have hm := PySem.mem_of_lookup hf
    have h2 := S.free _ hm rfl
    obtain ⟨mo, _, hl⟩ := I.loc
    obtain ⟨u, ru, lk⟩ := hl i x v h1 e5 (.inr h2)
    have h3 : (relabel scope X.env).names.lookup x = some .cell ∨ (relabel scope X.env).names.lookup x = some .free := by
     rw [kcX I.ok.kind]
     exact khh hf
    refine ⟨u, ru, .inr ⟨h3, ?_⟩⟩
    rcases lk with ⟨k1, _⟩ | ⟨_, c, ec', z⟩
    ·have k1' : X.env.scope.names.lookup x = some .local := k1
     rcases h2 with h2 | h2 <;> rw [h2] at k1' <;> cases k1'
    ·obtain ⟨c', ec2⟩ := kcH (cells := X.env.cells) scope.names [] (.inl hm)
     have ec3 : (kdA X scope C).lookup x = some c' := by
      unfold kdA
      rw [kco _ _ _ hnc]
      exact ec2
     rcases kdQ _ _ ec2 with ⟨_, q2⟩ | q2
     ·rw [ec'] at q2
      have q3 : c' = c := q2
      subst q3
      obtain ⟨oc, ho, hd⟩ := z
      exact ⟨c', ec3, oc, hk _ _ ho, hd⟩
     ·cases q2
 ·rcases kce S I e with q | q
  ·exact ⟨none, (nw q).1⟩
  ·obtain ⟨v, oc, ho, hd⟩ := I.cell x c q
   exact ⟨v, oc, hk _ _ ho, hd⟩
 ·rcases kce S I e with q | q
  ·exact I.hok.fresh (FQ hC (FY (nw q).2))
  ·exact I.freeC x c q
 ·have e : p = (D, o) := by simpa [cxC] using hp
  subst e
  exact ⟨eD, I.hok.fresh hD, hDC, fun hz => absurd (kg5 I hz) (Nat.not_lt.mpr hD), hcell⟩
 ·show (cap.map _).length = N.length
  rw [FJ, S.len]
theorem comp_back {fp : List Addr} {C : Addr} {σ' : St} {H' : Hp} {s' : Shared} (I : Inv X pins σ H s) (f : ∀ b ∈ fp, FpOk X pins H b) (J : Inv (cxC X scope N fp s H C) [] σ' H' s') : Inv X pins σ H' s' :=
 I.call' (ch := fp) J.os J.base J.hok J.bare fun b hb => let ⟨_, h1, _, h3, h4, h5⟩ := f b hb; ⟨h3, h1, h4, h5⟩
end
noncomputable def PIf (X : Cx) (ifs : List Expr) (t : TT) : Prop := ∀ (pins : List (Addr × Obj)) (s : Shared) (σ : St) (H : Hp) (Q : Bool → Hp → Prop), Inv X pins σ H s → t σ H Q →
 wpAny (model X.prog X.w) X.A (forIn ifs true fun c r => if r = true then do let ok ← isTrue c X.env (eval c X.env); pure (ForInStep.yield ok) else pure (ForInStep.yield r)) (TP X pins σ Q) X.xe s
noncomputable def tYes : TT := fun _ H Q => Q true H
theorem khn {X : Cx} : PIf X [] tYes := fun _ _ _ H _ I h => wpAny_tests_nil ⟨H, I, h⟩
theorem kj5 {X : Cx} {c : Expr} {t : TT} (h : PT X c t) : PIf X [c] t := fun pins s σ H Q I hw => wpAny_tests_one (h pins s σ H Q I hw)
theorem kfD {prog : Program} {w : World} {A : Around} {R : Result → Shared → Prop} {s : Shared} {elt target iter : Expr} {ifs : List Expr} {scope : Scope} {pos : Pos} {it acc : Value} {env : Env} (I : Nat → Shared → Prop)
  (turn : ∀ n s, I n s → wpAny (model prog w) A (pyNext it) (fun r s₁ => match r with
   | none => R (.ok .next) s₁
   | some v => wpAny (model prog w) A (letOwnedTupleGo target it v) (fun _ s₁' => wpAny (model prog w) A (assign target env v) (fun _ s₂ =>
     wpAny (model prog w) A (forIn ifs true fun c r => if r = true then do let ok ← isTrue c env (eval c env); pure (ForInStep.yield ok) else pure (ForInStep.yield r)) (fun ok s₂' =>
      if ok = true then wpAny (model prog w) A (eval elt env) (fun x s₃ =>
       wpAny (model prog w) A (call (.builtin "list.append") [acc, x]) (fun _ s₄ => ∃ m, m < n ∧ I m s₄) (fun _ _ => False) s₃) (fun _ _ => False) s₂'
      else ∃ m, m < n ∧ I m s₂') (fun _ _ => False) s₂) (fun _ _ => False) s₁') (fun _ _ => False) s₁) (fun _ _ => False) s)
  (n : Nat) (h : I n s) : codeAny (model prog w) A (.compLoop (.ListComp elt [⟨target, iter, ifs, 0⟩] scope pos) 0 it acc env) R s := by
 refine codeAny_loop rfl I (fun n s hI => ?_) n h
 show wpAny _ _ ((compTurn (.ListComp elt [⟨target, iter, ifs, 0⟩] scope pos) 0 it acc env).onRaise (fun x => do noteFrame x env; theTreesLotGoes x)) _ _ s
 refine wpAny_noted ?_
 rw [compTurn_list]
 refine wpAny_bind (wpAny_standAt (wpAny_bind (wpAny_mono (turn n s hI) (fun r s₁ h₁ => ?_) fun _ _ h' => h'.elim)))
 cases r with
 | none => exact wpAny_pure h₁
 | some v =>
  refine wpAny_bind (wpAny_mono h₁ (fun _ s₁' h₁' => ?_) fun _ _ h' => h'.elim)
  refine wpAny_bind (wpAny_mono h₁' (fun _ s₂ h₂ => wpAny_bind (wpAny_mono h₂ (fun ok s₂' h₂' => ?_) fun _ _ h' => h'.elim)) fun _ _ h' => h'.elim)
  cases ok with
  | false => exact wpAny_pure ⟨rfl, h₂'⟩
  | true =>
   exact wpAny_bind (wpAny_bind (wpAny_mono h₂' (fun x s₃ h₃ => wpAny_bind (wpAny_mono h₃ (fun _ s₄ h₄ => wpAny_pure (wpAny_pure ⟨rfl, h₄⟩)) fun _ _ h' => h'.elim)) fun _ _ h' => h'.elim))
noncomputable def kkx (wi : TI) (cap : List (Option Nat)) (g : TG) (tt : TT) (te : TE) : TE := fun σ H Q => wi σ H fun J H1 => ∃ W : Nat → Nat → St → List V → Hp → Prop, (∃ m, W 0 m (capσ cap σ) [] H1) ∧ ∀ i m σ' ys H', W i m σ' ys H' →
 (J.stop i H' ∧ ∀ D, H' D = none → Q (.ref D) (upd H' D (.lst ys))) ∨ (J.go i H' ∧ ys.length < sizeLine ∧ ∃ (N : St → V → Hp → Prop) (N0 : St → Hp → Prop), (∀ σ2 y H4, N σ2 y H4 → ∃ m', m' < m ∧ W (i + 1) m' σ2 (ys ++ [y]) H4) ∧ (∀ σ2 H4, N0 σ2 H4 → ∃ m', m' < m ∧ W (i + 1) m' σ2 ys H4) ∧
  ∀ x H2, J.yld i H' x H2 → g x σ' H2 fun σ2 H3 => tt σ2 H3 fun b H4 => if b = true then te σ2 H4 (N σ2) else N0 σ2 H4)
noncomputable def tComp (wi : TI) (cap : List (Option Nat)) (g : TG) (te : TE) : TE := fun σ H Q => wi σ H fun J H1 => ∃ W : Nat → Nat → St → List V → Hp → Prop, (∃ m, W 0 m (capσ cap σ) [] H1) ∧ ∀ i m σ' ys H', W i m σ' ys H' →
 (J.stop i H' ∧ ∀ D, H' D = none → Q (.ref D) (upd H' D (.lst ys))) ∨ (J.go i H' ∧ ys.length < sizeLine ∧ ∃ N : St → V → Hp → Prop, (∀ σ2 y H4, N σ2 y H4 → ∃ m', m' < m ∧ W (i + 1) m' σ2 (ys ++ [y]) H4) ∧
  ∀ x H2, J.yld i H' x H2 → g x σ' H2 fun σ2 H3 => te σ2 H3 (N σ2))
section
variable {X : Cx} {scope : Scope} {N : List Str} {cap : List (Option Nat)} {pins : List (Addr × Obj)} {σ : St} {H2 : Hp} {s2 : Shared} {tg elt iter : Expr} {ifs : List Expr} {pos : Pos} {g : TG} {tt : TT} {te : TE}
theorem kdt {fp : List Addr} {it : Addr} {tn : Nat → Heap → Prop} {J : It} {Q : VK} {RR : Value → Addr → Result → Shared → Prop} {E : Value → Shared → Prop} (S : CompScope X scope N cap) (hc : X.calm = true)
  (hg : ∀ fp s H C, PG (cxC X scope N fp s H C) tg g) (ht : ∀ fp s H C, PIf (cxC X scope N fp s H C) ifs tt) (he : ∀ fp s H C, PE (cxC X scope N fp s H C) elt te)
  (I2 : Inv X pins σ H2 s2) (T : Turn X.prog X.w X.K tg J fp it tn) (st2 : tn 0 s2.heap) (f2 : ∀ b ∈ fp, FpOk X pins H2 b)
  (W : Nat → Nat → St → List V → Hp → Prop) {m0 : Nat} (w0 : W 0 m0 (capσ cap σ) [] H2)
  (turn : ∀ i m σ' ys H', W i m σ' ys H' → (J.stop i H' ∧ ∀ D, H' D = none → Q (.ref D) (upd H' D (.lst ys))) ∨ (J.go i H' ∧ ys.length < sizeLine ∧ ∃ (N : St → V → Hp → Prop) (N0 : St → Hp → Prop), (∀ σ2 y H4, N σ2 y H4 → ∃ m', m' < m ∧ W (i + 1) m' σ2 (ys ++ [y]) H4) ∧ (∀ σ2 H4, N0 σ2 H4 → ∃ m', m' < m ∧ W (i + 1) m' σ2 ys H4) ∧
   ∀ x H2, J.yld i H' x H2 → g x σ' H2 fun σ2 H3 => tt σ2 H3 fun b H4 => if b = true then te σ2 H4 (N σ2) else N0 σ2 H4))
  (hRR : ∀ (D C : Addr) (H' : Hp) (s' : Shared) (m : Str → Option Value), Inv X pins σ H' s' → FpOk X pins H' C → C ≠ D → s'.heap.Ns C m → Q (.ref D) H' → RR (.ref D) C (.ok .next) s') :
  wpAny (model X.prog X.w) X.A (newList []) (fun acc s₃ => wpAny (model X.prog X.w) X.A (newFunctionEnv scope X.env.globals (closL X.env.cells scope.names []) [] X.env.qual none .none (some X.env)) (fun cenv s₄ =>
   codeAny (model X.prog X.w) X.A (.compStart (.ListComp elt [⟨tg, iter, ifs, 0⟩] scope pos) 0 (.ref it) acc { cenv with scope := relabel scope X.env }) (RR acc cenv.locals) s₄) E s₃) E s2 := by
 refine wpAny_newObj_type (ke3 ?_)
 dsimp only
 generalize hP : s2.heap.push { cls := .type "list", dict := none, data := .seq ([] : List Value).toArray } = P
 have hnew : CellsOk (pushCells (P.push { cls := .type "dict", data := .dict #[] }) scope.names) (P.objs.size + 1) (cellsFrom (P.objs.size + 1) scope.names []) := by
  have q := cellsFrom_ok scope.names (P.push { cls := .type "dict", data := .dict #[] }) (P.objs.size + 1) [] ⟨fun _ _ hm => (nomatch hm), Rf.nil⟩ (by rw [Heap.size_push]; exact FM _)
  rwa [Heap.size_push] at q
 have hns₁ : (pushCells (P.push { cls := .type "dict", data := .dict #[] }) scope.names).Ns P.objs.size (fun _ => none) := (Heap.Ns.new P (.type "dict")).keeps (pushCells_keeps _ _)
 have keep₁ : ∀ b o, P.get? b = some o → (pushCells (P.push { cls := .type "dict", data := .dict #[] }) scope.names).get? b = some o := fun b o e => pushCells_keeps _ _ b o (Heap.get?_push_of_some _ e)
 generalize pushCells (P.push { cls := .type "dict", data := .dict #[] }) scope.names = h₁ at hnew hns₁ keep₁ ⊢
 have hC : P.objs.size = s2.heap.objs.size + 1 := by rw [← hP, Heap.size_push]
 have hDC : s2.heap.objs.size ≠ P.objs.size := by rw [hC]; exact Cc (R1 _)
 have hCle : s2.heap.objs.size ≤ P.objs.size := by rw [hC]; exact Rm _
 have hDle : s2.heap.objs.size ≤ s2.heap.objs.size := FM _
 have old : ∀ b o, s2.heap.get? b = some o → h₁.get? b = some o := fun b o e => keep₁ b o (hP ▸ Heap.get?_push_of_some _ e)
 have hacc : h₁.get? s2.heap.objs.size = some { cls := .type "list", data := .seq ([] : List Value).toArray } := keep₁ _ _ (hP ▸ Heap.get?_push_size _ rfl)
 have hfp : ∀ b ∈ fp, b < s2.heap.objs.size := fun b hb => let ⟨_, e, _⟩ := T.obj 0 _ st2 b hb; Heap.lt_size e
 generalize hDd : s2.heap.objs.size = D at hacc hDC hDle ⊢
 rw [hDd] at hCle hC
 generalize P.objs.size = C at hnew hns₁ hC hDC hCle ⊢
 have dne : ∀ b ∈ fp, D ≠ b := fun b hb => CC (hDd ▸ hfp b hb)
 have cne : ∀ b ∈ fp, b ≠ C := fun b hb => Cc (F8 (hDd ▸ hfp b hb) hCle)
 have stkne : ∀ b ∈ fp, b ∉ frs X.stack := fun b hb hz => by
  obtain ⟨_, h1, h2, _⟩ := f2 b hb
  rcases F5.mp (I2.stkSub b hz) with e | e
  ·exact h1 e
  ·exact h2 e
 have dfs : D ∉ frs X.stack := fun hz => absurd (kg5 I2 hz) (by rw [hDd]; exact CP _)
 have dcell : ∀ x c, (kdA X scope C).lookup x = some c → c ≠ D := fun x c e z => by
  rcases kce S I2 e with e | e
  ·have q : Nat.lt C c := (hnew.empty x c (PySem.mem_of_lookup e)).2
   rw [z] at q
   exact absurd (CT hCle q) (CP _)
  ·obtain ⟨v, q⟩ := I2.cell x c e
   have := q.lt
   rw [z, hDd] at this
   exact absurd this (CP _)
 have bcell : ∀ b ∈ fp, ∀ x c, (kdA X scope C).lookup x = some c → c ≠ b := fun b hb x c e => by
  rcases kce S I2 e with e | e
  ·have q : Nat.lt C c := (hnew.empty x c (PySem.mem_of_lookup e)).2
   exact CC (Nat.lt_trans (F8 (hDd ▸ hfp b hb) hCle) q)
  ·exact (f2 b hb).2.2.2.2.1 x c e
 have stat : ∀ {o : Obj} {H' : Hp}, (∀ b ∈ fp, H' b = none) → ∀ b ∈ fp, FpOk (cxC X scope N fp s2 H2 C) [(D, o)] H' b := fun {o H'} hn b hb =>
  ⟨hn b hb, cne b hb, stkne b hb, .inl hb, bcell b hb, fun p hp => by
   have e : p = (D, o) := by simpa [cxC] using hp
   subst e
   exact dne b hb⟩
 have loop : ∀ s₃ : Shared, s₃ = { s2 with heap := h₁ } →
   codeAny (model X.prog X.w) X.A (.compLoop (.ListComp elt [⟨tg, iter, ifs, 0⟩] scope pos) 0 (.ref it) (.ref D) (compEnvC scope (kdA X scope C) C X.env)) (RR (.ref D) C) s₃ := by
  rintro s₃ rfl
  have I3 : Inv (cxC X scope N fp s2 H2 C) [(D, _)] (capσ cap σ) H2 { s2 with heap := h₁ } :=
   kiS S I2 f2 hfp old hns₁ (by rw [hDd]; exact hCle) (by rw [hDd]; exact FM _) hDC hacc (fun v z => by cases z) hnew rfl rfl
  refine kfD (fun n s' => ∃ i σ' ys H' its k, Inv (cxC X scope N fp s2 H2 C) [] σ' H' s' ∧ tn i s'.heap ∧ (∀ b ∈ fp, H' b = none) ∧ H' D = none ∧ s'.heap.get? D = some { cls := .type "list", data := .seq (its : List Value).toArray k } ∧ Vals ys its ∧ ys.length ≤ sizeLine ∧ W i n σ' ys H') ?_ m0
   ⟨0, _, [], H2, [], _, I3.pins_of (fun p hp => nomatch hp), T.keep _ _ _ st2 (fun b hb o e => old b o e), fun b hb => (f2 b hb).1, I2.hok.fresh (by rw [hDd]; exact FM _), hacc, .nil, Cm _, w0⟩
  rintro n s3 ⟨i, σ3, ys, H3, its, k, J3, st3, fr3, hD3, e3, r3, z3, w3⟩
  have J3' : Inv (cxC X scope N fp s2 H2 C) [(D, { cls := .type "list", data := .seq its.toArray k })] σ3 H3 s3 := J3.pins_of fun p hp => by
   have e : p = (D, { cls := .type "list", data := .seq its.toArray k }) := by simpa using hp
   subst e
   exact ⟨e3, hD3, hDC, dfs, fun v z => by cases z⟩
  rcases turn i n σ3 ys H3 w3 with ⟨stop, qn⟩ | ⟨go, hlt, N', N0', hN, hN0, step⟩
  ·refine thn (T.done (cxC X scope N fp s2 H2 C) rfl rfl rfl hc i _ s3 σ3 H3 (fun _ _ => False) J3' (stat fr3) st3 stop) fun r s4 ⟨hr, I4⟩ => ?_
   subst hr
   have e4 := (I4.pin (D, { cls := .type "list", data := .seq its.toArray k }) (by simp [cxC])).1
   have B : Inv X pins σ H3 s4 := comp_back I2 f2 (I4.pins_of fun p hp => nomatch hp)
   obtain ⟨m, hm, _⟩ := I4.loc
   have fD : FpOk X pins H3 D := I2.fpOk (by rw [hDd]; exact FM _) hD3
   have B' : Inv X pins σ (upd H3 D (.lst ys)) s4 := B.adopt fD (by rw [← hDd]; exact I2.sz) ⟨z3, its, k, r3, e4⟩
   refine hRR D C _ s4 m B' (I2.fpOk (by rw [hDd]; exact hCle) ?_) hDC.symm hm (qn D hD3)
   rw [kam hDC.symm]
   exact I4.free
  ·refine thn (T.item (cxC X scope N fp s2 H2 C) rfl rfl rfl hc i _ s3 σ3 H3 (fun _ _ => False) J3' (stat fr3) st3 go) fun r s4 ⟨u, hr, h4⟩ => ?_
   subst hr
   refine thn h4 fun _ s5 ⟨x, H5, I5, r5, y5, st5, fr5⟩ => ?_
   have I5' := I5.pinned (stat fr5) (T.obj _ _ st5)
   refine thn (hg fp s2 H2 C _ s5 σ3 H5 x u _ I5' r5 (step x H5 y5)) fun _ s6 ⟨σ6, H6, I6, q6⟩ => ?_
   refine thn (ht fp s2 H2 C _ s6 σ6 H6 _ I6 q6) fun ok s6' ⟨H6', I6', q6'⟩ => ?_
   cases ok with
   | false =>
    have q6' : N0' σ6 H6' := by simpa using q6'
    obtain ⟨m', hm', w7⟩ := hN0 σ6 H6' q6'
    have p7 := I6'.pin (D, { cls := .type "list", data := .seq its.toArray k }) (by simp [cxC])
    have e7 : s6'.heap.get? D = some { cls := .type "list", data := .seq its.toArray k } := p7.1
    have pf : ∀ b ∈ fp, ∀ o, s5.heap.get? b = some o → s6'.heap.get? b = some o ∧ H6' b = none := fun b hb o e =>
     let z := I6'.pin (b, o) (Cr _ (Cr _ (kcL hb e)))
     ⟨z.1, z.2.1⟩
    refine ⟨m', hm', i + 1, σ6, ys, H6', its, _, I6'.pins_of (fun p hp => nomatch hp), T.keep _ _ _ st5 (fun b hb o e => (pf b hb o e).1), fun b hb => ?_, p7.2.1, e7, r3, z3, w7⟩
    obtain ⟨o, e, _⟩ := T.obj _ _ st5 b hb
    exact (pf b hb o e).2
   | true =>
   have q6' : te σ6 H6' (N' σ6) := by simpa using q6'
   refine thn (he fp s2 H2 C _ s6' σ6 H6' _ I6' q6') fun v s7 ⟨y, H7, I7, r7, q7⟩ => ?_
   obtain ⟨m', hm', w7⟩ := hN σ6 y H7 q7
   have p7 := I7.pin (D, { cls := .type "list", data := .seq its.toArray k }) (by simp [cxC])
   have e7 : s7.heap.get? D = some { cls := .type "list", data := .seq its.toArray k } := p7.1
   have hl7 := r3.length
   refine call_meets F.slot_list_append ⟨_, e7, rfl⟩ F.entry_list_append (F.args_list_append_2 _ _) (PySem.list_append D its.toArray k v (by rw [F3]; omega)) ⟨e7, ?_⟩
   have q8 := PySem.IsL.update e7 (·.push v)
   have ex8 : its.toArray.push v = (its ++ [v]).toArray := by simp
   rw [ex8] at q8
   have pf : ∀ b ∈ fp, ∀ o, s5.heap.get? b = some o → s7.heap.get? b = some o ∧ H7 b = none := fun b hb o e =>
    let z := I7.pin (b, o) (Cr _ (Cr _ (kcL hb e)))
    ⟨z.1, z.2.1⟩
   have I7' : Inv (cxC X scope N fp s2 H2 C) [] σ6 H7 s7 := I7.pins_of fun p hp => nomatch hp
   refine ⟨m', hm', i + 1, σ6, ys ++ [y], H7, its ++ [v], _, I7'.turned (it := D) (fun b o hb e => (Heap.get?_update_other _ _ (Ne.symm hb)).trans e) p7.2.1 hDC (.inr (by show s2.heap.objs.size ≤ D; rw [hDd]; exact FM _)) dcell (fun p hp => nomatch hp),
    T.keep _ _ _ st5 (fun b hb o e => (Heap.get?_update_other _ _ (dne b hb)).trans (pf b hb o e).1), fun b hb => ?_, p7.2.1, q8, r3.append (.cons r7 .nil), by rw [Ca, R9]; omega, w7⟩
   obtain ⟨o, e, _⟩ := T.obj _ _ st5 b hb
   exact (pf b hb o e).2
 have st1 : tn 0 h₁ := T.keep _ _ _ st2 (fun b hb o e => old b o e)
 exact codeAny_compStart_list (loop _ rfl) (T.self X.A 0 _ _ _ st1 (loop _ rfl))
theorem kiD {wi : TI} (S : CompScope X scope N cap) (hc : X.calm = true) (hi : PI X tg iter wi) (hg : ∀ fp s H C, PG (cxC X scope N fp s H C) tg g) (ht : ∀ fp s H C, PIf (cxC X scope N fp s H C) ifs tt) (he : ∀ fp s H C, PE (cxC X scope N fp s H C) elt te)
  (hs : ∀ x, foldedSetIterable iter X.env x = pure x := by intro _; rfl) : PE X (.ListComp elt [⟨tg, iter, ifs, 0⟩] scope pos) (kkx wi cap g tt te) := by
 intro pins s σ H Q I h
 rw [eval_ListComp]
 refine wpAny_comprehension_free (use := none) rfl hs (kcG S I) S.kind S.names (thn (hi pins s σ H _ I h) fun v s1 h1 => thn h1 fun itv s2 h2 => ?_)
 obtain ⟨it, fp, tn, J, H2, e, I2, T, st2, f2, W, ⟨m0, w0⟩, turn⟩ := h2
 subst e
 refine kdt (RR := fun acc C => compPost (model X.prog X.w) X.A X.xe none (EP X pins σ Q) acc C) S hc hg ht he I2 T st2 f2 W w0 turn fun D C H' s' m B fC hCD hm q => ?_
 obtain ⟨c0, c1, c2, c3, c4, c5⟩ := fC
 exact ⟨m, hm, fun h' hs' => ⟨.ref D, H', B.turned (t' := s'.toks) (fun b o hb e => (hs'.2 b hb).trans e) c0 c1 c3 c4 c5, rfl, q⟩⟩
theorem kfC {J : It} {Q : VK} {W : Nat → Nat → St → List V → Hp → Prop} (h : ∀ i m σ' ys H', W i m σ' ys H' → (J.stop i H' ∧ ∀ D, H' D = none → Q (.ref D) (upd H' D (.lst ys))) ∨ (J.go i H' ∧ ys.length < sizeLine ∧ ∃ N : St → V → Hp → Prop, (∀ σ2 y H4, N σ2 y H4 → ∃ m', m' < m ∧ W (i + 1) m' σ2 (ys ++ [y]) H4) ∧
   ∀ x H2, J.yld i H' x H2 → g x σ' H2 fun σ2 H3 => te σ2 H3 (N σ2))) : ∀ i m σ' ys H', W i m σ' ys H' → (J.stop i H' ∧ ∀ D, H' D = none → Q (.ref D) (upd H' D (.lst ys))) ∨ (J.go i H' ∧ ys.length < sizeLine ∧ ∃ (N : St → V → Hp → Prop) (N0 : St → Hp → Prop), (∀ σ2 y H4, N σ2 y H4 → ∃ m', m' < m ∧ W (i + 1) m' σ2 (ys ++ [y]) H4) ∧ (∀ σ2 H4, N0 σ2 H4 → ∃ m', m' < m ∧ W (i + 1) m' σ2 ys H4) ∧
   ∀ x H2, J.yld i H' x H2 → g x σ' H2 fun σ2 H3 => tYes σ2 H3 fun b H4 => if b = true then te σ2 H4 (N σ2) else N0 σ2 H4) := by
 intro i m σ' ys H' w
 rcases h i m σ' ys H' w with h | ⟨go, hl, N, hN, st⟩
 ·exact .inl h
 ·refine .inr ⟨go, hl, N, fun _ _ => False, hN, (fun _ _ z => z.elim), fun x H2 y => ?_⟩
  have e : (fun (σ2 : St) (H3 : Hp) => tYes σ2 H3 fun b H4 => if b = true then te σ2 H4 (N σ2) else False) = fun σ2 H3 => te σ2 H3 (N σ2) := by
   funext σ2 H3
   show (if true = true then te σ2 H3 (N σ2) else False) = te σ2 H3 (N σ2)
   rw [if_pos rfl]
  rw [e]
  exact st x H2 y
theorem kbT {wi : TI} (S : CompScope X scope N cap) (hc : X.calm = true) (hi : PI X tg iter wi) (hg : ∀ fp s H C, PG (cxC X scope N fp s H C) tg g) (he : ∀ fp s H C, PE (cxC X scope N fp s H C) elt te)
  (hs : ∀ x, foldedSetIterable iter X.env x = pure x := by intro _; rfl) : PE X (.ListComp elt [⟨tg, iter, [], 0⟩] scope pos) (tComp wi cap g te) := by
 intro pins s σ H Q I h
 rw [eval_ListComp]
 refine wpAny_comprehension_free (use := none) rfl hs (kcG S I) S.kind S.names (thn (hi pins s σ H _ I h) fun v s1 h1 => thn h1 fun itv s2 h2 => ?_)
 obtain ⟨it, fp, tn, J, H2, e, I2, T, st2, f2, W, ⟨m0, w0⟩, turn⟩ := h2
 subst e
 refine kdt (RR := fun acc C => compPost (model X.prog X.w) X.A X.xe none (EP X pins σ Q) acc C) S hc hg (fun _ _ _ _ => khn) he I2 T st2 f2 W w0 (kfC turn) fun D C H' s' m B fC hCD hm q => ?_
 obtain ⟨c0, c1, c2, c3, c4, c5⟩ := fC
 exact ⟨m, hm, fun h' hs' => ⟨.ref D, H', B.turned (t' := s'.toks) (fun b o hb e => (hs'.2 b hb).trans e) c0 c1 c3 c4 c5, rfl, q⟩⟩
theorem keS {wi : TI} {i : Nat} {y : Str} {py spos : Pos} (S : CompScope X scope N cap) (hc : X.calm = true) (hi : PI X tg iter wi) (hg : ∀ fp s H C, PG (cxC X scope N fp s H C) tg g) (he : ∀ fp s H C, PE (cxC X scope N fp s H C) elt te)
  (hA : PG X (.Name y py) (gName i)) (hsw : swapsWith (.ListComp elt [⟨tg, iter, [], 0⟩] scope pos) (some (.Name y py)) spos.line X.env = pure true := by rfl)
  (hs : ∀ x, foldedSetIterable iter X.env x = pure x := by intro _; rfl) : PS X (.Assign [.Name y py] (.ListComp elt [⟨tg, iter, [], 0⟩] scope pos) spos) (tAsg (tComp wi cap g te) (gName i)) := by
 intro pins s σ H D I h
 rw [exec_Assign_Name_used _ _ _ _ hsw]
 refine wpAny_bind (wpAny_standAt (wpAny_bind ?_))
 show wpAny _ X.A (do let _ ← comprehension (.ListComp elt [⟨tg, iter, [], 0⟩] scope pos) scope X.env _ (newList []) false (eval iter X.env) (some (assign (.Name y py) X.env))) _ _ s
 refine wpAny_bind (wpAny_mono (wpAny_comprehension_free (use := some (assign (.Name y py) X.env)) (Q := fun _ s' => SP X pins D .next s') rfl hs (kcG S I) S.kind S.names
  (thn (hi pins s σ H _ I h) fun v s1 h1 => thn h1 fun itv s2 h2 => ?_)) (fun _ s' hq => wpAny_pure (wpAny_pure hq)) fun _ _ e => e)
 obtain ⟨it, fp, tn, J, H2, e, I2, T, st2, f2, W, ⟨m0, w0⟩, turn⟩ := h2
 subst e
 refine kdt (Q := fun v H' => gName i v σ H' D.nx) (RR := fun acc C => compPost (model X.prog X.w) X.A X.xe (some (assign (.Name y py) X.env)) (fun _ s' => SP X pins D .next s') acc C) S hc hg (fun _ _ _ _ => khn) he I2 T st2 f2 W w0 (kfC (Q := fun v H' => gName i v σ H' D.nx) turn) fun D' C H' s' m B fC hCD hm q => ?_
 obtain ⟨c0, c1, c2, c3, c4, c5⟩ := fC
 obtain ⟨oC, es, ep, eC, dC, kC⟩ := hm
 have B' : Inv X (pins ++ [(C, oC)]) σ H' s' := B.pins_of fun p hp => by
  rcases Cq.mp hp with hp | hp
  ·exact B.pin p (Cr _ hp)
  ·have e : p = (C, oC) := by simpa using hp
   subst e
   exact ⟨eC, c0, c1, c2, fun v z => by rw [dC] at z; cases z⟩
 refine thn (hA _ s' σ H' (.ref D') (.ref D') _ B' rfl q) fun _ s'' ⟨σ2, H3, I3, q3⟩ => ?_
 obtain ⟨e3, n3, _⟩ := I3.pin (C, oC) (Cr _ (Cr _ (by simp)))
 exact ⟨m, ⟨oC, es, ep, e3, dC, kC⟩, fun h' hs' => ⟨σ2, H3, I3.unpinned.turned (t' := s''.toks) (fun b o hb e => (hs'.2 b hb).trans e) n3 c1 c3 c4 c5, q3⟩⟩
end
section
variable {g : TG} {te : TE} {σ : St} {H : Hp} {R : List V → Hp → Addr → Prop}
theorem kbI {K : FK} {a : Addr} {xs : List V} (Pv : Nat → St → List V → Hp → Prop) (h0 : Pv 0 σ [] H) (hz : xs.length ≤ sizeLine) (hl : ∀ i σ ys H, i ≤ xs.length → Pv i σ ys H → SqL K H a xs ∧ ys.length = i)
  (hs : ∀ i x σ ys H, xs[i]? = some x → Pv i σ ys H → g x σ H fun σ2 H2 => te σ2 H2 fun y H3 => Pv (i + 1) σ2 (ys ++ [y]) H3) (hd : ∀ σ ys H, Pv xs.length σ ys H → ∀ D, H D = none → R ys H D) :
  ∃ W : Nat → Nat → St → List V → Hp → Prop, (∃ m, W 0 m σ [] H) ∧ ∀ i m σ' ys H', W i m σ' ys H' →
   ((Itl K a).stop i H' ∧ ∀ D, H' D = none → R ys H' D) ∨ ((Itl K a).go i H' ∧ ys.length < sizeLine ∧ ∃ N : St → V → Hp → Prop, (∀ σ2 y H4, N σ2 y H4 → ∃ m', m' < m ∧ W (i + 1) m' σ2 (ys ++ [y]) H4) ∧
    ∀ x H2, (Itl K a).yld i H' x H2 → g x σ' H2 fun σ2 H3 => te σ2 H3 (N σ2)) := by
 refine ⟨fun i m σ ys H => m = xs.length - i ∧ i ≤ xs.length ∧ Pv i σ ys H, ⟨xs.length, by simp, Cm _, h0⟩, ?_⟩
 rintro i m σ ys H ⟨rfl, hi, p⟩
 obtain ⟨q, el⟩ := hl i σ ys H hi p
 by_cases hlt : i < xs.length
 ·refine .inr ⟨⟨xs, xs[i], q, by simp [hlt]⟩, by omega, fun σ2 y H3 => Pv (i + 1) σ2 (ys ++ [y]) H3, fun σ' y H' p' => ⟨xs.length - (i + 1), by omega, rfl, hlt, p'⟩, fun x H' yl => ?_⟩
  obtain ⟨e, yl⟩ := yl
  subst e
  exact hs i x σ ys _ (yl xs q) p
 ·have e : i = xs.length := by omega
  subst e
  exact .inl ⟨⟨xs, q, FM _⟩, hd σ ys H p⟩
theorem keF {lo : Int} {n : Nat} (Pv : Nat → St → List V → Hp → Prop) (h0 : Pv 0 σ [] H) (hz : n ≤ sizeLine) (hl : ∀ i σ ys H, i ≤ n → Pv i σ ys H → ys.length = i)
  (hs : ∀ i σ ys H, i < n → Pv i σ ys H → g (.int (lo + i)) σ H fun σ2 H2 => te σ2 H2 fun y H3 => Pv (i + 1) σ2 (ys ++ [y]) H3) (hd : ∀ σ ys H, Pv n σ ys H → ∀ D, H D = none → R ys H D) :
  ∃ W : Nat → Nat → St → List V → Hp → Prop, (∃ m, W 0 m σ [] H) ∧ ∀ i m σ' ys H', W i m σ' ys H' →
   ((Itr lo n).stop i H' ∧ ∀ D, H' D = none → R ys H' D) ∨ ((Itr lo n).go i H' ∧ ys.length < sizeLine ∧ ∃ N : St → V → Hp → Prop, (∀ σ2 y H4, N σ2 y H4 → ∃ m', m' < m ∧ W (i + 1) m' σ2 (ys ++ [y]) H4) ∧
    ∀ x H2, (Itr lo n).yld i H' x H2 → g x σ' H2 fun σ2 H3 => te σ2 H3 (N σ2)) := by
 refine ⟨fun i m σ ys H => m = n - i ∧ i ≤ n ∧ Pv i σ ys H, ⟨n, by simp, Cm _, h0⟩, ?_⟩
 rintro i m σ ys H ⟨rfl, hi, p⟩
 have el := hl i σ ys H hi p
 by_cases hlt : i < n
 ·refine .inr ⟨hlt, by omega, fun σ2 y H3 => Pv (i + 1) σ2 (ys ++ [y]) H3, fun σ' y H' p' => ⟨n - (i + 1), by omega, rfl, hlt, p'⟩, fun x H' yl => ?_⟩
  obtain ⟨e, yl⟩ := yl
  subst e yl
  exact hs i σ ys _ hlt p
 ·have e : i = n := by omega
  subst e
  exact .inl ⟨FM _, hd σ ys H p⟩
end
theorem CompScope.plain {X : Cx} {scope : Scope} {N : List Str} (kind : scope.kind = .function) (names : ∀ x ∈ scope.names, x.2 = .local → scope.names.lookup x.1 = some .local) (_ : ∀ x ∈ scope.names, x.2 ≠ .cell) (nf : ∀ x ∈ scope.names, x.2 ≠ .free) (nd : N.Nodup) :
  CompScope X scope N (FO N.length none) := by
 refine ⟨kind, names, fun x hx hf => absurd hf (nf x hx), nd, by simp, fun j i x e _ => ?_⟩
 rw [R6] at e
 split at e
 ·cases e
 ·cases e
noncomputable def kju (scope : Scope) (ns : List (Str × NameKind)) (XN N : List Str) (cap : List (Option Nat)) : Bool :=
 scope.kind == .function && scope.names.all (fun x => !(x.2 == .local) || scope.names.lookup x.1 == some .local) && scope.names.all (fun x => !(x.2 == .free) || (ns.lookup x.1 == some .cell || ns.lookup x.1 == some .free)) && decide N.Nodup && decide (cap.length = N.length) &&
  (cap.zip N).all fun p => match p.1 with
   | none => true
   | some i => XN[i]? == some p.2 && scope.names.lookup p.2 == some .free && scope.names.all fun y => !(y.1 == p.2 && y.2 == .cell)
theorem CompScope.of {X : Cx} {scope : Scope} {N : List Str} {cap : List (Option Nat)} (ns : List (Str × NameKind)) (XN : List Str) (hn : X.env.scope.names = ns) (hN : X.N = XN) (h : kju scope ns XN N cap = true) : CompScope X scope N cap := by
 unfold kju at h
 simp only [Re, decide_eq_true_eq, Rg, Sb, Bool.not_eq_true', beq_iff_eq, beq_eq_false_iff_ne] at h
 obtain ⟨⟨⟨⟨⟨h1, h2⟩, h3⟩, h4⟩, h5⟩, h6⟩ := h
 refine ⟨h1, fun x hx hl => ?_, fun x hx hf => ?_, h4, h5, fun j i x e1 e2 => ?_⟩
 ·rcases h2 x hx with q | q
  ·exact absurd hl q
  ·exact q
 ·rw [hn]
  rcases h3 x hx with q | q
  ·exact absurd hf q
  ·exact q
 ·have hz : (cap.zip N)[j]? = some (some i, x) := by
   rw [List.getElem?_zip_eq_some]
   exact ⟨e1, e2⟩
  have q := h6 _ (FV hz)
  simp only [Re, beq_iff_eq, Rg, Bool.not_eq_true', Bool.and_eq_false_iff, beq_eq_false_iff_ne] at q
  obtain ⟨⟨q1, q2⟩, q3⟩ := q
  refine ⟨by rw [hN]; exact q1, q2, fun z => ?_⟩
  rcases q3 _ z with q | q
  ·exact q rfl
  ·exact q rfl
end L2
namespace L2
open PySem PySem.Spec PyProof.Rows
theorem Inv.turnedL {X : Cx} {pins : List (Addr × Obj)} {σ : St} {H : Hp} {s : Shared} {h' : Heap} {t' : Nat} {ch : List Addr} (I : Inv X pins σ H s) (k : ∀ b o, b ∉ ch → s.heap.get? b = some o → h'.get? b = some o) (hf : ∀ b ∈ ch, FpOk X pins H b) :
  Inv X pins σ H { s with heap := h', toks := t' } := by
 have nch : ∀ b u, H b = some u → b ∉ ch := fun b u e z => by
  have := (hf b z).1
  rw [this] at e
  cases e
 refine I.step (g' := s.gens) (d' := s.drawn) (ch := ch) (fun b hb => let ⟨_, h1, _, h3, h4, h5⟩ := hf b hb; ⟨h3, h1, h4, h5⟩) (fun b o _ _ hc e _ => k b o hc e) (fun b o _ _ hc e _ => ⟨o.slots, k b o hc e⟩) (fun _ _ _ _ n => n)
  (fun b o hc e => ⟨o, k b o hc e⟩) (fun _ _ e => e) (fun _ _ _ e => e) (fun b ps e => ⟨#[], by rw [e]; simp⟩) (fun m hm => ?_) (fun b u e => ?_) I.bare
 ·obtain ⟨o, es, ep, ho, r⟩ := hm
  exact ⟨o, es, ep, k _ o (fun z => (hf _ z).2.1 rfl) ho, r⟩
 ·refine (I.hok b u e).stay (fun c v hc q => k c v ?_ q) (fun _ q => q) fun _ _ q => q
  rcases hc with z | z
  ·rw [z]; exact nch b u e
  ·exact nch c _ z
noncomputable def Ite (a : Addr) : It := ⟨fun i H => ∃ xs x, H a = some (.lst xs) ∧ xs[i]? = some x, fun i H x H' => ∃ t y, H t = none ∧ x = .ref t ∧ H' = upd H t (.tup [.int i, y]) ∧ ∀ xs, H a = some (.lst xs) → xs[i]? = some y, fun i H => ∃ xs, H a = some (.lst xs) ∧ xs.length ≤ i⟩
theorem kg1 {P : Program} {w : World} {K : FK} {es : List Expr} {k : Nat} {pos : Pos} (a e it : Addr) (hne : e ≠ it) : Turn P w K (.Tuple es k pos) (Ite a) [e, it] e (fun i h => (∃ old, IsEnum h e it ((i : Nat) : Int) old) ∧ h.IsListIter it a i) where
 mem := by simp
 obj := fun i h st b hb => by
  obtain ⟨⟨old, he⟩, o, eo, c, d⟩ := st
  have hb' : b = e ∨ b = it := by simpa using hb
  rcases hb' with rfl | rfl
  ·exact ⟨_, he, fun v z => by
    have z' : Data.fields _ = Data.cell v := z
    cases z'⟩
  ·exact ⟨o, eo, fun v z => by rw [d] at z; cases z⟩
 keep := fun i h h' st k => ⟨let ⟨old, he⟩ := st.1; ⟨old, k e (by simp) _ he⟩, st.2.at fun o eo => k it (by simp) o eo⟩
 item := by
  intro X hP hw hK hc i pins s σ H E I hf st hg
  subst hP hw hK
  obtain ⟨⟨old, he⟩, hit⟩ := st
  obtain ⟨xs, x, hq, hx⟩ := hg
  obtain ⟨its, n, r, ho, hz⟩ := I.lst hq
  obtain ⟨u, hu, ru⟩ := r.get hx
  have hl : s.heap.IsList a its.toArray := ⟨_, ho, rfl, n, rfl⟩
  refine wpAny_pyNext_enum_item he hit hl (x := u) (by simpa using hu) hne fun h1 heo hit1 ht1 hz1 hk1 => ?_
  refine ⟨.ref s.heap.objs.size, rfl, wpAny_letOwnedTupleGo_enum heo fun h2 he2 hs2 => ?_⟩
  have hs2' : Heap.SameBut e h1 h2 := hs2
  have el : e < s.heap.objs.size := Heap.lt_size he
  have kk : ∀ b o, b ∉ [e, it] → s.heap.get? b = some o → h2.get? b = some o := fun b o hb eo => by
   have hb' : b ≠ e ∧ b ≠ it := by simpa using hb
   exact (hs2'.2 b hb'.1).trans (hk1 b o hb'.1 hb'.2 eo)
  have I1 : Inv X pins σ H { s with heap := h2, toks := s.toks + 1 } := I.turnedL (ch := [e, it]) kk hf
  have fr : H s.heap.objs.size = none := I.hok.fresh (FM _)
  have ft : FpOk X pins H s.heap.objs.size := I.fpOk (FM _) fr
  have ht2 : h2.get? s.heap.objs.size = some { cls := .type "tuple", data := .seq #[.int i s.toks, u] } := (hs2'.2 _ (CC el)).trans ht1
  have I2 : Inv X pins σ (upd H s.heap.objs.size (.tup [.int i, x])) { s with heap := h2, toks := s.toks + 1 } :=
   I1.adopt ft I.sz ⟨by show 2 ≤ sizeLine; decide, [.int i s.toks, u], .cons ⟨_, rfl⟩ (.cons ru .nil), _, ht2, rfl, _, rfl⟩
  have hit2 : h2.IsListIter it a (i + 1) := hit1.extBut hs2'.extBut (Ne.symm hne)
  refine ⟨.ref s.heap.objs.size, _, I2, rfl, ⟨s.heap.objs.size, x, fr, rfl, rfl, fun ys hy => by rw [hq] at hy; cases hy; exact hx⟩, ⟨⟨u, ?_⟩, hit2⟩, fun b hb => ?_⟩
  ·have e1 : ((i + 1 : Nat) : Int) = (i : Int) + 1 := rfl
   rw [e1]
   exact he2
  ·have hbl : b < s.heap.objs.size := by
    have hb' : b = e ∨ b = it := by simpa using hb
    rcases hb' with rfl | rfl
    ·exact el
    ·obtain ⟨o, eo, _⟩ := hit
     exact Heap.lt_size eo
   rw [kam (Cc hbl)]
   exact (hf b hb).1
 done := by
  intro X hP hw hK hc i pins s σ H E I hf st hg
  subst hP hw hK
  obtain ⟨⟨old, he⟩, hit⟩ := st
  obtain ⟨xs, hq, hx⟩ := hg
  obtain ⟨its, n, r, ho, hz⟩ := I.lst hq
  have hl : s.heap.IsList a its.toArray := ⟨_, ho, rfl, n, rfl⟩
  have hlen := r.length
  obtain ⟨f0, f1, f2, f3, f4, f5⟩ := hf it (by simp)
  exact wpAny_pyNext_enum_end (I.ok.hd hc) he hit hl (by simp; omega) fun h' eb => ⟨rfl, I.turned (t' := s.toks) (fun b o hb e => eb b o hb e) f0 f1 f3 f4 f5⟩
 self := fun _ _ _ _ _ st h => let ⟨_, he⟩ := st.1; wpAny_pyIter_enum he h
section
variable {X : Cx}
noncomputable def iEnum (ta : TA) : TI := fun σ H R => ta σ H fun vs H1 => ∃ a xs, vs = [.ref a] ∧ H1 a = some (.lst xs) ∧ R (Ite a) H1
theorem kho {es : List Expr} {k : Nat} {tpos : Pos} {e : Expr} {ta : TA} {p pos : Pos} (hg : Gl X "enumerate") (hm : X.mg "enumerate" = none) (ha : PA X [e] ta) (he : starEach [e] X.env = (false, eval e X.env) :: starEach [] X.env := by rfl)
  (hpl : (backTo pos (starEach [] X.env)).any (·.1) = false := by rfl) : PI X (.Tuple es k tpos) (.Call (.Name "enumerate" p) [e] [] pos) (iEnum ta) := by
 intro pins s σ H R I h
 refine Call_ (kdy I hg hm boot_enumerate (PyProof.Rows.callWith_type1 (thn (ha pos pins s σ H _ I h) fun us s1 ⟨vs, H1, I1, r1, q1⟩ => ?_) he hpl))
 obtain ⟨a, xs, rfl, hq, q⟩ := q1
 obtain ⟨u, rfl, rx⟩ := vals1 r1
 cases rx
 obtain ⟨its, n, r, ho, hz⟩ := I1.lst hq
 refine call_enumerate_1 ho fun h' he' hit' hsz hk => wpAny_pyIter_enum he' ?_
 have I2 : Inv X pins σ H1 { s1 with heap := h' } := I1.kept (t' := s1.toks) hk
 refine ⟨s1.heap.objs.size + 1, [s1.heap.objs.size + 1, s1.heap.objs.size], _, _, H1, rfl, I2, kg1 a (s1.heap.objs.size + 1) s1.heap.objs.size (Nat.succ_ne_self _), ⟨⟨_, he'⟩, hit'⟩, fun b hb => ?_, q⟩
 have hb' : b = s1.heap.objs.size + 1 ∨ b = s1.heap.objs.size := by simpa using hb
 have hle : s1.heap.objs.size ≤ b := by rcases hb' with rfl | rfl <;> omega
 exact I1.fpOk hle (I1.hok.fresh hle)
end
theorem kiY {a : Addr} {xs : List V} {g : TG} {tb : TS} {D : Ends} {σ : St} {H : Hp} (Pv : Nat → St → Hp → Prop) (h0 : Pv 0 σ H) (hl : ∀ i σ H, i ≤ xs.length → Pv i σ H → H a = some (.lst xs))
  (hs : ∀ i y t σ H, xs[i]? = some y → Pv i σ H → H t = none → g (.ref t) σ (upd H t (.tup [.int (i : Nat), y])) fun σ2 H2 => tb { D with nx := Pv (i + 1), ct := Pv (i + 1), bk := D.nx } σ2 H2) (hd : ∀ σ H, Pv xs.length σ H → D.nx σ H) :
  ∃ W : Nat → Nat → St → Hp → Prop, (∃ m, W 0 m σ H) ∧ ∀ i m σ H, W i m σ H →
   ((Ite a).stop i H ∧ D.nx σ H) ∨ ((Ite a).go i H ∧ ∃ N : St → Hp → Prop, (∀ σ' H', N σ' H' → ∃ m', m' < m ∧ W (i + 1) m' σ' H') ∧ ∀ x H', (Ite a).yld i H x H' → g x σ H' fun σ2 H2 => tb { D with nx := N, ct := N, bk := D.nx } σ2 H2) := by
 refine ⟨fun i m σ H => m = xs.length - i ∧ i ≤ xs.length ∧ Pv i σ H, ⟨xs.length, by simp, Cm _, h0⟩, ?_⟩
 rintro i m σ H ⟨rfl, hi, p⟩
 have q := hl i σ H hi p
 by_cases hlt : i < xs.length
 ·refine .inr ⟨⟨xs, xs[i], q, by simp [hlt]⟩, Pv (i + 1), fun σ' H' p' => ⟨xs.length - (i + 1), by omega, rfl, hlt, p'⟩, fun x H' y => ?_⟩
  obtain ⟨t, y, hn, rfl, rfl, hy⟩ := y
  exact hs i y t σ _ (hy xs q) p hn
 ·have e : i = xs.length := by omega
  subst e
  exact .inl ⟨⟨xs, q, FM _⟩, hd σ H p⟩
section
variable {X : Cx}
theorem kgB : ∀ {bs : List Bool} {us : List Value} {i : Nat} {v : Value}, Vals (bs.map V.bl) us → us[i]? = some v → ∃ b, bs[i]? = some b ∧ v = .bool b
 | [], _, _, _, .nil, e => by simp at e
 | b :: bs, u :: us, 0, v, .cons r _, e => by
  have e' : u = v := by simpa using e
  subst e'
  exact ⟨b, rfl, r⟩
 | b :: bs, u :: us, i + 1, v, .cons _ t, e => by
  obtain ⟨b', h1, h2⟩ := kgB (i := i) (v := v) t (by simpa using e)
  exact ⟨b', by simpa using h1, h2⟩
theorem ki3 (hc : X.calm = true) : CallR X (.builtin "all") (fun xs H Q => ∃ (p : Addr) (bs : List Bool), xs = [.ref p] ∧ SqL X.K H p (bs.map V.bl) ∧ Q (.bl (bs.all id)) H) := by
 intro pins s σ H xs us Q I r h
 obtain ⟨p, bs, rfl, hq, q⟩ := h
 obtain ⟨u, rfl, rx⟩ := vals1 r
 cases rx
 obtain ⟨its, r', pl, hz⟩ := I.list hq
 have hl := pl.isList
 have hlt : p < s.heap.objs.size := by obtain ⟨_, e, _⟩ := hl; exact Heap.lt_size e
 have hlen := r'.length
 refine call_all_walk (wpAny_pyIter_list hl ?_)
 refine ⟨s.heap.objs.size, [s.heap.objs.size, p], [s.heap.objs.size], its.toArray.size, _, _, fun i => (bs[i]?).getD true, rfl, Walks.list (A := X.A.in1) (I.ok.hd hc) _ p (Cc hlt) its.toArray,
  ⟨⟨_, Heap.get?_push_size _ rfl, rfl, rfl⟩, hl.push _⟩, fun i v s' Q' E' hP hQ => ?_, fun h' tk hk => ?_⟩
 ·obtain ⟨b, e, rfl⟩ := kgB (i := i) (v := v) r' (by simpa using hP)
  simp only [e, Option.getD_some] at hQ
  exact wpAny_truthy_bool hQ
 ·have e : ((FU its.toArray.size).all fun i => (bs[i]?).getD true) = bs.all id := by
   rw [F3, ← hlen, FJ]
   exact LSm.range_all bs
  rw [e]
  exact ⟨.bl _, H, I.kept (LSm.kept_iter hk), rfl, q⟩
theorem b_all : bootBuiltins "all" = some (.builtin "all") := by decide +kernel
noncomputable def kj2 : V → List V → Hp → VK → Prop := fun x vs H Q => ∃ (l : Addr) (xs : List V) (k : Int) (y : V), x = .ref l ∧ vs = [.int k, y] ∧ H l = some (.lst xs) ∧ 0 ≤ k ∧ k ≤ xs.length ∧ xs.length < sizeLine ∧ Q .non (upd H l (.lst (xs.take k.toNat ++ y :: xs.drop k.toNat)))
theorem kkk (its : List Value) (k : Nat) (u : Value) : (its.toArray.extract 0 k).push u ++ its.toArray.extract k = (its.take k ++ u :: its.drop k).toArray := by
 apply Array.ext'
 simp
 exact Cz (by simp)
theorem khx : MtM X "list.insert" kj2 := by
 intro pins s σ H x vs v us Q I rx rv h
 obtain ⟨l, xs, k, y, rfl, rfl, hH, hk0, hk, hz, q⟩ := h
 cases rx
 obtain ⟨uk, u, rfl, ⟨t, rfl⟩, ru⟩ := rv.two
 obtain ⟨z, its, n, r, hl, e⟩ := I.lstM hH
 have hn := kfy
 have hfit : ¬ (!Builtin.List.listFitsIndex k) = true := by
  unfold Builtin.List.listFitsIndex
  simp
  omega
 have hsz : its.toArray.size ≤ sizeLine := by rw [F3]; omega
 refine call_meets F.slot_list_insert ⟨_, e, rfl⟩ F.entry_list_insert (F.args_list_insert_3 _ _ _) (AutoSeq1.list_insert_list_int_val_1 l its.toArray n k t u hfit hsz) ⟨e, ?_⟩
 refine ⟨.non, _, I.lset (its' := its.take k.toNat ++ u :: its.drop k.toNat) hH e ?_ ((r.take k.toNat).append (.cons ru (r.drop k.toNat))) ?_, rfl, q⟩
 ·have e1 : (if k < 0 then (k + (its.toArray.size : Int)).toNat else min k.toNat its.toArray.size) = k.toNat := by
   rw [if_neg (by omega), Ro (by simp; omega)]
  show (its.toArray.extract 0 (if k < 0 then (k + (its.toArray.size : Int)).toNat else min k.toNat its.toArray.size)).push u ++ its.toArray.extract (if k < 0 then (k + (its.toArray.size : Int)).toNat else min k.toNat its.toArray.size) = _
  rw [e1]
  exact kkk its k.toNat u
 ·simp
  omega
end
section
variable {X : Cx}
end
end L2
namespace L2
open PySem PySem.Spec PyProof.Rows
section
variable {prog : Program} {w : World} {A : Around} {E : Value → Shared → Prop} {s : Shared}
end
section
variable {X : Cx}
end
section
variable {X : Cx} {CX : CXT} {k : Nat} {f C : Addr} {fd : FuncData} {ps ks : List Str} {sp : Sp} {E : XK} {x : Str} {p pos : Pos} {e : Expr} {es : List Expr} {kws : List Keyword} {t tk : TA} {g : List Value → List Value → List Value} {gV : List V → List V → List V}
end
end L2
namespace L2
open PySem PySem.Spec PyProof.Rows
noncomputable def kj0 (K : FK) : List V → Hp → VK → Prop := fun xs H Q => ∃ p ys, xs = [.ref p] ∧ (SqL K H p ys ∨ SqT K H p ys) ∧ ∀ l, H l = none → Q (.ref l) (upd H l (.lst ys))
noncomputable def kj1 (K : FK) : List V → Hp → VK → Prop := fun xs H Q => ∃ p ys, xs = [.ref p] ∧ (SqL K H p ys ∨ SqT K H p ys) ∧ Q (.int ys.length) H
section
variable {X : Cx} {K : FK} {pos : Pos}
theorem kck {e : Expr} {ta : TE} {f : Str} (he : PE X e ta) (hb : attributeBase e f X.env (eval e X.env) = eval e X.env) (hK : X.K = K := by rfl) : PE X (.Attribute e f pos) (tFld K ta f) := by
 subst hK
 exact kap he hb
theorem kdk {es : List Expr} {k : Nat} {t : TGs} {n : Nat} (hc : X.calm = true) (h : PGs X es t) (hK : X.K = K := by rfl)
  (hn : (assignEach es X.env).length = n := by rfl) (hst : (assignEach es X.env).findIdx? (·.1) = none := by rfl) : PG X (.Tuple es k pos) (gTup K n t) := by
 subst hK
 exact kcZ hc h hn hst
end
end L2
namespace L2
open PySem PySem.Spec PyProof.Rows
inductive DEq (K : FK) (H : Hp) : Nat → V → V → Prop
 | flat {n : Nat} {x y : V} (fx : flatV x = true) (fy : flatV y = true) (e : eqV x y = true) : DEq K H n x y
 | same {n : Nat} (a : Addr) : DEq K H n (.ref a) (.ref a)
 | lst {n : Nat} {a b : Addr} {xs ys : List V} (ha : SqL K H a xs) (hb : SqL K H b ys) (hl : xs.length = ys.length) (h : ∀ (i : Nat) (x y : V), xs[i]? = some x → ys[i]? = some y → DEq K H n x y) : DEq K H (n + 1) (.ref a) (.ref b)
 | tup {n : Nat} {a b : Addr} {xs ys : List V} (ha : SqT K H a xs) (hb : SqT K H b ys) (hl : xs.length = ys.length) (h : ∀ (i : Nat) (x y : V), xs[i]? = some x → ys[i]? = some y → DEq K H n x y) : DEq K H (n + 1) (.ref a) (.ref b)
theorem DEq.self {K : FK} {H : Hp} {n : Nat} {x : V} (h : flatV x = true) : DEq K H n x x := .flat h h (kgz h)
theorem DEq.int {K : FK} {H : Hp} {n : Nat} (i : Int) : DEq K H n (.int i) (.int i) := .self rfl
theorem DEq.bl {K : FK} {H : Hp} {n : Nat} (i : Bool) : DEq K H n (.bl i) (.bl i) := .self rfl
theorem DEq.non {K : FK} {H : Hp} {n : Nat} : DEq K H n .non .non := .self rfl
theorem DEq.str {K : FK} {H : Hp} {n : Nat} (i : Str) : DEq K H n (.str i) (.str i) := .self rfl
theorem DEq.flats {K : FK} {H : Hp} {n : Nat} {a b : Addr} {xs : List V} (ha : SqL K H a xs) (hb : SqL K H b xs) (f : xs.all flatV = true) : DEq K H (n + 1) (.ref a) (.ref b) :=
 .lst ha hb rfl fun i x y e1 e2 => by
  rw [e1] at e2
  cases e2
  exact .self (Rg.mp f _ (FV e1))
section
variable {X : Cx}
theorem all_true (n : Nat) : (FU n).all (fun _ => true) = true := by simp
theorem kdz {xs : List V} {us : List Value} (r : Vals xs us) {j : Nat} (h : j < us.toArray.size) : ∃ x, xs[j]? = some x ∧ RelV x us.toArray[j] := by
 have h' : j < us.length := by simpa using h
 have l := r.length
 obtain ⟨u, e, ru⟩ := r.get (i := j) (x := xs[j]'(by omega)) (by simp [show j < xs.length by omega])
 refine ⟨xs[j]'(by omega), by simp [show j < xs.length by omega], ?_⟩
 have : us.toArray[j] = u := by
  obtain ⟨_, e'⟩ := FZ.mp e
  simpa using e'
 rw [this]
 exact ru
theorem kjs {pins : List (Addr × Obj)} {σ : St} {H : Hp} {s : Shared} (I : Inv X pins σ H s) {n : Nat} {x y : V} (h : DEq X.K H n x y) : ∀ {A : Around} {u w : Value}, A.units + n < cLine → RelV x u → RelV y w → SeqAt.EqAt A s u w true := by
 induction h with
 | flat fx fy e =>
  intro A u w _ r1 r2
  have := kh0 (A := A) (s := s) r1 r2 fx fy
  rw [e] at this
  exact this
 | same a =>
  intro A u w _ r1 r2
  cases r1
  cases r2
  exact SeqAt.EqAt.same _
 | @lst n a b xs ys ha hb hl h ih =>
  intro A u w hu r1 r2
  cases r1
  cases r2
  by_cases e : a = b
  ·subst e
   exact SeqAt.EqAt.same _
  obtain ⟨us, q1, p1, z1⟩ := I.list ha
  obtain ⟨ws, q2, p2, z2⟩ := I.list hb
  have l1 := q1.length
  have l2 := q2.length
  have key := SeqAt.RcAt.lists (A := A) (e := fun _ => true) p1.isList p2.isList (by simp; omega) (by omega) fun j h1 h2 => by
   obtain ⟨x, e1, g1⟩ := kdz q1 h1
   obtain ⟨y, e2, g2⟩ := kdz q2 h2
   exact ih j x y e1 e2 (A := A.in1) (by show A.units + 1 + n < cLine; omega) g1 g2
  rw [all_true] at key
  exact SeqAt.EqAt.of_refs e key
 | @tup n a b xs ys ha hb hl h ih =>
  intro A u w hu r1 r2
  cases r1
  cases r2
  by_cases e : a = b
  ·subst e
   exact SeqAt.EqAt.same _
  obtain ⟨us, q1, p1, z1⟩ := I.tuple ha
  obtain ⟨ws, q2, p2, z2⟩ := I.tuple hb
  have l1 := q1.length
  have l2 := q2.length
  have key := SeqAt.RcAt.tuples (A := A) (e := fun _ => true) p1 p2 (by omega) fun j h1 h2 => by
   obtain ⟨x, e1, g1⟩ := kdz q1 h1
   obtain ⟨y, e2, g2⟩ := kdz q2 h2
   exact ih j x y e1 e2 (A := A.in1) (by show A.units + 1 + n < cLine; omega) g1 g2
  rw [all_true, show (us.toArray.size == ws.toArray.size) = true by simp; omega] at key
  exact SeqAt.EqAt.of_refs e key
noncomputable def kkI (K : FK) (b : Bool) : R2 := fun x y H Q => ∃ (a c : Addr) (xs ys : List V), x = .ref a ∧ y = .ref c ∧ ((SqL K H a xs ∧ SqL K H c ys) ∨ (SqT K H a xs ∧ SqT K H c ys)) ∧ xs.length = ys.length ∧ (∀ (i : Nat) (x y : V), xs[i]? = some x → ys[i]? = some y → DEq K H 32 x y) ∧ Q (.bl b) H
theorem kkO (hu : X.A.units + 64 < cLine) : OpR X (compareOp .NotEq) (kkI X.K false) := by
 intro pins s σ H x y v u Q I rx ry h
 obtain ⟨a, c, xs, ys, rfl, rfl, hq, hl, hd, q⟩ := h
 cases rx
 cases ry
 show wpAny _ _ (richCompare .NotEq (.ref a) (.ref c)) _ _ s
 rcases hq with ⟨ha, hb⟩ | ⟨ha, hb⟩
 ·obtain ⟨us, q1, p1, z1⟩ := I.list ha
  obtain ⟨ws, q2, p2, z2⟩ := I.list hb
  have l1 := q1.length
  have l2 := q2.length
  refine SeqAt.RcNeAt.lists (e := fun _ => true) p1.isList p2.isList (by simp; omega) (by omega) (fun j h1 h2 => ?_) _ _ _ _ ⟨.bl false, H, I, ?_, q⟩
  ·obtain ⟨x, e1, g1⟩ := kdz q1 h1
   obtain ⟨y, e2, g2⟩ := kdz q2 h2
   exact kjs I (hd j x y e1 e2) (by show X.A.units + 1 + 32 < cLine; omega) g1 g2
  ·rw [all_true]
   rfl
 ·obtain ⟨us, q1, p1, z1⟩ := I.tuple ha
  obtain ⟨ws, q2, p2, z2⟩ := I.tuple hb
  have l1 := q1.length
  have l2 := q2.length
  refine SeqAt.RcNeAt.tuples (e := fun _ => true) p1 p2 (by omega) (fun j h1 h2 => ?_) _ _ _ _ ⟨.bl false, H, I, ?_, q⟩
  ·obtain ⟨x, e1, g1⟩ := kdz q1 h1
   obtain ⟨y, e2, g2⟩ := kdz q2 h2
   exact kjs I (hd j x y e1 e2) (by show X.A.units + 1 + 32 < cLine; omega) g1 g2
  ·rw [all_true, show (us.toArray.size == ws.toArray.size) = true by simp; omega]
   rfl
end
noncomputable def Itz (a b : Addr) : It := ⟨fun i H => ∃ xs ys x y, H a = some (.lst xs) ∧ H b = some (.lst ys) ∧ xs[i]? = some x ∧ ys[i]? = some y,
 fun i H v H' => ∃ t x y, H t = none ∧ v = .ref t ∧ H' = upd H t (.tup [x, y]) ∧ (∀ xs, H a = some (.lst xs) → xs[i]? = some x) ∧ ∀ ys, H b = some (.lst ys) → ys[i]? = some y,
 fun i H => ∃ xs ys, H a = some (.lst xs) ∧ H b = some (.lst ys) ∧ (xs.length ≤ i ∨ ys.length ≤ i)⟩
theorem kii {P : Program} {w : World} {K : FK} {es : List Expr} {k : Nat} {pos : Pos} (a b z TI TO i1 i2 : Addr) (nd : [z, TI, TO, i1, i2].Nodup) :
  Turn P w K (.Tuple es k pos) (Itz a b) [z, TI, TO, i1, i2] z (fun i h => IsZip h z TI TO .none ∧ IsPair h TI (.ref i1) (.ref i2) ∧ (∃ u v, IsPair h TO u v) ∧ h.IsListIter i1 a i ∧ h.IsListIter i2 b i) where
 mem := by simp
 obj := fun i h st b hb => by
  obtain ⟨hz, hI, ⟨_, _, hO⟩, ⟨o1, e1, _, d1⟩, ⟨o2, e2, _, d2⟩⟩ := st
  simp only [F5, CA, or_false] at hb
  rcases hb with rfl | rfl | rfl | rfl | rfl
  ·exact ⟨_, hz, fun v q => by cases (show Data.fields _ = Data.cell v from q)⟩
  ·exact ⟨_, hI, fun v q => by cases (show Data.seq _ _ = Data.cell v from q)⟩
  ·exact ⟨_, hO, fun v q => by cases (show Data.seq _ _ = Data.cell v from q)⟩
  ·exact ⟨o1, e1, fun v q => by rw [d1] at q; cases q⟩
  ·exact ⟨o2, e2, fun v q => by rw [d2] at q; cases q⟩
 keep := fun i h h' st kk => by
  obtain ⟨hz, hI, ⟨u, v, hO⟩, h1, h2⟩ := st
  exact ⟨kk z (by simp) _ hz, kk TI (by simp) _ hI, ⟨u, v, kk TO (by simp) _ hO⟩, h1.at fun o e => kk i1 (by simp) o e, h2.at fun o e => kk i2 (by simp) o e⟩
 item := by
  intro X hP hw hK hc i pins s σ H E I hf st hg
  subst hP hw hK
  obtain ⟨hz, hI, ⟨u, v, hO⟩, h1, h2⟩ := st
  obtain ⟨xs, ys, x, y, ha, hb, hx, hy⟩ := hg
  obtain ⟨its1, n1, r1, ho1, _⟩ := I.lst ha
  obtain ⟨its2, n2, r2, ho2, _⟩ := I.lst hb
  obtain ⟨u1, g1, ru1⟩ := r1.get hx
  obtain ⟨u2, g2, ru2⟩ := r2.get hy
  have L1 : s.heap.IsList a its1.toArray := ⟨_, ho1, rfl, n1, rfl⟩
  have L2' : s.heap.IsList b its2.toArray := ⟨_, ho2, rfl, n2, rfl⟩
  have off : ∀ {l : Addr} {zs : List V}, H l = some (.lst zs) → l ∉ [z, TI, TO, i1, i2] := fun {l zs} e m => by
   have := (hf l m).1
   rw [this] at e
   cases e
  have oa := off ha
  have ob := off hb
  have nd' := nd
  simp only [CG, F5, CA, or_false, not_or, Sd, and_true, not_false_eq_true] at nd' oa ob
  obtain ⟨⟨nzI, nzO, nz1, nz2⟩, ⟨nIO, nI1, nI2⟩, ⟨nO1, nO2⟩, n12⟩ := nd'
  have D : ZipApart z TI TO i1 i2 a b := ⟨Ne.symm nzI, Ne.symm nzO, Ne.symm nz1, Ne.symm nz2, nIO, nI1, nI2, nO1, nO2, n12, oa.1, oa.2.2.1, oa.2.2.2.1, oa.2.2.2.2, ob.1, ob.2.2.1, ob.2.2.2.1, ob.2.2.2.2⟩
  refine wpAny_pyNext_zip_item D hz hI hO h1 h2 L1 L2' (x := u1) (y := u2) (by simpa using g1) (by simpa using g2) fun h' a1 a2 a3 a4 a5 a6 a7 => ?_
  refine ⟨.ref s.heap.objs.size, rfl, wpAny_letOwnedTupleGo_zip a1 fun h2' z2 s2 => ?_⟩
  have s2' : Heap.SameBut z h' h2' := s2
  have zl : z < s.heap.objs.size := Heap.lt_size hz
  have kk : ∀ b o, b ∉ [z, TI, TO, i1, i2] → s.heap.get? b = some o → h2'.get? b = some o := fun b o hb eo => by
   simp only [F5, CA, or_false, not_or] at hb
   exact (s2'.2 b hb.1).trans (a7 b o hb.1 hb.2.2.1 hb.2.2.2.1 hb.2.2.2.2 eo)
  have I1 : Inv X pins σ H { s with heap := h2', toks := s.toks } := I.turnedL (ch := [z, TI, TO, i1, i2]) kk hf
  have fr : H s.heap.objs.size = none := I.hok.fresh (FM _)
  have ft : FpOk X pins H s.heap.objs.size := I.fpOk (FM _) fr
  have t2 : h2'.get? s.heap.objs.size = some { cls := .type "tuple", data := .seq #[u1, u2] } := (s2'.2 _ (CC zl)).trans a5
  have I2 : Inv X pins σ (upd H s.heap.objs.size (.tup [x, y])) { s with heap := h2', toks := s.toks } :=
   I1.adopt ft I.sz ⟨by show 2 ≤ sizeLine; decide, [u1, u2], .cons ru1 (.cons ru2 .nil), _, t2, rfl, _, rfl⟩
  have hI2 : IsPair h2' TI (.ref i1) (.ref i2) := (s2'.2 _ (Ne.symm nzI)).trans (a7 TI _ (Ne.symm nzI) nIO nI1 nI2 hI)
  refine ⟨.ref s.heap.objs.size, _, I2, rfl, ⟨s.heap.objs.size, x, y, fr, rfl, rfl, fun ws e => by rw [ha] at e; cases e; exact hx, fun ws e => by rw [hb] at e; cases e; exact hy⟩,
   ⟨z2, hI2, ⟨_, _, (s2'.2 _ (Ne.symm nzO)).trans a2⟩, a3.extBut s2'.extBut (Ne.symm nz1), a4.extBut s2'.extBut (Ne.symm nz2)⟩, fun b hb => ?_⟩
  have hbl : b < s.heap.objs.size := by
   simp only [F5, CA, or_false] at hb
   rcases hb with rfl | rfl | rfl | rfl | rfl
   ·exact zl
   ·exact Heap.lt_size hI
   ·exact Heap.lt_size hO
   ·obtain ⟨o, e, _⟩ := h1; exact Heap.lt_size e
   ·obtain ⟨o, e, _⟩ := h2; exact Heap.lt_size e
  rw [kam (Cc hbl)]
  exact (hf b hb).1
 done := by
  intro X hP hw hK hc i pins s σ H E I hf st hg
  subst hP hw hK
  obtain ⟨hz, hI, ⟨u, v, hO⟩, h1, h2⟩ := st
  obtain ⟨xs, ys, ha, hb, hx⟩ := hg
  obtain ⟨its1, n1, r1, ho1, _⟩ := I.lst ha
  obtain ⟨its2, n2, r2, ho2, _⟩ := I.lst hb
  have L1 : s.heap.IsList a its1.toArray := ⟨_, ho1, rfl, n1, rfl⟩
  have L2' : s.heap.IsList b its2.toArray := ⟨_, ho2, rfl, n2, rfl⟩
  have hlen1 := r1.length
  have hlen2 := r2.length
  have off : ∀ {l : Addr} {zs : List V}, H l = some (.lst zs) → l ∉ [z, TI, TO, i1, i2] := fun {l zs} e m => by
   have := (hf l m).1
   rw [this] at e
   cases e
  have oa := off ha
  have ob := off hb
  have nd' := nd
  simp only [CG, F5, CA, or_false, not_or, Sd, and_true, not_false_eq_true] at nd' oa ob
  obtain ⟨⟨nzI, nzO, nz1, nz2⟩, ⟨nIO, nI1, nI2⟩, ⟨nO1, nO2⟩, n12⟩ := nd'
  have D : ZipApart z TI TO i1 i2 a b := ⟨Ne.symm nzI, Ne.symm nzO, Ne.symm nz1, Ne.symm nz2, nIO, nI1, nI2, nO1, nO2, n12, oa.1, oa.2.2.1, oa.2.2.2.1, oa.2.2.2.2, ob.1, ob.2.2.1, ob.2.2.2.1, ob.2.2.2.2⟩
  refine wpAny_pyNext_zip_end (I.ok.hd hc) D hz hI hO h1 h2 L1 L2' ?_ fun h' hk => ⟨rfl, ?_⟩
  ·rcases hx with hx | hx
   ·exact .inl (by simp; omega)
   ·exact .inr (by simp; omega)
  ·refine I.turnedL (t' := s.toks) (ch := [z, TI, TO, i1, i2]) (fun b o hb e => ?_) hf
   simp only [F5, CA, or_false, not_or] at hb
   exact hk b o hb.1 hb.2.2.1 hb.2.2.2.1 hb.2.2.2.2 e
 self := fun _ _ _ _ _ st h => wpAny_pyIter_zip st.1 h
theorem kkm (n : Nat) : ([n + 4, n + 2, n + 3, n, n + 1] : List Nat).Nodup := by
 simp only [CG, F5, CA, or_false, not_or, Sd, and_true, not_false_eq_true]
 omega
theorem kkn {n x : Nat} (h : x ∈ ([n + 4, n + 2, n + 3, n, n + 1] : List Nat)) : n ≤ x := by
 simp only [F5, CA, or_false] at h
 omega
section
variable {X : Cx}
noncomputable def iZip (ta : TA) : TI := fun σ H R => ta σ H fun vs H1 => ∃ a b xs ys, vs = [.ref a, .ref b] ∧ H1 a = some (.lst xs) ∧ H1 b = some (.lst ys) ∧ R (Itz a b) H1
theorem kk3 : bootBuiltins "zip" = some (.type "zip") := by decide +kernel
theorem kdj {es : List Expr} {k : Nat} {tpos : Pos} {e1 e2 : Expr} {ta : TA} {p pos : Pos} (hg : Gl X "zip") (hm : X.mg "zip" = none) (ha : PA X [e1, e2] ta) (he : starEach [e1, e2] X.env = (false, eval e1 X.env) :: starEach [e2] X.env := by rfl)
  (hpl : (backTo pos (starEach [e2] X.env)).any (·.1) = false := by rfl) : PI X (.Tuple es k tpos) (.Call (.Name "zip" p) [e1, e2] [] pos) (iZip ta) := by
 intro pins s σ H R I h
 refine Call_ (kdy I hg hm kk3 (PyProof.Rows.callWith_type1 (thn (ha pos pins s σ H _ I h) fun us s1 ⟨vs, H1, I1, r1, q1⟩ => ?_) he hpl))
 obtain ⟨a, b, xs, ys, rfl, qa, qb, q⟩ := q1
 cases r1 with
 | cons ra rr =>
  cases rr with
  | cons rb rr =>
   cases rr
   cases ra
   cases rb
   obtain ⟨its1, n1, _, ho1, _⟩ := I1.lst qa
   obtain ⟨its2, n2, _, ho2, _⟩ := I1.lst qb
   refine call_zip_2 (xs := its1.toArray) (ys := its2.toArray) ⟨_, ho1, rfl, n1, rfl⟩ ⟨_, ho2, rfl, n2, rfl⟩ fun h' b1 b2 b3 b4 b5 _ hk => wpAny_pyIter_zip b1 ?_
   have I2 : Inv X pins σ H1 { s1 with heap := h' } := I1.kept (t' := s1.toks) hk
   refine ⟨s1.heap.objs.size + 4, [s1.heap.objs.size + 4, s1.heap.objs.size + 2, s1.heap.objs.size + 3, s1.heap.objs.size, s1.heap.objs.size + 1], _, _, H1, rfl, I2, kii a b _ _ _ _ _ (kkm _), ⟨b1, b2, ⟨_, _, b3⟩, b4, b5⟩, fun x hx => ?_, q⟩
   have hle : s1.heap.objs.size ≤ x := kkn hx
   exact I1.fpOk hle (I1.hok.fresh hle)
end
theorem khU {a b : Addr} {xs ys : List V} {g : TG} {tb : TS} {D : Ends} {σ : St} {H : Hp} (Pv : Nat → St → Hp → Prop) (h0 : Pv 0 σ H) (hl : ∀ i σ H, i ≤ min xs.length ys.length → Pv i σ H → H a = some (.lst xs) ∧ H b = some (.lst ys))
  (hs : ∀ i x y t σ H, xs[i]? = some x → ys[i]? = some y → Pv i σ H → H t = none → g (.ref t) σ (upd H t (.tup [x, y])) fun σ2 H2 => tb { D with nx := Pv (i + 1), ct := Pv (i + 1), bk := D.nx } σ2 H2) (hd : ∀ σ H, Pv (min xs.length ys.length) σ H → D.nx σ H) :
  ∃ W : Nat → Nat → St → Hp → Prop, (∃ m, W 0 m σ H) ∧ ∀ i m σ H, W i m σ H →
   ((Itz a b).stop i H ∧ D.nx σ H) ∨ ((Itz a b).go i H ∧ ∃ N : St → Hp → Prop, (∀ σ' H', N σ' H' → ∃ m', m' < m ∧ W (i + 1) m' σ' H') ∧ ∀ x H', (Itz a b).yld i H x H' → g x σ H' fun σ2 H2 => tb { D with nx := N, ct := N, bk := D.nx } σ2 H2) := by
 refine ⟨fun i m σ H => m = min xs.length ys.length - i ∧ i ≤ min xs.length ys.length ∧ Pv i σ H, ⟨min xs.length ys.length, by simp, Cm _, h0⟩, ?_⟩
 rintro i m σ H ⟨rfl, hi, p⟩
 obtain ⟨q1, q2⟩ := hl i σ H hi p
 by_cases hlt : i < min xs.length ys.length
 ·refine .inr ⟨⟨xs, ys, xs[i]'(by omega), ys[i]'(by omega), q1, q2, by simp [show i < xs.length by omega], by simp [show i < ys.length by omega]⟩, Pv (i + 1), fun σ' H' p' => ⟨min xs.length ys.length - (i + 1), by omega, rfl, hlt, p'⟩, fun x H' y => ?_⟩
  obtain ⟨t, x, y, hn, rfl, rfl, h1, h2⟩ := y
  exact hs i x y t σ _ (h1 _ q1) (h2 _ q2) p hn
 ·have e : i = min xs.length ys.length := by omega
  refine .inl ⟨⟨xs, ys, q1, q2, by omega⟩, ?_⟩
  rw [e] at p
  exact hd σ H p
theorem kdP {a b : Addr} {xs ys : List V} {g : TG} {te : TE} {σ : St} {H : Hp} {R : List V → Hp → Addr → Prop} (Pv : Nat → St → List V → Hp → Prop) (h0 : Pv 0 σ [] H) (hz : min xs.length ys.length ≤ sizeLine) (hl : ∀ i σ zs H, i ≤ min xs.length ys.length → Pv i σ zs H → H a = some (.lst xs) ∧ H b = some (.lst ys) ∧ zs.length = i)
  (hs : ∀ i x y t σ zs H, xs[i]? = some x → ys[i]? = some y → Pv i σ zs H → H t = none → g (.ref t) σ (upd H t (.tup [x, y])) fun σ2 H2 => te σ2 H2 fun z H3 => Pv (i + 1) σ2 (zs ++ [z]) H3) (hd : ∀ σ zs H, Pv (min xs.length ys.length) σ zs H → ∀ D, H D = none → R zs H D) :
  ∃ W : Nat → Nat → St → List V → Hp → Prop, (∃ m, W 0 m σ [] H) ∧ ∀ i m σ' zs H', W i m σ' zs H' →
   ((Itz a b).stop i H' ∧ ∀ D, H' D = none → R zs H' D) ∨ ((Itz a b).go i H' ∧ zs.length < sizeLine ∧ ∃ N : St → V → Hp → Prop, (∀ σ2 y H4, N σ2 y H4 → ∃ m', m' < m ∧ W (i + 1) m' σ2 (zs ++ [y]) H4) ∧
    ∀ x H2, (Itz a b).yld i H' x H2 → g x σ' H2 fun σ2 H3 => te σ2 H3 (N σ2)) := by
 refine ⟨fun i m σ zs H => m = min xs.length ys.length - i ∧ i ≤ min xs.length ys.length ∧ Pv i σ zs H, ⟨min xs.length ys.length, by simp, Cm _, h0⟩, ?_⟩
 rintro i m σ zs H ⟨rfl, hi, p⟩
 obtain ⟨q1, q2, el⟩ := hl i σ zs H hi p
 by_cases hlt : i < min xs.length ys.length
 ·refine .inr ⟨⟨xs, ys, xs[i]'(by omega), ys[i]'(by omega), q1, q2, by simp [show i < xs.length by omega], by simp [show i < ys.length by omega]⟩, by omega, fun σ2 y H3 => Pv (i + 1) σ2 (zs ++ [y]) H3, fun σ' y H' p' => ⟨min xs.length ys.length - (i + 1), by omega, rfl, hlt, p'⟩, fun x H' yl => ?_⟩
  obtain ⟨t, x, y, hn, rfl, rfl, h1, h2⟩ := yl
  exact hs i x y t σ zs _ (h1 _ q1) (h2 _ q2) p hn
 ·have e : i = min xs.length ys.length := by omega
  refine .inl ⟨⟨xs, ys, q1, q2, by omega⟩, ?_⟩
  rw [e] at p
  exact hd σ zs H p
end L2
namespace L2
open PySem PySem.Spec PyProof.Rows
section
variable {g : TG} {tt : TT} {te : TE} {σ : St} {H : Hp} {R : List V → Hp → Addr → Prop}
theorem ki2 {J : It} {n : Nat} (Pv : Nat → St → List V → Hp → Prop) (h0 : Pv 0 σ [] H) (hz : n ≤ sizeLine) (hl : ∀ i σ ys H, i ≤ n → Pv i σ ys H → ys.length ≤ i) (hgo : ∀ i σ ys H, i < n → Pv i σ ys H → J.go i H) (hst : ∀ σ ys H, Pv n σ ys H → J.stop n H)
  (hs : ∀ i σ ys H x H', i < n → Pv i σ ys H → J.yld i H x H' → g x σ H' fun σ2 H2 => tt σ2 H2 fun b H3 => if b = true then te σ2 H3 (fun y H4 => Pv (i + 1) σ2 (ys ++ [y]) H4) else Pv (i + 1) σ2 ys H3) (hd : ∀ σ ys H, Pv n σ ys H → ∀ D, H D = none → R ys H D) :
  ∃ W : Nat → Nat → St → List V → Hp → Prop, (∃ m, W 0 m σ [] H) ∧ ∀ i m σ' ys H', W i m σ' ys H' →
   (J.stop i H' ∧ ∀ D, H' D = none → R ys H' D) ∨ (J.go i H' ∧ ys.length < sizeLine ∧ ∃ (N : St → V → Hp → Prop) (N0 : St → Hp → Prop), (∀ σ2 y H4, N σ2 y H4 → ∃ m', m' < m ∧ W (i + 1) m' σ2 (ys ++ [y]) H4) ∧ (∀ σ2 H4, N0 σ2 H4 → ∃ m', m' < m ∧ W (i + 1) m' σ2 ys H4) ∧
    ∀ x H2, J.yld i H' x H2 → g x σ' H2 fun σ2 H3 => tt σ2 H3 fun b H4 => if b = true then te σ2 H4 (N σ2) else N0 σ2 H4) := by
 refine ⟨fun i m σ ys H => m = n - i ∧ i ≤ n ∧ Pv i σ ys H, ⟨n, by simp, Cm _, h0⟩, ?_⟩
 rintro i m σ ys H ⟨rfl, hi, p⟩
 have el := hl i σ ys H hi p
 by_cases hlt : i < n
 ·refine .inr ⟨hgo i σ ys H hlt p, by omega, fun σ2 y H3 => Pv (i + 1) σ2 (ys ++ [y]) H3, fun σ2 H3 => Pv (i + 1) σ2 ys H3, fun σ' y H' p' => ⟨n - (i + 1), by omega, rfl, hlt, p'⟩, fun σ' H' p' => ⟨n - (i + 1), by omega, rfl, hlt, p'⟩, fun x H' yl => ?_⟩
  exact hs i σ ys H x H' hlt p yl
 ·have e : i = n := by omega
  subst e
  exact .inl ⟨hst σ ys H p, hd σ ys H p⟩
theorem kgV {a : Addr} {xs : List V} (Pv : Nat → St → List V → Hp → Prop) (h0 : Pv 0 σ [] H) (hz : xs.length ≤ sizeLine) (hl : ∀ i σ ys H, i ≤ xs.length → Pv i σ ys H → H a = some (.lst xs) ∧ ys.length ≤ i)
  (hs : ∀ i y t σ ys H, xs[i]? = some y → Pv i σ ys H → H t = none → g (.ref t) σ (upd H t (.tup [.int (i : Nat), y])) fun σ2 H2 => tt σ2 H2 fun b H3 => if b = true then te σ2 H3 (fun y H4 => Pv (i + 1) σ2 (ys ++ [y]) H4) else Pv (i + 1) σ2 ys H3) (hd : ∀ σ ys H, Pv xs.length σ ys H → ∀ D, H D = none → R ys H D) :
  ∃ W : Nat → Nat → St → List V → Hp → Prop, (∃ m, W 0 m σ [] H) ∧ ∀ i m σ' ys H', W i m σ' ys H' →
   ((Ite a).stop i H' ∧ ∀ D, H' D = none → R ys H' D) ∨ ((Ite a).go i H' ∧ ys.length < sizeLine ∧ ∃ (N : St → V → Hp → Prop) (N0 : St → Hp → Prop), (∀ σ2 y H4, N σ2 y H4 → ∃ m', m' < m ∧ W (i + 1) m' σ2 (ys ++ [y]) H4) ∧ (∀ σ2 H4, N0 σ2 H4 → ∃ m', m' < m ∧ W (i + 1) m' σ2 ys H4) ∧
    ∀ x H2, (Ite a).yld i H' x H2 → g x σ' H2 fun σ2 H3 => tt σ2 H3 fun b H4 => if b = true then te σ2 H4 (N σ2) else N0 σ2 H4) :=
 ki2 Pv h0 hz (fun i σ ys H hi p => (hl i σ ys H hi p).2) (fun i σ ys H hi p => ⟨xs, xs[i], (hl i σ ys H (FY hi) p).1, by simp [hi]⟩) (fun σ ys H p => ⟨xs, (hl _ σ ys H (FM _) p).1, FM _⟩)
  (fun i σ ys H x H' hi p yl => by
   obtain ⟨t, y, hn, rfl, rfl, hy⟩ := yl
   exact hs i y t σ ys _ (hy xs (hl i σ ys _ (FY hi) p).1) p hn) hd
end
section
variable {X : Cx}
noncomputable def isI (k : Int) : Value → Bool
 | .int a _ => a == k
 | _ => false
theorem kfA : ∀ {ns : List Int} {us : List Value}, Vals (ns.map V.int) us → ∀ (j : Nat) (n : Int), ns[j]? = some n → ∃ t, us[j]? = some (.int n t)
 | [], _, _, j, n, e => by simp at e
 | m :: ns, u :: us, .cons r t, j, n, e => by
  cases j with
  | zero =>
   have e' : m = n := by simpa using e
   subst e'
   obtain ⟨t, rfl⟩ := r
   exact ⟨t, rfl⟩
  | succ j =>
   obtain ⟨q, h⟩ := kfA t j n (by simpa using e)
   exact ⟨q, by simpa using h⟩
end
end L2
namespace L2
open PySem PySem.Spec PyProof.Rows
structure BaseT (K : FK) (C : Addr) (m : Str) (f : Addr) : Prop where
 rd : PySem.W.readsIn K C (.type "type") = true
 ga : Rl K (.ref C) "__getattribute__" = some (some (.builtin "type.__getattribute__"))
 fc : PySem.W.findCls K (.ref C) (.type "type") m = some (.val (.ref f))
section
variable {X : Cx} {CX : CXT} {k : Nat} {f C : Addr} {fd : FuncData} {ps : List Str} {sp : Sp} {dvs : List V} {ds : List Value} {E : XK} {x m : Str} {p pos apos : Pos} {e o : Expr} {es : List Expr} {ta : TE} {t : TA}
theorem kdX {pl : Sem Bool} (B : BaseT X.K C m f) (F : FnOk X.prog X.w X.K X.mg X.base CX k f fd ps sp) (hr : Room k X.A) (hg : Gl X x) (hm : X.mg x = some (.ref C)) (hk : FN X.K (.ref f) = true) (hb : Binds X.K fd ps ds) (hd : Vals dvs ds) (hx : kdb CX X E)
  (ha : PA X (e :: es) t) (hdb : (x == ("__debug__" : Str)) = false := by decide)
  (hst : starEach (e :: es) X.env = (false, eval e X.env) :: starEach es X.env := by rfl) (hpl : (backTo pos (starEach es X.env)).any (·.1) = false := by rfl)
  (ht : eval (.Call (.Attribute (.Name x p) m apos) (e :: es) [] pos) X.env = (do
   let ov ← eval (.Name x p) X.env
   standAt apos.atName
   let (f, first) ← holding [ov] (getMethod ov m pl)
   callWith pos f first (backTo pos (starEach (e :: es) X.env)) (backToKw pos (keywordEach [] X.env))) := by rfl) :
  PE X (.Call (.Attribute (.Name x p) m apos) (e :: es) [] pos) (tCall sp dvs E t) := by
 intro pins s σ H Q I h
 refine R5 (pl := pl) (thn (kdl (v := .ref C) hg hm rfl hdb pins s σ H (fun y H1 => y = .ref C ∧ H1 = H) I ⟨rfl, rfl⟩) fun u s1 ⟨y, H1, I1, ry, ey, eH⟩ => ?_) ht
 subst ey eH
 obtain rfl : u = Value.ref C := ry
 refine PySem.W.method_cls I1.kIn B.ga (PySem.W.cls_value I1.kIn B.rd B.fc rfl ?_)
 have I2 := I1.tok (s1.toks + 1)
 refine Rz (h₀ := X.base) I.ok.mod.kin hk (thn (ha pos pins _ σ H1 _ I2 h) fun us s2 ⟨vs, H2, I3, r, q2⟩ => ⟨I3.kIn, ?_⟩) hst hpl
 exact kge F hr hb hd hx I3 r q2
end
theorem khJ {n j : Nat} (h : j < n) : ixN n (j : Int) = some j := by
 unfold ixN
 rw [if_pos (by omega), if_pos (by omega)]
 simp
section
variable {X : Cx}
end
section
variable {X : Cx}
noncomputable def kkZ (ta : TA) : TI := fun σ H R => ta σ H fun vs H1 => ∃ i j k : Int, vs = [.int i, .int j, .int k] ∧ (-(2 ^ 31) ≤ i ∧ i < 2 ^ 31) ∧ (-(2 ^ 31) ≤ j ∧ j < 2 ^ 31) ∧ 0 < k ∧ k < 2 ^ 30 ∧ R (Its i k (Builtin.Range.rangeSize i j k).toNat) H1
theorem kgJ {tg a b c : Expr} {ta : TA} {p pos : Pos} (hg : Gl X "range") (hm : X.mg "range" = none) (ha : PA X [a, b, c] ta) (he : starEach [a, b, c] X.env = (false, eval a X.env) :: starEach [b, c] X.env := by rfl)
  (hpl : (backTo pos (starEach [b, c] X.env)).any (·.1) = false := by rfl) : PI X tg (.Call (.Name "range" p) [a, b, c] [] pos) (kkZ ta) := by
 intro pins s σ H R I h
 refine Call_ (kdy I hg hm boot_range (PyProof.Rows.callWith_type1 (thn (ha pos pins s σ H _ I h) fun us s1 ⟨vs, H1, I1, r1, q1⟩ => ?_) he hpl))
 obtain ⟨i, j, k, e, hi, hj, hk, hk2, q⟩ := q1
 subst e
 cases r1 with
 | cons r rr =>
  cases rr with
  | cons r' rr =>
   cases rr with
   | cons r'' rr =>
    cases rr
    obtain ⟨t, rfl⟩ := r
    obtain ⟨t', rfl⟩ := r'
    obtain ⟨t'', rfl⟩ := r''
    refine call_range_3 (by omega) ?_ (.inl (PyProof.noPylong_small (by omega)))
    refine wpAny_pyIter_range (IsRange.new ..) (kgG hk hk2 hi hj) ?_
    have I2 : Inv X pins σ H1 { s1 with heap := s1.heap.push { cls := .type "range", data := .fields #[.int i t, .int j t', .int k t''] }, toks := s1.toks } := I1.kept fun b o e => Heap.get?_push_of_some _ e
    have hn := kfh hk hi hj
    refine ⟨(s1.heap.push { cls := .type "range", data := .fields #[.int i t, .int j t', .int k t''] }).objs.size, [(s1.heap.push { cls := .type "range", data := .fields #[.int i t, .int j t', .int k t''] }).objs.size], _, _, H1, rfl,
     I2.kept (t' := s1.toks) fun b o e => Heap.get?_push_of_some _ e, kgZ _ i k (Builtin.Range.rangeSize i j k).toNat, ?_, fun b hb => ?_, q⟩
    ·have e1 : i + ((0 : Nat) : Int) * k = i := by simp
     have e2 : (((Builtin.Range.rangeSize i j k).toNat : Nat) : Int) - ((0 : Nat) : Int) = Builtin.Range.rangeSize i j k := by omega
     show IsRangeIter _ _ (i + ((0 : Nat) : Int) * k) ((((Builtin.Range.rangeSize i j k).toNat : Nat) : Int) - ((0 : Nat) : Int)) k
     rw [e1, e2]
     exact Heap.get?_push_size _ rfl
    ·have e : b = (s1.heap.push { cls := .type "range", data := .fields #[.int i t, .int j t', .int k t''] }).objs.size := by simpa using hb
     subst e
     exact I2.fpOk (FM _) (I2.hok.fresh (FM _))
end
section
variable {g : TG} {te : TE} {σ : St} {H : Hp} {R : List V → Hp → Addr → Prop}
theorem kh6 {lo st : Int} {n : Nat} (Pv : Nat → St → List V → Hp → Prop) (h0 : Pv 0 σ [] H) (hz : n ≤ sizeLine) (hl : ∀ i σ ys H, i ≤ n → Pv i σ ys H → ys.length = i)
  (hs : ∀ i σ ys H, i < n → Pv i σ ys H → g (.int (lo + i * st)) σ H fun σ2 H2 => te σ2 H2 fun y H3 => Pv (i + 1) σ2 (ys ++ [y]) H3) (hd : ∀ σ ys H, Pv n σ ys H → ∀ D, H D = none → R ys H D) :
  ∃ W : Nat → Nat → St → List V → Hp → Prop, (∃ m, W 0 m σ [] H) ∧ ∀ i m σ' ys H', W i m σ' ys H' →
   ((Its lo st n).stop i H' ∧ ∀ D, H' D = none → R ys H' D) ∨ ((Its lo st n).go i H' ∧ ys.length < sizeLine ∧ ∃ N : St → V → Hp → Prop, (∀ σ2 y H4, N σ2 y H4 → ∃ m', m' < m ∧ W (i + 1) m' σ2 (ys ++ [y]) H4) ∧
    ∀ x H2, (Its lo st n).yld i H' x H2 → g x σ' H2 fun σ2 H3 => te σ2 H3 (N σ2)) := by
 refine ⟨fun i m σ ys H => m = n - i ∧ i ≤ n ∧ Pv i σ ys H, ⟨n, by simp, Cm _, h0⟩, ?_⟩
 rintro i m σ ys H ⟨rfl, hi, p⟩
 have el := hl i σ ys H hi p
 by_cases hlt : i < n
 ·refine .inr ⟨hlt, by omega, fun σ2 y H3 => Pv (i + 1) σ2 (ys ++ [y]) H3, fun σ' y H' p' => ⟨n - (i + 1), by omega, rfl, hlt, p'⟩, fun x H' yl => ?_⟩
  obtain ⟨e, yl⟩ := yl
  subst e yl
  exact hs i σ ys _ hlt p
 ·have e : i = n := by omega
  subst e
  exact .inl ⟨FM _, hd σ ys H p⟩
end
theorem kfQ {L m : Nat} (hm : 0 < m) : (Builtin.Range.rangeSize 0 ((L : Int) - (m : Int) + 1) (m : Int)).toNat = L / m := by
 unfold Builtin.Range.rangeSize
 rw [if_pos (by omega)]
 by_cases h : m ≤ L
 ·rw [if_pos (by omega), show (L : Int) - (m : Int) + 1 - 0 - 1 = ((L - m : Nat) : Int) by omega, ← Int.natCast_ediv, Nat.div_eq_sub_div hm h]
  generalize (L - m) / m = q
  omega
 ·rw [if_neg (by omega), Nat.div_eq_of_lt (by omega)]
  rfl
end L2
namespace L2
open PySem PySem.Spec PyProof.Rows
inductive Src where
 | p (i : Nat)
 | k (j : Nat)
 | d (v : Value) (x : V)
noncomputable def Src.val (us ws : List Value) : Src → Value
 | .p i => us.getD i .none
 | .k j => ws.getD j .none
 | .d v _ => v
noncomputable def Src.abs (vs zs : List V) : Src → V
 | .p i => vs.getD i .non
 | .k j => zs.getD j .non
 | .d _ x => x
noncomputable def Src.Ok : Src → Prop
 | .d v x => RelV x v
 | _ => True
section
variable {X : Cx} {CX : CXT} {k : Nat} {f C : Addr} {fd : FuncData} {ps ks : List Str} {sp : Sp} {E : XK} {x : Str} {p pos : Pos} {kws : List Keyword} {tk : TA} {g : List Value → List Value → List Value} {gV : List V → List V → List V}
end
end L2
namespace L2
open PySem PySem.Spec PyProof.Rows
noncomputable def atK (kvs : List (Key × V)) (k : Key) : Option V := (kvs.find? fun p => decide (p.1 = k)).map Prod.snd
theorem kf8 : ∀ {kvs : List (Key × V)} {vs : List (Key × Value)}, KV kvs vs → ∀ k, RelO (atK kvs k) (valueAt vs k)
 | _, _, .nil, _ => True.intro
 | p :: ps, q :: qs, .cons h t, k => by
  obtain ⟨h1, h2⟩ := h
  have ih := kf8 t k
  unfold atK valueAt at *
  by_cases e : p.1 = k
  ·have e' : q.1 = k := h1.symm.trans e
   simp only [Rp, e, e', decide_true, RF]
   exact h2
  ·have e' : ¬ q.1 = k := fun z => e (h1.trans z)
   simp only [Rp, e, e', decide_false]
   exact ih
theorem kvAny : ∀ {kvs : List (Key × V)} {vs : List (Key × Value)}, KV kvs vs → ∀ k : Key, atK kvs k = none → (vs.any fun p => decide (p.1 = k)) = false
 | _, _, .nil, _, _ => rfl
 | p :: ps, q :: qs, .cons h t, k, hn => by
  obtain ⟨h1, h2⟩ := h
  unfold atK at hn
  by_cases e : p.1 = k
  ·simp [Rp, e] at hn
  ·have e' : ¬ q.1 = k := fun z => e (h1.trans z)
   rw [C6, decide_eq_false e', Bool.false_or]
   refine kvAny t k ?_
   unfold atK
   simpa [Rp, e] using hn
theorem kjo : ∀ {kvs : List (Key × V)} {vs : List (Key × Value)}, KV kvs vs → ∀ {k : Key} {y : V} {u : Value}, RelV y u → KV (kvs ++ [(k, y)]) (vs ++ [(k, u)])
 | _, _, .nil, _, _, _, r => .cons ⟨rfl, r⟩ .nil
 | _, _, .cons h t, _, _, _, r => .cons h (kjo t r)
theorem kvLen : ∀ {kvs : List (Key × V)} {vs : List (Key × Value)}, KV kvs vs → kvs.length = vs.length
 | _, _, .nil => rfl
 | _, _, .cons _ t => by rw [Cu, Cu, kvLen t]
theorem kjn : ∀ {kvs : List (Key × V)} {vs : List (Key × Value)}, KV kvs vs → Vals (kvs.map Prod.snd) (vs.map Prod.snd)
 | _, _, .nil => .nil
 | _, _, .cons h t => .cons h.2 (kjn t)
section
variable {X : Cx}
noncomputable def kkw : TE := fun _ H Q => ∀ p, H p = none → Q (.ref p) (upd H p (.dK []))
theorem kiC {pos : Pos} : PE X (.Dict [] [] pos) kkw := fun pins s σ H Q I h =>
 have big : sysModules < s.heap.objs.size := Nat.lt_trans (by decide) (show mainGlobals < s.heap.objs.size from (I.mod.glob.keeps I.bk).lt)
 wpAny_Dict_empty ⟨.ref s.heap.objs.size, _, I.laid (a := s.heap.objs.size) (o := .dK []) (t' := s.toks) (fun _ _ q => Heap.get?_push_of_some _ q) (FM _)
  (show ObjOk X.prog X.w _ _ _ (.dK []) from ⟨Cm _, beq_eq_false_iff_ne.mpr (Ne.symm (Cc big)), [], .nil, Heap.DictOf.new _⟩), rfl, h _ (I.hok.fresh (FM _))⟩
noncomputable def rSetd : V → List V → Hp → VK → Prop := fun x vs H Q => ∃ (a : Addr) (kvs : List (Key × V)) (i : Int) (y : V), x = .ref a ∧ vs = [.int i, y] ∧ H a = some (.dK kvs) ∧ kvs.length < sizeLine ∧ (∀ v, atK kvs (.inl i) = some v → Q v H) ∧ (atK kvs (.inl i) = none → Q y (upd H a (.dK (kvs ++ [(.inl i, y)]))))
theorem ke4 : MtM X "dict.setdefault" rSetd := by
 intro pins s σ H x vs v us Q I rx rv h
 obtain ⟨a, kvs, i, y, rfl, rfl, e, hz, h1, h2⟩ := h
 cases rx
 obtain ⟨u1, u2, rfl, ⟨t, rfl⟩, ru2⟩ := vals2 rv
 obtain ⟨z, hd, ws, rel, dd⟩ := (show ObjOk X.prog X.w H s.heap a (.dK kvs) from I.hok a _ e)
 have key : (kcV X.prog X.w).is (Sum.inl i : Key) (.int i t) = true := kfX _ _ i t
 refine call_meetsIn Sz dd.typeIs PySem.F.entry_dict_setdefault (PySem.F.args_dict_setdefault_3 _ _ _) (kt_meets_setdefault (kcV X.prog X.w) a key hd u2)
  ⟨ws, dd, by rw [← kvLen rel]; exact z, fun v hv => ?_, fun hn h' dd' hs => ?_⟩
 ·have r := kf8 rel (Sum.inl i)
  rw [hv] at r
  cases ea : atK kvs (Sum.inl i) with
  | none => rw [ea] at r; exact (show False from r).elim
  | some w' =>
   rw [ea] at r
   exact ⟨w', H, I.tok _, r, h1 w' ea⟩
 ·have r := kf8 rel (Sum.inl i)
  rw [hn] at r
  have ea : atK kvs (Sum.inl i) = none := by
   cases ea : atK kvs (Sum.inl i) with
   | none => rfl
   | some w' => rw [ea] at r; exact (show False from r).elim
  have est : stored ws (Sum.inl i : Key) u2 = ws ++ [(Sum.inl i, u2)] := by
   unfold stored
   rw [kvAny rel _ ea, if_neg FW]
  rw [est] at dd'
  have he : ∃ q, h'.get? a = some q := let ⟨q, _, _, hq, _⟩ := dd'; ⟨q, hq⟩
  refine ⟨y, _, I.write (x := a) (e := a) (by rw [e]; exact True.intro) (.inl rfl) (fun b q hb w' => (hs.2 b hb).trans w') he ?_, ru2, h2 ea⟩
  exact (show ObjOk X.prog X.w _ h' a (.dK (kvs ++ [(.inl i, y)])) from ⟨by rw [Ca, R9]; omega, hd, _, kjo rel ru2, dd'⟩)
noncomputable def kg2 (te : TE) : TE := fun σ H Q => te σ H fun v H1 => ∃ (a : Addr) (kvs : List (Key × V)), v = .ref a ∧ H1 a = some (.dK kvs) ∧ ∀ l, H1 l = none → Q (.ref l) (upd H1 l (.lst (kvs.map Prod.snd)))
theorem kfV {e : Expr} {te : TE} {p1 pos1 apos cpos : Pos} (hc : X.calm = true) (h1 : Gl X "list") (m1 : X.mg "list" = none) (he : PE X e te)
  (hbase : attributeBase e "values" X.env (eval e X.env) = eval e X.env := by rfl) (hline : (apos.endLine == cpos.line) = true := by rfl)
  (s2 : starEach [.Call (.Attribute e "values" apos) [] [] cpos] X.env = [(false, eval (.Call (.Attribute e "values" apos) [] [] cpos) X.env)] := by rfl) : PE X (.Call (.Name "list" p1) [.Call (.Attribute e "values" apos) [] [] cpos] [] pos1) (kg2 te) := by
 intro pins s σ H Q I h
 refine wpAny_Call_Name_kw (kdy I h1 m1 kcJ ?_ (by decide) (by decide))
 refine PyProof.Rows.callWith_type1 ?_ s2 rfl
 rw [s2]
 refine Calls.spliced_cons (wpAny_Call_method0_late hbase hline (thn (he pins s σ H _ I h) fun u s3 ⟨v, H1, I1, r1, a, kvs, ev, ea, q⟩ => ?_))
 subst ev
 cases r1
 obtain ⟨t1, t2⟩ := kgY (T := "dict") (x := .ref a) (v := .ref a) I1 rfl (.inr (.inr (.inl ⟨rfl, .inl ⟨kvs, ea⟩⟩)))
 obtain ⟨z, hd, ws, rel, dd⟩ := (show ObjOk X.prog X.w H1 s3.heap a (.dK kvs) from I1.hok a _ ea)
 obtain ⟨ep, hat⟩ := dd.dictAt
 refine ⟨"dict", "dict.values", SA, SB, PySem.F.type_dict_values, t1, t2, Calls.callWith_builtin rfl (PySem.evalArgs_none ?_)⟩
 refine call_meetsIn SB dd.typeIs PySem.F.entry_dict_values (PySem.F.args_dict_values_1 _) (meets_dict_values (kcV X.prog X.w) a hd) ⟨⟨ws, dd⟩, Calls.spliced_nil ?_⟩
 refine PySem.W.kdl_call (PySem.W.kdl_values (knd := kcV X.prog X.w) (kvs := ws) (ep := ep)) (I1.ok.hd hc) ⟨⟨_, Heap.get?_push_size _ rfl, rfl, rfl⟩, hat.push _⟩ (by rw [← kvLen rel]; exact z) fun h' tk acc' c' hk hS hacc => ?_
 have hv : acc'.toList = ws.map (·.2) := PySem.W.kdl_vals_eq acc'.toList (by rw [Rb]; exact hacc.1) fun j v' ej => hacc.2 j v' (by rw [← Sx]; exact ej)
 generalize ho : ({ cls := .type "dict_values", data := .fields #[.ref a] } : Obj) = ob at *
 have hsz : (s3.heap.push ob).objs.size = s3.heap.objs.size + 1 := Heap.size_push ..
 have rv : Vals (kvs.map Prod.snd) acc'.toList := by rw [hv]; exact kjn rel
 have I2 : Inv X pins σ (upd H1 (s3.heap.push ob).objs.size (.lst (kvs.map Prod.snd))) { s3 with heap := h', toks := tk } :=
  I1.laid (fun b o e => hk b o (Heap.get?_push_of_some _ e)) (by rw [hsz]; exact Rm _) (show ObjOk X.prog X.w _ h' _ (.lst (kvs.map Prod.snd)) from ⟨by rw [FJ]; exact z, acc'.toList, c', rv, by simpa using hS⟩)
 exact ⟨.ref _, _, I2, rfl, q _ (I1.hok.fresh (by rw [hsz]; exact Rm _))⟩
end
end L2
namespace L2
open PySem PySem.Spec PyProof.Rows
section
variable {X : Cx}
end
end L2
namespace Stb
open PySem PyProof.Rows
noncomputable def T (xs : Array Keyed) (i : Nat) : Int := match xs[i]? with
 | some p => numOf p.2
 | none => 0
theorem T_at {xs ys : Array Keyed} {i j : Nat} (h : xs[i]? = ys[j]?) : T xs i = T ys j := by unfold T; rw [h]
noncomputable def Lx (xs : Array Keyed) (i j : Nat) : Prop := K xs i < K xs j ∨ (K xs i = K xs j ∧ T xs i < T xs j)
theorem Lx.trans {xs : Array Keyed} {i j k : Nat} (h : Lx xs i j) (h' : Lx xs j k) : Lx xs i k := by unfold Lx at *; omega
theorem Lx.le {xs : Array Keyed} {i j : Nat} (h : Lx xs i j) : K xs i ≤ K xs j := by unfold Lx at *; omega
noncomputable def Up (xs : Array Keyed) (k : Nat) : Prop := ∀ i j, i < j → j < k → Lx xs i j
noncomputable def Dn (xs : Array Keyed) (k : Nat) : Prop := ∀ i j, i < j → j < k → Lx xs j i
noncomputable def Lat (a₀ xs : Array Keyed) (k : Nat) : Prop := ∀ i j, i < j → k ≤ j → j < a₀.size → T xs i < T xs j
theorem Lat.mono {a₀ xs : Array Keyed} {k k' : Nat} (h : Lat a₀ xs k) (hk : k ≤ k') : Lat a₀ xs k' := fun i j h1 h2 h3 => h i j h1 (by omega) h3
theorem kgA {xs : Array Keyed} {src d : Nat} (hs : src < xs.size) (hd : d ≤ src) (k : Nat) :
  ∃ k', (K (bubble xs src d) k = K xs k' ∧ T (bubble xs src d) k = T xs k') ∧ k' = if k = src - d then src else if src - d < k ∧ k ≤ src then k - 1 else k := by
 refine ⟨_, ?_, rfl⟩
 have e := getElem?_bubble hs d hd k
 have e' : (bubble xs src d)[k]? = xs[if k = src - d then src else if src - d < k ∧ k ≤ src then k - 1 else k]? := by
  rw [e]
  split
  ·rfl
  ·split <;> rfl
 exact ⟨K_congr e', T_at e'⟩
theorem kcw {xs : Array Keyed} {i j : Nat} (hj : j ≤ xs.size) (k : Nat) :
  ∃ k', (K (mirror xs i j ((j - i) / 2)) k = K xs k' ∧ T (mirror xs i j ((j - i) / 2)) k = T xs k') ∧ k' = if i ≤ k ∧ k < j then i + j - 1 - k else k := by
 refine ⟨_, ?_, rfl⟩
 have e := getElem?_mirror_all (i := i) hj k
 have e' : (mirror xs i j ((j - i) / 2))[k]? = xs[if i ≤ k ∧ k < j then i + j - 1 - k else k]? := by
  rw [e]
  split <;> rfl
 exact ⟨K_congr e', T_at e'⟩
theorem kfZ {a₀ xs : Array Keyed} {i j k : Nat} (hj : j ≤ xs.size) (hk : j ≤ k) (h : Lat a₀ xs k) : Lat a₀ (mirror xs i j ((j - i) / 2)) k := by
 intro a b hab hkb hb
 obtain ⟨a', ⟨_, ea⟩, ha⟩ := kcw (i := i) hj a
 obtain ⟨b', ⟨_, eb⟩, hb'⟩ := kcw (i := i) hj b
 rw [ea, eb]
 rw [if_neg (by omega)] at hb'
 subst hb'
 refine h _ _ ?_ hkb hb
 rw [ha]
 split <;> omega
section
variable {prog : Program} {w : World} {A : Around} {E : Value → Shared → Prop} {s : Shared} {a₀ : Array Keyed}
theorem asc {st : SortSt} {a nrem : Nat} {Q : AscSt → SortSt → Prop} (h0 : IntKeys a₀) (hn : nrem ≤ a₀.size) (ha : 1 ≤ a) (han : a ≤ nrem) (hB : SBase a₀ st) (hs : Up (arrOf st) a) (hl : Lat a₀ (arrOf st) a)
  (h : ∀ n, a ≤ n → n ≤ nrem → Up (arrOf st) n → (n = nrem ∨ K (arrOf st) n < K (arrOf st) (n - 1)) → Q (none, n) st) : wpS (model prog w) A E s (ascLoop a nrem) Q st := by
 unfold ascLoop
 refine wpS_forRange (I := fun x c st' => st' = st ∧ c = (none, x) ∧ Up (arrOf st) x) ?turn ?over ⟨rfl, rfl, hs⟩
 case over =>
  rintro c st' ⟨rfl, rfl, u⟩
  rw [show max a nrem = nrem by omega] at u ⊢
  exact h nrem han (FM _) u (.inl rfl)
 case turn =>
  rintro x c st' hax hxn ⟨rfl, rfl, u⟩
  dsimp only
  refine wpS_bind (wpS_ltK hB h0 (by omega) (by omega) ?_)
  by_cases c1 : K (arrOf st') x < K (arrOf st') (x - 1)
  ·simp only [c1, decide_true, if_true]
   exact wpS_pure (h x hax (by omega) u (.inr c1))
  ·simp only [c1, decide_false, Cv, if_false]
   refine wpS_pure ⟨rfl, rfl, fun i j hij hj => ?_⟩
   by_cases hjx : j < x
   ·exact u i j hij hjx
   ·have e : j = x := by omega
    subst e
    have t1 := hl (j - 1) j (by omega) hax (by omega)
    have l1 : Lx (arrOf st') (j - 1) j := by unfold Lx; omega
    by_cases e2 : i = j - 1
    ·rw [e2]; exact l1
    ·exact (u i (j - 1) (by omega) (by omega)).trans l1
theorem tail {st : SortSt} {n nrem : Nat} {Q : Option Nat → SortSt → Prop} (h0 : IntKeys a₀) (hn : nrem ≤ a₀.size) (h1 : 1 ≤ n) (hnn : n ≤ nrem) (hB : SBase a₀ st) (hs : Dn (arrOf st) n) (hl : Lat a₀ (arrOf st) n)
  (h : ∀ m st', SBase a₀ st' → 1 ≤ m → m ≤ nrem → Up (arrOf st') m → Lat a₀ (arrOf st') m → Q (some m) st') : wpS (model prog w) A E s (tail3 n nrem) Q st := by
 unfold tail3
 have sz : n ≤ (arrOf st).size := by rw [hB.size]; omega
 refine wpS_bind (wpS_reverse ?_)
 have hB2 : SBase a₀ (setArr st (mirror (arrOf st) 0 n ((n - 0) / 2))) := hB.setArr (mirror_perm _ _ _ _)
 have hl2 : Lat a₀ (mirror (arrOf st) 0 n ((n - 0) / 2)) n := kfZ sz (FM _) hl
 refine wpS_bind (asc h0 hn h1 hnn hB2 ?_ hl2 fun m hm1 hm2 hu _ => wpS_pure (h m _ hB2 (by omega) hm2 hu (hl2.mono hm1)))
 intro i j hij hj
 show Lx (mirror (arrOf st) 0 n ((n - 0) / 2)) i j
 obtain ⟨i', ⟨k1, t1⟩, e1⟩ := kcw (i := 0) sz i
 obtain ⟨j', ⟨k2, t2⟩, e2⟩ := kcw (i := 0) sz j
 rw [if_pos (by omega)] at e1 e2
 have := hs j' i' (by omega) (by omega)
 unfold Lx at this ⊢
 rw [k1, k2, t1, t2]
 exact this
structure Fl (a₀ xs : Array Keyed) (x neq : Nat) : Prop where
 few : neq + 1 ≤ x
 hd : Dn xs (x - (neq + 1))
 cr : ∀ i j, i < x - (neq + 1) → x - (neq + 1) ≤ j → j < x → K xs j < K xs i
 tl : ∀ i j, x - (neq + 1) ≤ i → i < j → j < x → K xs i = K xs j ∧ T xs i < T xs j
 lat : Lat a₀ xs x
theorem Fl.turned {xs : Array Keyed} {x neq : Nat} (h : Fl a₀ xs x neq) (hx : x ≤ xs.size) : Dn (mirror xs (x - (neq + 1)) x ((x - (x - (neq + 1))) / 2)) x ∧ (∀ i, i < x → K xs (x - 1) ≤ K (mirror xs (x - (neq + 1)) x ((x - (x - (neq + 1))) / 2)) i) ∧ Lat a₀ (mirror xs (x - (neq + 1)) x ((x - (x - (neq + 1))) / 2)) x ∧
  ∀ k, x ≤ k → K (mirror xs (x - (neq + 1)) x ((x - (x - (neq + 1))) / 2)) k = K xs k := by
 have hf := h.few
 refine ⟨fun i j hij hj => ?_, fun i hi => ?_, kfZ hx (FM _) h.lat, fun k hk => ?_⟩
 ·obtain ⟨i', ⟨k1, t1⟩, e1⟩ := kcw (i := x - (neq + 1)) hx i
  obtain ⟨j', ⟨k2, t2⟩, e2⟩ := kcw (i := x - (neq + 1)) hx j
  unfold Lx
  rw [k1, k2, t1, t2]
  by_cases c1 : j < x - (neq + 1)
  ·rw [if_neg (by omega)] at e1 e2
   subst e1 e2
   exact h.hd i' j' hij c1
  ·rw [if_pos (by omega)] at e2
   by_cases c2 : i < x - (neq + 1)
   ·rw [if_neg (by omega)] at e1
    subst e1
    exact .inl (h.cr i' j' c2 (by omega) (by omega))
   ·rw [if_pos (by omega)] at e1
    have := h.tl j' i' (by omega) (by omega) (by omega)
    omega
 ·obtain ⟨i', ⟨k1, _⟩, e1⟩ := kcw (i := x - (neq + 1)) hx i
  rw [k1]
  by_cases c2 : i < x - (neq + 1)
  ·rw [if_neg (by omega)] at e1
   subst e1
   have := h.cr i' (x - 1) c2 (by omega) (by omega)
   omega
  ·rw [if_pos (by omega)] at e1
   by_cases c3 : i' = x - 1
   ·rw [c3]; exact Int.le_refl _
   ·have := h.tl i' (x - 1) (by omega) (by omega) (by omega)
    omega
 ·obtain ⟨k', ⟨k1, _⟩, e1⟩ := kcw (i := x - (neq + 1)) hx k
  rw [if_neg (by omega)] at e1
  rw [k1, e1]
theorem Fl.plain {xs : Array Keyed} {x : Nat} (h : Fl a₀ xs x 0) : Dn xs x ∧ (∀ i, i < x → K xs (x - 1) ≤ K xs i) := by
 have hf := h.few
 refine ⟨fun i j hij hj => ?_, fun i hi => ?_⟩
 ·by_cases c1 : j < x - (0 + 1)
  ·exact h.hd i j hij c1
  ·exact .inl (h.cr i j (by omega) (by omega) hj)
 ·by_cases c3 : i = x - 1
  ·rw [c3]; exact Int.le_refl _
  ·have := h.cr i (x - 1) (by omega) (by omega) (by omega)
   omega
theorem Fl.next {xs : Array Keyed} {x : Nat} (hd : Dn xs x) (hk : ∀ i, i < x → K xs x < K xs i) (hl : Lat a₀ xs x) : Fl a₀ xs (x + 1) 0 :=
 ⟨by omega, fun i j h1 h2 => hd i j h1 (by omega), fun i j h1 h2 h3 => by
  have e : j = x := by omega
  subst e
  exact hk i (by omega), fun i j h1 h2 h3 => by omega, hl.mono (by omega)⟩
theorem desc {st : SortSt} {n nrem : Nat} {Q : DescSt → SortSt → Prop} (h0 : IntKeys a₀) (hn : nrem ≤ a₀.size) (hnn : n ≤ nrem) (hB : SBase a₀ st) (hs : Fl a₀ (arrOf st) n 0)
  (h : ∀ m neq st', SBase a₀ st' → n ≤ m → m ≤ nrem → Fl a₀ (arrOf st') m neq → Q (none, m, neq) st') : wpS (model prog w) A E s (descLoop n nrem) Q st := by
 unfold descLoop
 refine wpS_forRange (I := fun x c st' => ∃ neq, c = (none, x, neq) ∧ SBase a₀ st' ∧ Fl a₀ (arrOf st') x neq) ?turn ?over ⟨0, rfl, hB, hs⟩
 case over =>
  rintro c st' ⟨neq, rfl, hB', f⟩
  rw [show max n nrem = nrem by omega] at f ⊢
  exact h nrem neq st' hB' hnn (FM _) f
 case turn =>
  rintro x c st' hax hxn ⟨neq, rfl, hB', f⟩
  dsimp only
  have few := f.few
  have sz : x ≤ (arrOf st').size := by rw [hB'.size]; omega
  refine wpS_bind (wpS_ltK hB' h0 (by omega) (by omega) ?_)
  by_cases c1 : K (arrOf st') x < K (arrOf st') (x - 1)
  ·simp only [c1, decide_true, if_true]
   by_cases c2 : neq > 0
   ·rw [if_pos c2]
    obtain ⟨d1, d2, d3, d4⟩ := f.turned sz
    refine wpS_bind (wpS_reverse (wpS_pure ⟨0, rfl, hB'.setArr (mirror_perm _ _ _ _), Fl.next d1 (fun i hi => ?_) d3⟩))
    have := d2 i hi
    have e := d4 x (FM _)
    show K (mirror (arrOf st') _ _ _) x < K (mirror (arrOf st') _ _ _) i
    omega
   ·rw [if_neg c2]
    have e : neq = 0 := by omega
    subst e
    obtain ⟨d1, d2⟩ := f.plain
    exact wpS_pure ⟨0, rfl, hB', Fl.next d1 (fun i hi => by have := d2 i hi; omega) f.lat⟩
  ·simp only [c1, decide_false, Cv, if_false]
   refine wpS_bind (wpS_ltK hB' h0 (by omega) (by omega) ?_)
   by_cases c2 : K (arrOf st') (x - 1) < K (arrOf st') x
   ·simp only [c2, decide_true, if_true]
    exact wpS_pure (h x neq st' hB' hax (by omega) f)
   ·simp only [c2, decide_false, Cv, if_false]
    have ek : K (arrOf st') x = K (arrOf st') (x - 1) := by omega
    refine wpS_pure ⟨neq + 1, rfl, hB', ⟨by omega, ?_, ?_, ?_, f.lat.mono (by omega)⟩⟩
    ·rw [show x + 1 - (neq + 1 + 1) = x - (neq + 1) by omega]
     exact f.hd
    ·rw [show x + 1 - (neq + 1 + 1) = x - (neq + 1) by omega]
     intro i j h1 h2 h3
     by_cases c3 : j < x
     ·exact f.cr i j h1 h2 c3
     ·have e : j = x := by omega
      subst e
      rw [ek]
      exact f.cr i (j - 1) h1 (by omega) (by omega)
    ·rw [show x + 1 - (neq + 1 + 1) = x - (neq + 1) by omega]
     intro i j h1 h2 h3
     by_cases c3 : j < x
     ·exact f.tl i j h1 h2 c3
     ·have e : j = x := by omega
      subst e
      refine ⟨?_, f.lat i j h2 (FM _) (by omega)⟩
      rw [ek]
      by_cases c4 : i = j - 1
      ·rw [c4]
      ·exact (f.tl i (j - 1) h1 (by omega) (by omega)).1
theorem falls {st : SortSt} {n nrem : Nat} {Q : Option Nat → SortSt → Prop} (h0 : IntKeys a₀) (hn : nrem ≤ a₀.size) (hnn : n + 1 ≤ nrem) (hB : SBase a₀ st) (hs : Fl a₀ (arrOf st) (n + 1) 0)
  (h : ∀ m st', SBase a₀ st' → 1 ≤ m → m ≤ nrem → Up (arrOf st') m → Lat a₀ (arrOf st') m → Q (some m) st') : wpS (model prog w) A E s (descPart n nrem) Q st := by
 unfold descPart
 refine wpS_bind (wpS_lift (wpAny_rule ⟨rfl, ?_⟩))
 refine wpS_bind (desc h0 hn hnn hB hs fun m neq st' hB' hm1 hm2 f => ?_)
 dsimp only
 have sz : m ≤ (arrOf st').size := by rw [hB'.size]; omega
 by_cases c2 : neq > 0
 ·rw [if_pos c2]
  obtain ⟨d1, _, d3, _⟩ := f.turned sz
  exact wpS_bind (wpS_reverse (tail h0 hn (by omega) hm2 (hB'.setArr (mirror_perm _ _ _ _)) d1 d3 h))
 ·rw [if_neg c2]
  have e : neq = 0 := by omega
  subst e
  exact tail h0 hn (by omega) hm2 hB' f.plain.1 f.lat h
theorem count {st : SortSt} {nrem : Nat} {Q : Option Nat → SortSt → Prop} (h0 : IntKeys a₀) (hn : nrem ≤ a₀.size) (h1 : 1 ≤ nrem) (hB : SBase a₀ st) (hl : Lat a₀ (arrOf st) 1)
  (h : ∀ m st', SBase a₀ st' → 1 ≤ m → m ≤ nrem → Up (arrOf st') m → Lat a₀ (arrOf st') m → Q (some m) st') : wpS (model prog w) A E s (countRun' 0 nrem) Q st := by
 rw [countRun0_eq]
 refine wpS_bind (asc h0 hn (FM 1) h1 hB (fun i j hij hj => by omega) hl fun n hn1 hn2 hu hor => ?_)
 dsimp only
 by_cases c1 : n = nrem
 ·rw [if_pos (by simpa using c1)]
  exact wpS_pure (h n st hB hn1 hn2 hu (hl.mono hn1))
 ·rw [if_neg (by simpa using c1)]
  have lt : K (arrOf st) n < K (arrOf st) (n - 1) := hor.resolve_left c1
  by_cases c2 : n > 1
  ·rw [if_pos c2]
   refine wpS_bind (wpS_ltK hB h0 (by omega) (by omega) ?_)
   by_cases c3 : K (arrOf st) 0 < K (arrOf st) (n - 1)
   ·simp only [c3, decide_true, if_true]
    exact wpS_pure (h n st hB hn1 hn2 hu (hl.mono hn1))
   ·simp only [c3, decide_false, Cv, if_false]
    have sz : n ≤ (arrOf st).size := by rw [hB.size]; omega
    have same : ∀ i, i < n → K (arrOf st) i = K (arrOf st) (n - 1) := fun i hi => by
     by_cases z : i = 0
     ·subst z
      have := (hu 0 (n - 1) (by omega) (by omega)).le
      omega
     ·have a1 := (hu 0 i (by omega) hi).le
      by_cases z2 : i = n - 1
      ·rw [z2]
      ·have a2 := (hu i (n - 1) (by omega) (by omega)).le
       omega
    refine wpS_bind (wpS_reverse (falls h0 hn (by omega) (hB.setArr (mirror_perm _ _ _ _)) (Fl.next (fun i j hij hj => ?_) (fun i hi => ?_) (kfZ sz (FM _) (hl.mono hn1))) h))
    ·show Lx (mirror (arrOf st) 0 n ((n - 0) / 2)) j i
     obtain ⟨i', ⟨k1, t1⟩, e1⟩ := kcw (i := 0) sz i
     obtain ⟨j', ⟨k2, t2⟩, e2⟩ := kcw (i := 0) sz j
     rw [if_pos (by omega)] at e1 e2
     have := hu j' i' (by omega) (by omega)
     unfold Lx at this ⊢
     rw [k1, k2, t1, t2]
     exact this
    ·show K (mirror (arrOf st) 0 n ((n - 0) / 2)) n < K (mirror (arrOf st) 0 n ((n - 0) / 2)) i
     obtain ⟨i', ⟨k1, _⟩, e1⟩ := kcw (i := 0) sz i
     obtain ⟨n', ⟨k2, _⟩, e2⟩ := kcw (i := 0) sz n
     rw [if_pos (by omega)] at e1
     rw [if_neg (by omega)] at e2
     subst e2
     rw [k1, k2, same i' (by omega)]
     exact lt
  ·rw [if_neg c2]
   have e : n = 1 := by omega
   subst e
   refine falls h0 hn (by omega) hB (Fl.next (fun i j hij hj => by omega) (fun i hi => ?_) hl) h
   have z : i = 0 := by omega
   subst z
   exact lt
theorem insert {st : SortSt} {n ok : Nat} {Q : Bool → SortSt → Prop} (h0 : IntKeys a₀) (hn : n ≤ a₀.size) (h1 : 1 ≤ ok) (hok : ok ≤ n) (hB : SBase a₀ st) (hs : Up (arrOf st) ok) (hl : Lat a₀ (arrOf st) ok)
  (h : ∀ st', SBase a₀ st' → Up (arrOf st') n → Q true st') : wpS (model prog w) A E s (binarySort' 0 n ok) Q st := by
 rw [binarySort'_eq]
 simp only [Nat.zero_add]
 refine wpS_bind (wpS_mono (wpS_forRange (I := fun k c st' => c = (none, ()) ∧ SBase a₀ st' ∧ Up (arrOf st') (min k n) ∧ Lat a₀ (arrOf st') (min k n)) (Q := fun c st' => c = (none, ()) ∧ SBase a₀ st' ∧ Up (arrOf st') n) ?turn ?over ?begin) ?behind)
 case behind =>
  rintro c st' ⟨rfl, hB', hu⟩
  exact wpS_pure (h st' hB' hu)
 case begin =>
  rw [show max ok 1 = ok by omega, show min ok n = ok by omega]
  exact ⟨rfl, hB, hs, hl⟩
 case over =>
  rintro c st' ⟨hc, hB', hu, _⟩
  refine ⟨hc, hB', ?_⟩
  rwa [show min (max (max ok 1) n) n = n by omega] at hu
 case turn =>
  rintro k c st' hak hkn ⟨rfl, hB', hu, hla⟩
  rw [show min k n = k by omega] at hu hla
  have hk : k < a₀.size := by omega
  refine wpS_bind (wpS_mono (wpS_forRange (I := fun x c st'' => st'' = st' ∧ ∃ l r, c = (none, l, r) ∧ l ≤ r ∧ r ≤ k ∧ r - l ≤ k - x ∧ (∀ i, i < l → K (arrOf st') i ≤ K (arrOf st') k) ∧ (∀ i, r ≤ i → i < k → K (arrOf st') k < K (arrOf st') i))
   (Q := fun c st'' => st'' = st' ∧ ∃ l r, c = (none, l, r) ∧ l ≤ k ∧ (∀ i, i < l → K (arrOf st') i ≤ K (arrOf st') k) ∧ (∀ i, l ≤ i → i < k → K (arrOf st') k < K (arrOf st') i)) ?turn2 ?over2 ?begin2) ?behind2)
  case begin2 => exact ⟨rfl, 0, k, rfl, by omega, by omega, by omega, fun i hi => by omega, fun i a b => by omega⟩
  case over2 =>
   rintro c st'' ⟨rfl, l, r, rfl, hlr, hrk, hm, lo, hi⟩
   have e : l = r := by omega
   subst e
   exact ⟨rfl, l, l, rfl, hrk, lo, hi⟩
  case turn2 =>
   rintro x c st'' _ hxk ⟨rfl, l, r, rfl, hlr, hrk, hm, lo, hi⟩
   dsimp only
   by_cases c1 : l ≥ r
   ·rw [if_pos c1]
    have e : l = r := by omega
    subst e
    exact wpS_pure ⟨rfl, l, l, rfl, hrk, lo, hi⟩
   ·rw [if_neg c1]
    refine wpS_bind (wpS_ltK hB' h0 hk (by omega) ?_)
    by_cases c2 : K (arrOf st'') k < K (arrOf st'') ((l + r) / 2)
    ·simp only [c2, decide_true, if_true]
     refine wpS_pure ⟨rfl, l, (l + r) / 2, rfl, by omega, by omega, by omega, lo, fun i a b => ?_⟩
     by_cases z : i = (l + r) / 2
     ·rw [z]; exact c2
     ·exact Int.lt_of_lt_of_le c2 (hu _ _ (by omega) b).le
    ·simp only [c2, decide_false, Cv, if_false]
     refine wpS_pure ⟨rfl, (l + r) / 2 + 1, r, rfl, by omega, by omega, by omega, fun i a => ?_, hi⟩
     by_cases z : i = (l + r) / 2
     ·rw [z]; omega
     ·exact Int.le_trans (hu i ((l + r) / 2) (by omega) (by omega)).le (Int.not_lt.mp c2)
  case behind2 =>
   rintro c st'' ⟨rfl, l, r, rfl, hlk, lo, hi⟩
   show wpS _ _ _ _ (do moveDown' k l; pure (ForInStep.yield (none, ()))) _ _
   rw [moveDown'_eq]
   have hks : k < (arrOf st'').size := by rw [hB'.size]; exact hk
   refine wpS_bind (wpS_modify (wpS_pure ⟨rfl, hB'.setArr (bubble_perm _ _ _), ?_, ?_⟩))
   ·rw [show min (k + 1) n = k + 1 by omega]
    intro i j hij hj
    show Lx (bubble (arrOf st'') k (k - l)) i j
    obtain ⟨i', ⟨k1, t1⟩, e1⟩ := kgA hks (show k - l ≤ k by omega) i
    obtain ⟨j', ⟨k2, t2⟩, e2⟩ := kgA hks (show k - l ≤ k by omega) j
    rw [show k - (k - l) = l by omega] at e1 e2
    unfold Lx
    rw [k1, k2, t1, t2]
    by_cases z1 : i = l
    ·rw [if_pos z1] at e1
     rw [if_neg (by omega), if_pos (by omega)] at e2
     subst e1
     exact .inl (hi j' (by omega) (by omega))
    ·rw [if_neg z1] at e1
     by_cases z2 : j = l
     ·rw [if_pos z2] at e2
      rw [if_neg (by omega)] at e1
      subst e2
      have a1 := lo i' (by omega)
      have a2 := hla i' j' (by omega) (FM _) hk
      omega
     ·rw [if_neg z2] at e2
      refine hu i' j' ?_ ?_
      ·rw [e1, e2]
       repeat' split
       all_goals omega
      ·rw [e2]
       split <;> omega
   ·rw [show min (k + 1) n = k + 1 by omega]
    intro a b hab hkb hb
    show T (bubble (arrOf st'') k (k - l)) a < T (bubble (arrOf st'') k (k - l)) b
    obtain ⟨a', ⟨_, t1⟩, e1⟩ := kgA hks (show k - l ≤ k by omega) a
    obtain ⟨b', ⟨_, t2⟩, e2⟩ := kgA hks (show k - l ≤ k by omega) b
    rw [show k - (k - l) = l by omega] at e1 e2
    rw [if_neg (by omega), if_neg (by omega)] at e2
    subst e2
    rw [t1, t2]
    refine hla a' b' ?_ (by omega) hb
    rw [e1]
    repeat' split
    all_goals omega
noncomputable def Done (a₀ : Array Keyed) (st : SortSt) : Prop := (arrOf st).Perm a₀ ∧ failedOf st = none ∧ pendingOf st = #[(0, a₀.size, 0)] ∧ Up (arrOf st) a₀.size
theorem done {st : SortSt} (hB : SBase a₀ st) (hu : Up (arrOf st) a₀.size) : Done a₀ (setPending st ((pendingOf st).push (0, a₀.size, 0))) := ⟨hB.perm, hB.failed, by show (pendingOf st).push _ = _; rw [hB.pend]; rfl, hu⟩
theorem runs {st : SortSt} {Q : Unit → SortSt → Prop} (h0 : IntKeys a₀) (hB : SBase a₀ st) (h2 : 2 ≤ a₀.size) (h64 : a₀.size < 64) (hl : Lat a₀ (arrOf st) 1)
  (h : ∀ st', (arrOf st').Perm a₀ → failedOf st' = none → Up (arrOf st') a₀.size → Q () st') : wpS (model prog w) A E s sortRuns' Q st := by
 rw [sortRuns'_eq]
 refine wpS_bind (wpS_get ?_)
 dsimp only
 have mr : minRun' a₀.size a₀.size 0 = a₀.size := by
  obtain ⟨f, hf⟩ : ∃ f, a₀.size = f + 1 := ⟨a₀.size - 1, by omega⟩
  have z : minRun' (f + 1) a₀.size 0 = a₀.size := by rw [minRun'_succ, if_pos h64]; rfl
  rwa [← hf] at z
 simp only [hB.size, mr]
 refine wpS_bind (wpS_mono (wpS_forRange (I := fun x c st' => (x = 0 ∧ c = (none, 0) ∧ st' = st) ∨ (1 ≤ x ∧ c = (none, a₀.size) ∧ Done a₀ st')) (Q := fun c st' => c = (none, a₀.size) ∧ Done a₀ st') ?turn ?over (.inl ⟨rfl, rfl, rfl⟩)) ?behind)
 case over =>
  rintro c st' (⟨hx, _, _⟩ | ⟨_, hc, hD⟩)
  ·omega
  ·exact ⟨hc, hD⟩
 case turn =>
  rintro x c st' _ hx (⟨rfl, rfl, rfl⟩ | ⟨hx1, rfl, hD⟩)
  ·dsimp only
   rw [if_neg (by omega)]
   simp only [Nat.sub_zero, C8, Nat.zero_add]
   refine wpS_bind (count h0 (FM _) (by omega) hB hl fun m st2 hB2 hm1 hm2 hu2 hl2 => ?_)
   dsimp only
   by_cases c1 : m < a₀.size
   ·rw [if_pos c1]
    refine wpS_bind (wpS_lift (wpAny_rule ⟨rfl, ?_⟩))
    refine wpS_bind (insert h0 (FM _) hm1 hm2 hB2 hu2 hl2 fun st3 hB3 hu3 => ?_)
    simp only [Bool.not_true, Cv, if_false]
    refine wpS_bind (wpS_get ?_)
    have hb : (pendingOf st3).back? = none := by rw [hB3.pend]; rfl
    rw [hb]
    dsimp only
    exact wpS_bind (wpS_modify (wpS_pure (.inr ⟨by omega, rfl, done hB3 hu3⟩)))
   ·rw [if_neg c1]
    have e : m = a₀.size := by omega
    subst e
    refine wpS_bind (wpS_get ?_)
    have hb : (pendingOf st2).back? = none := by rw [hB2.pend]; rfl
    rw [hb]
    dsimp only
    exact wpS_bind (wpS_modify (wpS_pure (.inr ⟨by omega, rfl, done hB2 hu2⟩)))
  ·dsimp only
   rw [if_pos (FM _)]
   exact wpS_pure ⟨rfl, hD⟩
 case behind =>
  rintro c st' ⟨rfl, hD⟩
  dsimp only
  refine wpS_bind (wpS_mono (wpS_forRange (I := fun _ c st'' => st'' = st' ∧ c = (none, ())) (Q := fun c st'' => st'' = st' ∧ c = (none, ())) ?_ (fun _ _ z => z) ⟨rfl, rfl⟩) ?_)
  ·rintro x c st'' _ _ ⟨rfl, rfl⟩
   refine wpS_bind (wpS_get ?_)
   rw [if_pos (by rw [hD.2.2.1]; exact FM 1)]
   exact wpS_pure ⟨rfl, rfl⟩
  ·rintro c st'' ⟨rfl, rfl⟩
   exact wpS_pure (h _ hD.1 hD.2.1 hD.2.2.2)
end
end Stb
namespace Stb
open PySem PyProof.Rows
structure SJ (J : Shared → Prop) (n0 : Nat) : Prop where
 sz : ∀ s, J s → n0 ≤ s.heap.objs.size
 push : ∀ s c xs n, J s → J { s with heap := s.heap.push (seqObj c xs n) }
 upd : ∀ s b g, J s → n0 ≤ b → J { s with heap := s.heap.update b (Obj.mapSeq g) }
noncomputable def Tells (J : Shared → Prop) (n0 : Nat) (k : Int) (s : Shared) (v : Value) (s' : Shared) : Prop := (∃ t, v = .int k t) ∧ J s' ∧ ∀ b o, n0 ≤ b → s.heap.get? b = some o → s'.heap.get? b = some o
noncomputable def Rows (keys : Array Value) (vs : List Value) (out : Array Value) : Prop := ∃ xs : Array Keyed, xs.Perm (keys.zip vs.toArray) ∧ Up xs xs.size ∧ out = xs.map (·.2)
section
variable {prog : Program} {w : World} {A : Around} {E : Value → Shared → Prop} {s : Shared} {J : Shared → Prop} {n0 : Nat} {a kS : Addr} {vs : List Value} {kz : List Int} {keys : Array Value} {e e1 : Nat} {P : PySem.Fin → Shared → Prop}
theorem tailK (S : SJ J n0) (hJ : J s) (hk : s.heap.get? kS = some (seqObj "list" keys e)) (ha : s.heap.get? a = some (seqObj "list" #[] e1)) (ne : kS ≠ a) (nk : n0 ≤ kS) (na : n0 ≤ a) {st : SortSt} (hz : keys.size ≤ 64) (hp : (arrOf st).Perm (keys.zip vs.toArray)) (hu : Up (arrOf st) (arrOf st).size)
  (hf : failedOf st = none) (hv : vs.length ≤ 64) (h : ∀ h' out c, J { s with heap := h' } → h'.get? a = some (seqObj "list" out c) → Rows keys vs out → P (.done (.ret .none)) { s with heap := h' }) : wpAny (model prog w) A (ksk_tail a false e1 (.ref kS) st) P E s := by
 have sz2 : (arrOf st).size ≤ 64 := by
  have hvs : vs.toArray.size = vs.length := by simp
  rw [hp.size_eq, RG]
  omega
 have q1 := Heap.SameBut.update s.heap kS (Obj.mapSeq fun _ => (#[] : Array Value))
 have g1 : (s.heap.update kS (Obj.mapSeq fun _ => (#[] : Array Value))).get? a = some (seqObj "list" #[] e1) := (q1.2 a ne.symm).trans ha
 have J1 := S.upd s kS (fun _ => #[]) hJ nk
 have J2 := S.upd _ a (fun _ => (arrOf st).map (·.2)) J1 na
 unfold ksk_tail
 try dsimp only
 refine wpAny_bind (listUpdate_at hk rfl ?_ (by rw [sizeLine_eq]; omega) (Cm _))
 refine wpAny_bind (wpAny_letGo ?_)
 refine wpAny_bind (seqEpoch_at g1 rfl ?_)
 refine wpAny_bind (listUpdate_at g1 rfl ?_ (Cm _) (by simp only [Cv, if_false, Array.size_map]; rw [sizeLine_eq]; omega))
 rw [hf]
 simp only [bne_self_eq_false, Cv, if_false]
 exact wpAny_pure (h _ _ _ J2 (get?_update_seq g1 fun _ => (arrOf st).map (·.2)) ⟨arrOf st, hp, hu, rfl⟩)
theorem zip_T {keys : Array Value} {vs : List Value} {i : Nat} (hl : keys.size = vs.length) : T (keys.zip vs.toArray) i = match vs[i]? with | some v => numOf v | none => 0 := by
 unfold T
 have hvs : vs.toArray.size = vs.length := by simp
 cases ev : vs[i]? with
 | none =>
  have hi : vs.length ≤ i := RU.mp ev
  have e : (keys.zip vs.toArray)[i]? = none := Array.getElem?_eq_none (by rw [RG]; omega)
  rw [e]
 | some v =>
  have hi : i < vs.length := (FZ.mp ev).1
  have hz : i < (keys.zip vs.toArray).size := by rw [RG]; omega
  have ev' : vs[i] = v := by
   rw [CU hi] at ev
   exact Option.some.inj ev
  have e : (keys.zip vs.toArray)[i]? = some (keys[i]'(by omega), vs[i]) := by
   rw [Se hz]
   simp
  rw [e, ev']
theorem endK (S : SJ J n0) (hJ : J s) (hk : s.heap.get? kS = some (seqObj "list" keys e)) (ha : s.heap.get? a = some (seqObj "list" #[] e1)) (ne : kS ≠ a) (nk : n0 ≤ kS) (na : n0 ≤ a) (hi : IntsAre keys.toList kz) (hl : keys.size = vs.length) (h64 : vs.length < 64)
  (up : ∀ (i j : Nat) (x y : Value), i < j → vs[i]? = some x → vs[j]? = some y → numOf x < numOf y)
  (h : ∀ h' out c, J { s with heap := h' } → h'.get? a = some (seqObj "list" out c) → Rows keys vs out → P (.done (.ret .none)) { s with heap := h' }) : wpAny (model prog w) A (ksk_end a false vs.toArray e1 (.ref kS) keys) P E s := by
 have hvs : vs.toArray.size = vs.length := by simp
 have zs : (keys.zip vs.toArray).size = vs.length := by rw [RG]; omega
 unfold ksk_end
 try dsimp only
 simp only [Cv, if_false]
 by_cases h2 : vs.toArray.size < 2
 ·rw [if_pos h2, if_pos h2]
  refine wpAny_bind (wpAny_pure ?_)
  rw [StateT.run_pure]
  refine wpAny_bind (wpAny_pure ?_)
  try dsimp only
  refine tailK (st := SortSt.mk' general' (keys.zip vs.toArray) #[] 7 none) S hJ hk ha ne nk na (by omega) (Array.Perm.refl _) ?_ rfl (by omega) h
  intro i j hij hj
  have hj2 : j < (keys.zip vs.toArray).size := hj
  rw [zs] at hj2
  rw [F3] at h2
  omega
 ·rw [if_neg h2, if_neg h2]
  rw [F3] at h2
  rw [ksk_kind hi (by rw [hl]; omega)]
  refine wpAny_bind (wpAny_pure ?_)
  have lat : Lat (keys.zip vs.toArray) (keys.zip vs.toArray) 1 := fun i j hij _ hj => by
   rw [zs] at hj
   rw [zip_T hl, zip_T hl, CU (show i < vs.length by omega), CU hj]
   exact up i j _ _ hij (CU (show i < vs.length by omega)) (CU hj)
  refine wpAny_bind (wpAny_mono (runs (a₀ := keys.zip vs.toArray) (st := SortSt.mk' oneType' (keys.zip vs.toArray) #[] 7 none) (Q := fun _ st' => (arrOf st').Perm (keys.zip vs.toArray) ∧ failedOf st' = none ∧ Up (arrOf st') (keys.zip vs.toArray).size)
   (ksk_intKeys hi) ⟨Array.Perm.refl _, rfl, rfl, rfl⟩ (by rw [zs]; omega) (by rw [zs]; exact h64) lat fun st' b1 b2 b3 => ⟨b1, b2, b3⟩) ?_ fun _ _ z => z)
  rintro ⟨⟨⟩, st'⟩ s' ⟨rfl, b1, b2, b3⟩
  try dsimp only
  exact tailK S hJ hk ha ne nk na (by omega) b1 (by rw [b1.size_eq]; exact b3) b2 (by omega) h
theorem restK {f : Value} (S : SJ J n0) (hJ : J s) (hk : s.heap.get? kS = some (seqObj "list" #[] 0)) (ha : s.heap.get? a = some (seqObj "list" #[] e1)) (ne : kS ≠ a) (nk : n0 ≤ kS) (na : n0 ≤ a) (hl : kz.length = vs.length) (h64 : vs.length < 64)
  (up : ∀ (i j : Nat) (x y : Value), i < j → vs[i]? = some x → vs[j]? = some y → numOf x < numOf y)
  (turn : ∀ (i : Nat) (v : Value) (k : Int), vs[i]? = some v → kz[i]? = some k → ∀ s', J s' → wpAny (model prog w) A (call f [v]) (Tells J n0 k s') (fun _ _ => False) s')
  (h : ∀ s' keys out c, J s' → s'.heap.get? a = some (seqObj "list" out c) → IntsAre keys.toList kz → keys.size = vs.length → Rows keys vs out → P (.done (.ret .none)) s') : wpAny (model prog w) A (ksk_rest a f false vs.toArray e1 (.ref kS)) P E s := by
 unfold ksk_rest
 refine wpAny_bind (wpAny_rule ?_)
 first
  | rw [List.forIn_toArray]
  | rw [← Array.forIn_toList]
 refine wpAny_bind (ksk_fold (fun i s' => J s' ∧ ∃ kA e, s'.heap.get? kS = some (seqObj "list" kA e) ∧ s'.heap.get? a = some (seqObj "list" #[] e1) ∧ IntsAre kA.toList (kz.take i)) vs 0 s ⟨hJ, #[], 0, hk, ha, by simpa using IntsAre.nil⟩ ?turnP ?doneP)
 case turnP =>
  rintro j x s' hx ⟨J', kA, e, g1, g2, hi⟩
  simp only [Nat.zero_add] at hi ⊢
  have hj : j < vs.length := (FZ.mp hx).1
  obtain ⟨k, ek⟩ : ∃ k, kz[j]? = some k := ⟨_, CU (by omega)⟩
  have lz : kA.size ≤ vs.length := by
   have h1 := hi.length
   rw [Rb, F2] at h1
   omega
  refine wpAny_bind (wpAny_attempt (wpAny_mono (turn j x k hx ek s' J') (fun v s'' hT => ?_) fun _ _ z => z.elim))
  obtain ⟨⟨t, rfl⟩, J2, kp⟩ := hT
  try dsimp only
  have g1' := kp _ _ nk g1
  have g2' := kp _ _ na g2
  have q1 := Heap.SameBut.update s''.heap kS (Obj.mapSeq (·.push (.int k t)))
  refine wpAny_bind (listUpdate_at g1' rfl ?_ (by rw [sizeLine_eq]; omega) (FQ (Ry (Array.size_push ..)) (by rw [sizeLine_eq]; omega)))
  have et : kz.take (j + 1) = kz.take j ++ [k] := by rw [CV, ek]; simp
  have ep : (kA.push (Value.int k t)).toList = kA.toList ++ [Value.int k t] := by simp
  exact wpAny_pure ⟨rfl, S.upd _ kS _ J2 nk, kA.push (.int k t), _, get?_update_seq g1' (·.push (.int k t)), (q1.2 a ne.symm).trans g2', by rw [ep, et]; exact ksk_snoc hi⟩
 case doneP =>
  rintro s' ⟨J', kA, e, g1, g2, hi⟩
  have e3 : kz.take (0 + vs.length) = kz := Cz (by omega)
  rw [e3] at hi
  have lk : kA.size = vs.length := by
   have := hi.length
   rw [Rb] at this
   omega
  try dsimp only
  refine wpAny_bind (listItems_at g1 rfl ?_)
  exact endK S J' g1 g2 ne nk na hi lk h64 up fun h' out c z1 z2 z3 => h _ kA out c z1 z2 hi lk z3
theorem sortK {f : Value} {n : Nat} (S : SJ J n0) (hJ : J s) (ho : s.heap.get? a = some (seqObj "list" vs.toArray n)) (na : n0 ≤ a) (hl : kz.length = vs.length) (h64 : vs.length < 64)
  (up : ∀ (i j : Nat) (x y : Value), i < j → vs[i]? = some x → vs[j]? = some y → numOf x < numOf y)
  (turn : ∀ (i : Nat) (v : Value) (k : Int), vs[i]? = some v → kz[i]? = some k → ∀ s', J s' → wpAny (model prog w) A (call f [v]) (Tells J n0 k s') (fun _ _ => False) s')
  (h : ∀ s' keys out c, J s' → s'.heap.get? a = some (seqObj "list" out c) → IntsAre keys.toList kz → keys.size = vs.length → Rows keys vs out → P (.done (.ret .none)) s') : wpAny (model prog w) A (ksk_tree a f false) P E s := by
 have la : a < s.heap.objs.size := Heap.lt_size ho
 have J1 := S.upd s a (fun _ => #[]) hJ na
 have J2 := S.push _ "tuple" vs.toArray 0 J1
 have J3 := S.push _ "list" #[] 0 J2
 obtain ⟨e1, g1⟩ : ∃ e1, (s.heap.update a (Obj.mapSeq fun _ => (#[] : Array Value))).get? a = some (seqObj "list" #[] e1) := ⟨_, get?_update_seq ho fun _ => #[]⟩
 have sz : ((s.heap.update a (Obj.mapSeq fun _ => (#[] : Array Value))).push (seqObj "tuple" vs.toArray 0)).objs.size = s.heap.objs.size + 1 := by rw [size_push', Heap.size_update]
 have n0s := S.sz s hJ
 unfold ksk_tree
 refine wpAny_bind (listItems_at ho rfl ?_)
 refine wpAny_bind (listUpdate_at ho rfl ?_ (by rw [F3, sizeLine_eq]; omega) (Cm _))
 refine wpAny_bind (seqEpoch_at g1 rfl ?_)
 refine wpAny_bind (wpAny_newTuple ?_ (by show vs.length ≤ _; rw [sizeLine_eq]; omega))
 refine wpAny_bind (wpAny_newList ?_ (Cm _))
 refine wpAny_holding ?_
 refine restK (s := { s with heap := ((s.heap.update a (Obj.mapSeq fun _ => (#[] : Array Value))).push (seqObj "tuple" vs.toArray 0)).push (seqObj "list" #[] 0) }) (kS := ((s.heap.update a (Obj.mapSeq fun _ => (#[] : Array Value))).push (seqObj "tuple" vs.toArray 0)).objs.size)
  S J3 (Heap.get?_push_size _ rfl) (Heap.get?_push_of_some _ (Heap.get?_push_of_some _ g1)) (by rw [sz]; exact CC (Nat.lt_succ_of_lt la)) (by rw [sz]; omega) na hl h64 up turn h
end
section
variable {prog : Program} {w : World} {A : Around} {E : Value → Shared → Prop} {s : Shared} {J : Shared → Prop} {n0 : Nat} {vs : List Value} {kz : List Int} {Q : Value → Shared → Prop}
theorem sortedK {l f : Addr} (S : SJ J n0) (hJ : J s) (hL : s.heap.IsList l vs.toArray) (hl : kz.length = vs.length) (h64 : vs.length < 64)
  (up : ∀ (i j : Nat) (x y : Value), i < j → vs[i]? = some x → vs[j]? = some y → numOf x < numOf y)
  (turn : ∀ (i : Nat) (v : Value) (k : Int), vs[i]? = some v → kz[i]? = some k → ∀ s', J s' → wpAny (model prog w) A.in1.in1 (call (.ref f) [v]) (Tells J n0 k s') (fun _ _ => False) s')
  (h : ∀ s' D keys out c, n0 ≤ D → J s' → s'.heap.get? D = some (seqObj "list" out c) → IntsAre keys.toList kz → keys.size = vs.length → Rows keys vs out → Q (.ref D) s') : wpAny (model prog w) A (call (.builtin "sorted") [.ref l] [(Str.ofString "key", .ref f)]) Q E s := by
 refine call_function_entry_kw kind_sorted plain_sorted entry_sorted (ksk_s1 _ _) ?_
 unfold Builtin.«sorted»
 refine wpAny_bind (m := checkCount "sorted" 1 1 _) (wpAny_pure ?_)
 refine wpAny_bind (collect_list hL ?_ (by rw [sizeLine_eq]; omega))
 refine wpAny_bind (wpAny_newList ?_ (by rw [sizeLine_eq]; omega))
 have n0s := S.sz s hJ
 have J1 := S.push s "list" #[] 0 hJ
 have J2 := S.upd _ s.heap.objs.size (· ++ vs.toArray) J1 n0s
 have J3 := S.push _ "list" vs.toArray 0 J2
 have sz : ((s.heap.push (seqObj "list" #[] 0)).update s.heap.objs.size (Obj.mapSeq (· ++ vs.toArray))).objs.size = s.heap.objs.size + 1 := by rw [Heap.size_update, size_push']
 have g1 : (((s.heap.push (seqObj "list" #[] 0)).update s.heap.objs.size (Obj.mapSeq (· ++ vs.toArray))).push (seqObj "list" vs.toArray 0)).get? (s.heap.objs.size + 1) = some (seqObj "list" vs.toArray 0) := by
  rw [← sz]
  exact Heap.get?_push_size _ rfl
 show wpAny _ _ _ _ _ { s with heap := ((s.heap.push (seqObj "list" #[] 0)).update s.heap.objs.size (Obj.mapSeq (· ++ vs.toArray))).push (seqObj "list" vs.toArray 0) }
 rw [sz]
 refine wpAny_bind (wpAny_holding (wpAny_call_entry_kw slot_list_sort ⟨_, g1, rfl⟩ entry_list_sort ?inner (ksk_l1 _ _)))
 case inner =>
  show wpAny (model prog w) A.in1.in1 (Builtin.«list.sort» ⟨[.ref (s.heap.objs.size + 1)], [(Str.ofString "key", .ref f)]⟩) _ _ _
  rw [ksk_t1]
  refine sortK (s := { s with heap := ((s.heap.push (seqObj "list" #[] 0)).update s.heap.objs.size (Obj.mapSeq (· ++ vs.toArray))).push (seqObj "list" vs.toArray 0) }) S J3 g1 (by omega) hl h64 up turn fun s' keys out c z1 z2 z3 z4 z5 => ⟨_, rfl, ?_⟩
  exact wpAny_pure ⟨_, rfl, h s' _ keys out c (by omega) z1 z2 z3 z4 z5⟩
end
end Stb
namespace L2
open PySem PySem.Spec PyProof.Rows
structure kdc (X : Cx) (scope : Scope) (x : Str) (N : List Str) (cap : List (Option Nat)) : Prop where
 S : CompScope X scope N (none :: cap)
 hd : N[0]? = some x
 par : scope.names.lookup x = some .local
 co : scope.isCoroutine = false
 gen : scope.isGenerator = false
 nocell : ∀ y ∈ scope.names, y.2 ≠ .cell
noncomputable abbrev khE (X : Cx) (scope : Scope) (qual : Str) (L f c : Addr) : Env := PySem.W.envX qual scope L f (.ref c) (closL X.env.cells scope.names [])
noncomputable def cxL (X : Cx) (A : Around) (scope : Scope) (N : List Str) (qual : Str) (f c : Addr) (s : Shared) (H : Hp) : Cx :=
 { X with A := A.deeper (khE X scope qual s.heap.objs.size f c), N := N, s₀ := s, H₀ := H, env := khE X scope qual s.heap.objs.size f c, outer := X.stack, stack := khE X scope qual s.heap.objs.size f c :: X.stack, ex := [], fn := fun _ => false, calm := true, pn := [], xe := fun _ _ => False }
section
variable {X : Cx} {A : Around} {scope : Scope} {x : Str} {N : List Str} {cap : List (Option Nat)} {pins : List (Addr × Obj)} {σ : St} {H : Hp} {s s1 : Shared} {qual : Str} {f c : Addr}
theorem kcB (S : kdc X scope x N cap) (I : Inv X pins σ H s) {y : Str} {a : Addr} (h : (closL X.env.cells scope.names []).lookup y = some a) : X.env.cells.lookup y = some a := by
 rcases kdQ _ _ h with ⟨h1, h2⟩ | h1
 ·obtain ⟨a', ea⟩ := I.ok.has y (S.S.free _ h1 rfl)
  rw [ea] at h2
  rw [h2]
  exact ea
 ·cases h1
theorem kkj (S : kdc X scope x N cap) (I : Inv X pins σ H s) (hfr : A.frames = some X.stack) (hh : A.handled = none) {v : V} {u : Value} (r : RelV v u) {h1 : Heap} {t : Nat} (hns : h1.Ns s.heap.objs.size fun y => [(x, u)].reverse.lookup y) (hk : ∀ b o, s.heap.get? b = some o → h1.get? b = some o) :
  Inv (cxL X A scope N qual f c s H) [] (some v :: capσ cap σ) H { s with heap := h1, toks := t } := by
 have noA : ∀ b : Addr, b ∉ (cxL X A scope N qual f c s H).ex := fun b z => absurd (show b ∈ ([] : List Addr) from z) (by simp)
 have od : ∀ {y : Str} {a : Addr}, X.env.cells.lookup y = some a → a < s.heap.objs.size := fun {y a} h => let ⟨_, q⟩ := I.cell y a h; q.lt
 refine ⟨⟨I.ok.mod, S.S.kind, rfl, rfl, FM _, fun y z a e1 e2 => I.ok.inj y z a (kcB S I e1) (kcB S I e2), fun y hy => ?_, fun y a e1 _ => ?_, fun _ => hh, Around.frames_deeper hfr, .inr ⟨rfl, rfl⟩, fun b z => absurd z (noA b), I.bs, FQ I.ok.bsz I.sz, fun b _ _ => noA b, fun b z => absurd z (noA b), I.stack, I.stkFree⟩,
  rfl, I.bare, Un.kept hk, ⟨_, hns, fun j y w e1 e2 e3 => ?_⟩, fun y a e => ?_, I.hok.fresh (FM _), fun y a e => I.freeC y a (kcB S I e), fun p hp => absurd (show p ∈ ([] : List (Addr × Obj)) from hp) (by simp), I.hok.kept hk, ?_⟩
 ·have hy' : scope.names.lookup y = some .cell ∨ scope.names.lookup y = some .free := hy
  rcases hy' with q | q
  ·exact absurd rfl (S.nocell _ (PySem.mem_of_lookup q))
  ·exact kcH (cells := X.env.cells) scope.names [] (.inl (PySem.mem_of_lookup q))
 ·cases (show false = true from e1)
 ·cases j with
  | zero =>
   have ex : y = x := by
    have e1' : N[0]? = some y := e1
    rw [S.hd] at e1'
    exact (Option.some.inj e1').symm
   have ev : w = v := by
    have e2' : some (some v) = some (some w) := e2
    exact (Option.some.inj (Option.some.inj e2')).symm
   subst ex ev
   refine ⟨u, r, .inl ⟨S.par, ?_⟩⟩
   simp
  | succ j =>
   have e2' : (capσ cap σ)[j]? = some (some w) := by simpa using e2
   have e2'' : (cap.map fun o => match o with | some i => (σ[i]?).getD none | none => none)[j]? = some (some w) := e2'
   rw [F0] at e2''
   cases ec : cap[j]? with
   | none => rw [ec] at e2''; cases e2''
   | some oi =>
    rw [ec] at e2''
    cases oi with
    | none => cases e2''
    | some i =>
     have e4 : (σ[i]?).getD none = some w := Option.some.inj e2''
     have e5 : σ[i]? = some (some w) := by
      cases q : σ[i]? with
      | none => rw [q] at e4; cases e4
      | some w' => rw [q] at e4; exact congrArg some e4
     obtain ⟨q1, hf, _⟩ := S.S.cap (j + 1) i y (by simpa using ec) e1
     have hm := PySem.mem_of_lookup hf
     have q2 := S.S.free _ hm rfl
     obtain ⟨mo, _, hl⟩ := I.loc
     obtain ⟨u', ru, lk⟩ := hl i y w q1 e5 (.inr q2)
     refine ⟨u', ru, .inr ⟨.inr hf, ?_⟩⟩
     rcases lk with ⟨k1, _⟩ | ⟨_, a, ea, z⟩
     ·have k1' : X.env.scope.names.lookup y = some .local := k1
      rcases q2 with q2 | q2 <;> rw [q2] at k1' <;> cases k1'
     ·obtain ⟨a', ea2⟩ := kcH (cells := X.env.cells) scope.names [] (.inl hm)
      have e6 := kcB S I ea2
      rw [ea] at e6
      have e7 : a = a' := Option.some.inj e6
      subst e7
      obtain ⟨oc, ho, hd⟩ := z
      exact ⟨a, ea2, oc, hk _ _ ho, hd⟩
 ·obtain ⟨w, oc, ho, hd⟩ := I.cell y a (kcB S I e)
  exact ⟨w, oc, hk _ _ ho, hd⟩
 ·have := S.S.len
  show (some v :: capσ cap σ).length = N.length
  rw [← this, Cu, Cu]
  unfold capσ
  rw [FJ]
theorem kiQ {name : Str} {params : Arguments} {body : Expr} {pm ctv : Value} {te : TE} {v : V} {u : Value} {Q : VK} (S : kdc X scope x N cap) (I : Inv X pins σ H s) (hfr : A.frames = some X.stack) (hh : A.handled = none) (hdp : A.depth < recursionLimit)
  (ho : s.heap.get? f = some (RH name qual params body scope (closL X.env.cells scope.names []) pm c ctv)) (hcd : s.heap.CodeRec (.ref c) qual)
  (hbind : bindArgs (PySem.W.kla_fn name qual params body scope (closL X.env.cells scope.names []) pm (.ref c) ctv) ⟨[u], []⟩ = pure [(x, u)]) (r : RelV v u) (he : PE (cxL X A scope N qual f c s H) body te) (hq : te (some v :: capσ cap σ) H Q) :
  wpAny (model X.prog X.w) A (call (.ref f) [u]) (fun w' s' => ∃ v' H', Inv X pins σ H' s' ∧ RelV v' w' ∧ Q v' H' ∧ Un (frs X.stack) [] H H' s.heap s'.heap ∧ s.heap.objs.size ≤ s'.heap.objs.size) (fun _ _ => False) s := by
 refine wpAny_call (PySem.W.kla_callFunE hdp ho rfl S.co S.gen rfl hcd ?_)
 rw [hbind]
 refine wpAny_pure (wpAny_newFunctionEnv S.nocell (fun y hy => ?_) (fun h1 hns hsb => ⟨I.nolimit.fresh _ hsb, ?_⟩) S.S.kind)
 ·rw [CW] at hy
  subst hy
  exact S.par
 have hk : ∀ b o, s.heap.get? b = some o → h1.get? b = some o := fun b o e => hsb.extBut b o (Cc (Heap.lt_size e)) (Heap.get?_push_of_some _ e)
 have J := kkj (A := A) (qual := qual) (f := f) (c := c) (t := s.toks + 1) S I hfr hh r hns hk
 refine PySem.W.kla_codeExpr (wpAny_mono (he [] _ _ _ Q J hq) (fun w' s' hw => ?_) fun _ _ z => z.elim)
 obtain ⟨v', H', J', rv, qv⟩ := hw
 exact ⟨v', H', I.call' (ch := []) J'.os J'.base J'.hok J'.bare (fun b hb => by simp at hb), rv, qv, J'.base, J'.sz⟩
end
end L2
namespace L2
open PySem PySem.Spec PyProof.Rows
noncomputable def CodeO (c : Addr) (qual : Str) : HO := .ext fun h => h.CodeRec (.ref c) qual
noncomputable def lamQ : Str := "falling_groups.<locals>.<lambda>"
noncomputable def TbAt (P : Addr) (H : Hp) : Prop := ∃ ps : Array Value, H P = some (.tbl ps) ∧ TriplesOk ps.toList ∧ ∀ pos c, codeAmong pos ps.toList = some c → ∃ c', c = .ref c' ∧ H c' = some (CodeO c' lamQ)
structure Grew (P : Addr) (H H' : Hp) : Prop where
 kp : ∀ b o, b ≠ P → H b = some o → H' b = some o
 tb : TbAt P H'
theorem kig {pos : Pos} {a b : Int} {c : Value} (l : List Value) (h : TriplesOk l) {x : Value} (e : codeAmong pos (l ++ [rawInt a, rawInt b, c]) = some x) : codeAmong pos l = some x ∨ x = c := by
 fun_induction TriplesOk l with
 | case1 =>
  right
  unfold rawInt codeAmong at e
  simp only [RE] at e
  split at e
  ·exact (Option.some.inj e).symm
  ·simp [codeAmong] at e
 | case2 n t m u d rest ih =>
  simp only [Sf, codeAmong] at e ⊢
  split at e
  ·left
   rename_i hc
   rw [if_pos hc]
   exact e
  ·rename_i hc
   rw [if_neg hc]
   exact ih h e
 | case3 => exact h.elim
noncomputable def CodeK (K : FK) (c P : Addr) : Prop :=
 ∃ o vs file tf flags tg inF text tt, K.lookup c = some o ∧ o.cls = .type "code" ∧ o.data = .fields vs ∧ vs[11]? = some (.ref P) ∧ vs.getD 11 .none = .ref P ∧ vs.getD 18 .none = .str file tf ∧ vs.getD 7 .none = .int flags tg ∧ vs.getD 9 .none = .bool inF ∧ vs.getD 10 .none = .int text tt ∧ c ≠ P
theorem CodeK.hd {K : FK} {c P : Addr} {h : Heap} (x : CodeK K c P) (X : K.In h) : PySem.W.CodeHd h c P := by
 obtain ⟨o, vs, file, tf, flags, tg, inF, text, tt, e, r⟩ := x
 exact ⟨o, vs, file, tf, flags, tg, inF, text, tt, X _ _ e, r⟩
noncomputable def BltM (mg : Str → Option Value) (base : Heap) : Prop := ∃ bm ob, mg "__builtins__" = some (.ref bm) ∧ bm ≠ builtinsNs ∧ base.get? bm = some ob ∧ ob.cls = .type "module" ∧ ob.dict = some builtinsNs ∧ ob.data = .plain
section
variable {X : Cx} {scope : Scope} {x : Str} {N : List Str} {cap : List (Option Nat)} {pins : List (Addr × Obj)} {σ : St} {H : Hp} {s : Shared} {c0 P : Addr} {params : Arguments} {body : Expr} {lpos : Pos}
theorem kiP {E : Value → Shared → Prop} {Q : Value → Shared → Prop} (S : kdc X scope x N cap) (I : Inv X pins σ H s) (hcode : X.env.code = .ref c0) (CK : CodeK X.K c0 P) (hB : BltM X.mg X.base) (TB : TbAt P H) (hq : X.env.qual ++ "<lambda>" = lamQ) (hdef : defaultsOf params X.env = ([], []))
  (h : ∀ (s' : Shared) (H' : Hp) (f c : Addr) (pm ctv : Value), Inv X pins σ H' s' → Grew P H H' → s'.heap.get? f = some (RH "<lambda>" lamQ params body scope (closL X.env.cells scope.names []) pm c ctv) → H' f = none → s.heap.objs.size ≤ f → (∀ b, s.heap.objs.size ≤ b → s'.heap.objs.size ≤ b → H' b = none) → H' c = some (CodeO c lamQ) → Q (.ref f) s') :
  wpAny (model X.prog X.w) X.A (eval (.Lambda params body scope lpos) X.env) Q E s := by
 obtain ⟨ps, eP, ht, hor⟩ := TB
 have hP : s.heap.get? P = some (RI ps) := (show ObjOk X.prog X.w H s.heap P (.tbl ps) from I.hok P _ eP)
 have hg := I.mod.glob.keeps I.bk
 have nbP : ∀ b o, X.base.get? b = some o → b ≠ P := fun b o e z => by
  have := (I.bs b o e).2
  rw [z, eP] at this
  cases this
 have hgP : mainGlobals ≠ P := by
  obtain ⟨o, _, _, e, _⟩ := I.mod.glob
  exact nbP _ o e
 have hb : s.heap.BuiltinsAt X.mg P := by
  obtain ⟨bm, ob, b1, b2, b3, b4, b5, b6⟩ := hB
  refine ⟨bm, ob, b1, b2, fun z => ?_, nbP _ ob b3, I.bk _ _ b3, b4, b5, b6⟩
  obtain ⟨o, es, ep, e, hd, _⟩ := I.mod.glob
  rw [← z, b3] at e
  cases e
  rw [b6] at hd
  cases hd
 have CH := CK.hd I.kIn
 refine PySem.W.kla_eval hdef ?_
 rw [hq]
 cases hor' : codeAmong lpos ps.toList with
 | none =>
  have hnf := hor'
  refine PySem.W.kla_makeFunction (mg := X.mg) (kcG S.S I) I.ok.glob hg hcode CH hP ht hnf hgP hb fun c' ctv h' tk hx hge hlt hrec htb => ?_
  have hc0 : H c' = none := I.hok.fresh hge
  have nPc : P ≠ c' := kal eP hc0
  have szP : P < s.heap.objs.size := Heap.lt_size hP
  generalize hob : RH "<lambda>" lamQ params body scope (closL X.env.cells scope.names []) ((X.mg "__name__").getD .none) c' ctv = ob
  have k2 : ∀ b o, b ≠ P → s.heap.get? b = some o → (h'.push ob).get? b = some o := fun b o hbp e => Heap.get?_push_of_some _ (hx b o hbp e)
  have nN : ∀ {b : Addr}, H b = none → b ≠ P := fun {b} n z => by rw [z, eP] at n; cases n
  have at2 : ∀ {b : Addr}, b ≠ P → b ≠ c' → (upd (upd H P (.tbl (ps ++ #[rawInt lpos.line, rawInt lpos.col, .ref c']))) c' (CodeO c' lamQ)) b = H b := fun {b} h1 h2 => by rw [kam h2, kam h1]
  have eP2 : (upd (upd H P (.tbl (ps ++ #[rawInt lpos.line, rawInt lpos.col, .ref c']))) c' (CodeO c' lamQ)) P = some (.tbl (ps ++ #[rawInt lpos.line, rawInt lpos.col, .ref c'])) := by rw [kam nPc, kad]
  have ec2 : (upd (upd H P (.tbl (ps ++ #[rawInt lpos.line, rawInt lpos.col, .ref c']))) c' (CodeO c' lamQ)) c' = some (CodeO c' lamQ) := kad
  have fresh2 : ∀ b, s.heap.objs.size ≤ b → (h'.push ob).objs.size ≤ b → (upd (upd H P (.tbl (ps ++ #[rawInt lpos.line, rawInt lpos.col, .ref c']))) c' (CodeO c' lamQ)) b = none := fun b h1 h2 => by
   rw [Heap.size_push] at h2
   rw [at2 (CC (F8 szP h1)) (CC (F8 hlt (Nat.le_of_succ_le h2)))]
   exact I.hok.fresh h1
  have ff : (upd (upd H P (.tbl (ps ++ #[rawInt lpos.line, rawInt lpos.col, .ref c']))) c' (CodeO c' lamQ)) h'.objs.size = none := by
   have h1 : s.heap.objs.size ≤ h'.objs.size := FQ hge (FY hlt)
   rw [at2 (CC (F8 szP h1)) (CC hlt)]
   exact I.hok.fresh h1
  generalize upd (upd H P (.tbl (ps ++ #[rawInt lpos.line, rawInt lpos.col, .ref c']))) c' (CodeO c' lamQ) = H2 at *
  have un : Un X.fs [] H H2 s.heap (h'.push ob) := by
   refine ⟨fun b o e n _ _ => k2 b o (nN n) e, fun b o e n _ _ => ⟨o.slots, k2 b o (nN n) e⟩, fun b o e n _ => ?_, fun b o e _ => ?_, fun b xs e => ?_, fun b o u e => ?_, fun b qs e => ?_⟩
   ·rw [at2 (nN n) (Cc (F8 (Heap.lt_size e) hge))]
    exact n
   ·by_cases hbp : b = P
    ·subst hbp
     exact ⟨_, Heap.get?_push_of_some _ htb⟩
    ·exact ⟨o, k2 b o hbp e⟩
   ·rw [at2 (ne_of e eP (by intro z; cases z)) (kal e hc0)]
    exact e
   ·rw [at2 (ne_of e eP (by intro z; cases z)) (kal e hc0)]
    exact e
   ·by_cases hbp : b = P
    ·subst hbp
     rw [eP] at e
     cases e
     exact ⟨_, eP2⟩
    ·refine ⟨#[], ?_⟩
     rw [at2 hbp (kal e hc0), e]
     simp
  have hok2 : HOk X.prog X.w H2 (h'.push ob) := fun b u e => by
   by_cases hbp : b = P
   ·subst hbp
    rw [eP2] at e
    cases e
    exact (show (h'.push ob).get? b = some _ from Heap.get?_push_of_some _ htb)
   ·by_cases hbc : b = c'
    ·subst hbc
     rw [ec2] at e
     cases e
     obtain ⟨cc, oc, vs, t, e1, e2, e3, e4⟩ := hrec
     cases e1
     refine (show ObjOk X.prog X.w H2 (h'.push ob) b (CodeO b lamQ) from ⟨⟨b, oc, vs, t, rfl, Heap.get?_push_of_some _ e2, e3, e4⟩, ⟨oc, Heap.get?_push_of_some _ e2⟩, fun h1 h2 q k => ?_⟩)
     obtain ⟨c3, o3, vs3, t3, z1, z2, z3, z4⟩ := q
     cases z1
     exact ⟨b, o3, vs3, t3, rfl, k _ z2, z3, z4⟩
    ·rw [at2 hbp hbc] at e
     have nown : ∀ d y, H d = some (.own y) → d ≠ P ∧ d ≠ c' := fun d y r => ⟨ne_of r eP (by intro z; cases z), kal r hc0⟩
     refine (I.hok b u e).stay (fun d v hd r => k2 d v ?_ r) (fun d r => by rw [at2 (nown d b r).1 (nown d b r).2]; exact r) fun d xs r => by rw [at2 (ne_of r eP (by intro z; cases z)) (kal r hc0)]; exact r
     rcases hd with rfl | hd
     ·exact hbp
     ·exact (nown d b hd).1
  subst hob
  refine h _ H2 h'.objs.size c' _ ctv (I.un (t' := tk) un hok2) ⟨fun b o hbp e => by rw [at2 hbp (kal e hc0)]; exact e, _, eP2, ?_, fun pos d ed => ?_⟩ (Heap.get?_push_size _ rfl) ff (FQ hge (FY hlt)) fresh2 ec2
  ·have := TriplesOk_snoc lpos.line lpos.col (.ref c') ps.toList ht
   simpa using this
  ·have ed' : codeAmong pos (ps.toList ++ [rawInt lpos.line, rawInt lpos.col, .ref c']) = some d := by simpa using ed
   rcases kig ps.toList ht ed' with z | z
   ·obtain ⟨d', rfl, ed2⟩ := hor pos d z
    exact ⟨d', rfl, by rw [at2 (ne_of ed2 eP (by intro z; cases z)) (kal ed2 hc0)]; exact ed2⟩
   ·exact ⟨c', z, ec2⟩
 | some cv =>
  have hf := hor'
  obtain ⟨c', rfl, ec'⟩ := hor lpos cv hf
  refine PySem.W.kla_makeFunctionHit (mg := X.mg) (kcG S.S I) I.ok.glob hg hcode CH hP ht hf hb fun ctv h' tk hk hsz => ?_
  have k2 : ∀ b o, s.heap.get? b = some o → (h'.push (RH "<lambda>" lamQ params body scope (closL X.env.cells scope.names []) ((X.mg "__name__").getD .none) c' ctv)).get? b = some o := fun b o e => Heap.get?_push_of_some _ (hk b o e)
  exact h _ H h'.objs.size c' _ ctv (I.kept (t' := tk) k2) ⟨fun b o _ e => e, ps, eP, ht, hor⟩ (Heap.get?_push_size _ rfl) (I.hok.fresh hsz) hsz (fun b h1 _ => I.hok.fresh h1) ec'
end
end L2
namespace L2
open PySem PySem.Spec PyProof.Rows
theorem kgv : ∀ {ns : List Int} {us : List Value}, Vals (ns.map V.int) us → IntsAre us ns
 | [], _, .nil => .nil
 | n :: ns, _, .cons h t => by
  obtain ⟨tk, rfl⟩ := h
  exact .cons n tk (kgv t)
theorem kga : ∀ {us : List Value} {ns : List Int}, IntsAre us ns → Vals (ns.map V.int) us
 | _, _, .nil => .nil
 | _, _, .cons n t h => .cons ⟨t, rfl⟩ (kga h)
theorem kiy {ns : List Int} {key : Int → Int} {keys : Array Value} {us : List Value} {out : Array Value} (hu : IntsAre us ns) (hk : IntsAre keys.toList (ns.map key)) (hl : keys.size = us.length) (h : Stb.Rows keys us out) :
  ∃ ms : List Int, IntsAre out.toList ms ∧ ms.Perm ns ∧ ms.Pairwise fun a b => key a < key b ∨ (key a = key b ∧ a < b) := by
 obtain ⟨xs, hp, hup, rfl⟩ := h
 have pl : xs.toList.Perm (keys.toList.zip us) := by
  rw [← ksk_zip]
  exact Array.perm_iff_toList_perm.mp hp
 have mem : ∀ p ∈ keys.toList.zip us, p.2 ∈ us ∧ numOf p.1 = key (numOf p.2) := fun p hp => by
  obtain ⟨i, hi, rfl⟩ := List.mem_iff_getElem.mp hp
  have l1 : i < keys.toList.length := by
   rw [List.length_zip] at hi
   omega
  have l2 : i < us.length := by
   rw [List.length_zip] at hi
   omega
  rw [List.getElem_zip]
  refine ⟨List.getElem_mem l2, ?_⟩
  have e1 : (keys.toList.map numOf)[i]? = (ns.map key)[i]? := by rw [hk.nums]
  have e2 : (us.map numOf)[i]? = ns[i]? := by rw [hu.nums]
  rw [F0, CU l1, F0] at e1
  rw [F0, CU l2] at e2
  rw [← e2] at e1
  exact Option.some.inj e1
 have memx : ∀ p ∈ xs.toList, p.2 ∈ us ∧ numOf p.1 = key (numOf p.2) := fun p hp => mem p (pl.mem_iff.mp hp)
 refine ⟨xs.toList.map fun p => numOf p.2, ?_, ?_, ?_⟩
 ·have e : (xs.map (·.2)).toList = xs.toList.map (·.2) := by simp
  rw [e]
  have := intsAre_map (xs.toList.map (·.2)) fun v hv => by
   obtain ⟨p, hp', rfl⟩ := F4.mp hv
   exact hu.all _ (memx p hp').1
  rw [Cb] at this
  exact this
 ·have h1 := pl.map (fun p : Keyed => numOf p.2)
  have e2 : (keys.toList.zip us).map (fun p : Keyed => numOf p.2) = ns := by
   have e3 : (keys.toList.zip us).map (fun p : Keyed => numOf p.2) = ((keys.toList.zip us).map Prod.snd).map numOf := by rw [Cb]; rfl
   rw [e3, List.map_snd_zip (by have e := Rb (xs := keys); omega), hu.nums]
  rw [e2] at h1
  exact h1
 ·rw [C9]
  intro i j hi hj hij
  have hi' : i < xs.size := by simpa using hi
  have hj' : j < xs.size := by simpa using hj
  have q := hup i j hij hj'
  have ki := (memx xs[i] (by simp)).2
  have kj := (memx xs[j] (by simp)).2
  unfold Stb.Lx Stb.T at q
  rw [K_eq hi', K_eq hj', Se hi', Se hj'] at q
  simp only [Rq, Array.getElem_toList]
  rw [← ki, ← kj]
  exact q
section
variable {X : Cx} {scope : Scope} {x : Str} {N : List Str} {cap : List (Option Nat)} {pins : List (Addr × Obj)} {σ : St} {H : Hp} {s1 : Shared} {f : Addr} {fo : Obj}
noncomputable def Held (X : Cx) (pins : List (Addr × Obj)) (σ : St) (H : Hp) (n0 : Nat) (f : Addr) (fo : Obj) (s : Shared) : Prop := Inv X pins σ H s ∧ n0 ≤ s.heap.objs.size ∧ s.heap.get? f = some fo
theorem kkl (I : Inv X pins σ H s1) (hf : f < s1.heap.objs.size) : Stb.SJ (Held X pins σ H s1.heap.objs.size f fo) s1.heap.objs.size where
 sz := fun s h => h.2.1
 push := fun s c xs n h => ⟨h.1.kept (t' := s.toks) fun b o e => Heap.get?_push_of_some _ e, FQ h.2.1 (by rw [Heap.size_push]; exact Rm _), Heap.get?_push_of_some _ h.2.2⟩
 upd := fun s b g h hb => by
  obtain ⟨q1, q2, q3, q4, q5, q6⟩ := I.fpOk hb (I.hok.fresh hb)
  have sb := Heap.SameBut.update s.heap b (Obj.mapSeq g)
  exact ⟨h.1.turned (t' := s.toks) (it := b) (fun d o hd e => (sb.2 d hd).trans e) q1 q2 q4 q5 q6, by rw [Heap.size_update]; exact h.2.1, (sb.2 f (Cc (F8 hf hb))).trans h.2.2⟩
noncomputable def kij (K : FK) (P : Addr) (tl : TE) (cap : List (Option Nat)) (te : TE) : TE := fun σ H Q => tl σ H fun v H1 => ∃ (a : Addr) (ns : List Int) (key : Int → Int), v = .ref a ∧ SqL K H1 a (ns.map V.int) ∧ ns.length < 64 ∧ ns.Pairwise (· < ·) ∧ TbAt P H1 ∧ a ≠ P ∧
 (∀ H2, Grew P H1 H2 → ∀ n ∈ ns, te (some (.int n) :: capσ cap σ) H2 fun v H3 => v = .int (key n) ∧ H3 = H2) ∧
 ∀ (H2 : Hp) (l : Addr) (ms : List Int), Grew P H1 H2 → H1 l = none → H2 l = none → ms.Perm ns → (ms.Pairwise fun a b => key a < key b ∨ (key a = key b ∧ a < b)) → Q (.ref l) (upd H2 l (.lst (ms.map V.int)))
theorem ki7 : bootBuiltins "sorted" = some (.builtin "sorted") := by decide +kernel
theorem Grew.seq {K : FK} {P : Addr} {H H' : Hp} {a : Addr} {xs : List V} (g : Grew P H H') (ha : a ≠ P) (h : SqL K H a xs) : SqL K H' a xs := by
 rcases h with (h | ⟨o, h⟩) | h
 ·exact .inl (.inl (g.kp _ _ ha h))
 ·exact .inl (.inr ⟨o, g.kp _ _ ha h⟩)
 ·exact .inr h
theorem kgK {l : Expr} {tl te : TE} {c0 P : Addr} {params : Arguments} {body : Expr} {lpos p pos kpos : Pos} (hl : PE X l tl) (S : kdc X scope x N cap) (hc : X.calm = true) (hdp : X.A.depth < recursionLimit) (hcode : X.env.code = .ref c0) (CK : CodeK X.K c0 P) (hB : BltM X.mg X.base)
  (hg : Gl X "sorted") (hm : X.mg "sorted" = none) (hbind : ∀ (cl : List (Str × Addr)) (pm : Value) (c : Addr) (ctv u : Value), bindArgs (PySem.W.kla_fn "<lambda>" lamQ params body scope cl pm (.ref c) ctv) ⟨[u], []⟩ = pure [(x, u)])
  (he : ∀ A f c s H, PE (cxL X A scope N lamQ f c s H) body te) (hq : X.env.qual ++ "<lambda>" = lamQ) (hdef : defaultsOf params X.env = ([], []) := by rfl) (s1 : starEach [l] X.env = [(false, eval l X.env)] := by rfl) :
  PE X (.Call (.Name "sorted" p) [l] [⟨some "key", .Lambda params body scope lpos, kpos⟩] pos) (kij X.K P tl cap te) := by
 intro pins s σ H Q I h
 refine wpAny_Call_Name_kw (kdy I hg hm ki7 ?_ (by decide) (by decide))
 refine callWith_kw ?_ (by rw [s1]; rfl) (by rw [s1]; rfl)
 rw [s1]
 refine Calls.spliced_cons (thn (hl pins s σ H _ I h) fun u s3 ⟨v, H1, I1, r1, a, ns, key, ev, hS, h64, hup, TB, haP, hte, q⟩ => Calls.spliced_nil ?_)
 subst ev
 cases r1
 show wpAny _ _ (evalAll ((do let v ← eval (.Lambda params body scope lpos) X.env; standAt pos; pure v) :: [])) _ _ s3
 refine wpAny_evalAll_cons (wpAny_bind (kiP S I1 hcode CK hB TB hq hdef fun s4 H4 lf c pm ctv I4 G ef ff hsf hfr ec => wpAny_bind (wpAny_standAt (wpAny_pure (wpAny_evalAll_nil ?_)))))
 show wpAny _ _ (call (.builtin "sorted") [.ref a] [(Str.ofString "key", .ref lf)]) _ _ s4
 obtain ⟨its, rv, pl, hz⟩ := I4.list (G.seq haP hS)
 have hi := kgv rv
 have lu := hi.length
 have lf4 : lf < s4.heap.objs.size := Heap.lt_size ef
 have rising : ∀ (i j : Nat) (y z : Value), i < j → its[i]? = some y → its[j]? = some z → numOf y < numOf z := fun i j y z hij ey ez => by
  have e1 : ns[i]? = some (numOf y) := by rw [← hi.nums, F0, ey]; rfl
  have e2 : ns[j]? = some (numOf z) := by rw [← hi.nums, F0, ez]; rfl
  obtain ⟨l1, q1⟩ := FZ.mp e1
  obtain ⟨l2, q2⟩ := FZ.mp e2
  have := C9.mp hup i j l1 l2 hij
  rw [q1, q2] at this
  exact this
 refine Stb.sortedK (kz := ns.map key) (J := Held X pins σ H4 s4.heap.objs.size lf _) (kkl I4 lf4) ⟨I4, FM _, ef⟩ pl.isList (by rw [FJ, lu]) (by omega) rising (fun i v k ev ek s5 hJ => ?_) fun s5 D keys out cc hD hJ eD hk hkl hR => ?_
 ·have en : ns[i]? = some (numOf v) := by rw [← hi.nums, F0, ev]; rfl
  have ek' : k = key (numOf v) := by
   rw [F0, en] at ek
   exact (Option.some.inj ek).symm
  subst ek'
  obtain ⟨n, t, rfl⟩ := hi.all v (FV ev)
  have hcr : s5.heap.CodeRec (.ref c) lamQ := (show ObjOk X.prog X.w H4 s5.heap c (CodeO c lamQ) from hJ.1.hok c _ ec).1
  refine wpAny_mono (kiQ (A := X.A.in1.in1) (v := .int n) (u := .int n t) S hJ.1 I.ok.frames (I.ok.hd hc) hdp hJ.2.2 hcr (hbind _ _ _ _ _) ⟨t, rfl⟩ (he _ _ _ _ _) (hte H4 G n (FV en))) (fun w' s6 hw => ?_) fun _ _ z => z
  obtain ⟨v', H6, I6, rv', ⟨e1, e2⟩, un, sz6⟩ := hw
  subst e1 e2
  have nst : ∀ b, s3.heap.objs.size ≤ b → b ∉ frs X.stack := fun b hb z => absurd (kg5 I1 z) (Nat.not_lt.mpr hb)
  have s34 : s3.heap.objs.size ≤ s4.heap.objs.size := FY (CT hsf lf4)
  have kp : ∀ b o, s3.heap.objs.size ≤ b → H6 b = none → s5.heap.get? b = some o → s6.heap.get? b = some o := fun b o hb hn e => un.keep b o e hn (nst b hb) (by simp)
  refine ⟨rv', ⟨I6, ?_, kp lf _ hsf ff hJ.2.2⟩, fun b o hb e => kp b o (FQ s34 hb) (I4.hok.fresh hb) e⟩
  exact FQ hJ.2.1 sz6
 ·obtain ⟨ms, m1, m2, m3⟩ := kiy hi hk (by omega) hR
  have hn : H4 D = none := I4.hok.fresh hD
  have fp := I4.fpOk hD hn
  have h10 : H1 D = none := I1.hok.fresh (FQ (FY (CT hsf lf4)) hD)
  have vm := kga m1
  have lz : (ms.map V.int).length ≤ sizeLine := by
   rw [FJ, m2.length_eq, sizeLine_eq]
   omega
  refine ⟨.ref D, _, hJ.1.adopt (a := D) (o := .lst (ms.map V.int)) fp ?_ ?_, rfl, q H4 D ms G h10 hn m2 m3⟩
  ·exact FQ I4.sz hD
  ·exact (show ObjOk X.prog X.w _ s5.heap D (.lst (ms.map V.int)) from ⟨lz, out.toList, cc, vm, by simpa using eD⟩)
end
end L2
namespace L2
open PySem PySem.W PyProof.Rows
section
variable {X : Cx}
noncomputable def kkH : V → List V → Hp → VK → Prop := fun x vs H Q => ∃ (l : Addr) (ns : List Int) (k : Int), x = .ref l ∧ vs = [.int k] ∧ H l = some (.lst (ns.map V.int)) ∧ Q (.int (ns.count k : Nat)) H
theorem kej : ∀ {ns : List Int} {us : List Value} (k : Int), Vals (ns.map V.int) us → us.countP (isI k) = ns.count k
 | [], _, _, .nil => rfl
 | m :: ns, _ :: us, k, .cons r t => by
  obtain ⟨tk, rfl⟩ := r
  rw [List.countP_cons, Sg, kej k t]
  rfl
theorem kiL : MtM X "list.count" kkH := by
 intro pins s σ H x vs v us Q I rx rv h
 obtain ⟨l, ns, k, rfl, rfl, hH, q⟩ := h
 cases rx
 obtain ⟨u, rfl, ru⟩ := rv.one
 obtain ⟨t, rfl⟩ := ru
 obtain ⟨z, its, n, r, hl, e⟩ := I.lstM hH
 refine call_meets F.slot_list_count ⟨_, e, rfl⟩ F.entry_list_count (F.args_list_count_2 _ _)
  (MeetsSeq.list_count l its.toArray n (.int k t) (isI k) (fun y hy => ?_)) ⟨e, ?_⟩
 ·obtain ⟨j, hj', rfl⟩ := Array.mem_iff_getElem.mp hy
  have hjl : j < its.length := by simpa using hj'
  have hln : its.length = ns.length := by rw [← hl, FJ]
  obtain ⟨tk, et⟩ := kfA r j ns[j] (by simp)
  obtain ⟨_, e'⟩ := FZ.mp et
  have e2 : its.toArray[j] = .int ns[j] tk := by simpa using e'
  rw [e2]
  exact MeetsSeq.EqGives.int _ k tk t
 ·refine ⟨.int (ns.count k : Nat), H, I.tok _, ⟨s.toks, ?_⟩, q⟩
  rw [List.toList_toArray, kej k r]
end
end L2
namespace L2
open PySem PySem.W PyProof.Rows
section
variable {X : Cx} {pins : List (Addr × Obj)} {σ : St} {H : Hp} {s : Shared} {A : Around} {E : Value → Shared → Prop} {Q : Value → Shared → Prop}
theorem ps_no {st : Stmt} : PS X st (fun _ _ _ => False) := fun _ _ _ _ _ _ h => h.elim
end
end L2
namespace L2
open PySem PySem.W PyProof.Rows
section
variable {X : Cx}
end
end L2
namespace L2
open PySem PySem.Spec PyProof.Rows
noncomputable def nxo : HO → Bool
 | .ext _ => false
 | _ => true
noncomputable def NX (H : Hp) (p : Addr) : Prop := ∀ φ, H p ≠ some (.ext φ)
theorem nx {H : Hp} {p : Addr} {o : HO} (h : H p = some o) (n : nxo o = true := by rfl) : NX H p := fun φ z => by
 rw [h] at z
 cases z
 cases n
theorem nx0 {H : Hp} {p : Addr} (h : H p = none) : NX H p := fun φ z => by
 rw [h] at z
 cases z
theorem kcP {H : Hp} {p q : Addr} {o : HO} (h : NX H p) (n : nxo o = true := by rfl) : NX (upd H q o) p := fun φ z => by
 by_cases e : p = q
 ·subst e
  rw [kad] at z
  cases z
  cases n
 ·rw [kam e] at z
  exact h φ z
noncomputable abbrev Ev (H H' : Hp) (b : Addr) (o : HO) : Prop := match o with
 | .tbl _ => (∃ ps, H' b = some (.tbl ps)) ∧ (TbAt b H → TbAt b H')
 | o => H' b = some o
theorem ev_eq {H H' : Hp} {b : Addr} {o : HO} (e : H' b = some o) (t : TbAt b H → TbAt b H') : Ev H H' b o := by
 cases o <;> first | exact e | exact ⟨⟨_, e⟩, t⟩
theorem ke8 {H H' : Hp} {b : Addr} {o : HO} (e : Ev H H' b o) : ∃ o', H' b = some o' := by
 cases o <;> first | exact ⟨_, e⟩ | exact ⟨_, e.1.choose_spec⟩
theorem kb8 {H H1 H2 : Hp} {b : Addr} {o : HO} (e : Ev H H1 b o) (k : ∀ o, H1 b = some o → Ev H1 H2 b o) : Ev H H2 b o := by
 cases o with
 | tbl ps =>
  obtain ⟨⟨ps1, e1⟩, t1⟩ := e
  obtain ⟨e2, t2⟩ := (show Ev H1 H2 b (.tbl ps1) from k _ e1)
  exact ⟨e2, fun h => t2 (t1 h)⟩
 | _ => exact k _ e
theorem kdu {b p : Addr} {H : Hp} {o : HO} (h : TbAt b H) (n : b ≠ p) (hx : NX H p) : TbAt b (upd H p o) := by
 obtain ⟨ps, e, t, hor⟩ := h
 refine ⟨ps, by rw [kam n]; exact e, t, fun pos d ed => ?_⟩
 obtain ⟨c, rfl, z2⟩ := hor pos d ed
 have hc : c ≠ p := fun e => by
  subst e
  exact hx _ z2
 exact ⟨c, rfl, by rw [kam hc]; exact z2⟩
noncomputable def Same (H H' : Hp) : Prop := ∀ b o, H b = some o → Ev H H' b o
theorem Same.refl (H : Hp) : Same H H := fun _ _ h => ev_eq h fun t => t
theorem Same.trans {H H1 H2 : Hp} (a : Same H H1) (b : Same H1 H2) : Same H H2 := fun c o h => kb8 (a c o h) fun o' e => b c o' e
theorem Same.free {H H' : Hp} (e : Same H H') {l : Addr} (h : H' l = Option.none) : H l = Option.none := by
 cases q : H l with
 | none => rfl
 | some o =>
  obtain ⟨o', e'⟩ := ke8 (e l o q)
  rw [e'] at h
  cases h
theorem Same.seq {K : FK} {H H' : Hp} {a : Addr} {xs : List V} (e : Same H H') (h : SqL K H a xs) : SqL K H' a xs := by
 rcases h with (h | ⟨o, h⟩) | h
 ·exact .inl (.inl (e _ _ h))
 ·exact .inl (.inr ⟨o, e _ _ h⟩)
 ·exact .inr h
theorem Same.tb {H H' : Hp} (s : Same H H') {b : Addr} (h : TbAt b H) : TbAt b H' := by
 obtain ⟨ps, e, r⟩ := id h
 exact (show Ev H H' b (.tbl ps) from s b _ e).2 h
theorem Grew.same {P : Addr} {H H' : Hp} (g : Grew P H H') (TB : TbAt P H) : Same H H' := fun b o e => by
 obtain ⟨ps, eP, ht, hor⟩ := TB
 by_cases h : b = P
 ·subst h
  rw [eP] at e
  cases e
  obtain ⟨qs, e1, _⟩ := id g.tb
  exact ⟨⟨qs, e1⟩, fun _ => g.tb⟩
 ·refine ev_eq (g.kp b o h e) fun t => ?_
  obtain ⟨qs, e1, t1, h1⟩ := t
  refine ⟨qs, g.kp b _ h e1, t1, fun pos d ed => ?_⟩
  obtain ⟨c, rfl, z⟩ := h1 pos d ed
  exact ⟨c, rfl, g.kp c _ (ne_of z eP (by intro z; cases z)) z⟩
end L2
namespace L2
open PySem PySem.Spec PyProof.Rows
noncomputable def kff (K : FK) (tP : Addr) : Sp := fun vs H Q _ => ∃ (a : Addr) (ns : List Int), vs = [.ref a] ∧ SqL K H a (ns.map V.int) ∧ ns.length ≤ 63 ∧ TbAt tP H ∧ ∀ H', Q (.bl true) H'
theorem khC {P : Program} {w : World} {K : FK} {mg mb : Str → Option Value} {k : Nat} {fa a tP c0 : Addr} {fd : FuncData} {x : Str} {s₁ : Shared} {vs : List Value} {ns : List Int}
  (KX : K.In s₁.heap) (hns : s₁.heap.Ns mainGlobals mg) (hb : s₁.heap.Ns builtinsNs mb) (hbb : ∀ x : Str, x ≠ "__name__" → mb x = bootBuiltins x) (hlim : s₁.heap.NoLimit) (hg : s₁.gens = #[])
  (ha : s₁.heap.get? a = some { cls := .type "list", data := .seq vs.toArray }) (hi : IntsAre vs ns) (hl : ns.length ≤ 63) (hr : Room k callerA) (hT : s₁.heap.get? tP = some (RI #[])) (CK : CodeK K c0 tP) (kT : K.lookup tP = none) (hBM : BltM mg s₁.heap)
  (F : ∀ base : Heap, K.In base → base.Ns mainGlobals mg → BltM mg base → FnOk P w K mg base CX0 k fa fd [x] (kff K tP)) (hbind : ∀ (s : Shared) (u : Value), BindsTo s fd ⟨[u], []⟩ [(x, u)]) :
  codeAny (model P w) callerA (.call (.ref fa) ⟨[.ref a], []⟩) (fun r s' => r = .ok (.ret (.bool true)) ∧ OldK s₁.heap s'.heap ∧ s'.os = s₁.os ∧ AllBare s'.gens) s₁ := by
 have rv := kfd hi
 have lenV := hi.length
 have hlz : ns.length ≤ sizeLine := FQ hl (by decide)
 have nTa : tP ≠ a := fun e => by
  rw [e, ha] at hT
  have := Option.some.inj hT
  injection this with z
  cases z
 have core : ∀ H : Hp, SqL K H a (ns.map V.int) → HOk P w H s₁.heap → H tP = some (.tbl #[]) → (∀ b, b ≠ tP → H b = none ∨ (b = a ∧ ∃ o xs, H b = some (.frz o (.lst xs)))) → (H a ≠ none → K.lookup a = none) →
   codeAny (model P w) callerA (.call (.ref fa) ⟨[.ref a], []⟩) (fun r s' => r = .ok (.ret (.bool true)) ∧ OldK s₁.heap s'.heap ∧ s'.os = s₁.os ∧ AllBare s'.gens) s₁ := by
  intro H hS hok eT hO hK
  have base_of : ∀ {b : Addr} {o : Obj}, s₁.heap.get? b = some o → H b = none → (hidT s₁.heap H).get? b = some o := fun e n => kiU e n
  have noT : ∀ {b : Addr} {o : Obj}, s₁.heap.get? b = some o → o.cls ≠ .none → (∀ us n, o.data ≠ .seq us n) → H b = none := fun {b o} e hc hd => by
   by_cases hbT : b = tP
   ·rw [hbT, hT] at e
    cases e
    exact absurd rfl hc
   ·rcases hO b hbT with z | ⟨z, _⟩
    ·exact z
    ·rw [z, ha] at e
     cases e
     exact absurd rfl (hd _ _)
  have noA : ∀ {b : Addr} {o : Obj} {es : Array DictEntry} {ep : Nat}, s₁.heap.get? b = some o → o.data = .dict es ep → H b = none := fun {b o es ep} e d => by
   by_cases hbT : b = tP
   ·rw [hbT, hT] at e
    cases e
    cases d
   ·rcases hO b hbT with z | ⟨z, _⟩
    ·exact z
    ·rw [z, ha] at e
     cases e
     cases d
  have nsK : ∀ {b : Addr} {m : Str → Option Value}, s₁.heap.Ns b m → (hidT s₁.heap H).Ns b m := fun {b m} ⟨o, es, ep, e, d, r⟩ => ⟨o, es, ep, base_of e (noA e d), d, r⟩
  have hKb : K.In (hidT s₁.heap H) := fun b o e => base_of (KX b o e) (by
   by_cases hbT : b = tP
   ·rw [hbT, kT] at e
    cases e
   ·rcases hO b hbT with z | ⟨z, o', xs, z2⟩
    ·exact z
    ·subst z
     rw [hK (by rw [z2]; simp)] at e
     cases e)
  have hM : Mod K mg (hidT s₁.heap H) := ⟨hKb, nsK hns, ⟨mb, nsK hb, hbb⟩, let ⟨mc, h1, h2⟩ := hlim; ⟨mc, nsK h1, h2⟩⟩
  have hBb : BltM mg (hidT s₁.heap H) := by
   obtain ⟨bm, ob, b1, b2, b3, b4, b5, b6⟩ := hBM
   exact ⟨bm, ob, b1, b2, base_of b3 (noT b3 (by rw [b4]; intro z; cases z) (fun us n z => by rw [b6] at z; cases z)), b4, b5, b6⟩
  have e0 : Env0 P w K mg (hidT s₁.heap H) callerA [] s₁ H := ⟨rfl, hM, fun b o e => kka e, Ry (khN _ _), trivial, fun b hb => absurd (show b ∈ ([] : List Addr) from hb) (by simp), hok, .of_eq hg⟩
  have hsp : kff K tP [.ref a] H (fun v _ => v = .bl true) fun _ _ _ => False := ⟨a, ns, rfl, hS, hl, ⟨#[], eT, by trivial, fun pos c e => by cases e⟩, fun _ => rfl⟩
  refine codeAny_mono ((F _ hKb (nsK hns) hBb).run callerA [] s₁ H ⟨[.ref a], []⟩ [.ref a] [.ref a] _ _ hr e0 (hbind s₁ (.ref a)) (.cons rfl .nil) hsp) fun r s' h => ?_
  cases r with
  | error e => exact (show False from h).elim
  | ok fl =>
   cases fl with
   | next => exact False.elim h
   | brk => exact False.elim h
   | cont => exact False.elim h
   | ret u =>
    obtain ⟨v, H', os, bare, un, hok', r', q⟩ := h
    have q' : v = .bl true := q
    subst q'
    obtain rfl : u = Value.bool true := r'
    have kp : ∀ b o, b ≠ tP → s₁.heap.get? b = some o → s'.heap.get? b = some o := fun b o hbT e => by
     rcases hO b hbT with z | ⟨z, o', xs, z2⟩
     ·exact un.keep b o e z (fun z => absurd (show b ∈ ([] : List Addr) from z) (by simp)) (by simp)
     ·have z3 := un.frzs b o' _ z2
      obtain ⟨e1, _⟩ := hok b _ z2
      obtain ⟨e2, _⟩ := hok' b _ z3
      rw [e] at e1
      cases e1
      exact e2
    obtain ⟨more, eM⟩ := un.tbls tP #[] eT
    have tM : s'.heap.get? tP = some (RI (#[] ++ more)) := (show ObjOk P w H' s'.heap tP (.tbl (#[] ++ more)) from hok' tP _ eM)
    refine ⟨rfl, ⟨fun b o e => ?_, fun b o e => ?_⟩, os, bare⟩
    ·by_cases hbT : b = tP
     ·subst hbT
      rw [hT] at e
      cases e
      obtain ⟨oc, us, _, _, _, _, _, _, _, c1, c2, c3, c4, _⟩ := CK
      exact .inr (.inl ⟨⟨c0, oc, us, KX _ _ c1, c2, c3, c4⟩, rfl, #[], more, rfl, tM⟩)
     ·exact .inl (kp b o hbT e)
    ·by_cases hbT : b = tP
     ·subst hbT
      exact ⟨_, tM⟩
     ·exact ⟨o, kp b o hbT e⟩
 cases hk : K.lookup a with
 | some o =>
  have e := KX a o hk
  rw [ha] at e
  cases e
  refine core (fun b => if b = tP then some (.tbl #[]) else none) (.inr ⟨_, vs.toArray, _, hk, rfl, rfl, rfl, by rw [F3, lenV]; exact hlz, by simpa using rv⟩) (fun b u z => ?_) (if_pos rfl) (fun b hbT => .inl (if_neg hbT)) fun z => absurd (if_neg nTa.symm) z
  by_cases hbT : b = tP
  ·have z' := (if_pos hbT).symm.trans z
   cases z'
   subst hbT
   exact (show s₁.heap.get? b = some _ from hT)
  ·have z' := (if_neg hbT).symm.trans z
   cases z'
 | none =>
  refine core (fun b => if b = tP then some (.tbl #[]) else if b = a then some (.frz { cls := .type "list", data := .seq vs.toArray } (.lst (ns.map V.int))) else none) (.inl (.inr ⟨{ cls := .type "list", data := .seq vs.toArray }, by show (if a = tP then _ else _) = _; rw [if_neg nTa.symm, if_pos rfl]⟩)) (fun b u z => ?_) (if_pos rfl) (fun b hbT => ?_) fun _ => hk
  ·by_cases hbT : b = tP
   ·have z' := (if_pos hbT).symm.trans z
    cases z'
    subst hbT
    exact (show s₁.heap.get? b = some _ from hT)
   ·have z1 := (if_neg hbT).symm.trans z
    by_cases hb2 : b = a
    ·have z' := (if_pos hb2).symm.trans z1
     cases z'
     subst hb2
     exact ⟨ha, by rw [FJ]; exact hlz, vs, _, rv, ha⟩
    ·have z' := (if_neg hb2).symm.trans z1
     cases z'
  ·by_cases hb2 : b = a
   ·exact .inr ⟨hb2, _, _, by show (if b = tP then _ else _) = _; rw [if_neg hbT, if_pos hb2]⟩
   ·exact .inl (by show (if b = tP then _ else _) = _; rw [if_neg hbT, if_neg hb2])
theorem walkT_of {l : PySem.W.OpenLaw} {k : Nat} {q : Program} {loose : List Str} {XP : (Str → Option Value) → Heap → Prop} {YP : World → Heap → Prop} {d : DefRec} {K : Params → FK} {ts : List Addr} {x : Str}
  (hn : l.most = some 63) (hdf : d.params.defaults = []) (hr : Room k callerA) (hY : ∀ (w : World) (h : Heap), YP w h → (K w.params).In h) (hTs : ∀ (w : World) (h : Heap), YP w h → ∀ P ∈ ts, h.get? P = some (RI #[]))
  (F : ∀ (w : World) (mg : Str → Option Value) (fa : Addr) (h : Heap), (K w.params).In h → h.Ns mainGlobals mg → mg d.name = some (.ref fa) →
   ∃ (fd : FuncData) (tP c0 : Addr), tP ∈ ts ∧ CodeK (K w.params) c0 tP ∧ (K w.params).lookup tP = none ∧ (∀ (s : Shared) (u : Value), BindsTo s fd ⟨[u], []⟩ [(x, u)]) ∧
    ∀ base : Heap, (K w.params).In base → base.Ns mainGlobals mg → BltM mg base → FnOk l.prog w (K w.params) mg base CX0 k fa fd [x] (kff (K w.params) tP)) :
  PySem.W.WalkO q loose XP YP l.row.toRowW d [] (fun f vs => PySem.call f vs) := by
 refine Att.attach_call hn hdf fun w s₀ s₁ mg mb fa o pm cd doc a vs ns G Y ho hd hcd hmg hobj hints hlen hg => ?_
 have KX := hY w _ Y
 obtain ⟨fd, tP, c0, hm, CK, kT, hb, hF⟩ := F w mg fa _ KX G.T.g hmg
 obtain ⟨bm, ob, b1, b2, b3, b4, b5, b6⟩ := G.T.bmain
 exact khC KX G.T.g G.T.b G.T.builtins G.T.nolimit hg hobj hints hlen hr (hTs w _ Y tP hm) CK kT ⟨bm, ob, b1, b2, b3, b4, b5, b6⟩ hF hb
end L2
namespace L2
open PySem PySem.Spec PyProof.Rows
theorem nd1 (x : Str) : ([x] : List Str).Nodup := by simp
noncomputable def But (x : Addr) (H H' : Hp) : Prop := ∀ b o, b ≠ x → H b = some o → Ev H H' b o
theorem But.trans {x : Addr} {H H1 H2 : Hp} (a : But x H H1) (b : But x H1 H2) : But x H H2 := fun c o n h => kb8 (a c o n h) fun o' e => b c o' n e
theorem But.same {x : Addr} {H H1 H2 : Hp} (a : But x H H1) (b : Same H1 H2) : But x H H2 := fun c o n h => kb8 (a c o n h) fun o' e => b c o' e
theorem But.of_same {x : Addr} {H H1 : Hp} (b : Same H H1) : But x H H1 := fun c o _ h => b c o h
theorem But.refl {x : Addr} {H : Hp} : But x H H := fun b o _ h => Same.refl H b o h
theorem kaz {x : Addr} {H : Hp} {o : HO} (hx : NX H x := by first | exact nx kad | exact nx (by assumption) | exact nx0 (by assumption) | exact kcP (nx kad) rfl | exact kcP (nx (by assumption)) rfl) : But x H (upd H x o) := fun b u n e => ev_eq (by rw [kam n]; exact e) fun t => kdu t n hx
theorem kaj {H : Hp} {p : Addr} {o : HO} (hp : H p = none) : Same H (upd H p o) := fun b u e => ev_eq (by rw [kam (kal e hp)]; exact e) fun t => kdu t (kal e hp) (nx0 hp)
theorem kax {H H' : Hp} {p : Addr} {o : HO} (hp : H p = none) (s : Same H H') (hx : NX H' p := by first | exact nx (by assumption) | exact nx kad | exact kcP (nx (by assumption)) rfl | exact kcP (nx kad) rfl | exact kcP (nx0 (by assumption)) rfl | exact kcP (kcP (nx (by assumption)) rfl) rfl) : Same H (upd H' p o) := fun b u e =>
 kb8 (s b u e) fun u' e' => ev_eq (by rw [kam (kal e hp)]; exact e') fun t => kdu t (kal e hp) hx
theorem kbE {H : Hp} {x dx C : Addr} (hx : H x = none) (nd : H dx = none) : Same H (upd (upd H dx (.own x)) x (.ins C dx [])) := fun b u e => by
 have n1 := kal e hx
 have n2 := kal e nd
 exact ev_eq (by rw [kam n1, kam n2]; exact e) fun t => kdu (kdu t n2 (nx0 nd)) n1 (kcP (nx0 hx) rfl)
theorem kbH {H H' : Hp} {x dx C : Addr} (hx : H x = none) (nd : H dx = none) (k : But x (upd (upd H dx (.own x)) x (.ins C dx [])) H') : Same H H' := fun b o e => kb8 (kbE (C := C) hx nd b o e) fun o' e' => k b o' (kal e hx) e'
theorem kc5 {H : Hp} {x dx C y : Addr} (h : (upd (upd H dx (.own x)) x (.ins C dx [])) y = none) : H y = none := by
 by_cases e1 : y = x
 ·subst e1
  rw [kad] at h
  cases h
 ·rw [kam e1] at h
  by_cases e2 : y = dx
  ·subst e2
   rw [kad] at h
   cases h
  ·rw [kam e2] at h
   exact h
theorem kfx {H : Hp} {x dx C y : Addr} {o : HO} (nx : H x = none) (nd : H dx = none) (h : H y = some o) : (upd (upd H dx (.own x)) x (.ins C dx [])) y = some o := by
 rw [kam (kal h nx), kam (kal h nd)]
 exact h
theorem kan {f : Str} {v : V} : ∀ {fs : List (Str × V)} {n : Nat}, fs.length ≤ n → (putF f v fs).length ≤ n + 1
 | [], n, _ => by
  show 1 ≤ n + 1
  omega
 | (g, x) :: r, n, h => by
  show (if g = f then (g, v) :: r else (g, x) :: putF f v r).length ≤ n + 1
  have h' : r.length + 1 ≤ n := h
  split
  ·show r.length + 1 ≤ n + 1
   omega
  ·show (putF f v r).length + 1 ≤ n + 1
   have := kan (f := f) (v := v) (fs := r) (n := n - 1) (by omega)
   omega
theorem few {fs : List (Str × V)} (h : fs.length ≤ 20) : fs.length < 1000 := by omega
theorem kb9 {ns : List Addr} {i : Nat} {x : V} (h : (ns.map V.ref)[i]? = some x) : ∃ z, ns[i]? = some z ∧ x = V.ref z := by
 rw [F0] at h
 cases e : ns[i]? with
 | none => rw [e] at h; cases h
 | some z => rw [e] at h; exact ⟨z, rfl, (Option.some.inj h).symm⟩
theorem kbY {α : Type} {g : α → V} {ns : List α} {i : Nat} {x : V} (h : (ns.map g)[i]? = some x) : ∃ z, ns[i]? = some z ∧ x = g z := by
 rw [F0] at h
 cases e : ns[i]? with
 | none => rw [e] at h; cases h
 | some z => rw [e] at h; exact ⟨z, rfl, (Option.some.inj h).symm⟩
theorem at_lt {α : Type} {xs : List α} {i : Nat} {x : α} (h : xs[i]? = some x) : i < xs.length := (FZ.mp h).1
theorem at_of {α : Type} {xs : List α} {i : Nat} (h : i < xs.length) : ∃ x, xs[i]? = some x := ⟨xs[i], by simp [h]⟩
theorem kbL {α : Type} {rs : List α} {i : Nat} {r : α} (h : rs[i]? = some r) : rs.take (i + 1) = rs.take i ++ [r] := by
 rw [CV, h]
 rfl
inductive P2 {α β : Type} (R : α → β → Prop) : List α → List β → Prop
 | nil : P2 R [] []
 | cons {a : α} {b : β} {as : List α} {bs : List β} (h : R a b) (t : P2 R as bs) : P2 R (a :: as) (b :: bs)
section
variable {α β : Type} {R R' : α → β → Prop} {as as' : List α} {bs bs' : List β}
theorem P2.of (hl : as.length = bs.length) (h : ∀ (i : Nat) (a : α) (b : β), as[i]? = some a → bs[i]? = some b → R a b) : P2 R as bs := by
 induction as generalizing bs with
 | nil =>
  cases bs with
  | nil => exact .nil
  | cons b bs => cases hl
 | cons a as ih =>
  cases bs with
  | nil => cases hl
  | cons b bs => exact .cons (h 0 a b rfl rfl) (ih (by simpa using hl) fun i x y e1 e2 => h (i + 1) x y (by simpa using e1) (by simpa using e2))
theorem P2.len (h : P2 R as bs) : as.length = bs.length := by
 induction h with
 | nil => rfl
 | cons r t ih => simp [ih]
theorem P2.get (h : P2 R as bs) {i : Nat} {a : α} {b : β} (e1 : as[i]? = some a) (e2 : bs[i]? = some b) : R a b := by
 induction h generalizing i with
 | nil => simp at e1
 | cons r t ih =>
  cases i with
  | zero =>
   simp at e1 e2
   subst e1 e2
   exact r
  | succ i => exact ih (by simpa using e1) (by simpa using e2)
theorem P2.at (h : P2 R as bs) {i : Nat} {a : α} (e1 : as[i]? = some a) : ∃ b, bs[i]? = some b ∧ R a b := by
 obtain ⟨b, e2⟩ := at_of (xs := bs) (i := i) (by rw [← h.len]; exact at_lt e1)
 exact ⟨b, e2, h.get e1 e2⟩
theorem P2.mono (h : P2 R as bs) (k : ∀ a b, R a b → R' a b) : P2 R' as bs := by
 induction h with
 | nil => exact .nil
 | cons r t ih => exact .cons (k _ _ r) ih
theorem P2.append (h : P2 R as bs) (h' : P2 R as' bs') : P2 R (as ++ as') (bs ++ bs') := by
 induction h with
 | nil => exact h'
 | cons r t ih => exact .cons r ih
theorem P2.snoc (h : P2 R as bs) {a : α} {b : β} (r : R a b) : P2 R (as ++ [a]) (bs ++ [b]) := h.append (.cons r .nil)
theorem P2.take (h : P2 R as bs) (k : Nat) : P2 R (as.take k) (bs.take k) := by
 induction h generalizing k with
 | nil => simpa using P2.nil
 | cons r t ih =>
  cases k with
  | zero => exact .nil
  | succ k => exact .cons r (ih k)
theorem P2.drop (h : P2 R as bs) (k : Nat) : P2 R (as.drop k) (bs.drop k) := by
 induction h generalizing k with
 | nil => simpa using P2.nil
 | cons r t ih =>
  cases k with
  | zero => exact .cons r t
  | succ k => exact ih k
theorem P2.reverse (h : P2 R as bs) : P2 R as.reverse bs.reverse := by
 induction h with
 | nil => exact .nil
 | cons r t ih =>
  rw [RD, RD]
  exact ih.append (.cons r .nil)
end
theorem rep1 (n : Nat) (v : V) : (FO n [v]).flatten = FO n v := by
 induction n with
 | zero => rfl
 | succ n ih => rw [C4, Cf, ih, C4]; rfl
theorem kfT (n : Nat) (z : Int) : FO n (V.int z) = (FO n z).map V.int := by simp
theorem kjm (k : Int) : (!decide (V.int k = V.non)) = true := by simp
theorem kjl : (!decide (V.non = V.non)) = false := by simp
noncomputable def oV : Option Int → V
 | none => .non
 | some z => .int z
structure TxtB (mg : Str → Option Value) : Prop where
 range : mg "range" = none
 len : mg "len" = none
 min : mg "min" = none
 max : mg "max" = none
 isi : mg "isinstance" = none
 bool : mg "bool" = none
 int : mg "int" = none
 list : mg "list" = none
 sum : mg "sum" = none
 enum : mg "enumerate" = none
 any : mg "any" = none
 all : mg "all" = none
 rev : mg "reversed" = none
 zip : mg "zip" = none
 abs : mg "abs" = none
 sorted : mg "sorted" = none
 tuple : mg "tuple" = none
 str : mg "str" = none
structure FunD (K : FK) (x qual : Str) (st : Stmt) (f : Addr) (fd : FuncData) : Prop where
 ex : ∃ (oc : Value) (od : Option Addr) (dV kV doc pm : Value) (an : Option Addr) (cdv ct : Value) (osl : Array (Option Value)),
  fd = FI x qual (kag st) (kaf st) (kab st) dV kV doc pm an cdv ct ∧ K.lookup f = some ⟨oc, od, .func fd, osl⟩ ∧ FR K cdv qual = true
 kp : FN K (.ref f) = true
theorem FunD.ok {P : Program} {w : World} {K : FK} {mg : Str → Option Value} {base : Heap} {x qual : Str} {st : Stmt} {f : Addr} {fd : FuncData} {N ps : List Str} {k : Nat} {sp : Sp} (F : FunD K x qual st f fd) (S : kas N ps (kab st)) (len : ∀ vs H Q E, sp vs H Q E → vs.length = ps.length)
  (hbody : ∀ (cdv : Value) (A : Around) (outer : List Env) (s : Shared) (H : Hp) (vs : List V) (Q : VK) (E : XK), Room k (A.deeper (PyProof.Rows.envOfC qual (kab st) s.heap.objs.size f cdv)) → sp vs H Q E →
   ∃ t, PSs (cxOf CX0 P w K mg base N qual (kab st) f cdv A outer s H E).nox (kaf st) t ∧ t { nx := fun _ H' => Q .non H', rt := Q } (start N vs) H) : FnOk P w K mg base CX0 (k + 1) f fd ps sp := by
 obtain ⟨oc, od, dV, kV, doc, pm, an, cdv, ct, osl, rfl, lk, hcd⟩ := F.ex
 refine fn_of lk hcd S len fun A outer s H vs Q E hr hsp => ?_
 obtain ⟨t, h, q⟩ := hbody cdv A outer s H vs Q E hr hsp
 exact ⟨t, h.nox, q⟩
theorem FunD.okC {P : Program} {w : World} {K : FK} {mg : Str → Option Value} {base : Heap} {x qual : Str} {st : Stmt} {f : Addr} {fd : FuncData} {N ps : List Str} {k : Nat} {sp : Sp} (F : FunD K x qual st f fd) (S : kas N ps (kab st)) (len : ∀ vs H Q E, sp vs H Q E → vs.length = ps.length)
  (hbody : ∀ (A : Around) (outer : List Env) (s : Shared) (H : Hp) (vs : List V) (Q : VK) (E : XK), Room k (A.deeper (PyProof.Rows.envOfC qual (kab st) s.heap.objs.size f fd.code)) → sp vs H Q E →
   ∃ t, PSs (cxOf CX0 P w K mg base N qual (kab st) f fd.code A outer s H E).nox (kaf st) t ∧ t { nx := fun _ H' => Q .non H', rt := Q } (start N vs) H) : FnOk P w K mg base CX0 (k + 1) f fd ps sp := by
 obtain ⟨oc, od, dV, kV, doc, pm, an, cdv, ct, osl, rfl, lk, hcd⟩ := F.ex
 refine fn_of lk hcd S len fun A outer s H vs Q E hr hsp => ?_
 obtain ⟨t, h, q⟩ := hbody A outer s H vs Q E hr hsp
 exact ⟨t, h.nox, q⟩
theorem kaw {K : FK} {x qual : Str} {st : Stmt} {f : Addr} {oc : Value} {od an : Option Addr} {osl : Array (Option Value)} {dV kV doc pm cdv ct : Value} (l : K.lookup f = some ⟨oc, od, .func (FI x qual (kag st) (kaf st) (kab st) dV kV doc pm an cdv ct), osl⟩)
  (c : FR K cdv qual = true) (k : FN K (.ref f) = true) : FunD K x qual st f (FI x qual (kag st) (kaf st) (kab st) dV kV doc pm an cdv ct) := ⟨⟨oc, od, dV, kV, doc, pm, an, cdv, ct, osl, rfl, l, c⟩, k⟩
structure Dn (K : FK) (mg : Str → Option Value) (x : Str) (st : Stmt) (ps : List Str) (f : Addr) (fd : FuncData) : Prop where
 F : FunD K x x st f fd
 b : Binds K fd ps []
 m : mg x = some (.ref f)
structure Isi (K : FK) (C : Addr) : Prop where
 ha : FL K (.ref C) "__class__" = some (some (.builtin "object.__class__"))
 hn : Rl K (.builtin "object.__class__") "__get__" = some (some (.builtin "getset_descriptor.__get__"))
 ht : R3 K (.builtin "object.__class__") = some true
 hm : FT K C (.type "object") = some true
theorem kbn {K : FK} {A B : Addr} {b : Bool} (mA : FT K A (.ref B) = some b) (ob : FT K B (.type "object") = some true) (ty : Cj K (.ref B) = some (.type "type")) (ne : A ≠ B) : F1 K (.ref A) (.ref B) = some b := by
 have e : (Value.ref A == Value.ref B) = false := beq_eq_false_iff_ne.mpr fun z => ne (by injection z)
 obtain ⟨cd, a, _⟩ := Option.bind_eq_some_iff.mp ob
 unfold F1 PySem.W.kitCls PySem.W.subIn
 rw [e, if_neg FW]
 show (if ((PySem.W.clsIn K B).isSome && Cj K (.ref B) == some (.type "type")) = true then FT K A (.ref B) else none) = some b
 rw [a, ty, mA, if_pos (by simp)]
theorem kbO {K : FK} {A B : Addr} (h : FT K A (.ref B) = some false) (hA : FT K A (.ref A) = some true) : A ≠ B := fun e => by
 rw [← e, hA] at h
 cases h
structure ClsT (K : FK) (mg : Str → Option Value) (nm : Str) (C : Addr) : Prop where
 cl : Cls K C
 m : mg nm = some (.ref C)
 isi : Isi K C
 self : FT K C (.ref C) = some true
 ty : Cj K (.ref C) = some (.type "type")
 makes : Co K C = true
 kp : FN K (.ref C) = true
structure MthT (K : FK) (C : Addr) (m qual : Str) (st : Stmt) (ps : List Str) (f : Addr) (fd : FuncData) : Prop where
 at_ : FL K (.ref C) m = some (some (.ref f))
 fn : Ce K (.ref f) = true
 F : FunD K m qual st f fd
 b : Binds K fd ps []
theorem MthT.me {K : FK} {C : Addr} {m qual : Str} {st : Stmt} {ps : List Str} {f : Addr} {fd : FuncData} (h : MthT K C m qual st ps f fd) : Meth K C m f := ⟨h.at_, h.fn, h.F.kp⟩
theorem MthT.mk' {K : FK} {mg : Str → Option Value} {C : Addr} {nm qual : Str} {st : Stmt} {ps : List Str} {f : Addr} {fd : FuncData} (h : MthT K C "__init__" qual st ps f fd) (c : ClsT K mg nm C) : Mk K C f := ⟨c.makes, h.at_, h.fn, c.kp⟩
end L2
namespace War
structure Row where
 kd : Int
 pr : Int
 mn : Int
 ex : Option Int
structure Row.Ok (r : Row) : Prop where
 pr0 : 0 ≤ r.pr
 pr1 : r.pr ≤ 1000000000000
 mn0 : 0 ≤ r.mn
 mn1 : r.mn ≤ 60
 ex0 : ∀ z, r.ex = some z → 0 ≤ z ∧ z ≤ 1000000000000
noncomputable def prc (m : Bool) (r : Row) : Int := if m = true then r.ex.getD r.pr else r.pr
noncomputable def own (rs : List Row) : List Int := (rs.zipIdx.map fun p => FO p.1.mn.toNat (p.2 : Int)).flatten
noncomputable def prs (m : Bool) (rs : List Row) : List Int := (rs.map fun r => FO r.mn.toNat (prc m r)).flatten
theorem kiF (rs : List Row) (r : Row) : own (rs ++ [r]) = own rs ++ FO r.mn.toNat (rs.length : Int) := by
 unfold own
 rw [List.zipIdx_append, FX, RJ]
 simp
theorem kgh (m : Bool) (rs : List Row) (r : Row) : prs m (rs ++ [r]) = prs m rs ++ FO r.mn.toNat (prc m r) := by
 unfold prs
 rw [FX, RJ]
 simp
theorem kgn : ∀ (rs : List Row) (k : Nat), (∀ r ∈ rs, r.Ok) → ((rs.zipIdx k).map fun p => FO p.1.mn.toNat (p.2 : Int)).flatten.length ≤ 60 * rs.length
 | [], _, _ => by simp
 | r :: rs, k, h => by
  have h1 := kgn rs (k + 1) fun x hx => h x (F9 _ hx)
  have h2 := (h r Cd).mn1
  rw [Sh, F7, Cf, Ca, CI, Cu]
  show r.mn.toNat + _ ≤ _
  omega
theorem khs (rs : List Row) (h : ∀ r ∈ rs, r.Ok) : (own rs).length ≤ 60 * rs.length := kgn rs 0 h
theorem kfU (m : Bool) : ∀ (rs : List Row), (∀ r ∈ rs, r.Ok) → (prs m rs).length ≤ 60 * rs.length
 | [], _ => by simp [prs]
 | r :: rs, h => by
  have h1 := kfU m rs fun x hx => h x (F9 _ hx)
  have h2 := (h r Cd).mn1
  unfold prs at h1 ⊢
  rw [F7, Cf, Ca, CI, Cu]
  omega
theorem kjh {m : Bool} {r : Row} (h : r.Ok) : 0 ≤ prc m r ∧ prc m r ≤ 1000000000000 := by
 unfold prc
 split
 ·cases e : r.ex with
  | none => exact ⟨h.pr0, h.pr1⟩
  | some z => exact h.ex0 z e
 ·exact ⟨h.pr0, h.pr1⟩
theorem take_snoc {α : Type} {rs : List α} {i : Nat} {r : α} (h : rs[i]? = some r) : rs.take (i + 1) = rs.take i ++ [r] := by
 rw [CV, h]
 rfl
end War
namespace Kin
noncomputable def Good (ps : List (Option Nat)) : Prop := ∀ (i k : Nat), ps[i]? = some (some k) → k < i
noncomputable def anc (ps : List (Option Nat)) : Nat → Nat → List Nat
 | 0, _ => []
 | f + 1, i => i :: (match ps[i]? with | some (some k) => anc ps f k | _ => [])
noncomputable def up (ps : List (Option Nat)) (i : Nat) : List Nat := anc ps (i + 1) i
theorem ki9 {ps : List (Option Nat)} (g : Good ps) : ∀ (f f' i : Nat), i < f → i < f' → anc ps f i = anc ps f' i := by
 intro f
 induction f with
 | zero => intro f' i h; omega
 | succ f ih =>
  intro f' i h h'
  cases f' with
  | zero => omega
  | succ f' =>
   show i :: _ = i :: _
   congr 1
   cases e : ps[i]? with
   | none => rfl
   | some o =>
    cases o with
    | none => rfl
    | some k =>
     have hk := g i k e
     exact ih f' k (by omega) (by omega)
theorem kjA {ps : List (Option Nat)} (g : Good ps) {i k : Nat} (e : ps[i]? = some (some k)) : up ps i = i :: up ps k := by
 have hk := g i k e
 show i :: _ = _
 rw [e]
 show i :: anc ps i k = i :: up ps k
 rw [ki9 g i (k + 1) k hk (by omega)]
 rfl
theorem kjB {ps : List (Option Nat)} {i : Nat} (e : ps[i]? = some none) : up ps i = [i] := by
 show i :: _ = _
 rw [e]
noncomputable def rest (ps : List (Option Nat)) : Option Nat → List Nat
 | none => []
 | some k => up ps k
noncomputable def left : Option Nat → Nat
 | none => 0
 | some k => k + 1
theorem up_eq {ps : List (Option Nat)} (g : Good ps) {i : Nat} {o : Option Nat} (e : ps[i]? = some o) : up ps i = i :: rest ps o := by
 cases o with
 | none => exact kjB e
 | some k => exact kjA g e
theorem kiW : Good [] := fun i k e => by simp at e
theorem khT {ps : List (Option Nat)} (g : Good ps) {o : Option Nat} (h : ∀ k, o = some k → k < ps.length) : Good (ps ++ [o]) := by
 intro i k e
 rcases Nat.lt_trichotomy i ps.length with hi | hi | hi
 ·rw [Rn hi] at e
  exact g i k e
 ·subst hi
  rw [Rc (FM _)] at e
  simp at e
  exact h k e
 ·rw [Rc (by omega)] at e
  have : (i - ps.length) ≠ 0 := by omega
  cases q : i - ps.length with
  | zero => omega
  | succ n => rw [q] at e; simp at e
end Kin
namespace Kin
end Kin
namespace Deal
noncomputable def pre (ws : List Int) (k : Nat) : Int := (ws.take k).sum
noncomputable def part (c : Int) (ws : List Int) (j : Nat) : Int := c * pre ws (j + 1) / ws.sum - c * pre ws j / ws.sum
noncomputable def dl (c : Int) (ws : List Int) : List Int := if ws.sum = 0 then ws.map (fun _ => 0) else (FU ws.length).map (part c ws)
theorem kiA (ws : List Int) : pre ws 0 = 0 := by simp [pre]
theorem khl (ws : List Int) : pre ws ws.length = ws.sum := by simp [pre]
theorem kdM {ws : List Int} {i : Nat} {w : Int} (h : ws[i]? = some w) : pre ws (i + 1) = pre ws i + w := by
 unfold pre
 rw [CV, h]
 simp
theorem keE (c : Int) (ws : List Int) : (dl c ws).length = ws.length := by
 unfold dl
 split <;> simp
theorem dl_at {c : Int} {ws : List Int} (h : ¬ ws.sum = 0) {j : Nat} (hj : j < ws.length) : (dl c ws)[j]? = some (part c ws j) := by
 unfold dl
 rw [if_neg h]
 simp [hj]
theorem kh1 {c : Int} {ws : List Int} (h : ws.sum = 0) {j : Nat} (hj : j < ws.length) : (dl c ws)[j]? = some 0 := by
 unfold dl
 rw [if_pos h]
 simp [hj]
noncomputable def Nn (ws : List Int) : Prop := ∀ w ∈ ws, 0 ≤ w
theorem kcf : ∀ {ws : List Int}, Nn ws → 0 ≤ ws.sum
 | [], _ => by simp
 | w :: ws, h => by
  have := kcf (ws := ws) fun x hx => h x (F9 _ hx)
  have h1 := h w Cd
  simp
  omega
theorem khq {c s A w : Int} (hs : 0 < s) (hc : 0 ≤ c) (hcs : c ≤ s) (hw : 0 ≤ w) : 0 ≤ c * (A + w) / s - c * A / s ∧ c * (A + w) / s - c * A / s ≤ w ∧
  (c * (A + w) / s - c * A / s) * s - c * w < s ∧ -s < (c * (A + w) / s - c * A / s) * s - c * w := by
 have e : c * (A + w) = c * A + c * w := Int.mul_add ..
 rw [e]
 generalize hx : c * A = x
 have h1 : 0 ≤ c * w := Int.mul_nonneg hc hw
 have h2 : c * w ≤ w * s := by
  rw [Int.mul_comm w s]
  exact Int.mul_le_mul_of_nonneg_right hcs hw
 generalize hy : c * w = y at h1 h2
 have m1 : x / s ≤ (x + y) / s := Int.ediv_le_ediv hs (by omega)
 have m2 : (x + y) / s ≤ (x + w * s) / s := Int.ediv_le_ediv hs (by omega)
 rw [Int.add_mul_ediv_right _ _ (by omega)] at m2
 have d1 := Int.emod_add_mul_ediv x s
 have d2 := Int.emod_add_mul_ediv (x + y) s
 have r1 := Int.emod_nonneg x (show s ≠ 0 by omega)
 have r2 := Int.emod_lt_of_pos x hs
 have r3 := Int.emod_nonneg (x + y) (show s ≠ 0 by omega)
 have r4 := Int.emod_lt_of_pos (x + y) hs
 have e3 : ((x + y) / s - x / s) * s = s * ((x + y) / s) - s * (x / s) := by
  rw [Int.sub_mul, Int.mul_comm, Int.mul_comm (x / s)]
 rw [e3]
 refine ⟨by omega, by omega, by omega, by omega⟩
end Deal
namespace Vs
open Kin Deal
structure Mks where
 kind : Option Nat
 needs : Int
 most : Option Int
 member : Bool
 once : Bool
 lone : Bool
inductive Srt
 | off (a : Int)
 | share (s : Int) (b : Bool)
 | cheap (n : Int)
 | bund (n p : Int)
 | carr
structure Vch where
 so : Srt
 ms : Mks
structure Stnd where
 ow : List Nat
 pr : List Int
 cg : Int
 mkd : List Bool
noncomputable def kHit (ps : List (Option Nat)) (kind : Option Nat) (kd : Nat) : Bool := match kind with
 | none => true
 | some k => decide (k ∈ up ps kd)
noncomputable def hits (ps : List (Option Nat)) (kds : List Nat) (kind : Option Nat) (lone : Bool) (mkd : List Bool) (l : Nat) : Bool :=
 kHit ps kind (kds.getD l 0) && (!lone || !(mkd.getD l false))
noncomputable def abt (ps : List (Option Nat)) (kds : List Nat) (kind : Option Nat) (lone : Bool) (S : Stnd) : List Nat :=
 (FU S.ow.length).filter fun i => hits ps kds kind lone S.mkd (S.ow.getD i 0)
theorem kgC {ps : List (Option Nat)} {kds : List Nat} {kind : Option Nat} {lone : Bool} {S : Stnd} {i : Nat} (h : i ∈ abt ps kds kind lone S) : i < S.ow.length := by
 have := (CJ.mp h).1
 simpa using this
theorem kfN (ps : List (Option Nat)) (kds : List Nat) (kind : Option Nat) (lone : Bool) (S : Stnd) : (abt ps kds kind lone S).Nodup := Rf.filter _ RK
theorem keo (ps : List (Option Nat)) (kds : List Nat) (kind : Option Nat) (lone : Bool) (S : Stnd) : (abt ps kds kind lone S).length ≤ S.ow.length := by
 have := RL (fun i => hits ps kds kind lone S.mkd (S.ow.getD i 0)) (FU S.ow.length)
 simpa [abt] using this
noncomputable def qs (pr : List Int) (is : List Nat) : List Int := is.map fun i => pr.getD i 0
theorem kcg (pr : List Int) (is : List Nat) : (qs pr is).length = is.length := by simp [qs]
noncomputable def spr (n : Nat) (is : List Nat) (vs : List Int) : List Int := (FU n).map fun i => ((is.zip vs).lookup i).getD 0
theorem kcR (n : Nat) (is : List Nat) (vs : List Int) : (spr n is vs).length = n := by simp [spr]
theorem kjF (n : Nat) (vs : List Int) : spr n [] vs = FO n 0 := by
 unfold spr
 apply C5
 ·simp
 ·intro i h1 h2
  simp
theorem kfY {l : List (Nat × Int)} {i j : Nat} {v : Int} (h : ∀ p ∈ l, p.1 ≠ i) : (l ++ [(i, v)]).lookup j = if j = i then some v else l.lookup j := by
 induction l with
 | nil =>
  simp only [RE, Ck, List.lookup_nil]
  by_cases e : j = i
  ·subst e; simp
  ·have : (j == i) = false := beq_eq_false_iff_ne.mpr e
   simp [this, e]
 | cons p l ih =>
  obtain ⟨k, w⟩ := p
  have ih' := ih fun q hq => h q (F9 _ hq)
  have hk : k ≠ i := h (k, w) Cd
  simp only [Sf, Ck]
  by_cases e : j = k
  ·subst e
   simp [hk]
  ·have : (j == k) = false := beq_eq_false_iff_ne.mpr e
   simp only [this]
   exact ih'
theorem kjE {n : Nat} {is : List Nat} {vs : List Int} (hn : is.Nodup) {k i : Nat} {v : Int} (h1 : is[k]? = some i) (h2 : vs[k]? = some v) (hi : i < n) :
  (spr n (is.take k) (vs.take k)).set i v = spr n (is.take (k + 1)) (vs.take (k + 1)) := by
 have e1 : is.take (k + 1) = is.take k ++ [i] := by rw [CV, h1]; rfl
 have e2 : vs.take (k + 1) = vs.take k ++ [v] := by rw [CV, h2]; rfl
 have hk1 : k < is.length := (FZ.mp h1).1
 have hk2 : k < vs.length := (FZ.mp h2).1
 have ez : (is.take (k + 1)).zip (vs.take (k + 1)) = (is.take k).zip (vs.take k) ++ [(i, v)] := by
  rw [e1, e2, List.zip_append (by simp; omega)]
  rfl
 have hne : ∀ p ∈ (is.take k).zip (vs.take k), p.1 ≠ i := fun p hp e => by
  have hm : p.1 ∈ is.take k := (C3 hp).1
  rw [e] at hm
  obtain ⟨j, hj, ej⟩ := List.getElem_of_mem hm
  rw [F2] at hj
  rw [List.getElem_take] at ej
  have e3 : is[k] = i := by
   obtain ⟨_, q⟩ := FZ.mp h1
   exact q
  exact C9.mp hn j k (by omega) hk1 (by omega) (by rw [ej, e3])
 apply C5
 ·simp [spr]
 ·intro j h3 h4
  have hj : j < n := by simpa [spr] using h4
  rw [List.getElem_set]
  simp only [spr, Rq, RM]
  rw [ez, kfY hne]
  by_cases e : i = j
  ·subst e; simp
  ·have : ¬ j = i := fun z => e z.symm
   simp [e, this]
noncomputable def bef (q : List Int) (a b : Nat) : Prop := q.getD b 0 < q.getD a 0 ∨ (q.getD a 0 = q.getD b 0 ∧ a < b)
noncomputable def Fall (q : List Int) (r : List Nat) : Prop := r.Perm (FU q.length) ∧ r.Pairwise (bef q)
theorem ki6 {q : List Int} {a b : Nat} (h : bef q a b) (h' : bef q b a) : False := by
 unfold bef at h h'
 omega
theorem kdV {R : Nat → Nat → Prop} (asym : ∀ a b, R a b → R b a → False) : ∀ {l l' : List Nat}, l.Perm l' → l.Pairwise R → l'.Pairwise R → l = l'
 | [], l', p, _, _ => (List.nil_perm.mp p).symm
 | a :: l, l', p, h, h' => by
  cases l' with
  | nil => exact absurd p.length_eq (by simp)
  | cons b l' =>
   have hab : a = b := by
    rcases Classical.em (a = b) with e | e
    ·exact e
    ·have ha : a ∈ b :: l' := p.mem_iff.mp Cd
     have hb : b ∈ a :: l := p.mem_iff.mpr Cd
     rcases F5.mp ha with e1 | ha
     ·exact absurd e1 e
     ·rcases F5.mp hb with e2 | hb
      ·exact absurd e2.symm e
      ·exact (asym a b ((RN.mp h).1 b hb) ((RN.mp h').1 a ha)).elim
   subst hab
   congr 1
   exact kdV asym (RO.cons_inv p) (RN.mp h).2 (RN.mp h').2
theorem kf4 {q : List Int} {r r' : List Nat} (h : Fall q r) (h' : Fall q r') : r = r' :=
 kdV (fun _ _ a b => ki6 a b) (h.1.trans h'.1.symm) h.2 h'.2
noncomputable def grp (n : Nat) (r : List Nat) : List (List Nat) := (FU (r.length / n)).map fun g => (r.drop (g * n)).take n
end Vs
namespace Vs
open Kin Deal
noncomputable def Le2 (xs ys : List Int) : Prop := xs.length = ys.length ∧ ∀ (j : Nat) (v w : Int), xs[j]? = some v → ys[j]? = some w → 0 ≤ v ∧ v ≤ w
theorem Le2.nil : Le2 [] [] := ⟨rfl, fun j v w e => by simp at e⟩
theorem Le2.self {xs : List Int} (h : Nn xs) : Le2 xs xs := ⟨rfl, fun j v w e1 e2 => by
 rw [e1] at e2
 cases e2
 exact ⟨h v (FV e1), Int.le_refl _⟩⟩
theorem Le2.nn {xs ys : List Int} (h : Le2 xs ys) : Nn xs := fun v hv => by
 obtain ⟨j, hj, e⟩ := List.getElem_of_mem hv
 exact (h.2 j v (ys[j]'(by rw [← h.1]; exact hj)) (by simp [hj, e]) (by simp [show j < ys.length by rw [← h.1]; exact hj])).1
theorem Le2.trans {xs ys zs : List Int} (h : Le2 xs ys) (h' : Le2 ys zs) : Le2 xs zs := ⟨h.1.trans h'.1, fun j v w e1 e2 => by
 have hj : j < xs.length := (FZ.mp e1).1
 have e3 : ys[j]? = some (ys[j]'(by rw [← h.1]; exact hj)) := by simp [show j < ys.length by rw [← h.1]; exact hj]
 have a := h.2 j v _ e1 e3
 have b := h'.2 j _ w e3 e2
 omega⟩
theorem Le2.append {xs ys xs' ys' : List Int} (h : Le2 xs ys) (h' : Le2 xs' ys') : Le2 (xs ++ xs') (ys ++ ys') := by
 refine ⟨by simp [h.1, h'.1], fun j v w e1 e2 => ?_⟩
 have hl := h.1
 rcases Nat.lt_or_ge j xs.length with hj | hj
 ·rw [Rn hj] at e1
  rw [Rn (by omega)] at e2
  exact h.2 j v w e1 e2
 ·rw [Rc hj] at e1
  rw [Rc (by omega), ← hl] at e2
  exact h'.2 _ v w e1 e2
theorem Le2.sum : ∀ {xs ys : List Int}, Le2 xs ys → 0 ≤ xs.sum ∧ xs.sum ≤ ys.sum
 | [], [], _ => by simp
 | [], _ :: _, h => by have := h.1; simp at this
 | _ :: _, [], h => by have := h.1; simp at this
 | x :: xs, y :: ys, h => by
  have h0 := h.2 0 x y rfl rfl
  have h1 : Le2 xs ys := ⟨by simpa using h.1, fun j v w e1 e2 => h.2 (j + 1) v w (by simpa using e1) (by simpa using e2)⟩
  have h2 := Le2.sum h1
  simp
  omega
theorem dl_le {c : Int} {ws : List Int} (hn : Nn ws) (h0 : 0 ≤ c) (h1 : c ≤ ws.sum) : Le2 (dl c ws) ws := by
 refine ⟨keE c ws, fun j v w e1 e2 => ?_⟩
 have hj : j < ws.length := (FZ.mp e2).1
 have hw := hn w (FV e2)
 by_cases hs : ws.sum = 0
 ·rw [kh1 hs hj] at e1
  cases e1
  exact ⟨Int.le_refl _, hw⟩
 ·rw [dl_at hs hj] at e1
  cases e1
  have hp : 0 < ws.sum := by
   have := kcf hn
   omega
  have q := khq (A := pre ws j) hp h0 h1 hw
  unfold part
  rw [kdM e2]
  exact ⟨q.1, q.2.1⟩
theorem kdr {is : List Nat} {vs : List Int} {i : Nat} {v : Int} (h : (is.zip vs).lookup i = some v) : ∃ k : Nat, is[k]? = some i ∧ vs[k]? = some v := by
 induction is generalizing vs with
 | nil => simp at h
 | cons a is ih =>
  cases vs with
  | nil => simp at h
  | cons b vs =>
   simp only [List.zip_cons_cons, Ck] at h
   by_cases e : i = a
   ·subst e
    simp at h
    exact ⟨0, rfl, by simp [h]⟩
   ·have : (i == a) = false := beq_eq_false_iff_ne.mpr e
    rw [this] at h
    obtain ⟨k, h1, h2⟩ := ih h
    exact ⟨k + 1, by simpa using h1, by simpa using h2⟩
theorem kfe {pr : List Int} {is : List Nat} {vs : List Int} (hn : Nn pr) (hv : Le2 vs (qs pr is)) : Le2 (spr pr.length is vs) pr := by
 refine ⟨kcR _ _ _, fun j v w e1 e2 => ?_⟩
 have hj : j < pr.length := (FZ.mp e2).1
 have hw := hn w (FV e2)
 have e3 : v = ((is.zip vs).lookup j).getD 0 := by
  simp [spr, hj] at e1
  exact e1.symm
 cases e4 : (is.zip vs).lookup j with
 | none =>
  rw [e4] at e3
  subst e3
  exact ⟨Int.le_refl _, hw⟩
 | some u =>
  rw [e4] at e3
  have e3' : v = u := e3
  subst e3'
  obtain ⟨k, h1, h2⟩ := kdr e4
  refine hv.2 k v w h2 ?_
  simp only [qs, F0, h1, RF]
  rw [F6, e2]
  rfl
theorem qs_nn {pr : List Int} (hn : Nn pr) (is : List Nat) : Nn (qs pr is) := fun v hv => by
 obtain ⟨i, _, rfl⟩ := F4.mp hv
 rw [F6]
 cases e : pr[i]? with
 | none => exact Int.le_refl _
 | some w => exact hn w (FV e)
noncomputable def leQ (q : List Int) (a b : Nat) : Bool := decide (q.getD b 0 < q.getD a 0 ∨ (q.getD a 0 = q.getD b 0 ∧ a ≤ b))
noncomputable def ordQ (q : List Int) : List Nat := (FU q.length).mergeSort (leQ q)
theorem kc0 (q : List Int) : (ordQ q).Perm (FU q.length) := List.mergeSort_perm _ _
theorem kd2 (q : List Int) : Fall q (ordQ q) := by
 refine ⟨kc0 q, ?_⟩
 have h1 : (ordQ q).Pairwise (fun a b => leQ q a b = true) := List.pairwise_mergeSort (le := leQ q) (fun a b c h h' => by simp only [leQ, decide_eq_true_eq] at *; omega) (fun a b => by simp only [leQ, Sb, decide_eq_true_eq]; omega) _
 have h2 : (ordQ q).Nodup := (kc0 q).nodup_iff.mpr RK
 refine (h1.and h2).imp fun {a b} h => ?_
 have h3 := h.1
 have h4 : a ≠ b := h.2
 simp only [leQ, decide_eq_true_eq] at h3
 unfold bef
 omega
noncomputable def gdl (cut : Int → Int) (gs : List (List Nat)) (q : List Int) : List Int := spr q.length gs.flatten ((gs.map fun g => dl (cut (qs q g).sum) (qs q g)).flatten)
theorem khk (q : List Int) (a b : List Nat) : qs q (a ++ b) = qs q a ++ qs q b := by simp [qs]
theorem kjq {cut : Int → Int} {gs : List (List Nat)} {q : List Int} (hn : Nn q) (hc : ∀ s, 0 ≤ s → 0 ≤ cut s ∧ cut s ≤ s) : Le2 (gdl cut gs q) q := by
 refine kfe hn ?_
 induction gs with
 | nil => exact Le2.nil
 | cons g gs ih =>
  rw [F7, Cf, Cf, khk]
  have h := hc _ (kcf (qs_nn hn g))
  exact (dl_le (qs_nn hn g) h.1 h.2).append ih
noncomputable def kem (n : Nat) (lines : List Nat) : List (List Nat) := (FU n).map fun l => (FU lines.length).filter fun k => lines.getD k 0 == l
noncomputable def lasts (gs : List (List Nat)) : List Nat := gs.map fun g => g.getLastD 0
noncomputable def want (so : Srt) (n : Nat) (lines : List Nat) (q : List Int) : List Int := match so with
 | .off a => dl (min a q.sum) q
 | .share s false => dl (q.sum * s / 1000) q
 | .share s true => gdl (fun z => z * s / 1000) (kem n lines) q
 | .cheap m => spr q.length (lasts (grp m.toNat (ordQ q))) (qs q (lasts (grp m.toNat (ordQ q))))
 | .bund m p => gdl (fun z => max 0 (z - p)) (grp m.toNat (ordQ q)) q
 | .carr => FO q.length 0
noncomputable def fee (so : Srt) (cg : Int) : Int := match so with
 | .carr => cg
 | _ => 0
noncomputable def SrtOk : Srt → Prop
 | .off a => 0 ≤ a ∧ a ≤ 1000000000000
 | .share s _ => 1 ≤ s ∧ s ≤ 1000
 | .cheap n => 2 ≤ n ∧ n ≤ 20
 | .bund n p => 2 ≤ n ∧ n ≤ 20 ∧ 0 ≤ p ∧ p ≤ 1000000000000
 | .carr => True
theorem keO {z s : Int} (hz : 0 ≤ z) (h1 : 1 ≤ s) (h2 : s ≤ 1000) : 0 ≤ z * s / 1000 ∧ z * s / 1000 ≤ z := by
 have a : 0 ≤ z * s := Int.mul_nonneg hz (by omega)
 have b : z * s ≤ z * 1000 := Int.mul_le_mul_of_nonneg_left h2 hz
 omega
theorem kkG {q : List Int} (hn : Nn q) : Le2 (FO q.length 0) q := by
 refine ⟨by simp, fun j v w e1 e2 => ?_⟩
 have : v = 0 := by
  rw [R6] at e1
  split at e1
  ·exact (Option.some.inj e1).symm
  ·cases e1
 subst this
 exact ⟨Int.le_refl _, hn w (FV e2)⟩
theorem kfO {a : Int} {n : Nat} {lines : List Nat} {q : List Int} (hn : Nn q) (h0 : 0 ≤ a) : Le2 (want (.off a) n lines q) q := by
 have hs := kcf hn
 show Le2 (dl (min a q.sum) q) q
 exact dl_le hn (by omega) (by omega)
theorem keJ {s : Int} {e : Bool} {n : Nat} {lines : List Nat} {q : List Int} (hn : Nn q) (h1 : 1 ≤ s) (h2 : s ≤ 1000) : Le2 (want (.share s e) n lines q) q := by
 have hs := kcf hn
 cases e with
 | false =>
  show Le2 (dl (q.sum * s / 1000) q) q
  have h := keO hs h1 h2
  exact dl_le hn h.1 h.2
 | true =>
  show Le2 (gdl (fun z => z * s / 1000) (kem n lines) q) q
  exact kjq hn fun z hz => keO hz h1 h2
theorem kfc {m p : Int} {n : Nat} {lines : List Nat} {q : List Int} (hn : Nn q) (h0 : 0 ≤ p) : Le2 (want (.bund m p) n lines q) q := by
 show Le2 (gdl (fun z => max 0 (z - p)) (grp m.toNat (ordQ q)) q) q
 exact kjq hn fun z hz => ⟨by show 0 ≤ max 0 (z - p); omega, by show max 0 (z - p) ≤ z; omega⟩
theorem keK {m : Int} {n : Nat} {lines : List Nat} {q : List Int} (hn : Nn q) : Le2 (want (.cheap m) n lines q) q := by
 show Le2 (spr q.length _ (qs q _)) q
 exact kfe hn (Le2.self (qs_nn hn _))
theorem kfb {n : Nat} {lines : List Nat} {q : List Int} (hn : Nn q) : Le2 (want .carr n lines q) q := kkG hn
theorem kgX {so : Srt} {n : Nat} {lines : List Nat} {q : List Int} (hn : Nn q) (ho : SrtOk so) : Le2 (want so n lines q) q := by
 cases so with
 | off a => exact kfO hn ho.1
 | share s e => exact keJ hn ho.1 ho.2
 | cheap m => exact keK hn
 | bund m p => exact kfc hn ho.2.2.1
 | carr => exact kfb hn
noncomputable def cap (most : Option Int) (w : List Int) (f : Int) : List Int × Int := match most with
 | none => (w, f)
 | some m => if m < w.sum + f then (dl (min m w.sum) w, min f m) else (w, f)
theorem kk2 {most : Option Int} {w q : List Int} {f cg : Int} (h : Le2 w q) (hf : 0 ≤ f ∧ f ≤ cg) (hm : ∀ m, most = some m → 0 ≤ m) : Le2 (cap most w f).1 q ∧ 0 ≤ (cap most w f).2 ∧ (cap most w f).2 ≤ cg := by
 unfold cap
 cases most with
 | none => exact ⟨h, hf⟩
 | some m =>
  have h0 := hm m rfl
  have hs := kcf h.nn
  simp only
  split
  ·exact ⟨(dl_le h.nn (by omega) (by omega)).trans h, by simp only; omega, by simp only; omega⟩
  ·exact ⟨h, hf⟩
noncomputable def cutM (V : Vch) (ps : List (Option Nat)) (kk : List Nat) (S : Stnd) : List Int × Int :=
 let is := abt ps kk V.ms.kind V.ms.lone S
 let c := cap V.ms.most (want V.so S.mkd.length (is.map fun i => S.ow.getD i 0) (qs S.pr is)) (fee V.so S.cg)
 (spr S.pr.length is c.1, c.2)
theorem kh5 {V : Vch} {ps : List (Option Nat)} {kk : List Nat} {S : Stnd} (hn : Nn S.pr) (hc : 0 ≤ S.cg) (ho : SrtOk V.so) (hm : ∀ m, V.ms.most = some m → 0 ≤ m) : Le2 (cutM V ps kk S).1 S.pr ∧ 0 ≤ (cutM V ps kk S).2 ∧ (cutM V ps kk S).2 ≤ S.cg := by
 have hf : 0 ≤ fee V.so S.cg ∧ fee V.so S.cg ≤ S.cg := by
  unfold fee
  split <;> omega
 have h := kk2 (most := V.ms.most) (kgX (n := S.mkd.length) (lines := (abt ps kk V.ms.kind V.ms.lone S).map fun i => S.ow.getD i 0) (qs_nn hn (abt ps kk V.ms.kind V.ms.lone S)) ho) hf hm
 exact ⟨kfe hn h.1, h.2⟩
noncomputable def kc9 (ow : List Nat) (c : List Int) (l : Nat) : Bool := (FU ow.length).any fun i => ow.getD i 0 == l && decide (0 < c.getD i 0)
noncomputable def aftM (V : Vch) (ps : List (Option Nat)) (kk : List Nat) (S : Stnd) : Stnd :=
 ⟨S.ow, Cp (· - ·) S.pr (cutM V ps kk S).1, S.cg - (cutM V ps kk S).2, (FU S.mkd.length).map fun l => S.mkd.getD l false || (V.ms.lone && kc9 S.ow (cutM V ps kk S).1 l)⟩
theorem kjx {V : Vch} {ps : List (Option Nat)} {kk : List Nat} {S : Stnd} (hn : Nn S.pr) (hc : 0 ≤ S.cg) (ho : SrtOk V.so) (hm : ∀ m, V.ms.most = some m → 0 ≤ m) : Le2 (aftM V ps kk S).pr S.pr ∧ 0 ≤ (aftM V ps kk S).cg ∧ (aftM V ps kk S).cg ≤ S.cg := by
 have h := kh5 (ps := ps) (kk := kk) hn hc ho hm
 refine ⟨⟨?_, fun j v w e1 e2 => ?_⟩, ?_, ?_⟩
 ·show (Cp _ _ _).length = _
  rw [Ri, h.1.1]
  omega
 ·have hj : j < S.pr.length := (FZ.mp e2).1
  have hj2 : j < (cutM V ps kk S).1.length := by rw [h.1.1]; exact hj
  have e3 : (cutM V ps kk S).1[j]? = some ((cutM V ps kk S).1[j]) := by simp [hj2]
  have b := h.1.2 j _ w e3 e2
  have e4 : (Cp (· - ·) S.pr (cutM V ps kk S).1)[j]? = some (w - (cutM V ps kk S).1[j]) := by
   rw [Rr, e2, e3]
  have e1' : (Cp (· - ·) S.pr (cutM V ps kk S).1)[j]? = some v := e1
  rw [e4] at e1'
  cases e1'
  omega
 ·show 0 ≤ S.cg - _
  have := h.2
  omega
 ·show S.cg - _ ≤ S.cg
  have := h.2
  omega
end Vs
namespace Vs
open Kin Deal
structure Sel (q : List Int) (row left : List Nat) : Prop where
 pm : (row ++ left).Perm (FU q.length)
 inc : left.Pairwise (· < ·)
 pw : row.Pairwise (bef q)
 cr : ∀ r ∈ row, ∀ l ∈ left, bef q r l
theorem Sel.start (q : List Int) : Sel q [] (FU q.length) := ⟨RO.refl _, Si, .nil, fun r hr => by simp at hr⟩
theorem Sel.lt {q : List Int} {row left : List Nat} (h : Sel q row left) {i : Nat} (hi : i ∈ left) : i < q.length := by
 have := h.pm.mem_iff.mp (Cr row hi)
 simpa using this
theorem Sel.len {q : List Int} {row left : List Nat} (h : Sel q row left) : row.length + left.length = q.length := by
 have := h.pm.length_eq
 simpa using this
theorem Sel.fin {q : List Int} {row : List Nat} (h : Sel q row []) : row = ordQ q := by
 refine kf4 ⟨?_, h.pw⟩ (kd2 q)
 have := h.pm
 rwa [R4] at this
noncomputable def TopI (q : List Int) (left : List Nat) (i top : Nat) : Prop := (∃ k, left[k]? = some top ∧ (k < i ∨ k = 0)) ∧ ∀ y ∈ left.take i, y = top ∨ bef q top y
theorem TopI.start {q : List Int} {left : List Nat} {t : Nat} (h : left[0]? = some t) : TopI q left 0 t := ⟨⟨0, h, .inr rfl⟩, fun y hy => by simp at hy⟩
theorem TopI.more {q : List Int} {left : List Nat} {i top x : Nat} (inc : left.Pairwise (· < ·)) (h : TopI q left i top) (hx : left[i]? = some x) : TopI q left (i + 1) (if q.getD top 0 < q.getD x 0 then x else top) := by
 obtain ⟨⟨k, ek, hk⟩, hy⟩ := h
 have et : left.take (i + 1) = left.take i ++ [x] := by rw [CV, hx]; rfl
 split
 ·rename_i hlt
  refine ⟨⟨i, hx, .inl (by omega)⟩, fun y hm => ?_⟩
  rw [et] at hm
  rcases Cq.mp hm with h1 | h1
  ·refine .inr (.inl ?_)
   rcases hy y h1 with rfl | h2
   ·exact hlt
   ·unfold bef at h2
    omega
  ·exact .inl (by simpa using h1)
 ·rename_i hge
  refine ⟨⟨k, ek, by omega⟩, fun y hm => ?_⟩
  rw [et] at hm
  rcases Cq.mp hm with h1 | h1
  ·exact hy y h1
  ·have e : y = x := by simpa using h1
   subst e
   by_cases hki : k = i
   ·subst hki
    rw [ek] at hx
    exact .inl (Option.some.inj hx).symm
   ·have hlt : top < y := by
     obtain ⟨l1, q1⟩ := FZ.mp ek
     obtain ⟨l2, q2⟩ := FZ.mp hx
     have := C9.mp inc k i l1 l2 (by omega)
     rwa [q1, q2] at this
    refine .inr ?_
    unfold bef
    omega
theorem Sel.step {q : List Int} {row left : List Nat} {top : Nat} (h : Sel q row left) (ht : TopI q left left.length top) : Sel q (row ++ [top]) (left.erase top) ∧ top ∈ left := by
 obtain ⟨⟨k, ek, _⟩, hy⟩ := ht
 have hm := FV ek
 rw [Cw] at hy
 have nd : left.Nodup := h.inc.imp fun hlt => Cc hlt
 refine ⟨⟨?_, h.inc.sublist (List.erase_sublist), ?_, ?_⟩, hm⟩
 ·refine RO.trans ?_ h.pm
  rw [C7]
  exact RO.append_left row (List.perm_cons_erase hm).symm
 ·exact List.pairwise_append.mpr ⟨h.pw, List.pairwise_singleton _ _, fun r hr t ht => by
   have e : t = top := by simpa using ht
   subst e
   exact h.cr r hr t hm⟩
 ·intro r hr l hl
  have hl' := (nd.mem_erase_iff).mp hl
  rcases Cq.mp hr with h1 | h1
  ·exact h.cr r h1 l hl'.2
  ·have e : r = top := by simpa using h1
   subst e
   rcases hy l hl'.2 with h2 | h2
   ·exact absurd h2 hl'.1
   ·exact h2
end Vs
namespace Vs
open Kin Deal
theorem kgw {m : Nat} {r : List Nat} {i : Nat} {g : List Nat} (h : (grp m r)[i]? = some g) : i * m + m ≤ r.length ∧ g.length = m ∧ ∀ j, j < m → g[j]? = r[i * m + j]? := by
 unfold grp at h
 rw [F0] at h
 have hi : i < r.length / m := by
  rcases Nat.lt_or_ge i (r.length / m) with q | q
  ·exact q
  ·rw [Sj (by simpa using q)] at h
   cases h
 rw [RP hi] at h
 cases h
 have hle : i * m + m ≤ r.length := by
  have h1 : (i + 1) * m ≤ r.length / m * m := Nat.mul_le_mul_right m hi
  have h2 := Nat.div_mul_le_self r.length m
  rw [Nat.add_mul, Nat.one_mul] at h1
  omega
 refine ⟨hle, by rw [F2, RB]; omega, fun j hj => ?_⟩
 rw [Sw hj, List.getElem?_drop]
theorem kf1 {m : Nat} {r : List Nat} {i : Nat} {g : List Nat} (hm : 0 < m) (h : (grp m r)[i]? = some g) : r[i * m + (m - 1)]? = some (g.getLastD 0) := by
 obtain ⟨hle, hl, hg⟩ := kgw h
 rw [← hg (m - 1) (by omega)]
 cases g with
 | nil => simp at hl; omega
 | cons x xs =>
  have e : (x :: xs).getLastD 0 = (x :: xs).getLast (by simp) := by simp [List.getLastD]
  rw [e, List.getLast_eq_getElem, FZ]
  refine ⟨by omega, ?_⟩
  congr 1
  omega
theorem kgt {gs : List (List Nat)} {i : Nat} {g : List Nat} (h : gs[i]? = some g) : (lasts gs)[i]? = some (g.getLastD 0) := by
 unfold lasts
 rw [F0, h]
 rfl
theorem kc6 (gs : List (List Nat)) : (lasts gs).length = gs.length := by simp [lasts]
theorem kf0 {m : Nat} {r : List Nat} (hm : 0 < m) (hr : r.Nodup) : (lasts (grp m r)).Nodup := by
 refine C9.mpr fun i j hi hj hij e => ?_
 rw [kc6] at hi hj
 have e1 : (grp m r)[i]? = some (grp m r)[i] := by simp [hi]
 have e2 : (grp m r)[j]? = some (grp m r)[j] := by simp [hj]
 have a1 := kf1 hm e1
 have a2 := kf1 hm e2
 have b1 := kgt e1
 have b2 := kgt e2
 obtain ⟨_, c1⟩ := FZ.mp b1
 obtain ⟨_, c2⟩ := FZ.mp b2
 rw [c1, c2] at e
 rw [e] at a1
 obtain ⟨l1, d1⟩ := FZ.mp a1
 obtain ⟨l2, d2⟩ := FZ.mp a2
 have hlt : i * m + (m - 1) < j * m + (m - 1) := by
  have := Nat.mul_lt_mul_of_pos_right hij hm
  omega
 exact C9.mp hr _ _ l1 l2 hlt (by rw [d1, d2])
theorem kj7 {q : List Int} {i : Nat} (h : i ∈ ordQ q) : i < q.length := by
 have := (kc0 q).mem_iff.mp h
 simpa using this
end Vs
namespace Vs
open Kin Deal
theorem kik {n : Nat} {is : List Nat} {vs : List Int} {i : Nat} {v : Int} (hl : is.length = vs.length) (hn : (is ++ [i]).Nodup) (hi : i < n) : (spr n is vs).set i v = spr n (is ++ [i]) (vs ++ [v]) := by
 have h := kjE (n := n) (is := is ++ [i]) (vs := vs ++ [v]) hn (k := is.length) (i := i) (v := v) (by simp) (by rw [hl]; simp) hi
 rw [List.take_left' rfl, List.take_left' hl.symm, Cz (by simp), Cz (by simp [hl])] at h
 exact h
theorem kdS {gs : List (List Nat)} (h : gs.flatten.Nodup) {i k a : Nat} {g : List Nat} (hg : gs[i]? = some g) (hk : g[k]? = some a) : ((gs.take i).flatten ++ g.take k ++ [a]).Nodup := by
 have e : gs = gs.take i ++ g :: gs.drop (i + 1) := by
  obtain ⟨hi, eg⟩ := FZ.mp hg
  rw [← eg, SC hi, Sk]
 have e2 : g = (g.take k ++ [a]) ++ g.drop (k + 1) := by
  obtain ⟨hk', ek⟩ := FZ.mp hk
  rw [C7, List.singleton_append, ← ek, SC hk', Sk]
 rw [e, RJ, Cf] at h
 rw [C7]
 refine h.sublist (List.Sublist.append_left ?_ _)
 refine List.Sublist.trans ?_ (SD g _)
 conv => rhs; rw [e2]
 exact SD _ _
theorem kiV {m : Nat} (r : List Nat) : (grp m r).flatten = r.take (r.length / m * m) := by
 unfold grp
 have hle : r.length / m * m ≤ r.length := Nat.div_mul_le_self _ _
 generalize r.length / m = c at *
 induction c with
 | zero => simp
 | succ c ih =>
  have h1 : c * m + m ≤ r.length := by rw [← Nat.succ_mul]; exact hle
  rw [CY, FX, RJ, ih (by omega)]
  simp only [F7, R7, Cf, List.flatten_nil, R4]
  rw [show (c + 1) * m = c * m + m by rw [Nat.add_mul, Nat.one_mul], List.take_add]
theorem khP {m : Nat} {r : List Nat} (h : r.Nodup) : (grp m r).flatten.Nodup := by
 rw [kiV]
 exact h.sublist (List.take_sublist _ _)
end Vs
namespace Vs
open Kin Deal
theorem kcQ {is : List Nat} (hn : is.Nodup) {k i : Nat} (hk : is[k]? = some i) : ∀ (l : List (Nat × Int)), (∀ p ∈ l, p.1 < is.length) → (l.map fun p => (is.getD p.1 0, p.2)).lookup i = l.lookup k
 | [], _ => rfl
 | (j, v) :: l, h => by
  have ih := kcQ hn hk l fun p hp => h p (F9 _ hp)
  have hj : j < is.length := h (j, v) Cd
  obtain ⟨hk', ek⟩ := FZ.mp hk
  have e : is.getD j 0 = is[j] := by rw [F6]; simp [hj]
  simp only [F7, Ck, e]
  by_cases q : k = j
  ·subst q
   simp [ek]
  ·have h1 : (k == j) = false := by simp [q]
   have h2 : (i == is[j]) = false := by
    refine beq_eq_false_iff_ne.mpr fun z => q ?_
    exact (List.getElem_inj hn).mp (by rw [ek, z])
   rw [h1, h2]
   exact ih
theorem lookup_none {is : List Nat} {i : Nat} (hi : ∀ k : Nat, is[k]? ≠ some i) : ∀ (l : List (Nat × Int)), (∀ p ∈ l, p.1 < is.length) → (l.map fun p => (is.getD p.1 0, p.2)).lookup i = none
 | [], _ => rfl
 | (j, v) :: l, h => by
  have ih := lookup_none hi l fun p hp => h p (F9 _ hp)
  have hj : j < is.length := h (j, v) Cd
  have e : is.getD j 0 = is[j] := by rw [F6]; simp [hj]
  have h2 : (i == is[j]) = false := beq_eq_false_iff_ne.mpr fun z => hi j (by rw [z]; simp [hj])
  simp only [F7, Ck, e, h2]
  exact ih
theorem kec {is : List Nat} (hn : is.Nodup) {k i : Nat} (hk : is[k]? = some i) : ∀ {vs : List Int}, is.length = vs.length → (is.zip vs).lookup i = vs[k]? := by
 induction is generalizing k with
 | nil => simp at hk
 | cons a is ih =>
  intro vs hl
  cases vs with
  | nil => simp at hl
  | cons v vs =>
   rw [List.zip_cons_cons, Ck]
   cases k with
   | zero =>
    have : a = i := by simpa using hk
    subst this
    simp
   | succ k =>
    have hk' : is[k]? = some i := by simpa using hk
    have hh := CG.mp hn
    have hne : (i == a) = false := beq_eq_false_iff_ne.mpr fun z => hh.1 (z ▸ FV hk')
    rw [hne]
    simpa using ih hh.2 hk' (by simpa using hl)
theorem kfP {n : Nat} {is js : List Nat} {vs : List Int} (hn : is.Nodup) (hj : ∀ j ∈ js, j < is.length) : spr n is (spr is.length js vs) = spr n (js.map fun j => is.getD j 0) vs := by
 apply C5
 ·simp [spr]
 intro i h1 h2
 have ez : (js.map fun j => is.getD j 0).zip vs = (js.zip vs).map fun p => (is.getD p.1 0, p.2) := by rw [List.zip_map_left]; rfl
 have hp : ∀ p ∈ js.zip vs, p.1 < is.length := fun p hp => hj _ (C3 hp).1
 simp only [spr, Rq, RM]
 rw [ez]
 by_cases hk : ∃ k : Nat, is[k]? = some i
 ·obtain ⟨k, hk⟩ := hk
  have hkl := (FZ.mp hk).1
  rw [kcQ hn hk _ hp, kec hn hk (by simp)]
  simp [hkl]
 ·rw [lookup_none (fun k e => hk ⟨k, e⟩) _ hp]
  have : ((is.zip ((FU is.length).map fun i => ((js.zip vs).lookup i).getD 0)).lookup i) = none := by
   rw [List.lookup_eq_none_iff]
   intro p hp'
   have := (C3 hp').1
   obtain ⟨k, ek⟩ := Ra.mp this
   have hne : i ≠ p.1 := fun z => hk ⟨k, by rw [ek, ← z]⟩
   simpa using hne
  rw [this]
noncomputable def owns (n : Nat) (ow : List Nat) (is : List Nat) : List (List Nat) := (FU n).map fun l => is.filter fun i => ow.getD i 0 == l
theorem kel (n : Nat) (ow is : List Nat) : (kem n (is.map fun i => ow.getD i 0)).map (fun g => g.map fun j => is.getD j 0) = owns n ow is := by
 unfold kem owns
 rw [Cb]
 refine Cy fun l _ => ?_
 show (((FU _).filter _).map fun j => is.getD j 0) = _
 have e : is = (FU is.length).map fun j => is.getD j 0 := by
  apply C5
  ·simp
  ·intro j h1 h2
   simp [F6, h1]
 conv => rhs; rw [e]
 rw [List.filter_map, FJ]
 congr 1
 refine List.filter_congr fun k hk => ?_
 have hk' : k < is.length := by simpa using hk
 simp [F6, hk']
theorem qs_qs {pr : List Int} {ab g : List Nat} (h : ∀ j ∈ g, j < ab.length) : qs (qs pr ab) g = qs pr (g.map fun j => ab.getD j 0) := by
 unfold qs
 rw [Cb]
 refine Cy fun j hj => ?_
 have := h j hj
 simp [F6, this]
theorem kfF {n : Nat} {lines : List Nat} {g : List Nat} (hg : g ∈ kem n lines) {j : Nat} (hj : j ∈ g) : j < lines.length := by
 obtain ⟨l, _, rfl⟩ := F4.mp hg
 have := (CJ.mp hj).1
 simpa using this
theorem kf7 {n N : Nat} {ow ab : List Nat} {pr : List Int} (cut : Int → Int) (hn : ab.Nodup) : spr n ab (gdl cut (kem N (ab.map fun i => ow.getD i 0)) (qs pr ab)) = spr n (owns N ow ab).flatten ((owns N ow ab).map fun o => dl (cut (qs pr o).sum) (qs pr o)).flatten := by
 unfold gdl
 rw [kcg, kfP hn fun j hj => ?_, List.map_flatten, kel]
 ·congr 2
  rw [← kel, Cb]
  refine Cy fun g hg => ?_
  have e := qs_qs (pr := pr) (ab := ab) (g := g) fun j hj => by simpa using kfF hg hj
  show dl (cut (qs (qs pr ab) g).sum) (qs (qs pr ab) g) = dl (cut (qs pr (g.map fun j => ab.getD j 0)).sum) (qs pr (g.map fun j => ab.getD j 0))
  rw [e]
 ·obtain ⟨g, hg, hj'⟩ := CZ.mp hj
  simpa using kfF hg hj'
end Vs
namespace Vs
open Kin Deal
section
variable {p : Nat → Bool} {n : Nat} {w : List Int}
noncomputable def cnt (p : Nat → Bool) (j : Nat) : Nat := ((FU j).filter p).length
theorem kh7 {j : Nat} (h : p j = true) : cnt p (j + 1) = cnt p j + 1 := by
 unfold cnt
 rw [CY, Rt, Ca]
 simp [h]
theorem kjv {j : Nat} (h : p j = false) : cnt p (j + 1) = cnt p j := by
 unfold cnt
 rw [CY, Rt, Ca]
 simp [h]
theorem kcE : ∀ {n j : Nat}, j < n → p j = true → ((FU n).filter p)[cnt p j]? = some j
 | 0, j, h, _ => by omega
 | n + 1, j, h, hp => by
  rw [CY, Rt]
  by_cases hj : j < n
  ·have ih := kcE hj hp
   rw [Rn (FZ.mp ih).1]
   exact ih
  ·have e : j = n := by omega
   subst e
   unfold cnt
   rw [Rc (FM _)]
   simp [hp]
theorem kje (hl : w.length = cnt p n) {j : Nat} (hj : j < n) : (spr n ((FU n).filter p) w)[j]? = some (if p j = true then w.getD (cnt p j) 0 else 0) := by
 unfold spr
 rw [F0, RP hj]
 show some _ = some _
 congr 1
 show (CD j (((FU n).filter p).zip w)).getD 0 = _
 cases hp : p j with
 | true =>
  rw [kec (Rf.filter _ RK) (kcE hj hp) hl.symm, if_pos rfl, F6]
 | false =>
  rw [if_neg FW]
  cases e : (((FU n).filter p).zip w).lookup j with
  | none => rw [R8]
  | some v =>
   obtain ⟨k, hk, _⟩ := kdr e
   have := (CJ.mp (FV hk)).2
   rw [hp] at this
   cases this
theorem keT (hl : w.length = cnt p n) : ∀ j, j ≤ n → pre (spr n ((FU n).filter p) w) j = pre w (cnt p j)
 | 0, _ => by simp [pre, cnt]
 | j + 1, h => by
  have ih := keT hl j (by omega)
  rw [kdM (kje hl (show j < n by omega)), ih]
  cases hp : p j with
  | true =>
   have hk := (FZ.mp (kcE (show j < n by omega) hp)).1
   have hk' : cnt p j < w.length := by rw [hl]; exact hk
   rw [if_pos rfl, kh7 hp, kdM (w := w.getD (cnt p j) 0) (by rw [F6, CU hk']; rfl)]
  | false => rw [if_neg FW, kjv hp, Int.add_zero]
theorem kg3 (hl : w.length = cnt p n) : (spr n ((FU n).filter p) w).sum = w.sum := by
 have h := keT hl n (FM _)
 rw [← hl, khl] at h
 have e : pre (spr n ((FU n).filter p) w) n = (spr n ((FU n).filter p) w).sum := by
  have := khl (spr n ((FU n).filter p) w)
  rw [kcR] at this
  exact this
 rw [← e, h]
theorem kk0 (m : Int) (hl : w.length = cnt p n) : dl m (spr n ((FU n).filter p) w) = spr n ((FU n).filter p) (dl m w) := by
 have hl2 : (dl m w).length = cnt p n := by rw [keE, hl]
 have hs := kg3 hl
 apply List.ext_getElem?
 intro j
 by_cases hj : j < n
 ·rw [kje hl2 hj]
  have hjF : j < (spr n ((FU n).filter p) w).length := by rw [kcR]; exact hj
  by_cases h0 : w.sum = 0
  ·rw [kh1 (hs.trans h0) hjF]
   cases hp : p j with
   | false => rw [if_neg FW]
   | true =>
    have hk := (FZ.mp (kcE hj hp)).1
    rw [if_pos rfl, F6, kh1 h0 (by rw [hl]; exact hk)]
    rfl
  ·rw [dl_at (by rw [hs]; exact h0) hjF]
   unfold part
   rw [hs, keT hl j (by omega), keT hl (j + 1) (by omega)]
   cases hp : p j with
   | false => rw [if_neg FW, kjv hp, Int.sub_self]
   | true =>
    have hk := (FZ.mp (kcE hj hp)).1
    rw [if_pos rfl, F6, dl_at h0 (by rw [hl]; exact hk), kh7 hp]
    rfl
 ·rw [Sj (by rw [keE, kcR]; omega), Sj (by rw [kcR]; omega)]
end
theorem kkp {c : Int} {n : Nat} : dl c (FO n 0) = FO n 0 := by
 have e : (FO n (0 : Int)).sum = 0 := by simp
 unfold dl
 rw [if_pos e]
 simp
theorem ki1 {V : Vch} {ps : List (Option Nat)} {kk : List Nat} {S : Stnd} (e : V.ms.most = none) :
  (cutM V ps kk S).1 = spr S.pr.length (abt ps kk V.ms.kind V.ms.lone S) (want V.so S.mkd.length ((abt ps kk V.ms.kind V.ms.lone S).map fun i => S.ow.getD i 0) (qs S.pr (abt ps kk V.ms.kind V.ms.lone S))) := by
 unfold cutM cap
 rw [e]
theorem ki0 {V : Vch} {ps : List (Option Nat)} {kk : List Nat} {S : Stnd} (hl : S.pr.length = S.ow.length)
  (hw : Le2 (want V.so S.mkd.length ((abt ps kk V.ms.kind V.ms.lone S).map fun i => S.ow.getD i 0) (qs S.pr (abt ps kk V.ms.kind V.ms.lone S))) (qs S.pr (abt ps kk V.ms.kind V.ms.lone S))) {m : Int} (e : V.ms.most = some m) (h0 : 0 ≤ m) :
  (cutM V ps kk S).1 = if (spr S.pr.length (abt ps kk V.ms.kind V.ms.lone S) (want V.so S.mkd.length ((abt ps kk V.ms.kind V.ms.lone S).map fun i => S.ow.getD i 0) (qs S.pr (abt ps kk V.ms.kind V.ms.lone S)))).sum > m
   then dl m (spr S.pr.length (abt ps kk V.ms.kind V.ms.lone S) (want V.so S.mkd.length ((abt ps kk V.ms.kind V.ms.lone S).map fun i => S.ow.getD i 0) (qs S.pr (abt ps kk V.ms.kind V.ms.lone S))))
   else spr S.pr.length (abt ps kk V.ms.kind V.ms.lone S) (want V.so S.mkd.length ((abt ps kk V.ms.kind V.ms.lone S).map fun i => S.ow.getD i 0) (qs S.pr (abt ps kk V.ms.kind V.ms.lone S))) := by
 have hwl := hw.1
 rw [kcg] at hwl
 have ea : abt ps kk V.ms.kind V.ms.lone S = (FU S.pr.length).filter fun i => hits ps kk V.ms.kind V.ms.lone S.mkd (S.ow.getD i 0) := by rw [hl]; rfl
 have ez : V.so = .carr → (want V.so S.mkd.length ((abt ps kk V.ms.kind V.ms.lone S).map fun i => S.ow.getD i 0) (qs S.pr (abt ps kk V.ms.kind V.ms.lone S))) = FO (qs S.pr (abt ps kk V.ms.kind V.ms.lone S)).length 0 := fun z => by rw [z]; rfl
 unfold cutM cap
 rw [e]
 simp only
 generalize want V.so S.mkd.length ((abt ps kk V.ms.kind V.ms.lone S).map fun i => S.ow.getD i 0) (qs S.pr (abt ps kk V.ms.kind V.ms.lone S)) = w at *
 rw [ea] at hwl ⊢
 rw [kg3 hwl, kk0 m hwl]
 by_cases hc : V.so = .carr
 ·have hz := ez hc
  have hs : w.sum = 0 := by rw [hz]; simp
  rw [if_neg (by omega : ¬ w.sum > m)]
  split
  ·simp only
   rw [hz, kkp]
  ·rfl
 ·have hf : fee V.so S.cg = 0 := by
   unfold fee
   split
   ·rename_i z
    exact absurd z hc
   ·rfl
  rw [hf, Int.add_zero]
  by_cases hm : m < w.sum
  ·rw [if_pos hm, if_pos hm]
   simp only
   rw [Int.min_eq_left (by omega)]
  ·rw [if_neg hm, if_neg hm]
end Vs
namespace Vs
open Kin Deal
noncomputable def ins : List (Nat × List Nat) → Nat → Nat → List (Nat × List Nat)
 | [], o, a => [(o, [a])]
 | (l, g) :: G, o, a => if l = o then (l, g ++ [a]) :: G else (l, g) :: ins G o a
noncomputable def parted (f : Nat → Nat) (is : List Nat) : List (Nat × List Nat) := is.foldl (fun G a => ins G (f a) a) []
theorem kdZ (f : Nat → Nat) (is : List Nat) (a : Nat) : parted f (is ++ [a]) = ins (parted f is) (f a) a := by
 unfold parted
 rw [List.foldl_append]
 rfl
theorem kdO : ∀ (G : List (Nat × List Nat)) (o a : Nat), (ins G o a).map Prod.fst = if o ∈ G.map Prod.fst then G.map Prod.fst else G.map Prod.fst ++ [o]
 | [], o, a => by simp [ins]
 | (l, g) :: G, o, a => by
  unfold ins
  by_cases h : l = o
  ·subst h
   simp
  ·rw [if_neg h, F7, kdO G o a]
   show _ = if o ∈ l :: G.map Prod.fst then l :: G.map Prod.fst else (l :: G.map Prod.fst) ++ [o]
   have h' : ¬ o = l := fun z => h z.symm
   by_cases hm : o ∈ G.map Prod.fst
   ·rw [if_pos hm, if_pos (F9 _ hm)]
   ·rw [if_neg hm, if_neg (by rw [F5, not_or]; exact ⟨h', hm⟩)]
    rfl
theorem khM : ∀ {G : List (Nat × List Nat)} {o a l : Nat} {g : List Nat}, (G.map Prod.fst).Nodup → (l, g) ∈ ins G o a → (l ≠ o ∧ (l, g) ∈ G) ∨ (l = o ∧ ((∃ g', (o, g') ∈ G ∧ g = g' ++ [a]) ∨ (o ∉ G.map Prod.fst ∧ g = [a])))
 | [], o, a, l, g, _, h => by
  unfold ins at h
  rw [CW] at h
  cases h
  exact .inr ⟨rfl, .inr ⟨by simp, rfl⟩⟩
 | (k, g0) :: G, o, a, l, g, hn, h => by
  unfold ins at h
  rw [F7, CG] at hn
  by_cases e : k = o
  ·rw [if_pos e] at h
   subst e
   rcases F5.mp h with z | z
   ·cases z
    exact .inr ⟨rfl, .inl ⟨g0, Cd, rfl⟩⟩
   ·refine .inl ⟨fun w => ?_, F9 _ z⟩
    subst w
    exact hn.1 (F4.mpr ⟨(l, g), z, rfl⟩)
  ·rw [if_neg e] at h
   rcases F5.mp h with z | z
   ·cases z
    exact .inl ⟨e, Cd⟩
   ·rcases khM hn.2 z with ⟨w1, w2⟩ | ⟨w1, ⟨g', w2, w3⟩ | ⟨w2, w3⟩⟩
    ·exact .inl ⟨w1, F9 _ w2⟩
    ·exact .inr ⟨w1, .inl ⟨g', F9 _ w2, w3⟩⟩
    ·refine .inr ⟨w1, .inr ⟨?_, w3⟩⟩
     rw [F7, F5, not_or]
     exact ⟨fun z => e z.symm, w2⟩
structure PtOk (f : Nat → Nat) (is : List Nat) (G : List (Nat × List Nat)) : Prop where
 nd : (G.map Prod.fst).Nodup
 gs : ∀ l g, (l, g) ∈ G → g = is.filter fun i => f i == l
 all : ∀ i ∈ is, f i ∈ G.map Prod.fst
theorem kew (f : Nat → Nat) : ∀ (n : Nat) (is : List Nat), is.length = n → PtOk f is (parted f is)
 | 0, is, h => by
  have e : is = [] := List.eq_nil_of_length_eq_zero h
  subst e
  exact ⟨by simp [parted], fun l g hg => by simp [parted] at hg, fun i hi => by simp at hi⟩
 | n + 1, is, h => by
  have hne : is ≠ [] := by
   intro z
   subst z
   cases h
  obtain ⟨is', a, rfl⟩ : ∃ is' a, is = is' ++ [a] := ⟨is.dropLast, is.getLast hne, (List.dropLast_concat_getLast hne).symm⟩
  have ih := kew f n is' (by simpa using h)
  rw [kdZ]
  refine ⟨?_, fun l g hg => ?_, fun i hi => ?_⟩
  ·rw [kdO]
   split
   ·exact ih.nd
   ·rename_i hm
    exact Sl.mpr ⟨ih.nd, by simp, fun x hx y hy => by
     rw [CW] at hy
     subst hy
     exact fun z => hm (by rw [← z]; exact hx)⟩
  ·rw [Rt]
   rcases khM ih.nd hg with ⟨w1, w2⟩ | ⟨w1, ⟨g', w2, w3⟩ | ⟨w2, w3⟩⟩
   ·rw [ih.gs l g w2]
    have : (f a == l) = false := by simpa using fun z => w1 z.symm
    simp [this]
   ·subst w1 w3
    rw [ih.gs _ g' w2]
    simp
   ·subst w1 w3
    have e : is'.filter (fun i => f i == f a) = [] := by
     rw [List.filter_eq_nil_iff]
     intro i hi z
     have z' : f i = f a := by simpa using z
     exact w2 (by rw [← z']; exact ih.all i hi)
    rw [e]
    simp
  ·rw [kdO]
   rcases Cq.mp hi with hi | hi
   ·have := ih.all i hi
    split
    ·exact this
    ·exact RX _ this
   ·rw [CW] at hi
    subst hi
    split
    ·assumption
    ·exact Cr _ (by simp)
theorem kcx (f : Nat → Nat) (is : List Nat) : PtOk f is (parted f is) := kew f is.length is rfl
theorem PtOk.snds {f : Nat → Nat} {is : List Nat} {G : List (Nat × List Nat)} (h : PtOk f is G) : G.map Prod.snd = (G.map Prod.fst).map fun l => is.filter fun i => f i == l := by
 rw [Cb]
 refine Cy fun p hp => ?_
 exact h.gs p.1 p.2 hp
theorem kgR {l l' : List (Nat × Int)} {i : Nat} : (l ++ l').lookup i = (l.lookup i).or (l'.lookup i) := by
 induction l with
 | nil => simp
 | cons p l ih =>
  obtain ⟨a, b⟩ := p
  rw [Sf, Ck, Ck, ih]
  split <;> rfl
theorem keB {l : List (Nat × Int)} {i : Nat} (h : ∀ p ∈ l, p.1 ≠ i) : l.lookup i = none := by
 induction l with
 | nil => rfl
 | cons p l ih =>
  obtain ⟨a, b⟩ := p
  have h1 : (i == a) = false := by
   have := h (a, b) Cd
   simpa using fun z => this z.symm
  rw [Ck, h1]
  exact ih fun q hq => h q (F9 _ hq)
section
variable {f : Nat → Nat} {is : List Nat} {D : List Nat → List Int}
theorem kjy {l i : Nat} {vs : List Int} (h : f i ≠ l) : ((is.filter fun i => f i == l).zip vs).lookup i = none :=
 keB fun p hp => by
  have h1 := (C3 (show (p.1, p.2) ∈ _ from hp)).1
  have h2 : f p.1 = l := by simpa using (CJ.mp h1).2
  intro z
  rw [z] at h2
  exact h h2
theorem kdx (hD : ∀ g, (D g).length = g.length) (i : Nat) : ∀ (ks : List Nat), ks.Nodup →
  (((ks.map fun l => is.filter fun i => f i == l).flatten).zip ((ks.map fun l => D (is.filter fun i => f i == l)).flatten)).lookup i = if f i ∈ ks then ((is.filter fun j => f j == f i).zip (D (is.filter fun j => f j == f i))).lookup i else none
 | [], _ => by simp
 | l :: ks, hn => by
  rw [CG] at hn
  have ih := kdx hD i ks hn.2
  rw [F7, F7, Cf, Cf, List.zip_append (hD _).symm, kgR, ih]
  by_cases h : f i = l
  ·subst h
   rw [if_neg hn.1, if_pos Cd, Option.or_none]
  ·rw [kjy h, Option.none_or]
   by_cases hm : f i ∈ ks
   ·rw [if_pos hm, if_pos (F9 _ hm)]
   ·rw [if_neg hm, if_neg (by rw [F5, not_or]; exact ⟨h, hm⟩)]
theorem kgL (hD : ∀ g, (D g).length = g.length) {n : Nat} {ks ks' : List Nat} (hn : ks.Nodup) (hn' : ks'.Nodup) (h : ∀ i ∈ is, f i ∈ ks) (h' : ∀ i ∈ is, f i ∈ ks') :
  spr n (ks.map fun l => is.filter fun i => f i == l).flatten (ks.map fun l => D (is.filter fun i => f i == l)).flatten = spr n (ks'.map fun l => is.filter fun i => f i == l).flatten (ks'.map fun l => D (is.filter fun i => f i == l)).flatten := by
 unfold spr
 refine Cy fun i _ => ?_
 have key : ∀ ks : List Nat, ks.Nodup → (∀ i ∈ is, f i ∈ ks) → (((ks.map fun l => is.filter fun i => f i == l).flatten).zip ((ks.map fun l => D (is.filter fun i => f i == l)).flatten)).lookup i = ((is.filter fun j => f j == f i).zip (D (is.filter fun j => f j == f i))).lookup i := fun ks hn hk => by
  rw [kdx hD i ks hn]
  by_cases hm : f i ∈ ks
  ·rw [if_pos hm]
  ·rw [if_neg hm, keB fun p hp => ?_]
   have h1 := (C3 (show (p.1, p.2) ∈ _ from hp)).1
   obtain ⟨h2, h3⟩ := CJ.mp h1
   exact fun _ => hm (by rw [← (show f p.1 = f i by simpa using h3)]; exact hk _ h2)
 rw [key ks hn h, key ks' hn' h']
theorem kdY (hi : is.Nodup) : ∀ {ks : List Nat}, ks.Nodup → (ks.map fun l => is.filter fun i => f i == l).flatten.Nodup
 | [], _ => by simp
 | l :: ks, hn => by
  rw [CG] at hn
  rw [F7, Cf]
  refine Sl.mpr ⟨hi.filter _, kdY hi hn.2, fun x hx y hy z => ?_⟩
  subst z
  have h1 : f x = l := by simpa using (CJ.mp hx).2
  obtain ⟨g, hg, hy⟩ := CZ.mp hy
  obtain ⟨l', hl', rfl⟩ := F4.mp hg
  have h2 : f x = l' := by simpa using (CJ.mp hy).2
  exact hn.1 (by rw [← h1, h2]; exact hl')
end
theorem kgM {n N : Nat} {ow ab : List Nat} {pr : List Int} (cut : Int → Int) (hn : ab.Nodup) (hN : ∀ i ∈ ab, ow.getD i 0 < N) :
  spr n ((parted (fun i => ow.getD i 0) ab).map Prod.snd).flatten (((parted (fun i => ow.getD i 0) ab).map Prod.snd).map fun g => dl (cut (qs pr g).sum) (qs pr g)).flatten = spr n ab (gdl cut (kem N (ab.map fun i => ow.getD i 0)) (qs pr ab)) := by
 have ok := kcx (fun i => ow.getD i 0) ab
 rw [kf7 cut hn, ok.snds]
 generalize hks : (parted (fun i => ow.getD i 0) ab).map Prod.fst = ks at *
 have nd : ks.Nodup := by rw [← hks]; exact ok.nd
 have al : ∀ i ∈ ab, ow.getD i 0 ∈ ks := by rw [← hks]; exact ok.all
 unfold owns
 rw [Cb, Cb]
 exact kgL (f := fun i => ow.getD i 0) (is := ab) (D := fun g => dl (cut (qs pr g).sum) (qs pr g)) (fun g => by rw [keE, kcg]) nd RK al fun i hi => by simpa using hN i hi
theorem kex (f : Nat → Nat) : ∀ (is : List Nat), (parted f is).length ≤ is.length := by
 intro is
 have key : ∀ (is : List Nat) (G : List (Nat × List Nat)), (is.foldl (fun G a => ins G (f a) a) G).length ≤ G.length + is.length := by
  intro is
  induction is with
  | nil => intro G; simp
  | cons a is ih =>
   intro G
   have h1 := ih (ins G (f a) a)
   have h2 : (ins G (f a) a).length ≤ G.length + 1 := by
    have := congrArg RA (kdO G (f a) a)
    rw [FJ] at this
    rw [this]
    split <;> simp
   rw [List.foldl_cons, Cu]
   omega
 simpa [parted] using key is []
end Vs
namespace Vs
open Kin Deal
noncomputable def fallP (pr : List Int) (is : List Nat) : List Nat := (ordQ (qs pr is)).map fun j => is.getD j 0
theorem range_getD (is : List Nat) : (FU is.length).map (fun j => is.getD j 0) = is := by
 apply C5
 ·simp
 ·intro j h1 h2
  simp [F6, h2]
theorem kbV (pr : List Int) (is : List Nat) : (fallP pr is).Perm is := by
 have h := (kc0 (qs pr is)).map fun j => is.getD j 0
 rw [kcg, range_getD] at h
 exact h
noncomputable def befP (pr : List Int) (a b : Nat) : Prop := pr.getD b 0 < pr.getD a 0 ∨ (pr.getD a 0 = pr.getD b 0 ∧ a < b)
theorem kiZ {pr : List Int} {is : List Nat} (hs : is.Pairwise (· < ·)) : (fallP pr is).Pairwise (befP pr) := by
 have h := (kd2 (qs pr is)).2
 have hm := (kd2 (qs pr is)).1
 unfold fallP
 rw [Sm]
 refine h.imp_of_mem fun {a b} ha hb hab => ?_
 have la : a < is.length := by simpa [kcg] using hm.mem_iff.mp ha
 have lb : b < is.length := by simpa [kcg] using hm.mem_iff.mp hb
 have ea : (qs pr is).getD a 0 = pr.getD (is.getD a 0) 0 := by simp [qs, F6, la]
 have eb : (qs pr is).getD b 0 = pr.getD (is.getD b 0) 0 := by simp [qs, F6, lb]
 unfold bef at hab
 unfold befP
 rw [ea, eb] at hab
 rcases hab with z | ⟨z1, z2⟩
 ·exact .inl z
 ·refine .inr ⟨z1, ?_⟩
  have := C9.mp hs a b la lb z2
  simpa [F6, la, lb] using this
theorem kgT {pr : List Int} {is ks : List Nat} (hs : is.Pairwise (· < ·)) (hp : ks.Perm is) (hk : ks.Pairwise (befP pr)) : ks = fallP pr is :=
 kdV (R := befP pr) (fun a b h h' => by unfold befP at h h'; omega) (hp.trans (kbV pr is).symm) hk (kiZ hs)
theorem khR (m : Nat) (f : Nat → Nat) (r : List Nat) : grp m (r.map f) = (grp m r).map fun g => g.map f := by
 unfold grp
 rw [FJ, Cb]
 refine Cy fun g _ => ?_
 show ((r.map f).drop _).take _ = ((r.drop _).take _).map f
 rw [C0, Sn]
theorem khQ {m : Nat} {r g : List Nat} (h : g ∈ grp m r) : ∀ j ∈ g, j ∈ r := fun j hj => by
 obtain ⟨i, _, rfl⟩ := F4.mp h
 exact List.mem_of_mem_drop (Rj hj)
theorem khS {n : Nat} {ab : List Nat} {pr : List Int} (cut : Int → Int) (hn : ab.Nodup) (gs : List (List Nat)) (hg : ∀ g ∈ gs, ∀ j ∈ g, j < ab.length) :
  spr n ab (gdl cut gs (qs pr ab)) = spr n (gs.map fun g => g.map fun j => ab.getD j 0).flatten ((gs.map fun g => g.map fun j => ab.getD j 0).map fun o => dl (cut (qs pr o).sum) (qs pr o)).flatten := by
 unfold gdl
 rw [kcg, kfP hn fun j hj => ?_, List.map_flatten, Cb]
 ·congr 2
  refine Cy fun g hg' => ?_
  have e := qs_qs (pr := pr) (ab := ab) (g := g) (hg g hg')
  show dl (cut (qs (qs pr ab) g).sum) (qs (qs pr ab) g) = dl (cut (qs pr (g.map fun j => ab.getD j 0)).sum) (qs pr (g.map fun j => ab.getD j 0))
  rw [e]
 ·obtain ⟨g, hg', hj'⟩ := CZ.mp hj
  exact hg g hg' j hj'
theorem kjk {pr : List Int} {is : List Nat} {m : Nat} {g : List Nat} (h : g ∈ grp m (ordQ (qs pr is))) : ∀ j ∈ g, j < is.length := fun j hj => by
 have := kj7 (khQ h j hj)
 rwa [kcg] at this
theorem ki4 {n m : Nat} {is : List Nat} {pr : List Int} (cut : Int → Int) (hn : is.Nodup) :
  spr n is (gdl cut (grp m (ordQ (qs pr is))) (qs pr is)) = spr n (grp m (fallP pr is)).flatten ((grp m (fallP pr is)).map fun o => dl (cut (qs pr o).sum) (qs pr o)).flatten := by
 rw [khS cut hn _ fun g hg => kjk hg]
 unfold fallP
 rw [khR]
theorem khD {f : Nat → Nat} {gs : List (List Nat)} (h : ∀ g ∈ gs, g ≠ []) : lasts (gs.map fun g => g.map f) = (lasts gs).map f := by
 unfold lasts
 rw [Cb, Cb]
 refine Cy fun g hg => ?_
 show (g.map f).getLastD 0 = f (g.getLastD 0)
 have hne := h g hg
 rw [So, So, List.getLast?_map, SE hne]
 rfl
theorem kk1 (c : Int) : dl c [c] = [c] := by
 unfold dl
 by_cases h : [c].sum = 0
 ·rw [if_pos h]
  have : c = 0 := by simpa using h
  simp [this]
 ·rw [if_neg h]
  have hc : c ≠ 0 := by simpa using h
  have e : part c [c] 0 = c := by
   unfold part pre
   simp [Int.mul_ediv_cancel _ hc]
  simp [CY, e]
theorem khf (f : Nat → Int) : ∀ (l : List Nat), (l.map fun i => [i]).flatten = l ∧ (l.map fun i => [f i]).flatten = l.map f
 | [] => ⟨rfl, rfl⟩
 | a :: l => by
  obtain ⟨h1, h2⟩ := khf f l
  simp [h1, h2]
theorem kh8 {n m : Nat} {is : List Nat} {pr : List Int} (hm : 0 < m) (hn : is.Nodup) :
  spr n is (spr (qs pr is).length (lasts (grp m (ordQ (qs pr is)))) (qs (qs pr is) (lasts (grp m (ordQ (qs pr is)))))) = spr n (lasts (grp m (fallP pr is))) ((lasts (grp m (fallP pr is))).map fun i => pr.getD i 0) := by
 have ne : ∀ g ∈ grp m (ordQ (qs pr is)), g ≠ [] := fun g hg z => by
  obtain ⟨i, hi⟩ := Ra.mp hg
  have := (kgw hi).2.1
  rw [z] at this
  simp at this
  omega
 have hl : ∀ j ∈ lasts (grp m (ordQ (qs pr is))), j < is.length := fun j hj => by
  obtain ⟨g, hg, rfl⟩ := F4.mp hj
  refine kjk hg _ ?_
  rw [So, SE (ne g hg)]
  exact List.getLast_mem _
 rw [kcg, kfP hn hl, qs_qs hl]
 have e : lasts (grp m (fallP pr is)) = (lasts (grp m (ordQ (qs pr is)))).map fun j => is.getD j 0 := by
  unfold fallP
  rw [khR, khD ne]
 rw [e]
 rfl
theorem spr_zero {n k : Nat} {is : List Nat} : spr n is (FO k 0) = FO n 0 := by
 unfold spr
 apply C5
 ·simp
 ·intro j h1 h2
  simp only [Rq, RM, List.getElem_replicate]
  cases e : (is.zip (FO k (0 : Int))).lookup j with
  | none => rfl
  | some v =>
   obtain ⟨i, _, hv⟩ := kdr e
   have := List.eq_of_mem_replicate (FV hv)
   rw [this]
   rfl
theorem keh {pr : List Int} {is : List Nat} (hn : is.Nodup) : (fallP pr is).Nodup := (kbV pr is).nodup_iff.mpr hn
theorem kf3 (m : Nat) (r : List Nat) : (grp m r).length ≤ r.length := by
 unfold grp
 rw [FJ, List.length_range]
 exact Nat.div_le_self _ _
end Vs
namespace Vs
open Kin Deal
structure Later (S S' : Stnd) : Prop where
 ow : S'.ow = S.ow
 pr : Le2 S'.pr S.pr
 cg : 0 ≤ S'.cg ∧ S'.cg ≤ S.cg
 mg : ∀ l, S.mkd.getD l false = true → S'.mkd.getD l false = true
theorem Later.refl {S : Stnd} (hn : Nn S.pr) (hc : 0 ≤ S.cg) : Later S S := ⟨rfl, Le2.self hn, ⟨hc, Int.le_refl _⟩, fun _ h => h⟩
theorem Later.trans {S S' S'' : Stnd} (h : Later S S') (h' : Later S' S'') : Later S S'' := ⟨h'.ow.trans h.ow, h'.pr.trans h.pr, ⟨h'.cg.1, Int.le_trans h'.cg.2 h.cg.2⟩, fun l e => h'.mg l (h.mg l e)⟩
end Vs
namespace Vs
open PySem L2
noncomputable def top (i : Nat) : Stmt := PySem.Challenge.pw_voucherstack_k26_bills_of_beginnings.main.body.getD i (.Pass ⟨0, 0, 0, 0⟩)
noncomputable abbrev kb4 : Stmt := top 2
noncomputable abbrev kb0 : Stmt := top 4
noncomputable abbrev kaL : Stmt := top 16
noncomputable abbrev kbP : Stmt := top 19
noncomputable abbrev kcs : Stmt := top 20
noncomputable abbrev kbo : Stmt := top 21
noncomputable abbrev kct : Stmt := top 22
noncomputable abbrev kb5 : Stmt := top 23
noncomputable abbrev kaN : Stmt := top 24
noncomputable abbrev kaH : Stmt := top 25
noncomputable abbrev kaR : Stmt := top 26
noncomputable abbrev kaM : Stmt := top 27
noncomputable abbrev kaB : Stmt := top 28
noncomputable abbrev kaV : Stmt := top 29
noncomputable abbrev kbj : Stmt := top 30
noncomputable abbrev kaU : Stmt := top 31
noncomputable abbrev kbA : Stmt := top 32
noncomputable abbrev kb3 : Stmt := top 38
noncomputable abbrev kbJ : Stmt := top 39
noncomputable abbrev kaT : Stmt := top 40
noncomputable abbrev kaZ : Stmt := top 41
noncomputable abbrev ka0 : Stmt := top 42
noncomputable abbrev kaG : Stmt := top 43
noncomputable abbrev kbK : Stmt := top 46
noncomputable abbrev ka3 : Stmt := top 50
noncomputable abbrev kbp : Stmt := top 51
noncomputable abbrev kbe : Stmt := top 52
noncomputable abbrev ka2 : Stmt := top 53
noncomputable abbrev ka8 : Stmt := top 54
noncomputable abbrev ka9 : Stmt := top 55
noncomputable abbrev kbg : Stmt := top 56
noncomputable abbrev ka1 : Stmt := top 57
noncomputable abbrev kbd : Stmt := top 58
noncomputable abbrev kbc : Stmt := top 59
noncomputable abbrev kbk : Stmt := top 60
noncomputable abbrev kbl : Stmt := top 61
noncomputable abbrev kbh : Stmt := top 62
noncomputable abbrev kbf : Stmt := top 63
noncomputable abbrev ka7 : Stmt := top 64
noncomputable abbrev kaO : Stmt := top 65
noncomputable abbrev s_law : Stmt := top 66
noncomputable abbrev kaq : Stmt := inClass (top 6) 0
noncomputable abbrev kaI : Stmt := inClass (top 7) 0
noncomputable abbrev kbm : Stmt := inClass (top 8) 0
noncomputable abbrev kaJ : Stmt := inClass (top 9) 0
noncomputable abbrev kaC : Stmt := inClass (top 10) 0
noncomputable abbrev kaS : Stmt := inClass (top 11) 0
noncomputable abbrev kaD : Stmt := inClass (top 12) 0
noncomputable abbrev kbb : Stmt := inClass (top 14) 0
noncomputable abbrev kaE : Stmt := inClass (top 15) 0
noncomputable abbrev kaX : Stmt := inClass (top 17) 0
noncomputable abbrev kaP : Stmt := inClass (top 17) 1
noncomputable abbrev kbv : Stmt := inClass (top 37) 0
noncomputable abbrev ka4 : Stmt := inClass (top 37) 1
noncomputable abbrev kbi : Stmt := inClass (top 37) 2
noncomputable abbrev kaW : Stmt := inClass (top 37) 4
noncomputable abbrev kbq : Stmt := inClass (top 45) 0
noncomputable abbrev kba : Stmt := inClass (top 48) 0
set_option genInjectivity false
set_option genSizeOf false
structure D where
 Xn : Addr
 Xo : FuncData
 Xp : Addr
 Xq : FuncData
 Xr : Addr
 Xs : FuncData
 Xt : Addr
 Xu : FuncData
 Xv : Addr
 Xw : FuncData
 Xx : Addr
 Xy : FuncData
 Xz : Addr
 XA : FuncData
 XB : Addr
 XC : FuncData
 XD : Addr
 XE : FuncData
 XF : Addr
 XG : FuncData
 XH : Addr
 XI : FuncData
 XJ : Addr
 XM : FuncData
 XO : Addr
 QK : FuncData
 XQ : Addr
 XR : FuncData
 XS : Addr
 XT : FuncData
 XU : Addr
 XW : FuncData
 XX : Addr
 XY : FuncData
 XZ : Addr
 X0 : FuncData
 X1 : Addr
 X2 : FuncData
 X3 : Addr
 X4 : FuncData
 X5 : Addr
 X6 : FuncData
 X7 : Addr
 X8 : FuncData
 X9 : Addr
 Ya : FuncData
 Yb : Addr
 Yc : FuncData
 Yd : Addr
 Ye : FuncData
 Yf : Addr
 Yg : FuncData
 Yh : Addr
 Yi : FuncData
 Yj : Addr
 Yk : FuncData
 Yl : Addr
 Ym : FuncData
 Yn : Addr
 Yo : FuncData
 Yp : Addr
 Yq : FuncData
 Yr : Addr
 Ys : FuncData
 Yt : Addr
 Yu : FuncData
 Yv : Addr
 Yw : FuncData
 Yx : Addr
 Yy : FuncData
 Yz : Addr
 YA : FuncData
 YB : Addr
 YC : FuncData
 YD : Addr
 YE : FuncData
 YF : Addr
 YG : FuncData
 YH : Addr
 YI : FuncData
 f_law : Addr
 YJ : FuncData
 qh : Addr
 YK : Addr
 qB : FuncData
 tok1_Marks_init : Nat
 qy : Addr
 QL : Addr
 QM : FuncData
 c_Off : Addr
 YL : Addr
 QN : FuncData
 qk : Addr
 YM : Addr
 qX : FuncData
 qm : Addr
 YN : Addr
 QO : FuncData
 ql : Addr
 YO : Addr
 QP : FuncData
 qo : Addr
 YQ : Addr
 QQ : FuncData
 qe : Addr
 YR : Addr
 QR : FuncData
 qi : Addr
 YS : Addr
 qY : FuncData
 tok0_Basket_init : Nat
 qc : Addr
 YT : Addr
 YU : FuncData
 YV : Addr
 YW : FuncData
 c_Way : Addr
 YX : Addr
 YY : FuncData
 YZ : Addr
 Y0 : FuncData
 Y1 : Addr
 Y2 : FuncData
 Y3 : Addr
 Y4 : FuncData
 qf : Addr
 Y5 : Addr
 Y6 : FuncData
 qg : Addr
 Y7 : Addr
 QS : FuncData
 tok0_Till_init : Nat
 cc_falling_groups : Addr
 tP_falling_groups : Addr
structure Wld (K : FK) (mg : Str → Option Value) (d : D) : Prop where
 B : TxtB mg
 qF : Dn K mg "dealt" kb4 ["cut", "weights"] d.Xn d.Xo
 qZ : Dn K mg "under" kb0 ["parents", "one", "other"] d.Xp d.Xq
 q9 : Dn K mg "price_of_piece" kaL ["line", "member"] d.Xr d.Xs
 qG : Dn K mg "about" kbP ["voucher", "parents", "basket", "standing"] d.Xt d.Xu
 Qa : Dn K mg "fits" kcs ["marks", "parents", "kind", "marked"] d.Xv d.Xw
 Qb : Dn K mg "hindrance" kbo ["voucher", "parents", "basket", "standing"] d.Xx d.Xy
 Qc : Dn K mg "cuts" kct ["voucher", "parents", "basket", "standing"] d.Xz d.XA
 Qd : Dn K mg "after" kb5 ["voucher", "parents", "basket", "standing"] d.XB d.XC
 qH : Dn K mg "cuts_of_pieces" kaN ["voucher", "parents", "basket", "standing"] d.XD d.XE
 qI : Dn K mg "cut_of_carriage" kaH ["voucher", "standing"] d.XF d.XG
 Qe : Dn K mg "wanted_cuts" kaR ["voucher", "standing", "pieces"] d.XH d.XI
 Qf : Dn K mg "parted_by_line" kaM ["standing", "pieces"] d.XJ d.XM
 qJ : Dn K mg "falling_groups" kaB ["standing", "pieces", "many"] d.XO d.QK
 Qg : Dn K mg "marked_behind" kaV ["voucher", "standing", "piece_cuts"] d.XQ d.XR
 qK : Dn K mg "prices_of" kbj ["standing", "pieces"] d.XS d.XT
 qp : Dn K mg "sum_of_prices" kaU ["standing", "pieces"] d.XU d.XW
 Qh : Dn K mg "at_most" kbA ["most", "number"] d.XX d.XY
 qq : Dn K mg "fault" kb3 ["till", "basket", "hand", "order"] d.XZ d.X0
 Qi : Dn K mg "way_by" kbJ ["till", "basket", "hand", "order"] d.X1 d.X2
 Qj : Dn K mg "word_of_order" kaT ["till", "hand", "used", "number"] d.X3 d.X4
 Qk : Dn K mg "breaks_never" kaZ ["rules", "used", "number"] d.X5 d.X6
 Ql : Dn K mg "breaks_ahead" ka0 ["rules", "used", "number"] d.X7 d.X8
 Qm : Dn K mg "without_company" kaG ["rules", "order"] d.X9 d.Ya
 qL : Dn K mg "priced" kbK ["till", "basket", "hand", "order"] d.Yb d.Yc
 Qn : Dn K mg "_law_cell_at" ka3 ["_law_script", "_law_k"] d.Yd d.Ye
 qd : Dn K mg "_law_some" kbp ["_law_script", "_law_k", "_law_salt", "_law_many"] d.Yf d.Yg
 qx : Dn K mg "_law_price" kbe ["_law_script", "_law_k", "_law_salt"] d.Yh d.Yi
 Qo : Dn K mg "_law_parents" ka2 ["_law_script"] d.Yj d.Yk
 Qp : Dn K mg "_law_basket" ka8 ["_law_script", "_law_kinds"] d.Yl d.Ym
 qr : Dn K mg "_law_amount" ka9 ["_law_script", "_law_k", "_law_salt", "_law_worth_here"] d.Yn d.Yo
 Qq : Dn K mg "_law_marks" kbg ["_law_script", "_law_k", "_law_kinds", "_law_worth_here"] d.Yp d.Yq
 Qr : Dn K mg "_law_voucher" ka1 ["_law_script", "_law_k", "_law_kinds", "_law_worth_here"] d.Yr d.Ys
 Qs : Dn K mg "_law_rules" kbd ["_law_script", "_law_many"] d.Yt d.Yu
 Qt : Dn K mg "_law_worth" kbc ["_law_basket_here"] d.Yv d.Yw
 Qu : Dn K mg "_law_till" kbk ["_law_script", "_law_parents_here", "_law_basket_here", "_law_back"] d.Yx d.Yy
 Qv : Dn K mg "_law_hand" kbl ["_law_script", "_law_many"] d.Yz d.YA
 Qw : Dn K mg "_law_going" kbh ["_law_till_here", "_law_basket_here", "_law_hand_here", "_law_order_here"] d.YB d.YC
 Qx : Dn K mg "_law_order" kbf ["_law_script", "_law_k", "_law_till_here", "_law_basket_here", "_law_hand_here"] d.YD d.YE
 qM : Dn K mg "_law_prices" ka7 ["_law_basket_here"] d.YF d.YG
 Qy : Dn K mg "_law_goes_down" kaO ["_law_basket_here", "_law_bill"] d.YH d.YI
 d_law : Dn K mg "law" s_law ["_law_script"] d.f_law d.YJ
 qh : ClsT K mg "Marks" d.qh
 n_Marks_kind : NoAttr K d.qh "kind"
 n_Marks_needs : NoAttr K d.qh "needs"
 n_Marks_most : NoAttr K d.qh "most"
 n_Marks_member : NoAttr K d.qh "member"
 n_Marks_once : NoAttr K d.qh "once"
 n_Marks_lone : NoAttr K d.qh "lone"
 Qz : MthT K d.qh "__init__" "Marks.__init__" kaq ["self", "kind", "needs", "most", "member", "once", "lone"] d.YK d.qB
 b1_Marks_init : Binds K d.qB ["self", "kind", "needs", "most", "member", "once", "lone"] [.bool false]
 b2_Marks_init : Binds K d.qB ["self", "kind", "needs", "most", "member", "once", "lone"] [.bool false, .bool false]
 b3_Marks_init : Binds K d.qB ["self", "kind", "needs", "most", "member", "once", "lone"] [.bool false, .bool false, .bool false]
 b4_Marks_init : Binds K d.qB ["self", "kind", "needs", "most", "member", "once", "lone"] [.none, .bool false, .bool false, .bool false]
 b5_Marks_init : Binds K d.qB ["self", "kind", "needs", "most", "member", "once", "lone"] [.int 0 d.tok1_Marks_init, .none, .bool false, .bool false, .bool false]
 b6_Marks_init : Binds K d.qB ["self", "kind", "needs", "most", "member", "once", "lone"] [.none, .int 0 d.tok1_Marks_init, .none, .bool false, .bool false, .bool false]
 qy : ClsT K mg "Voucher" d.qy
 qw : MthT K d.qy "__init__" "Voucher.__init__" kaI ["self", "marks"] d.QL d.QM
 b1_Voucher_init : Binds K d.QM ["self", "marks"] [.none]
 g_Off : mg "Off" = some (.ref d.c_Off)
 c_Off : ClsT K mg "Off" d.c_Off
 n_Off_amount : NoAttr K d.c_Off "amount"
 n_Off_marks : NoAttr K d.c_Off "marks"
 QT : MthT K d.c_Off "__init__" "Off.__init__" kbm ["self", "amount", "marks"] d.YL d.QN
 b1_Off_init : Binds K d.QN ["self", "amount", "marks"] [.none]
 Zh : mg "Share" = some (.ref d.qk)
 qk : ClsT K mg "Share" d.qk
 n_Share_share : NoAttr K d.qk "share"
 n_Share_by_line : NoAttr K d.qk "by_line"
 n_Share_marks : NoAttr K d.qk "marks"
 QU : MthT K d.qk "__init__" "Share.__init__" kaJ ["self", "share", "by_line", "marks"] d.YM d.qX
 b1_Share_init : Binds K d.qX ["self", "share", "by_line", "marks"] [.none]
 b2_Share_init : Binds K d.qX ["self", "share", "by_line", "marks"] [.bool false, .none]
 Zi : mg "Cheapest" = some (.ref d.qm)
 qm : ClsT K mg "Cheapest" d.qm
 n_Cheapest_many : NoAttr K d.qm "many"
 n_Cheapest_marks : NoAttr K d.qm "marks"
 QV : MthT K d.qm "__init__" "Cheapest.__init__" kaC ["self", "many", "marks"] d.YN d.QO
 b1_Cheapest_init : Binds K d.QO ["self", "many", "marks"] [.none]
 Zj : mg "Bundle" = some (.ref d.ql)
 ql : ClsT K mg "Bundle" d.ql
 n_Bundle_many : NoAttr K d.ql "many"
 n_Bundle_price : NoAttr K d.ql "price"
 n_Bundle_marks : NoAttr K d.ql "marks"
 QW : MthT K d.ql "__init__" "Bundle.__init__" kaS ["self", "many", "price", "marks"] d.YO d.QP
 b1_Bundle_init : Binds K d.QP ["self", "many", "price", "marks"] [.none]
 Zk : mg "Carriage" = some (.ref d.qo)
 qo : ClsT K mg "Carriage" d.qo
 n_Carriage_marks : NoAttr K d.qo "marks"
 QX : MthT K d.qo "__init__" "Carriage.__init__" kaD ["self", "marks"] d.YQ d.QQ
 b1_Carriage_init : Binds K d.QQ ["self", "marks"] [.none]
 qe : ClsT K mg "Line" d.qe
 n_Line_kind : NoAttr K d.qe "kind"
 n_Line_price : NoAttr K d.qe "price"
 n_Line_many : NoAttr K d.qe "many"
 n_Line_special : NoAttr K d.qe "special"
 QY : MthT K d.qe "__init__" "Line.__init__" kbb ["self", "kind", "price", "many", "special"] d.YR d.QR
 b1_Line_init : Binds K d.QR ["self", "kind", "price", "many", "special"] [.none]
 qi : ClsT K mg "Basket" d.qi
 n_Basket_lines : NoAttr K d.qi "lines"
 n_Basket_carriage : NoAttr K d.qi "carriage"
 n_Basket_member : NoAttr K d.qi "member"
 QZ : MthT K d.qi "__init__" "Basket.__init__" kaE ["self", "lines", "carriage", "member"] d.YS d.qY
 b1_Basket_init : Binds K d.qY ["self", "lines", "carriage", "member"] [.bool false]
 b2_Basket_init : Binds K d.qY ["self", "lines", "carriage", "member"] [.int 0 d.tok0_Basket_init, .bool false]
 qc : ClsT K mg "Standing" d.qc
 n_Standing_owners : NoAttr K d.qc "owners"
 n_Standing_prices : NoAttr K d.qc "prices"
 n_Standing_carriage : NoAttr K d.qc "carriage"
 n_Standing_marked : NoAttr K d.qc "marked"
 qR : MthT K d.qc "__init__" "Standing.__init__" kaX ["self", "basket"] d.YT d.YU
 Q0 : MthT K d.qc "whole" "Standing.whole" kaP ["self"] d.YV d.YW
 c_Way : ClsT K mg "Way" d.c_Way
 n_Way_till : NoAttr K d.c_Way "till"
 n_Way_basket : NoAttr K d.c_Way "basket"
 n_Way_hand : NoAttr K d.c_Way "hand"
 n_Way_used : NoAttr K d.c_Way "used"
 n_Way_standing : NoAttr K d.c_Way "standing"
 qN : MthT K d.c_Way "__init__" "Way.__init__" kbv ["self", "till", "basket", "hand"] d.YX d.YY
 qS : MthT K d.c_Way "word_for" "Way.word_for" ka4 ["self", "number"] d.YZ d.Y0
 qT : MthT K d.c_Way "behind" "Way.behind" kbi ["self", "number"] d.Y1 d.Y2
 Q1 : MthT K d.c_Way "is_let_by" "Way.is_let_by" kaW ["self"] d.Y3 d.Y4
 qf : ClsT K mg "Bill" d.qf
 n_Bill_order : NoAttr K d.qf "order"
 n_Bill_steps : NoAttr K d.qf "steps"
 n_Bill_prices : NoAttr K d.qf "prices"
 n_Bill_carriage : NoAttr K d.qf "carriage"
 n_Bill_total : NoAttr K d.qf "total"
 Q2 : MthT K d.qf "__init__" "Bill.__init__" kbq ["self", "order", "steps", "standing"] d.Y5 d.Y6
 qg : ClsT K mg "Till" d.qg
 n_Till_parents : NoAttr K d.qg "parents"
 n_Till_vouchers : NoAttr K d.qg "vouchers"
 n_Till_rules : NoAttr K d.qg "rules"
 n_Till_back : NoAttr K d.qg "back"
 Q3 : MthT K d.qg "__init__" "Till.__init__" kba ["self", "parents", "vouchers", "rules", "back"] d.Y7 d.QS
 b1_Till_init : Binds K d.QS ["self", "parents", "vouchers", "rules", "back"] [.str "again" d.tok0_Till_init]
 q_Voucher_init : BaseT K d.qy "__init__" d.QL
 Zl : F1 K (.ref d.c_Off) (.ref d.qo) = some false
 Zm : F1 K (.ref d.qk) (.ref d.qo) = some false
 Zn : F1 K (.ref d.qm) (.ref d.qo) = some false
 Zo : F1 K (.ref d.ql) (.ref d.qo) = some false
 Zp : F1 K (.ref d.qk) (.ref d.c_Off) = some false
 Zq : F1 K (.ref d.qm) (.ref d.c_Off) = some false
 Zr : F1 K (.ref d.ql) (.ref d.c_Off) = some false
 Zs : F1 K (.ref d.qo) (.ref d.c_Off) = some false
 Zt : F1 K (.ref d.c_Off) (.ref d.qk) = some false
 Zu : F1 K (.ref d.qm) (.ref d.qk) = some false
 Zv : F1 K (.ref d.ql) (.ref d.qk) = some false
 Zw : F1 K (.ref d.qo) (.ref d.qk) = some false
 Zx : F1 K (.ref d.c_Off) (.ref d.qm) = some false
 Zy : F1 K (.ref d.qk) (.ref d.qm) = some false
 Zz : F1 K (.ref d.ql) (.ref d.qm) = some false
 ZA : F1 K (.ref d.qo) (.ref d.qm) = some false
 ZC : F1 K (.ref d.c_Off) (.ref d.ql) = some false
 ZD : F1 K (.ref d.qk) (.ref d.ql) = some false
 ZE : F1 K (.ref d.qm) (.ref d.ql) = some false
 ZF : F1 K (.ref d.qo) (.ref d.ql) = some false
 code_falling_groups : d.QK.code = .ref d.cc_falling_groups
 ck_falling_groups : CodeK K d.cc_falling_groups d.tP_falling_groups
structure WB (K : FK) (mg : Str → Option Value) (d : D) (base : Heap) : Prop extends Wld K mg d where
 blt : BltM mg base
end Vs
namespace Vs
open PySem L2 War Kin Deal
noncomputable def LineAt (C : Addr) (H : Hp) (x : Addr) (r : Row) : Prop := ∃ (dx : Addr) (fs : List (Str × V)), H x = some (.ins C dx fs) ∧ fs.lookup ("kind" : Str) = some (.int r.kd) ∧ fs.lookup ("price" : Str) = some (.int r.pr) ∧ fs.lookup ("many" : Str) = some (.int r.mn) ∧ fs.lookup ("special" : Str) = some (oV r.ex)
noncomputable abbrev Lines (C : Addr) (H : Hp) (ls : List Addr) (rs : List Row) : Prop := P2 (LineAt C H) ls rs
noncomputable def BaskAt (C : Addr) (H : Hp) (b l : Addr) (cg : Int) (m : Bool) : Prop := ∃ (dx : Addr) (fs : List (Str × V)), H b = some (.ins C dx fs) ∧ fs.lookup ("lines" : Str) = some (.ref l) ∧ fs.lookup ("carriage" : Str) = some (.int cg) ∧ fs.lookup ("member" : Str) = some (.bl m)
noncomputable def StandAt (C : Addr) (H : Hp) (x o p mk : Addr) (cg : Int) : Prop := ∃ (dx : Addr) (fs : List (Str × V)), H x = some (.ins C dx fs) ∧ fs.lookup ("owners" : Str) = some (.ref o) ∧ fs.lookup ("prices" : Str) = some (.ref p) ∧ fs.lookup ("carriage" : Str) = some (.int cg) ∧ fs.lookup ("marked" : Str) = some (.ref mk) ∧ fs.lookup ("whole" : Str) = none
section
variable {C : Addr} {H H' : Hp}
theorem LineAt.same {x : Addr} {r : Row} (s : Same H H') : LineAt C H x r → LineAt C H' x r := fun ⟨dx, fs, h, q⟩ => ⟨dx, fs, s _ _ h, q⟩
theorem Lines.same {ls : List Addr} {rs : List Row} (s : Same H H') (h : Lines C H ls rs) : Lines C H' ls rs := h.mono fun _ _ q => q.same s
theorem BaskAt.same {b l : Addr} {cg : Int} {m : Bool} (s : Same H H') : BaskAt C H b l cg m → BaskAt C H' b l cg m := fun ⟨dx, fs, h, q⟩ => ⟨dx, fs, s _ _ h, q⟩
theorem StandAt.same {x o p mk : Addr} {cg : Int} (s : Same H H') : StandAt C H x o p mk cg → StandAt C H' x o p mk cg := fun ⟨dx, fs, h, q⟩ => ⟨dx, fs, s _ _ h, q⟩
end
section
variable {H : Hp} {hd : Addr} {xs : List V} {o : HO}
theorem BaskAt.set {C b l : Addr} {cg : Int} {m : Bool} (h : H hd = some (.lst xs)) : BaskAt C H b l cg m → BaskAt C (upd H hd o) b l cg m := fun ⟨dx, fs, e, q⟩ => ⟨dx, fs, by rw [kam (ne_of e h (by intro z; cases z))]; exact e, q⟩
theorem StandAt.set {C x a b c : Addr} {cg : Int} (h : H hd = some (.lst xs)) : StandAt C H x a b c cg → StandAt C (upd H hd o) x a b c cg := fun ⟨dx, fs, e, q⟩ => ⟨dx, fs, by rw [kam (ne_of e h (by intro z; cases z))]; exact e, q⟩
theorem LineAt.set {C x : Addr} {r : Row} (h : H hd = some (.lst xs)) : LineAt C H x r → LineAt C (upd H hd o) x r := fun ⟨dx, fs, e, q⟩ => ⟨dx, fs, by rw [kam (ne_of e h (by intro z; cases z))]; exact e, q⟩
theorem Lines.set {C : Addr} {ls : List Addr} {rs : List Row} (h : H hd = some (.lst xs)) (L : Lines C H ls rs) : Lines C (upd H hd o) ls rs := L.mono fun _ _ q => q.set h
end
structure Bask where
 rs : List Row
 cg : Int
 m : Bool
noncomputable def BaskIs (CL CB : Addr) (H : Hp) (b : Addr) (B : Bask) : Prop := ∃ (l : Addr) (ls : List Addr), BaskAt CB H b l B.cg B.m ∧ H l = some (.lst (ls.map V.ref)) ∧ Lines CL H ls B.rs
theorem BaskIs.same {CL CB : Addr} {H H' : Hp} {b : Addr} {B : Bask} (s : Same H H') : BaskIs CL CB H b B → BaskIs CL CB H' b B := fun ⟨l, ls, h1, h2, h3⟩ => ⟨l, ls, h1.same s, s _ _ h2, h3.same s⟩
noncomputable def iV (k : Nat) : V := .int (k : Int)
noncomputable def StndIs (CS : Addr) (H : Hp) (x : Addr) (S : Stnd) : Prop := ∃ o p mk : Addr, StandAt CS H x o p mk S.cg ∧ H o = some (.lst (S.ow.map iV)) ∧ H p = some (.lst (S.pr.map V.int)) ∧ H mk = some (.lst (S.mkd.map V.bl))
theorem StndIs.same {CS : Addr} {H H' : Hp} {x : Addr} {S : Stnd} (s : Same H H') : StndIs CS H x S → StndIs CS H' x S := fun ⟨o, p, mk, h1, h2, h3, h4⟩ => ⟨o, p, mk, h1.same s, s _ _ h2, s _ _ h3, s _ _ h4⟩
theorem kcl (ns : List Nat) : (ns.map iV).all flatV = true := by
 rw [Rg]
 intro x hx
 obtain ⟨n, _, rfl⟩ := F4.mp hx
 rfl
noncomputable def ownN (rs : List Row) : List Nat := (rs.zipIdx.map fun p => FO p.1.mn.toNat p.2).flatten
theorem keV (rs : List Row) : (own rs).map V.int = (ownN rs).map iV := by
 unfold own ownN
 generalize rs.zipIdx = l
 induction l with
 | nil => rfl
 | cons p l ih =>
  rw [F7, Cf, FX, ih, F7, Cf, FX]
  congr 1
  simp [iV]
theorem kj6 (rs : List Row) {l : Nat} (h : l ∈ ownN rs) : l < rs.length := by
 unfold ownN at h
 obtain ⟨xs, h1, h2⟩ := CZ.mp h
 obtain ⟨p, h3, rfl⟩ := F4.mp h1
 have e : l = p.2 := (List.mem_replicate.mp h2).2
 have q := List.mem_zipIdx h3
 omega
theorem kiG (rs : List Row) (h : ∀ r ∈ rs, r.Ok) : (ownN rs).length ≤ 60 * rs.length := by
 have e : (ownN rs).length = (own rs).length := by
  have := congrArg RA (keV rs)
  simpa using this.symm
 rw [e]
 exact khs rs h
noncomputable def pV : Option Nat → V
 | none => .non
 | some k => .int (k : Int)
theorem eq_int (a b : Nat) : decide (V.int (a : Int) = V.int (b : Int)) = decide (a = b) := by
 by_cases h : a = b
 ·subst h; simp
 ·have : ¬ (V.int (a : Int) = V.int (b : Int)) := by
   intro e
   injection e with e
   omega
  simp [h, this]
theorem kiN {c : Int} {ws : List Int} (h : ws.sum = 0) : (dl c ws).map V.int = FO ws.length (V.int 0) := by
 unfold dl
 rw [if_pos h]
 clear h
 induction ws with
 | nil => rfl
 | cons w ws ih => simpa [C4] using ih
theorem khA {c : Int} {ws : List Int} (h : ¬ ws.sum = 0) : dl c ws = (FU ws.length).map (part c ws) := by
 unfold dl
 rw [if_neg h]
noncomputable def kjS (K : FK) : Sp := fun vs H Q _ => ∃ (c : Int) (a : Addr) (ws : List Int), vs = [.int c, .ref a] ∧ SqL K H a (ws.map V.int) ∧ Nn ws ∧ ws.sum < 2 ^ 100 ∧ 0 ≤ c ∧ c < 2 ^ 64 ∧ ws.length ≤ 1000 ∧
 ∀ p, H p = none → Q (.ref p) (upd H p (.lst ((dl c ws).map V.int)))
noncomputable def kjJ (K : FK) : Sp := fun vs H Q _ => ∃ (a : Addr) (ps : List (Option Nat)) (one other : Nat), vs = [.ref a, .int one, .int other] ∧ SqL K H a (ps.map pV) ∧ Good ps ∧ one < ps.length ∧ Q (.bl (decide (other ∈ up ps one))) H
noncomputable def kg9 (C : Addr) : Sp := fun vs H Q _ => ∃ (x dx : Addr) (r : Row), vs = [.ref x, .int r.kd, .int r.pr, .int r.mn, oV r.ex] ∧ H x = some (.ins C dx []) ∧ ∀ H', But x H H' → LineAt C H' x r → Q .non H'
noncomputable def khe (K : FK) (C : Addr) : Sp := fun vs H Q _ => ∃ (x dx l : Addr) (cg : Int) (m : Bool) (xs : List V), vs = [.ref x, .ref l, .int cg, .bl m] ∧ H x = some (.ins C dx []) ∧ SqL K H l xs ∧
 ∀ (H' : Hp) (l' : Addr), But x H H' → H l' = none → H' l' = some (.lst xs) → BaskAt C H' x l' cg m → Q .non H'
noncomputable def kjM (CL : Addr) : Sp := fun vs H Q _ => ∃ (x : Addr) (m : Bool) (r : Row), vs = [.ref x, .bl m] ∧ LineAt CL H x r ∧ Q (.int (prc m r)) H
noncomputable def kdL (CL CB CS : Addr) : Sp := fun vs H Q _ => ∃ (x dx b l : Addr) (cg : Int) (m : Bool) (ls : List Addr) (rs : List Row), vs = [.ref x, .ref b] ∧ H x = some (.ins CS dx []) ∧ BaskAt CB H b l cg m ∧ H l = some (.lst (ls.map V.ref)) ∧ Lines CL H ls rs ∧ rs.length ≤ 12 ∧ (∀ r ∈ rs, r.Ok) ∧
 ∀ (H' : Hp) (o p mk : Addr), But x H H' → H o = none → H p = none → H mk = none → StandAt CS H' x o p mk cg → H' o = some (.lst ((own rs).map V.int)) → H' p = some (.lst ((prs m rs).map V.int)) → H' mk = some (.lst (FO rs.length (.bl false))) → (∃ dx fs, H' x = some (.ins CS dx fs) ∧ fs.length ≤ 10) → Q .non H'
noncomputable def kjH (CS : Addr) : Sp := fun vs H Q _ => ∃ (x o p mk : Addr) (cg : Int) (ns : List Int), vs = [.ref x] ∧ StandAt CS H x o p mk cg ∧ H p = some (.lst (ns.map V.int)) ∧ Q (.int (ns.sum + cg)) H
structure S3 (H0 : Hp) (x C dx : Addr) (fs : List (Str × V)) (o p mk : Addr) (a b c : List V) (H : Hp) : Prop where
 bt : But x H0 H
 ob : H x = some (.ins C dx fs)
 ho : H o = some (.lst a)
 hp : H p = some (.lst b)
 hm : H mk = some (.lst c)
structure Ds (H0 : Hp) (x o p mk : Addr) : Prop where
 fo : H0 o = none
 fp : H0 p = none
 fm : H0 mk = none
 ox : o ≠ x
 px : p ≠ x
 mx : mk ≠ x
 op : o ≠ p
 om : o ≠ mk
 pm : p ≠ mk
section
variable {H0 H H' : Hp} {x C dx o p mk : Addr} {fs : List (Str × V)} {a b c d : List V}
theorem S3.same (h : S3 H0 x C dx fs o p mk a b c H) (s : Same H H') : S3 H0 x C dx fs o p mk a b c H' := ⟨h.bt.same s, s _ _ h.ob, s _ _ h.ho, s _ _ h.hp, s _ _ h.hm⟩
theorem S3.setO (h : S3 H0 x C dx fs o p mk a b c H) (D : Ds H0 x o p mk) : S3 H0 x C dx fs o p mk d b c (upd H o (.lst d)) :=
 ⟨fun y u n e => kb8 (h.bt y u n e) fun u' e' => ev_eq (by rw [kam (kal e D.fo)]; exact e') fun t => kdu t (kal e D.fo) (nx h.ho), by rw [kam D.ox.symm]; exact h.ob, kad, by rw [kam D.op.symm]; exact h.hp, by rw [kam D.om.symm]; exact h.hm⟩
theorem S3.setP (h : S3 H0 x C dx fs o p mk a b c H) (D : Ds H0 x o p mk) : S3 H0 x C dx fs o p mk a d c (upd H p (.lst d)) :=
 ⟨fun y u n e => kb8 (h.bt y u n e) fun u' e' => ev_eq (by rw [kam (kal e D.fp)]; exact e') fun t => kdu t (kal e D.fp) (nx h.hp), by rw [kam D.px.symm]; exact h.ob, by rw [kam D.op]; exact h.ho, kad, by rw [kam D.pm.symm]; exact h.hm⟩
theorem S3.setM (h : S3 H0 x C dx fs o p mk a b c H) (D : Ds H0 x o p mk) : S3 H0 x C dx fs o p mk a b d (upd H mk (.lst d)) :=
 ⟨fun y u n e => kb8 (h.bt y u n e) fun u' e' => ev_eq (by rw [kam (kal e D.fm)]; exact e') fun t => kdu t (kal e D.fm) (nx h.hm), by rw [kam D.mx.symm]; exact h.ob, by rw [kam D.om]; exact h.ho, by rw [kam D.pm]; exact h.hp, kad⟩
end
end Vs
namespace Vs
open PySem L2 War Kin Deal
noncomputable def MksIs (C : Addr) (H : Hp) (x : Addr) (M : Mks) : Prop := ∃ (dx : Addr) (fs : List (Str × V)), H x = some (.ins C dx fs) ∧ fs.lookup ("kind" : Str) = some (pV M.kind) ∧ fs.lookup ("needs" : Str) = some (.int M.needs) ∧ fs.lookup ("most" : Str) = some (oV M.most) ∧ fs.lookup ("member" : Str) = some (.bl M.member) ∧ fs.lookup ("once" : Str) = some (.bl M.once) ∧ fs.lookup ("lone" : Str) = some (.bl M.lone)
theorem MksIs.same {C : Addr} {H H' : Hp} {x : Addr} {M : Mks} (s : Same H H') : MksIs C H x M → MksIs C H' x M := fun ⟨dx, fs, h, q⟩ => ⟨dx, fs, s _ _ h, q⟩
noncomputable def SrtIs (fs : List (Str × V)) : Srt → Prop
 | .off a => fs.lookup ("amount" : Str) = some (.int a)
 | .share s b => fs.lookup ("share" : Str) = some (.int s) ∧ fs.lookup ("by_line" : Str) = some (.bl b)
 | .cheap n => fs.lookup ("many" : Str) = some (.int n)
 | .bund n p => fs.lookup ("many" : Str) = some (.int n) ∧ fs.lookup ("price" : Str) = some (.int p)
 | .carr => True
noncomputable def clsOf (d : D) : Srt → Addr
 | .off _ => d.c_Off
 | .share _ _ => d.qk
 | .cheap _ => d.qm
 | .bund _ _ => d.ql
 | .carr => d.qo
noncomputable def here : Srt → Bool
 | .off _ => true
 | .share _ _ => true
 | .cheap _ => true
 | .bund _ _ => true
 | .carr => true
noncomputable def kkt : Srt → Bool
 | .off _ => true
 | .share _ _ => false
 | .cheap _ => false
 | .bund _ _ => false
 | .carr => false
noncomputable def kie : Srt → Bool
 | .off _ => false
 | .share _ _ => true
 | .cheap _ => false
 | .bund _ _ => false
 | .carr => false
noncomputable def kfM : Srt → Bool
 | .off _ => false
 | .share _ _ => false
 | .cheap _ => true
 | .bund _ _ => false
 | .carr => false
noncomputable def kgW : Srt → Bool
 | .off _ => false
 | .share _ _ => false
 | .cheap _ => false
 | .bund _ _ => true
 | .carr => false
noncomputable def kbZ : Srt → Bool
 | .off _ => false
 | .share _ _ => false
 | .cheap _ => false
 | .bund _ _ => false
 | .carr => true
noncomputable def Tbs (d : D) (H : Hp) : Prop := TbAt d.tP_falling_groups H
theorem Tbs.same {d : D} {H H' : Hp} (s : Same H H') (h : Tbs d H) : Tbs d H' := s.tb h
noncomputable def VchIs (d : D) (H : Hp) (v : Addr) (V : Vch) : Prop := ∃ (mA dx : Addr) (fs : List (Str × L2.V)), H v = some (.ins (clsOf d V.so) dx fs) ∧ fs.lookup ("marks" : Str) = some (.ref mA) ∧ SrtIs fs V.so ∧ MksIs d.qh H mA V.ms ∧ here V.so = true ∧ Tbs d H
theorem VchIs.same {d : D} {H H' : Hp} {v : Addr} {V : Vch} (s : Same H H') : VchIs d H v V → VchIs d H' v V := fun ⟨mA, dx, fs, h1, h2, h3, h4, h5, h6⟩ => ⟨mA, dx, fs, s _ _ h1, h2, h3, h4.same s, h5, h6.same s⟩
noncomputable def kds (B : Bask) : List Nat := B.rs.map fun r => r.kd.toNat
structure Wf (ps : List (Option Nat)) (B : Bask) (S : Stnd) : Prop where
 good : Good ps
 pl : ps.length ≤ 20
 kd : ∀ r ∈ B.rs, 0 ≤ r.kd ∧ r.kd < (ps.length : Int)
 ok : ∀ r ∈ B.rs, r.Ok
 nl : B.rs.length ≤ 12
 bc : 0 ≤ B.cg ∧ B.cg ≤ 1000000000000
 ow : S.ow = ownN B.rs
 lp : S.pr.length = S.ow.length
 lm : S.mkd.length = B.rs.length
 pr : ∀ z ∈ S.pr, 0 ≤ z ∧ z ≤ 1000000000000
 cg : 0 ≤ S.cg ∧ S.cg ≤ 1000000000000
 n64 : S.ow.length < 64
theorem Wf.np {ps : List (Option Nat)} {B : Bask} {S : Stnd} (W : Wf ps B S) : S.ow.length ≤ 720 := by
 have := kiG B.rs W.ok
 have := W.nl
 rw [W.ow]
 omega
theorem Wf.line {ps : List (Option Nat)} {B : Bask} {S : Stnd} (W : Wf ps B S) {i l : Nat} (h : S.ow[i]? = some l) : l < B.rs.length := by
 have hm := FV h
 rw [W.ow] at hm
 exact kj6 _ hm
structure MksOk (ps : List (Option Nat)) (M : Mks) : Prop where
 kind : ∀ k, M.kind = some k → k < ps.length
 needs : 0 ≤ M.needs ∧ M.needs ≤ 1000000000000
 most : ∀ m, M.most = some m → 0 ≤ m ∧ m ≤ 1000000000000
noncomputable def mks0 : Mks := ⟨none, 0, none, false, false, false⟩
noncomputable def keM : Srt → List V
 | .off a => [.int a]
 | .share s b => [.int s, .bl b]
 | .cheap n => [.int n]
 | .bund n p => [.int n, .int p]
 | .carr => []
noncomputable def Mrk (CM : Addr) (H : Hp) (mv : V) (H' : Hp) (mA : Addr) : Prop := mv = .ref mA ∨ (mv = .non ∧ H mA = none ∧ MksIs CM H' mA mks0)
theorem MksIs.but {C x mA : Addr} {H H' : Hp} {M : Mks} (n : mA ≠ x) (b : But x H H') : MksIs C H mA M → MksIs C H' mA M := fun ⟨dx, fs, h, q⟩ => ⟨dx, fs, b _ _ n h, q⟩
theorem Mrk.but {CM x mA : Addr} {H H1 H2 : Hp} {mv : V} {o : HO} (hx : H x = some o) (b : But x H1 H2) : Mrk CM H mv H1 mA → Mrk CM H mv H2 mA
 | .inl e => .inl e
 | .inr ⟨e, f, h⟩ => .inr ⟨e, f, h.but (kal hx f).symm b⟩
noncomputable def kgb (C : Addr) : Sp := fun vs H Q _ => ∃ (x dx : Addr) (M : Mks), vs = [.ref x, pV M.kind, .int M.needs, oV M.most, .bl M.member, .bl M.once, .bl M.lone] ∧ H x = some (.ins C dx []) ∧ ∀ H', But x H H' → MksIs C H' x M → Q .non H'
noncomputable def kgE (K : FK) (CM : Addr) : Sp := fun vs H Q _ => ∃ (x C dx : Addr) (fs : List (Str × V)) (mv : V), vs = [.ref x, mv] ∧ H x = some (.ins C dx fs) ∧ Cls K C ∧ NoAttr K C "marks" ∧ fs.length ≤ 5 ∧ (mv = .non ∨ ∃ mA, mv = .ref mA) ∧
 ∀ (H' : Hp) (mA : Addr), But x H H' → Mrk CM H mv H' mA → H' x = some (.ins C dx (putF "marks" (.ref mA) fs)) → Q .non H'
noncomputable def kdv (C CM : Addr) (is : Srt → Prop) : Sp := fun vs H Q _ => ∃ (x dx : Addr) (so : Srt) (mv : V), is so ∧ vs = .ref x :: (keM so ++ [mv]) ∧ H x = some (.ins C dx []) ∧ (mv = .non ∨ ∃ mA, mv = .ref mA) ∧
 ∀ (H' : Hp) (mA : Addr) (fs : List (Str × V)), But x H H' → Mrk CM H mv H' mA → H' x = some (.ins C dx fs) → fs.lookup ("marks" : Str) = some (.ref mA) → SrtIs fs so → Q .non H'
theorem kgs {C : Addr} {H : Hp} {M : Mks} {R : Addr → Hp → Prop} {E : XK} (k : ∀ (H' : Hp) (x : Addr), Same H H' → H x = none → MksIs C H' x M → R x H') :
  ∀ x dx, H x = none → H dx = none → dx ≠ x → kgb C [.ref x, pV M.kind, .int M.needs, oV M.most, .bl M.member, .bl M.once, .bl M.lone] (upd (upd H dx (.own x)) x (.ins C dx [])) (fun v H2 => v = .non ∧ R x H2) E :=
 fun x dx nx nd _ => ⟨x, dx, M, rfl, kad, fun H' b l => ⟨rfl, k H' x (kbH nx nd b) nx l⟩⟩
theorem kkS {d : D} {H : Hp} {so : Srt} {mA : Addr} {M : Mks} {is : Srt → Prop} {R : Addr → Hp → Prop} {E : XK} (hi : is so) (hh : here so = true) (hM : MksIs d.qh H mA M) (k : ∀ (H' : Hp) (x : Addr), Same H H' → H x = none → VchIs d H' x ⟨so, M⟩ → R x H') (htb : Tbs d H := by assumption) :
  ∀ x dx, H x = none → H dx = none → dx ≠ x → kdv (clsOf d so) d.qh is (.ref x :: (keM so ++ [.ref mA])) (upd (upd H dx (.own x)) x (.ins (clsOf d so) dx [])) (fun v H2 => v = .non ∧ R x H2) E :=
 fun x dx nx nd _ => ⟨x, dx, so, .ref mA, hi, rfl, kad, .inr ⟨mA, rfl⟩, fun H' mA' fs b hm h1 h2 h3 => by
  have e : mA' = mA := by
   rcases hm with e | ⟨e, _⟩
   ·injection e with e
    exact e.symm
   ·cases e
  subst e
  exact ⟨rfl, k H' x (kbH nx nd b) nx ⟨mA', dx, fs, h1, h2, h3, hM.same (kbH nx nd b), hh, htb.same (kbH nx nd b)⟩⟩⟩
end Vs
namespace Vs
open PySem L2 War Kin Deal
theorem kke {CL : Addr} {H : Hp} {r : Row} {R : Addr → Hp → Prop} {E : XK} (k : ∀ (H' : Hp) (x : Addr), Same H H' → H x = none → LineAt CL H' x r → R x H') :
  ∀ x dx, H x = none → H dx = none → dx ≠ x → kg9 CL [.ref x, .int r.kd, .int r.pr, .int r.mn, oV r.ex] (upd (upd H dx (.own x)) x (.ins CL dx [])) (fun v H2 => v = .non ∧ R x H2) E :=
 fun x dx nx nd _ => ⟨x, dx, r, rfl, kad, fun H' b l => ⟨rfl, k H' x (kbH nx nd b) nx l⟩⟩
theorem kkg {K : FK} {CB : Addr} {H : Hp} {l : Addr} {cg : Int} {m : Bool} {xs : List V} {R : Addr → Hp → Prop} {E : XK} (hl : SqL K H l xs) (k : ∀ (H' : Hp) (x l' : Addr), Same H H' → H x = none → H l' = none → H' l' = some (.lst xs) → BaskAt CB H' x l' cg m → R x H') :
  ∀ x dx, H x = none → H dx = none → dx ≠ x → khe K CB [.ref x, .ref l, .int cg, .bl m] (upd (upd H dx (.own x)) x (.ins CB dx [])) (fun v H2 => v = .non ∧ R x H2) E :=
 fun x dx nx nd _ => ⟨x, dx, l, cg, m, xs, rfl, kad, (kbE nx nd).seq hl, fun H' l' b n h1 h2 => ⟨rfl, k H' x l' (kbH nx nd b) nx (kc5 n) h1 h2⟩⟩
theorem kiM {CL CB CS : Addr} {H : Hp} {b l : Addr} {cg : Int} {m : Bool} {ls : List Addr} {rs : List Row} {R : Addr → Hp → Prop} {E : XK} (hb : BaskAt CB H b l cg m) (hl : H l = some (.lst (ls.map V.ref))) (hL : Lines CL H ls rs) (hn : rs.length ≤ 12) (hok : ∀ r ∈ rs, r.Ok)
  (k : ∀ (H' : Hp) (x o p mk : Addr), Same H H' → H x = none → H o = none → H p = none → H mk = none → StandAt CS H' x o p mk cg → H' o = some (.lst ((own rs).map V.int)) → H' p = some (.lst ((prs m rs).map V.int)) → H' mk = some (.lst (FO rs.length (.bl false))) → R x H') :
  ∀ x dx, H x = none → H dx = none → dx ≠ x → kdL CL CB CS [.ref x, .ref b] (upd (upd H dx (.own x)) x (.ins CS dx [])) (fun v H2 => v = .non ∧ R x H2) E :=
 fun x dx nx nd _ => ⟨x, dx, b, l, cg, m, ls, rs, rfl, kad, hb.same (kbE nx nd), kfx nx nd hl, hL.same (kbE nx nd), hn, hok, fun H' o p mk bt n1 n2 n3 S h1 h2 h3 _ => ⟨rfl, k H' x o p mk (kbH nx nd bt) nx (kc5 n1) (kc5 n2) (kc5 n3) S h1 h2 h3⟩⟩
structure VchOk (ps : List (Option Nat)) (V : Vch) : Prop where
 so : SrtOk V.so
 ms : MksOk ps V.ms
noncomputable def stnd0 (B : Bask) : Stnd := ⟨ownN B.rs, prs B.m B.rs, B.cg, FO B.rs.length false⟩
theorem kkd {CL CB CS : Addr} {H : Hp} {b : Addr} {B : Bask} {R : Addr → Hp → Prop} {E : XK} (hb : BaskIs CL CB H b B) (hn : B.rs.length ≤ 12) (hok : ∀ r ∈ B.rs, r.Ok) (k : ∀ (H' : Hp) (x : Addr), Same H H' → H x = none → StndIs CS H' x (stnd0 B) → R x H') :
  ∀ x dx, H x = none → H dx = none → dx ≠ x → kdL CL CB CS [.ref x, .ref b] (upd (upd H dx (.own x)) x (.ins CS dx [])) (fun v H2 => v = .non ∧ R x H2) E := by
 obtain ⟨l, ls, h1, h2, h3⟩ := hb
 refine kiM h1 h2 h3 hn hok fun H' x o p mk s f1 _ _ _ hS ho hp hm => k H' x s f1 ⟨o, p, mk, hS, ?_, hp, ?_⟩
 ·rw [ho, keV]
  rfl
 ·rw [hm]
  show _ = some (HO.lst ((FO B.rs.length false).map V.bl))
  rw [List.map_replicate]
theorem kjh {m : Bool} {r : Row} (h : r.Ok) : 0 ≤ prc m r ∧ prc m r ≤ 1000000000000 := by
 unfold prc
 split
 ·cases e : r.ex with
  | none => exact ⟨h.pr0, h.pr1⟩
  | some z => exact h.ex0 z e
 ·exact ⟨h.pr0, h.pr1⟩
theorem kgi (m : Bool) : ∀ (rs : List Row) (k : Nat), (rs.map fun r => FO r.mn.toNat (prc m r)).flatten.length = ((rs.zipIdx k).map fun p => FO p.1.mn.toNat (p.2 : Int)).flatten.length
 | [], _ => by simp
 | r :: rs, k => by
  rw [Sh, F7, Cf, Ca, CI, F7, Cf, Ca, CI, kgi m rs (k + 1)]
theorem kj4 (m : Bool) (rs : List Row) : (prs m rs).length = (ownN rs).length := by
 have e : (ownN rs).length = (own rs).length := by
  have := congrArg RA (keV rs)
  simpa using this.symm
 rw [e]
 exact kgi m rs 0
theorem Wf.start {ps : List (Option Nat)} {B : Bask} (g : Good ps) (pl : ps.length ≤ 20) (kd : ∀ r ∈ B.rs, 0 ≤ r.kd ∧ r.kd < (ps.length : Int)) (ok : ∀ r ∈ B.rs, r.Ok) (nl : B.rs.length ≤ 12) (bc : 0 ≤ B.cg ∧ B.cg ≤ 1000000000000) (n64 : (ownN B.rs).length < 64) : Wf ps B (stnd0 B) := by
 refine ⟨g, pl, kd, ok, nl, bc, rfl, kj4 _ _, by simp [stnd0], fun z hz => ?_, bc, n64⟩
 obtain ⟨xs, h1, h2⟩ := CZ.mp hz
 obtain ⟨r, hr, rfl⟩ := F4.mp h1
 rw [(List.mem_replicate.mp h2).2]
 exact kjh (ok r hr)
theorem Wf.nn {ps : List (Option Nat)} {B : Bask} {S : Stnd} (W : Wf ps B S) : Nn S.pr := fun z hz => (W.pr z hz).1
theorem Wf.after {ps : List (Option Nat)} {B : Bask} {S : Stnd} {V : Vch} (W : Wf ps B S) (O : VchOk ps V) : Wf ps B (aftM V ps (kds B) S) := by
 have h := kjx (V := V) (ps := ps) (kk := kds B) W.nn W.cg.1 O.so fun m e => (O.ms.most m e).1
 refine ⟨W.good, W.pl, W.kd, W.ok, W.nl, W.bc, W.ow, h.1.1.trans W.lp, by rw [← W.lm]; simp [aftM], fun z hz => ?_, ⟨h.2.1, Int.le_trans h.2.2 W.cg.2⟩, W.n64⟩
 obtain ⟨j, e1⟩ := Ra.mp hz
 have hj : j < S.pr.length := by
  rw [← h.1.1]
  exact (FZ.mp e1).1
 have e2 : S.pr[j]? = some S.pr[j] := by simp [hj]
 have b := h.1.2 j z _ e1 e2
 have c := W.pr _ (FV e2)
 exact ⟨b.1, Int.le_trans b.2 c.2⟩
noncomputable def kjV (K : FK) (d : D) : Sp := fun vs H Q _ => ∃ (v a b x : Addr) (V : Vch) (ps : List (Option Nat)) (B : Bask) (S : Stnd), vs = [.ref v, .ref a, .ref b, .ref x] ∧ VchIs d H v V ∧ SqL K H a (ps.map pV) ∧ BaskIs d.qe d.qi H b B ∧ StndIs d.qc H x S ∧ Wf ps B S ∧ VchOk ps V ∧
 ∀ (H' : Hp) (p : Addr), Same H H' → H p = none → H' p = some (.lst ((abt ps (kds B) V.ms.kind V.ms.lone S).map iV)) → Q (.ref p) H'
noncomputable def kkE (K : FK) (d : D) : Sp := fun vs H Q _ => ∃ (v a b x : Addr) (V : Vch) (ps : List (Option Nat)) (B : Bask) (S : Stnd), vs = [.ref v, .ref a, .ref b, .ref x] ∧ VchIs d H v V ∧ SqL K H a (ps.map pV) ∧ BaskIs d.qe d.qi H b B ∧ StndIs d.qc H x S ∧ Wf ps B S ∧ VchOk ps V ∧
 ∀ (H' : Hp) (t p : Addr), Same H H' → H t = none → H p = none → H' t = some (.tup [.ref p, .int (cutM V ps (kds B) S).2]) → H' p = some (.lst ((cutM V ps (kds B) S).1.map L2.V.int)) → Q (.ref t) H'
noncomputable def kjU (K : FK) (d : D) : Sp := fun vs H Q _ => ∃ (v a b x : Addr) (V : Vch) (ps : List (Option Nat)) (B : Bask) (S : Stnd), vs = [.ref v, .ref a, .ref b, .ref x] ∧ VchIs d H v V ∧ SqL K H a (ps.map pV) ∧ BaskIs d.qe d.qi H b B ∧ StndIs d.qc H x S ∧ Wf ps B S ∧ VchOk ps V ∧
 ∀ (H' : Hp) (x' : Addr), Same H H' → H x' = none → StndIs d.qc H' x' (aftM V ps (kds B) S) → Q (.ref x') H'
theorem cl_of {K : FK} {mg : Str → Option Value} {d : D} {base : Heap} (W : WB K mg d base) : ∀ {so : Srt}, here so = true → Cls K (clsOf d so)
 | .off _, h => W.c_Off.cl
 | .share _ _, h => W.qk.cl
 | .cheap _, h => W.qm.cl
 | .bund _ _, h => W.ql.cl
 | .carr, h => W.qo.cl
theorem na_of {K : FK} {mg : Str → Option Value} {d : D} {base : Heap} (W : WB K mg d base) : ∀ {so : Srt}, here so = true → NoAttr K (clsOf d so) "marks"
 | .off _, h => W.n_Off_marks
 | .share _ _, h => W.n_Share_marks
 | .cheap _, h => W.n_Cheapest_marks
 | .bund _ _, h => W.n_Bundle_marks
 | .carr, h => W.n_Carriage_marks
theorem kjp {K : FK} {mg : Str → Option Value} {d : D} {base : Heap} (W : WB K mg d base) : ∀ {so : Srt}, here so = true → Isi K (clsOf d so)
 | .off _, h => W.c_Off.isi
 | .share _ _, h => W.qk.isi
 | .cheap _, h => W.qm.isi
 | .bund _ _, h => W.ql.isi
 | .carr, h => W.qo.isi
theorem kfz {K : FK} {mg : Str → Option Value} {d : D} {base : Heap} (W : WB K mg d base) : ∀ {so : Srt}, here so = true → F1 K (.ref (clsOf d so)) (.ref d.qo) = some (kbZ so)
 | .off _, h => W.Zl
 | .share _ _, h => W.Zm
 | .cheap _, h => W.Zn
 | .bund _ _, h => W.Zo
 | .carr, h => kc7 _ _
theorem kkh {K : FK} {mg : Str → Option Value} {d : D} {base : Heap} (W : WB K mg d base) : ∀ {so : Srt}, here so = true → F1 K (.ref (clsOf d so)) (.ref d.c_Off) = some (kkt so)
 | .off _, h => kc7 _ _
 | .share _ _, h => W.Zp
 | .cheap _, h => W.Zq
 | .bund _ _, h => W.Zr
 | .carr, h => W.Zs
theorem kc8 {K : FK} {mg : Str → Option Value} {d : D} {base : Heap} (W : WB K mg d base) : ∀ {so : Srt}, here so = true → F1 K (.ref (clsOf d so)) (.ref d.qk) = some (kie so)
 | .off _, h => W.Zt
 | .share _ _, h => kc7 _ _
 | .cheap _, h => W.Zu
 | .bund _ _, h => W.Zv
 | .carr, h => W.Zw
theorem kcC {K : FK} {mg : Str → Option Value} {d : D} {base : Heap} (W : WB K mg d base) : ∀ {so : Srt}, here so = true → F1 K (.ref (clsOf d so)) (.ref d.qm) = some (kfM so)
 | .off _, h => W.Zx
 | .share _ _, h => W.Zy
 | .cheap _, h => kc7 _ _
 | .bund _ _, h => W.Zz
 | .carr, h => W.ZA
theorem keC {K : FK} {mg : Str → Option Value} {d : D} {base : Heap} (W : WB K mg d base) : ∀ {so : Srt}, here so = true → F1 K (.ref (clsOf d so)) (.ref d.ql) = some (kgW so)
 | .off _, h => W.ZC
 | .share _ _, h => W.ZD
 | .cheap _, h => W.ZE
 | .bund _ _, h => kc7 _ _
 | .carr, h => W.ZF
theorem ke7 (bs : List Int) : (bs.map V.int).all flatV = true := by
 rw [Rg]
 intro x hx
 obtain ⟨n, _, rfl⟩ := F4.mp hx
 rfl
theorem pickI {zs : List Int} {m : Int} (h0 : 0 ≤ m) (h1 : m < (zs.length : Int)) : ∃ z, atI (zs.map V.int) m = some (.int z) ∧ z ∈ zs := by
 obtain ⟨j, rfl⟩ := Int.eq_ofNat_of_zero_le h0
 obtain ⟨z, ez⟩ := at_of (xs := zs) (i := j) (by omega)
 exact ⟨z, kbN (by rw [F0, ez]; rfl), FV ez⟩
theorem kdd {b : Int} : ∀ {q : List Int}, (∀ z ∈ q, z ≤ b) → q.sum ≤ b * q.length
 | [], _ => by simp
 | z :: q, h => by
  have h1 := h z Cd
  have h2 := kdd (q := q) fun x hx => h x (F9 _ hx)
  rw [Sq, Cu]
  have e : b * ((q.length + 1 : Nat) : Int) = b * q.length + b := by rw [Int.natCast_add, Int.mul_add]; simp
  omega
theorem khj {ps : List (Option Nat)} {B : Bask} {S : Stnd} (wf : Wf ps B S) {ab : List Nat} (hl : ab.length ≤ 720) (hb : ∀ i ∈ ab, i < S.pr.length) : (qs S.pr ab).sum ≤ 720000000000000 := by
 have h := kdd (b := 1000000000000) (q := qs S.pr ab) fun z hz => by
  obtain ⟨i, hi, rfl⟩ := F4.mp hz
  obtain ⟨w, ew⟩ := at_of (hb i hi)
  rw [F6, ew]
  exact (wf.pr w (FV ew)).2
 rw [kcg] at h
 omega
theorem kkq (xs : List V) (i k : Nat) : cutV xs (some (i : Int)) (some ((i + k : Nat) : Int)) = (xs.drop i).take k := by
 unfold cutV
 rw [HT.sIx_nat, HT.sIx_nat]
 by_cases h : i ≤ xs.length
 ·rw [Ro h, Sy, RB]
  omega
 ·rw [SF (by omega), SF (by omega)]
  simp
theorem kkb {d : D} {H : Hp} {so : Srt} {is : Srt → Prop} {R : Addr → Hp → Prop} {E : XK} (hi : is so) (hh : here so = true) (k : ∀ (H' : Hp) (x : Addr), Same H H' → H x = none → VchIs d H' x ⟨so, mks0⟩ → R x H') (htb : Tbs d H := by assumption) :
  ∀ x dx, H x = none → H dx = none → dx ≠ x → kdv (clsOf d so) d.qh is (.ref x :: (keM so ++ [.non])) (upd (upd H dx (.own x)) x (.ins (clsOf d so) dx [])) (fun v H2 => v = .non ∧ R x H2) E :=
 fun x dx nx nd _ => ⟨x, dx, so, .non, hi, rfl, kad, .inl rfl, fun H' mA' fs b hm h1 h2 h3 => by
  rcases hm with e | ⟨_, _, hM⟩
  ·cases e
  ·exact ⟨rfl, k H' x (kbH nx nd b) nx ⟨mA', dx, fs, h1, h2, h3, hM, hh, htb.same (kbH nx nd b)⟩⟩⟩
theorem kic {α : Type} {xs : List α} {v : α} (h : xs[xs.length - 1]? = some v) (h0 : 0 < xs.length) : atI xs (-1) = some v := by
 unfold atI ixN
 rw [if_neg (by omega), if_pos (by omega)]
 show xs[(-1 + (xs.length : Int)).toNat]? = some v
 rw [show (-1 + (xs.length : Int)).toNat = xs.length - 1 by omega]
 exact h
theorem kgc {H0 H1 H2 : Hp} {x : Addr} (f : H0 x = none) (s : Same H0 H1) (b : But x H1 H2) : Same H0 H2 := fun y u e => kb8 (s y u e) fun u' e' => b y u' (kal e f) e'
noncomputable def hindM (V : Vch) (ps : List (Option Nat)) (B : Bask) (S : Stnd) : L2.V :=
 if (V.ms.member && !B.m) = true then .str "member" else if (abt ps (kds B) V.ms.kind V.ms.lone S).length = 0 then .str "nothing" else if (qs S.pr (abt ps (kds B) V.ms.kind V.ms.lone S)).sum < V.ms.needs then .str "needs" else .non
noncomputable def kkB (K : FK) (d : D) : Sp := fun vs H Q _ => ∃ (v a b x : Addr) (V : Vch) (ps : List (Option Nat)) (B : Bask) (S : Stnd), vs = [.ref v, .ref a, .ref b, .ref x] ∧ VchIs d H v V ∧ SqL K H a (ps.map pV) ∧ BaskIs d.qe d.qi H b B ∧ StndIs d.qc H x S ∧ Wf ps B S ∧ VchOk ps V ∧
 ∀ (H' : Hp), Same H H' → Q (hindM V ps B S) H'
noncomputable def atM (m : Option Int) (n : Int) : Int := match m with
 | none => n
 | some m => min m n
theorem none_of {H H' : Hp} (s : Same H H') {p : Addr} (h : H' p = none) : H p = none := s.free h
theorem kia {x : Addr} {H H' : Hp} (b : But x H H') (n : H x = none) : Same H H' := fun y u e => b y u (kal e n) e
theorem khz {CL CB CS : Addr} {H : Hp} {b l : Addr} {cg : Int} {m : Bool} {ls : List Addr} {rs : List Row} {R : Addr → Hp → Prop} {E : XK} (hb : BaskAt CB H b l cg m) (hl : H l = some (.lst (ls.map V.ref))) (hL : Lines CL H ls rs) (hn : rs.length ≤ 12) (hok : ∀ r ∈ rs, r.Ok)
  (k : ∀ (H' : Hp) (x : Addr), Same H H' → H x = none → ∀ (dx : Addr) (fs : List (Str × V)), H' x = some (.ins CS dx fs) → fs.length ≤ 10 → fs.lookup ("whole" : Str) = none → R x H') :
  ∀ x dx, H x = none → H dx = none → dx ≠ x → kdL CL CB CS [.ref x, .ref b] (upd (upd H dx (.own x)) x (.ins CS dx [])) (fun v H2 => v = .non ∧ R x H2) E :=
 fun x dx nx nd _ => ⟨x, dx, b, l, cg, m, ls, rs, rfl, kad, hb.same (kbE nx nd), kfx nx nd hl, hL.same (kbE nx nd), hn, hok, fun H' o p mk bt n1 n2 n3 S h1 h2 h3 fw => by
  obtain ⟨dx', fs, e, hf⟩ := fw
  obtain ⟨dx2, fs2, e2, _, _, _, _, hw⟩ := S
  rw [e] at e2
  injection e2 with e2
  injection e2 with _ e3 e4
  subst e4
  exact ⟨rfl, k H' x (kbH nx nd bt) nx dx' fs e hf hw⟩⟩
theorem khW {V : Vch} {ps : List (Option Nat)} {kk : List Nat} {S : Stnd} (vo : VchOk ps V) : (cutM V ps kk S).2 = if kbZ V.so = true then atM V.ms.most S.cg else 0 := by
 have hm := vo.ms.most
 unfold cutM
 simp only
 cases e : V.ms.most with
 | none =>
  unfold cap atM
  simp only
  unfold fee kbZ
  cases V.so <;> rfl
 | some m =>
  have h0 := (hm m e).1
  unfold cap atM
  simp only
  cases eso : V.so with
  | carr =>
   have hz : (want .carr S.mkd.length ((abt ps kk V.ms.kind V.ms.lone S).map fun i => S.ow.getD i 0) (qs S.pr (abt ps kk V.ms.kind V.ms.lone S))).sum = 0 := by
    unfold want
    simp
   show (if m < _ + S.cg then _ else _ : List Int × Int).2 = min m S.cg
   rw [hz, Int.zero_add]
   split
   ·show min S.cg m = _
    omega
   ·show S.cg = _
    omega
  | _ =>
   show (if m < _ + 0 then (_, min 0 m) else (_, 0) : List Int × Int).2 = 0
   split
   ·show min 0 m = 0
    omega
   ·rfl
theorem kkX {B : Bask} {l : Nat} {r : Row} (h : B.rs[l]? = some r) : (kds B).getD l 0 = r.kd.toNat := by
 unfold kds
 rw [F6, F0, h]
 rfl
theorem kja {ps : List (Option Nat)} {kk : List Nat} {kind : Option Nat} {lone : Bool} {S : Stnd} {i : Nat} :
  (FU (i + 1)).filter (fun i => hits ps kk kind lone S.mkd (S.ow.getD i 0)) = (FU i).filter (fun i => hits ps kk kind lone S.mkd (S.ow.getD i 0)) ++ (if hits ps kk kind lone S.mkd (S.ow.getD i 0) = true then [i] else []) := by
 rw [CY, Rt]
 congr 1
 simp only [List.filter_cons, List.filter_nil]
noncomputable def GrpAt (H H' : Hp) (pa : Addr) (t : Addr) (q : Int × List Nat) : Prop := ∃ ga, H' t = some (.tup [.int q.1, .ref ga]) ∧ H' ga = some (.lst (q.2.map iV)) ∧ (ga = pa ∨ H ga = none)
noncomputable def kim (d : D) : Sp := fun vs H Q _ => ∃ (v x pa : Addr) (V : Vch) (ps : List (Option Nat)) (B : Bask) (S : Stnd), vs = [.ref v, .ref x, .ref pa] ∧ VchIs d H v V ∧ StndIs d.qc H x S ∧ H pa = some (.lst ((abt ps (kds B) V.ms.kind V.ms.lone S).map iV)) ∧ Wf ps B S ∧ VchOk ps V ∧
 ∀ (H' : Hp) (p : Addr) (tl : List Addr) (gl : List (Int × List Nat)), Same H H' → H p = none → H' p = some (.lst (tl.map L2.V.ref)) → P2 (GrpAt H H' pa) tl gl → (∀ c g, (c, g) ∈ gl → 0 ≤ c ∧ c ≤ (qs S.pr g).sum ∧ g.length ≤ 720) → (gl.map Prod.snd).flatten.Nodup → (∀ i ∈ (gl.map Prod.snd).flatten, i < S.pr.length) → gl.length ≤ 720 →
  spr S.pr.length (gl.map Prod.snd).flatten (gl.map fun p => dl p.1 (qs S.pr p.2)).flatten = spr S.pr.length (abt ps (kds B) V.ms.kind V.ms.lone S) (want V.so S.mkd.length ((abt ps (kds B) V.ms.kind V.ms.lone S).map fun i => S.ow.getD i 0) (qs S.pr (abt ps (kds B) V.ms.kind V.ms.lone S))) → Q (.ref p) H'
theorem But.free {x l : Addr} {H H' : Hp} {o : HO} (b : But x H H') (hx : H' x = some o) (h : H' l = none) : H l = none := by
 cases q : H l with
 | none => rfl
 | some u =>
  obtain ⟨o', e'⟩ := ke8 (b l u (kal hx h).symm q)
  rw [e'] at h
  cases h
structure Rul where
 w : Str
 a : Nat
 b : Nat
structure TillD where
 ps : List (Option Nat)
 vs : List Vch
 rs : List Rul
 bk : Str
noncomputable def RulIs (H : Hp) (a : Addr) (r : Rul) : Prop := H a = some (.tup [.str r.w, iV r.a, iV r.b])
noncomputable def TillIs (d : D) (H : Hp) (t : Addr) (T : TillD) : Prop := ∃ (dx : Addr) (fs : List (Str × V)) (p vl rl : Addr) (va ra : List Addr), H t = some (.ins d.qg dx fs) ∧ fs.lookup ("parents" : Str) = some (.ref p) ∧ fs.lookup ("vouchers" : Str) = some (.ref vl) ∧ fs.lookup ("rules" : Str) = some (.ref rl) ∧ fs.lookup ("back" : Str) = some (.str T.bk) ∧
 H p = some (.lst (T.ps.map pV)) ∧ H vl = some (.lst (va.map V.ref)) ∧ P2 (fun a V => VchIs d H a V) va T.vs ∧ H rl = some (.lst (ra.map V.ref)) ∧ P2 (fun a r => RulIs H a r) ra T.rs
theorem TillIs.same {d : D} {H H' : Hp} {t : Addr} {T : TillD} (s : Same H H') : TillIs d H t T → TillIs d H' t T := fun ⟨dx, fs, p, vl, rl, va, ra, h1, h2, h3, h4, h5, h6, h7, h8, h9, h10⟩ =>
 ⟨dx, fs, p, vl, rl, va, ra, s _ _ h1, h2, h3, h4, h5, s _ _ h6, s _ _ h7, h8.mono fun a V h => h.same s, s _ _ h9, h10.mono fun a r h => s _ _ h⟩
structure kda (T : TillD) : Prop where
 vs : ∀ V ∈ T.vs, VchOk T.ps V
 nv : T.vs.length ≤ 8
noncomputable def WayAt (d : D) (m : Nat) (H : Hp) (w t b x : Addr) (hand : List Int) (used : List Nat) : Prop := ∃ (dx : Addr) (fs : List (Str × V)) (h u : Addr), H w = some (.ins d.c_Way dx fs) ∧ fs.lookup ("till" : Str) = some (.ref t) ∧ fs.lookup ("basket" : Str) = some (.ref b) ∧ fs.lookup ("hand" : Str) = some (.ref h) ∧ fs.lookup ("used" : Str) = some (.ref u) ∧ fs.lookup ("standing" : Str) = some (.ref x) ∧
 fs.lookup ("word_for" : Str) = none ∧ fs.lookup ("behind" : Str) = none ∧ fs.lookup ("is_let_by" : Str) = none ∧ fs.lookup ("followers" : Str) = none ∧ fs.length ≤ m ∧ H h = some (.lst (hand.map V.int)) ∧ H u = some (.lst (used.map iV))
noncomputable abbrev WayIs (d : D) (H : Hp) (w t b x : Addr) (hand : List Int) (used : List Nat) : Prop := WayAt d 7 H w t b x hand used
theorem WayAt.most {d : D} {m m' : Nat} {H : Hp} {w t b x : Addr} {hand : List Int} {used : List Nat} (hm : m ≤ m') : WayAt d m H w t b x hand used → WayAt d m' H w t b x hand used := fun ⟨dx, fs, h, u, h1, h2, h3, h4, h5, h6, h7, h8, h9, h10, h11, h12, h13⟩ =>
 ⟨dx, fs, h, u, h1, h2, h3, h4, h5, h6, h7, h8, h9, h10, FQ h11 hm, h12, h13⟩
theorem WayAt.same {d : D} {m : Nat} {H H' : Hp} {w t b x : Addr} {hand : List Int} {used : List Nat} (s : Same H H') : WayAt d m H w t b x hand used → WayAt d m H' w t b x hand used := fun ⟨dx, fs, h, u, h1, h2, h3, h4, h5, h6, h7, h8, h9, h10, h11, h12, h13⟩ =>
 ⟨dx, fs, h, u, s _ _ h1, h2, h3, h4, h5, h6, h7, h8, h9, h10, h11, s _ _ h12, s _ _ h13⟩
noncomputable def nevR (used : List Nat) (n : Nat) (r : Rul) : Bool := decide (r.w = ("never" : Str)) && ((decide (r.a = n) && used.contains r.b) || (decide (r.b = n) && used.contains r.a))
noncomputable def keA (rs : List Rul) (used : List Nat) (n : Nat) : Bool := rs.any (nevR used n)
noncomputable def ahdR (used : List Nat) (n : Nat) (r : Rul) : Bool := decide (r.w = ("ahead" : Str)) && (decide (r.a = n) && used.contains r.b)
noncomputable def keI (rs : List Rul) (used : List Nat) (n : Nat) : Bool := rs.any (ahdR used n)
noncomputable def loneM (order : List Nat) (r : Rul) : Bool := decide (r.w = ("only" : Str)) && (order.contains r.a && !order.contains r.b)
noncomputable def onlyM (rs : List Rul) (order : List Nat) : Option Nat := (rs.find? (loneM order)).map Rul.a
noncomputable def sV : Option Str → V
 | none => .non
 | some z => .str z
noncomputable def wordM (V : Vch) (rs : List Rul) (hand : List Int) (used : List Nat) (n : Nat) : Option Str :=
 if hand.getD n 0 < (used.count n : Int) + 1 then some "held" else if (V.ms.once && used.contains n) = true then some "once" else if keA rs used n = true then some "never" else if keI rs used n = true then some "ahead" else none
noncomputable def dueM (V : Vch) (T : TillD) (B : Bask) (hand : List Int) (used : List Nat) (S : Stnd) (n : Nat) : L2.V := match wordM V T.rs hand used n with
 | some z => .str z
 | none => hindM V T.ps B S
theorem kcD {n : Nat} : ∀ (l : List Nat), inV (iV n) (l.map iV) = l.contains n
 | [] => rfl
 | m :: l => by
  have ih := kcD (n := n) l
  unfold inV at ih ⊢
  rw [F7, C6, ih, List.contains_cons]
  congr 1
  show eqV (V.int (m : Int)) (V.int (n : Int)) = (n == m)
  by_cases h : n = m
  ·subst h
   simp [eqV]
  ·have h1 : ¬ ((m : Int) = (n : Int)) := by omega
   have e2 : (n == m) = false := beq_eq_false_iff_ne.mpr h
   rw [e2]
   simp [eqV, h1]
theorem kkr (l : List Nat) (n : Nat) : (l.map fun (i : Nat) => (i : Int)).count (n : Int) = l.count n := by
 induction l with
 | nil => rfl
 | cons m l ih =>
  rw [F7, Sg, Sg, ih]
  congr 1
  by_cases h : m = n
  ·subst h; simp
  ·have h1 : ¬ ((m : Int) = (n : Int)) := by omega
   have e1 : ((m : Int) == (n : Int)) = false := beq_eq_false_iff_ne.mpr h1
   have e2 : (m == n) = false := beq_eq_false_iff_ne.mpr h
   rw [e1, e2]
theorem kgy (a b : Nat) : decide (iV a = iV b) = decide (a = b) := by
 by_cases h : a = b
 ·subst h; simp
 ·have n : ¬ (iV a = iV b) := fun e => h (by have := V.int.inj e; omega)
  rw [decide_eq_false h, decide_eq_false n]
theorem eq_str (a b : Str) : decide (V.str a = V.str b) = decide (a = b) := by
 by_cases h : a = b
 ·subst h; simp
 ·have n : ¬ (V.str a = V.str b) := fun e => h (V.str.inj e)
  rw [decide_eq_false h, decide_eq_false n]
section
variable {P : Program} {w : World} {K : FK} {mg : Str → Option Value} {base : Heap} {d : D}
theorem Q4 : kas ["parents", "one", "other", "kind"] ["parents", "one", "other"] (kab kb0) := ⟨rfl, rfl, rfl, by decide +kernel, rfl, by decide +kernel, by decide +kernel⟩
theorem kiI (W : WB K mg d base) : FnOk P w K mg base CX0 1 d.Xp d.Xq ["parents", "one", "other"] (kjJ K) := by
 refine FunD.ok W.qZ.F Q4 (fun vs H Q E h => ?_) (fun cdv A outer s H vs Q E hr h => ?_)
 ·obtain ⟨a, ps, one, other, rfl, _⟩ := h
  rfl
 ·obtain ⟨a, ps, one, other, rfl, hS, hg, ho, k⟩ := h
  refine ⟨_, kae (kav (i := 3) Q4.nd rfl (Or.inl rfl) (pv 1))
   (kae (kgg PassesOwn.never (kay kcy (pv 3) kbC (kaF _))
   (kae (ps_if (kay op_eq (pv 3) (pv 2) (kaF _)) (kak (kat pe_bl)) (kaA))
   (kak (kav (i := 3) Q4.nd rfl (Or.inl rfl) (pe_ix (r := rIxL K) kbu (pv 0) (pv 3) (fun _ _ => rfl))))))
   (kak (kat pe_bl))), ?_⟩
  refine ⟨_, rfl, ?_⟩
  refine kf9 (fun σ H' => ∃ o : Option Nat, σ = [some (.ref a), some (.int one), some (.int other), some (pV o)] ∧ H' = H ∧ (∀ i, o = some i → i < ps.length) ∧ decide (other ∈ up ps one) = decide (other ∈ rest ps o))
   (fun σ _ => match σ with | [_, _, _, some (.int i)] => i.toNat + 1 | _ => 0) ⟨some one, rfl, rfl, fun i e => by cases e; exact ho, rfl⟩ ?_ ?_
  ·rintro σ H' ⟨o, rfl, rfl, hb, he⟩
   refine ⟨_, rfl, rfl, _, rfl, ?_⟩
   cases o with
   | none =>
    show if (!decide (V.non = V.non)) = true then _ else _
    rw [kjl]
    refine iteF ?_
    show Q (.bl false) _
    have e : decide (other ∈ up ps one) = false := by rw [he]; simp [Kin.rest]
    rw [e] at k
    exact k
   | some i =>
    show if (!decide (V.int i = V.non)) = true then _ else _
    rw [kjm]
    refine iteT ?_
    have hi := hb i rfl
    refine ⟨_, rfl, _, rfl, rfl, _, rfl, ?_⟩
    show if decide (V.int i = V.int other) = true then _ else _
    rw [eq_int]
    obtain ⟨o, eo⟩ : ∃ o, ps[i]? = some o := ⟨ps[i], by simp [hi]⟩
    refine ite2 (fun h => ?_) (fun h => ?_)
    ·have h' : i = other := of_decide_eq_true h
     subst h'
     have e : decide (i ∈ up ps one) = true := by
      rw [he]
      show decide (i ∈ up ps i) = true
      rw [up_eq hg eo]
      simp
     rw [e] at k
     exact k
    ·have h' : ¬ i = other := fun z => h (decide_eq_true z)
     refine ⟨_, rfl, _, rfl, a, _, _, pV o, rfl, rfl, hS, kbN (by simp [eo]), ?_⟩
     refine ⟨⟨o, rfl, rfl, fun j e => ?_, ?_⟩, ?_⟩
     ·subst e
      have := hg i j eo
      omega
     ·rw [he]
      show decide (other ∈ up ps i) = _
      rw [up_eq hg eo]
      have : ¬ other = i := fun z => h' z.symm
      simp [this]
     ·cases o with
      | none => exact Nat.succ_pos _
      | some j =>
       have := hg i j eo
       show ((j : Int)).toNat + 1 < ((i : Int)).toNat + 1
       omega
  ·rintro σ H' Q' Q'' hq ⟨v, h1, h2, h3⟩
   exact ⟨v, h1, h2, by obtain ⟨b, e, q⟩ := h3; exact ⟨b, e, hq _ _ q⟩⟩
theorem qz : kas ["cut", "weights", "total", "parts", "reached", "given", "weight", "share"] ["cut", "weights"] (kab kb4) := ⟨rfl, rfl, rfl, by decide +kernel, rfl, by decide +kernel, by decide +kernel⟩
theorem kiJ (W : WB K mg d base) : FnOk P w K mg base CX0 1 d.Xn d.Xo ["cut", "weights"] (kjS K) := by
 refine FunD.ok W.qF.F qz (fun vs H Q E h => ?_) (fun cdv A outer s H vs Q E hr h => ?_)
 ·obtain ⟨c, a, ws, rfl, _⟩ := h
  rfl
 ·obtain ⟨c, a, ws, rfl, hS, hn, hs, hc0, hc1, hl, k⟩ := h
  refine ⟨_, kae (kav (i := 2) qz.nd rfl (Or.inl rfl) (kaQ (kci rfl) (by rfl) W.B.sum b_sum (kaa (pv 1) kah)))
   (kae (ps_if (kay op_eq (pv 2) kai (kaF _)) (kak (kat (kbT (N := ["weight"]) (CompScope.plain rfl (by decide +kernel) (by decide +kernel) (by decide +kernel) (nd1 _)) rfl (kbx (pv 1)) (fun _ _ _ _ => kau (i := 0) (nd1 _) rfl (Or.inl rfl)) (fun _ _ _ _ => kai)))) (kaA))
   (kae (kav (i := 3) qz.nd rfl (Or.inl rfl) (kbw kah))
   (kae (kav (i := 4) qz.nd rfl (Or.inl rfl) kai)
   (kae (kav (i := 5) qz.nd rfl (Or.inl rfl) kai)
   (kae (kbQ PassesOwn.never rfl (kbx (pv 1)) (kau (i := 6) qz.nd rfl (Or.inl rfl))
   (kae (kkJ (i := 4) qz.nd rfl (Or.inl rfl) (pv 6) kkY)
   (kae (kav (i := 7) qz.nd rfl (Or.inl rfl) (pe_op kiH (pe_op kca (pv 0) (pv 4)) (pv 2)))
   (kae (kby (pe_bm Ct CN CO kbG (pv 3) (kaa (pe_op kd3 (pv 7) (pv 5)) kah)))
   (kak (kav (i := 5) qz.nd rfl (Or.inl rfl) (pv 7)))))))
   (kak (kat (pv 3)))))))), ?_⟩
  refine ⟨_, rfl, a, ws, rfl, hS, _, rfl, rfl, _, rfl, ?_⟩
  refine ite2 (fun h => ?_) (fun h => ?_)
  ·have h0 : ws.sum = 0 := by
    have e : V.int ws.sum = V.int 0 := of_decide_eq_true h
    injection e
   refine ⟨_, rfl, a, rfl, ⟨_, hS⟩, kbI (xs := ws.map V.int) (fun i σ ys H' => H' = H ∧ ys = FO i (V.int 0) ∧ ∃ v, σ = [v]) ⟨rfl, rfl, none, rfl⟩ ?_ ?_ ?_ ?_⟩
   ·rw [FJ]
    exact FY (kar hl)
   ·rintro i σ ys H' hi ⟨rfl, rfl, v, rfl⟩
    exact ⟨hS, by simp⟩
   ·rintro i x σ ys H' hx ⟨rfl, rfl, v, rfl⟩
    exact ⟨rfl, by rw [RQ], _, rfl⟩
   ·rintro σ ys H' ⟨rfl, rfl, v, rfl⟩ D hD
    have := k D hD
    rw [kiN h0] at this
    rw [FJ]
    exact this
  ·have h0 : ¬ ws.sum = 0 := fun e => h (by rw [e]; simp)
   have hpos : 0 < ws.sum := by
    have := kcf hn
    omega
   refine ⟨by decide, fun p hp => ?_⟩
   have s1 : ∀ o, Same H (upd H p o) := fun o => kaj hp
   refine ⟨_, rfl, a, rfl, ⟨_, (s1 _).seq hS⟩, kbW (K := K) (a := a) (xs := ws.map V.int) (fun i σ H' => H' = upd H p (.lst (((FU i).map (part c ws)).map V.int)) ∧
    ∃ (v6 v7 : Option V), σ = [some (.int c), some (.ref a), some (.int ws.sum), some (.ref p), some (.int (pre ws i)), some (.int (c * pre ws i / ws.sum)), v6, v7])
    ⟨rfl, none, none, by simp [kiA]; rfl⟩ (fun i σ H' _ ⟨e, _⟩ => by rw [e]; exact (s1 _).seq hS) ?_ ?_⟩
   ·rintro i x σ H' hi ⟨rfl, v6, v7, rfl⟩
    have hil : i < (ws.map V.int).length := (FZ.mp hi).1
    rw [FJ] at hil
    obtain ⟨z, ez, rfl⟩ : ∃ z, ws[i]? = some z ∧ x = V.int z := by
     rw [F0] at hi
     cases e : ws[i]? with
     | none => rw [e] at hi; cases hi
     | some z => rw [e] at hi; exact ⟨z, rfl, (Option.some.inj hi).symm⟩
    have ep := kdM ez
    refine ⟨_, rfl, _, rfl, _, _, rfl, rfl, ?_⟩
    refine ⟨_, rfl, _, rfl, _, _, rfl, rfl, .inl ⟨by omega, by omega⟩, _, rfl, _, _, rfl, rfl, ⟨hpos, by omega⟩, ?_⟩
    refine ⟨_, rfl, .inl ⟨rfl, _, SqL.of kad⟩, _, rfl, _, rfl, _, _, rfl, rfl, p, _, _, rfl, rfl, kad, kar (by simp; omega), ?_⟩
    refine ⟨_, rfl, ?_, some (.int z), some (.int (c * (pre ws i + z) / ws.sum)), ?_⟩
    ·rw [kjz, CY, FX, FX]
     show upd H p (.lst (_ ++ [V.int (c * (pre ws i + z) / ws.sum - c * pre ws i / ws.sum)])) = upd H p (.lst (_ ++ [V.int (part c ws i)]))
     unfold part
     rw [ep]
    ·rw [ep]
     rfl
   ·rintro σ H' ⟨rfl, v6, v7, rfl⟩
    refine ⟨_, rfl, ?_⟩
    have := k p hp
    rw [khA h0] at this
    rw [FJ]
    exact this
theorem keR : kas ["self", "kind", "needs", "most", "member", "once", "lone"] ["self", "kind", "needs", "most", "member", "once", "lone"] (kab kaq) := ⟨rfl, rfl, rfl, by decide +kernel, rfl, by decide +kernel, by decide +kernel⟩
theorem kc3 (W : WB K mg d base) : FnOk P w K mg base CX0 1 d.YK d.qB ["self", "kind", "needs", "most", "member", "once", "lone"] (kgb d.qh) := by
 refine FunD.ok W.Qz.F keR (fun vs H Q E h => ?_) (fun cdv A outer s H vs Q E hr h => ?_)
 ·obtain ⟨x, dx, M, rfl, _⟩ := h
  rfl
 ·obtain ⟨x, dx, M, rfl, hx, k⟩ := h
  refine ⟨_, kae (ka5 (pv 0) (pv 1) rfl)
   (kae (ka5 (pv 0) (pv 2) rfl)
   (kae (ka5 (pv 0) (pv 3) rfl)
   (kae (ka5 (pv 0) (pv 4) rfl)
   (kae (ka5 (pv 0) (pv 5) rfl)
   (kak (ka5 (pv 0) (pv 6) rfl)))))), ?_⟩
  refine ⟨_, rfl, _, rfl, x, d.qh, dx, [], rfl, hx, W.qh.cl, W.n_Marks_kind, by decide, ?_⟩
  refine ⟨_, rfl, _, rfl, x, d.qh, dx, _, rfl, kad, W.qh.cl, W.n_Marks_needs, few (FQ (kan (n := 0) (FM _)) (by decide)), ?_⟩
  refine ⟨_, rfl, _, rfl, x, d.qh, dx, _, rfl, kad, W.qh.cl, W.n_Marks_most, few (FQ (kan (kan (n := 0) (FM _))) (by decide)), ?_⟩
  refine ⟨_, rfl, _, rfl, x, d.qh, dx, _, rfl, kad, W.qh.cl, W.n_Marks_member, few (FQ (kan (kan (kan (n := 0) (FM _)))) (by decide)), ?_⟩
  refine ⟨_, rfl, _, rfl, x, d.qh, dx, _, rfl, kad, W.qh.cl, W.n_Marks_once, few (FQ (kan (kan (kan (kan (n := 0) (FM _))))) (by decide)), ?_⟩
  refine ⟨_, rfl, _, rfl, x, d.qh, dx, _, rfl, kad, W.qh.cl, W.n_Marks_lone, few (FQ (kan (kan (kan (kan (kan (n := 0) (FM _)))))) (by decide)), ?_⟩
  refine k _ (But.trans (But.trans (But.trans (But.trans (But.trans kaz kaz) kaz) kaz) kaz) kaz) ⟨dx, _, kad, ?_, ?_, ?_, ?_, ?_, ?_⟩ <;> (repeat (first | rw [kac, if_pos rfl] | rw [kac, if_neg (by decide +kernel)]))
theorem kdU : kas ["self", "marks"] ["self", "marks"] (kab kaI) := ⟨rfl, rfl, rfl, by decide +kernel, rfl, by decide +kernel, by decide +kernel⟩
theorem kbD (W : WB K mg d base) : FnOk P w K mg base CX0 3 d.QL d.QM ["self", "marks"] (kgE K d.qh) := by
 refine FunD.ok W.qw.F kdU (fun vs H Q E h => ?_) (fun cdv A outer s H vs Q E hr h => ?_)
 ·obtain ⟨x, C, dx, fs, mv, rfl, _⟩ := h
  rfl
 ·obtain ⟨x, C, dx, fs, mv, rfl, hx, hC, hN, hl, hm, k⟩ := h
  have Q5 := kc3 (P := P) (w := w) (base := base) W
  refine ⟨_, kak (ka5 (pv 0) (kgl (kay kez (pv 1) kbC (kaF _)) (kiB (W.Qz.mk' W.qh) Q5 hr rfl W.qh.m W.b6_Marks_init (show Vals [.non, .int 0, .non, .bl false, .bl false, .bl false] [.none, .int 0 d.tok1_Marks_init, .none, .bool false, .bool false, .bool false] from (.cons rfl (.cons ⟨_, rfl⟩ (.cons rfl (.cons rfl (.cons rfl (.cons rfl .nil))))))) pass0) (pv 1)) rfl), ?_⟩
  rcases hm with rfl | ⟨mA, rfl⟩
  ·refine ⟨_, rfl, rfl, _, rfl, iteT ?_⟩
   refine kgs (M := mks0) fun H1 mA s1 f1 hM => ?_
   refine ⟨_, rfl, x, C, dx, fs, rfl, s1 _ _ hx, hC, hN, by omega, ?_⟩
   have hne : mA ≠ x := (kal hx f1).symm
   refine k _ mA ((But.of_same s1).trans (kaz (nx (s1 _ _ hx)))) (.inr ⟨rfl, f1, ?_⟩) kad
   exact hM.but hne (kaz (nx (s1 _ _ hx)))
  ·refine ⟨_, rfl, rfl, _, rfl, iteF ?_⟩
   refine ⟨_, rfl, _, rfl, x, C, dx, fs, rfl, hx, hC, hN, by omega, ?_⟩
   exact k _ mA kaz (.inl rfl) kad
theorem kfS : kas ["self", "amount", "marks"] ["self", "amount", "marks"] (kab kbm) := ⟨rfl, rfl, rfl, by decide +kernel, rfl, by decide +kernel, by decide +kernel⟩
theorem kfW (W : WB K mg d base) : FnOk P w K mg base CX0 4 d.YL d.QN ["self", "amount", "marks"] (kdv d.c_Off d.qh (fun so => ∃ (a : Int), so = .off a)) := by
 refine FunD.ok W.QT.F kfS (fun vs H Q E h => ?_) (fun cdv A outer s H vs Q E hr h => ?_)
 ·obtain ⟨x, dx, so, mv, ⟨a, rfl⟩, rfl, _⟩ := h
  rfl
 ·obtain ⟨x, dx, so, mv, ⟨a, rfl⟩, rfl, hx, hm, k⟩ := h
  have qA := kbD (P := P) (w := w) (base := base) W
  refine ⟨_, kae (kby (kdX W.q_Voucher_init qA hr rfl W.qy.m W.qw.F.kp W.qw.b .nil pass0 (kaa (pv 0) (kaa (pv 2) kah))))
   (kak (ka5 (pv 0) (pv 1) rfl)), ?_⟩
  refine ⟨_, rfl, _, rfl, x, d.c_Off, dx, [], mv, rfl, hx, W.c_Off.cl, W.n_Off_marks, by decide, hm, fun H1 mA b1 hM h1 => ?_⟩
  refine ⟨_, rfl, _, rfl, x, d.c_Off, dx, _, rfl, h1, W.c_Off.cl, W.n_Off_amount, few (FQ (kan (n := 0) (FM _)) (by decide)), ?_⟩
  refine k _ mA _ (b1.trans kaz) ?_ kad ?_ ?_
  ·exact hM.but hx kaz
  ·(repeat (first | rw [kac, if_pos rfl] | rw [kac, if_neg (by decide +kernel)]))
  ·show CD _ _ = _
   (repeat (first | rw [kac, if_pos rfl] | rw [kac, if_neg (by decide +kernel)]))
theorem keQ : kas ["self", "share", "by_line", "marks"] ["self", "share", "by_line", "marks"] (kab kaJ) := ⟨rfl, rfl, rfl, by decide +kernel, rfl, by decide +kernel, by decide +kernel⟩
theorem ke2 (W : WB K mg d base) : FnOk P w K mg base CX0 4 d.YM d.qX ["self", "share", "by_line", "marks"] (kdv d.qk d.qh (fun so => ∃ (sh : Int) (bb : Bool), so = .share sh bb)) := by
 refine FunD.ok W.QU.F keQ (fun vs H Q E h => ?_) (fun cdv A outer s H vs Q E hr h => ?_)
 ·obtain ⟨x, dx, so, mv, ⟨sh, bb, rfl⟩, rfl, _⟩ := h
  rfl
 ·obtain ⟨x, dx, so, mv, ⟨sh, bb, rfl⟩, rfl, hx, hm, k⟩ := h
  have qA := kbD (P := P) (w := w) (base := base) W
  refine ⟨_, kae (kby (kdX W.q_Voucher_init qA hr rfl W.qy.m W.qw.F.kp W.qw.b .nil pass0 (kaa (pv 0) (kaa (pv 3) kah))))
   (kae (ka5 (pv 0) (pv 1) rfl)
   (kak (ka5 (pv 0) (pv 2) rfl))), ?_⟩
  refine ⟨_, rfl, _, rfl, x, d.qk, dx, [], mv, rfl, hx, W.qk.cl, W.n_Share_marks, by decide, hm, fun H1 mA b1 hM h1 => ?_⟩
  refine ⟨_, rfl, _, rfl, x, d.qk, dx, _, rfl, h1, W.qk.cl, W.n_Share_share, few (FQ (kan (n := 0) (FM _)) (by decide)), ?_⟩
  refine ⟨_, rfl, _, rfl, x, d.qk, dx, _, rfl, kad, W.qk.cl, W.n_Share_by_line, few (FQ (kan (kan (n := 0) (FM _))) (by decide)), ?_⟩
  refine k _ mA _ ((b1.trans kaz).trans kaz) ?_ kad ?_ ?_
  ·exact hM.but hx (But.trans kaz kaz)
  ·(repeat (first | rw [kac, if_pos rfl] | rw [kac, if_neg (by decide +kernel)]))
  ·exact ⟨by (repeat (first | rw [kac, if_pos rfl] | rw [kac, if_neg (by decide +kernel)])), by (repeat (first | rw [kac, if_pos rfl] | rw [kac, if_neg (by decide +kernel)]))⟩
theorem kdE : kas ["self", "many", "marks"] ["self", "many", "marks"] (kab kaC) := ⟨rfl, rfl, rfl, by decide +kernel, rfl, by decide +kernel, by decide +kernel⟩
theorem kdJ (W : WB K mg d base) : FnOk P w K mg base CX0 4 d.YN d.QO ["self", "many", "marks"] (kdv d.qm d.qh (fun so => ∃ (n : Int), so = .cheap n)) := by
 refine FunD.ok W.QV.F kdE (fun vs H Q E h => ?_) (fun cdv A outer s H vs Q E hr h => ?_)
 ·obtain ⟨x, dx, so, mv, ⟨n, rfl⟩, rfl, _⟩ := h
  rfl
 ·obtain ⟨x, dx, so, mv, ⟨n, rfl⟩, rfl, hx, hm, k⟩ := h
  have qA := kbD (P := P) (w := w) (base := base) W
  refine ⟨_, kae (kby (kdX W.q_Voucher_init qA hr rfl W.qy.m W.qw.F.kp W.qw.b .nil pass0 (kaa (pv 0) (kaa (pv 2) kah))))
   (kak (ka5 (pv 0) (pv 1) rfl)), ?_⟩
  refine ⟨_, rfl, _, rfl, x, d.qm, dx, [], mv, rfl, hx, W.qm.cl, W.n_Cheapest_marks, by decide, hm, fun H1 mA b1 hM h1 => ?_⟩
  refine ⟨_, rfl, _, rfl, x, d.qm, dx, _, rfl, h1, W.qm.cl, W.n_Cheapest_many, few (FQ (kan (n := 0) (FM _)) (by decide)), ?_⟩
  refine k _ mA _ (b1.trans kaz) ?_ kad ?_ ?_
  ·exact hM.but hx kaz
  ·(repeat (first | rw [kac, if_pos rfl] | rw [kac, if_neg (by decide +kernel)]))
  ·show CD _ _ = _
   (repeat (first | rw [kac, if_pos rfl] | rw [kac, if_neg (by decide +kernel)]))
theorem keq : kas ["self", "many", "price", "marks"] ["self", "many", "price", "marks"] (kab kaS) := ⟨rfl, rfl, rfl, by decide +kernel, rfl, by decide +kernel, by decide +kernel⟩
theorem keu (W : WB K mg d base) : FnOk P w K mg base CX0 4 d.YO d.QP ["self", "many", "price", "marks"] (kdv d.ql d.qh (fun so => ∃ (n : Int) (pp : Int), so = .bund n pp)) := by
 refine FunD.ok W.QW.F keq (fun vs H Q E h => ?_) (fun cdv A outer s H vs Q E hr h => ?_)
 ·obtain ⟨x, dx, so, mv, ⟨n, pp, rfl⟩, rfl, _⟩ := h
  rfl
 ·obtain ⟨x, dx, so, mv, ⟨n, pp, rfl⟩, rfl, hx, hm, k⟩ := h
  have qA := kbD (P := P) (w := w) (base := base) W
  refine ⟨_, kae (kby (kdX W.q_Voucher_init qA hr rfl W.qy.m W.qw.F.kp W.qw.b .nil pass0 (kaa (pv 0) (kaa (pv 3) kah))))
   (kae (ka5 (pv 0) (pv 1) rfl)
   (kak (ka5 (pv 0) (pv 2) rfl))), ?_⟩
  refine ⟨_, rfl, _, rfl, x, d.ql, dx, [], mv, rfl, hx, W.ql.cl, W.n_Bundle_marks, by decide, hm, fun H1 mA b1 hM h1 => ?_⟩
  refine ⟨_, rfl, _, rfl, x, d.ql, dx, _, rfl, h1, W.ql.cl, W.n_Bundle_many, few (FQ (kan (n := 0) (FM _)) (by decide)), ?_⟩
  refine ⟨_, rfl, _, rfl, x, d.ql, dx, _, rfl, kad, W.ql.cl, W.n_Bundle_price, few (FQ (kan (kan (n := 0) (FM _))) (by decide)), ?_⟩
  refine k _ mA _ ((b1.trans kaz).trans kaz) ?_ kad ?_ ?_
  ·exact hM.but hx (But.trans kaz kaz)
  ·(repeat (first | rw [kac, if_pos rfl] | rw [kac, if_neg (by decide +kernel)]))
  ·exact ⟨by (repeat (first | rw [kac, if_pos rfl] | rw [kac, if_neg (by decide +kernel)])), by (repeat (first | rw [kac, if_pos rfl] | rw [kac, if_neg (by decide +kernel)]))⟩
theorem kdF : kas ["self", "marks"] ["self", "marks"] (kab kaD) := ⟨rfl, rfl, rfl, by decide +kernel, rfl, by decide +kernel, by decide +kernel⟩
theorem kdK (W : WB K mg d base) : FnOk P w K mg base CX0 4 d.YQ d.QQ ["self", "marks"] (kdv d.qo d.qh (fun so => so = .carr)) := by
 refine FunD.ok W.QX.F kdF (fun vs H Q E h => ?_) (fun cdv A outer s H vs Q E hr h => ?_)
 ·obtain ⟨x, dx, so, mv, rfl, rfl, _⟩ := h
  rfl
 ·obtain ⟨x, dx, so, mv, rfl, rfl, hx, hm, k⟩ := h
  have qA := kbD (P := P) (w := w) (base := base) W
  refine ⟨_, kak (kby (kdX W.q_Voucher_init qA hr rfl W.qy.m W.qw.F.kp W.qw.b .nil pass0 (kaa (pv 0) (kaa (pv 1) kah)))), ?_⟩
  refine ⟨_, rfl, _, rfl, x, d.qo, dx, [], mv, rfl, hx, W.qo.cl, W.n_Carriage_marks, by decide, hm, fun H1 mA b1 hM h1 => ?_⟩
  refine k _ mA _ b1 hM h1 ?_ trivial
  (repeat (first | rw [kac, if_pos rfl] | rw [kac, if_neg (by decide +kernel)]))
theorem kfl : kas ["self", "kind", "price", "many", "special"] ["self", "kind", "price", "many", "special"] (kab kbb) := ⟨rfl, rfl, rfl, by decide +kernel, rfl, by decide +kernel, by decide +kernel⟩
theorem kfu (W : WB K mg d base) : FnOk P w K mg base CX0 1 d.YR d.QR ["self", "kind", "price", "many", "special"] (kg9 d.qe) := by
 refine FunD.ok W.QY.F kfl (fun vs H Q E h => ?_) (fun cdv A outer s H vs Q E hr h => ?_)
 ·obtain ⟨x, dx, r, rfl, _⟩ := h
  rfl
 ·obtain ⟨x, dx, r, rfl, hx, k⟩ := h
  refine ⟨_, kae (ka5 (pv 0) (pv 1) rfl)
   (kae (ka5 (pv 0) (pv 2) rfl)
   (kae (ka5 (pv 0) (pv 3) rfl)
   (kak (ka5 (pv 0) (pv 4) rfl)))), ?_⟩
  refine ⟨_, rfl, _, rfl, x, d.qe, dx, [], rfl, hx, W.qe.cl, W.n_Line_kind, by decide, ?_⟩
  refine ⟨_, rfl, _, rfl, x, d.qe, dx, _, rfl, kad, W.qe.cl, W.n_Line_price, few (FQ (kan (n := 0) (FM _)) (by decide)), ?_⟩
  refine ⟨_, rfl, _, rfl, x, d.qe, dx, _, rfl, kad, W.qe.cl, W.n_Line_many, few (FQ (kan (kan (n := 0) (FM _))) (by decide)), ?_⟩
  refine ⟨_, rfl, _, rfl, x, d.qe, dx, _, rfl, kad, W.qe.cl, W.n_Line_special, few (FQ (kan (kan (kan (n := 0) (FM _)))) (by decide)), ?_⟩
  refine k _ (But.trans (But.trans (But.trans kaz kaz) kaz) kaz) ⟨dx, _, kad, ?_, ?_, ?_, ?_⟩
  ·rw [kac, if_neg (by decide +kernel), kac, if_neg (by decide +kernel), kac, if_neg (by decide +kernel), kac, if_pos rfl]
  ·rw [kac, if_neg (by decide +kernel), kac, if_neg (by decide +kernel), kac, if_pos rfl]
  ·rw [kac, if_neg (by decide +kernel), kac, if_pos rfl]
  ·rw [kac, if_pos rfl]
theorem ker : kas ["self", "lines", "carriage", "member"] ["self", "lines", "carriage", "member"] (kab kaE) := ⟨rfl, rfl, rfl, by decide +kernel, rfl, by decide +kernel, by decide +kernel⟩
theorem kev (W : WB K mg d base) : FnOk P w K mg base CX0 1 d.YS d.qY ["self", "lines", "carriage", "member"] (khe K d.qi) := by
 refine FunD.ok W.QZ.F ker (fun vs H Q E h => ?_) (fun cdv A outer s H vs Q E hr h => ?_)
 ·obtain ⟨x, dx, l, cg, m, xs, rfl, _⟩ := h
  rfl
 ·obtain ⟨x, dx, l, cg, m, xs, rfl, hx, hl, k⟩ := h
  refine ⟨_, kae (ka5 (pv 0) (kbB kbt (by rfl) W.B.list kcJ (kaa (pv 1) kah)) rfl)
   (kae (ka5 (pv 0) (pv 2) rfl)
   (kak (ka5 (pv 0) (pv 3) rfl))), ?_⟩
  refine ⟨_, rfl, l, _, rfl, .inl hl, fun l' hl' => ?_⟩
  have s1 := kaj (o := .lst xs) hl'
  have nlx : l' ≠ x := fun e => by
   rw [e, hx] at hl'
   cases hl'
  refine ⟨_, rfl, x, d.qi, dx, [], rfl, s1 _ _ hx, W.qi.cl, W.n_Basket_lines, by decide, ?_⟩
  refine ⟨_, rfl, _, rfl, x, d.qi, dx, _, rfl, kad, W.qi.cl, W.n_Basket_carriage, few (FQ (kan (n := 0) (FM _)) (by decide)), ?_⟩
  refine ⟨_, rfl, _, rfl, x, d.qi, dx, _, rfl, kad, W.qi.cl, W.n_Basket_member, few (FQ (kan (kan (n := 0) (FM _))) (by decide)), ?_⟩
  refine k _ l' ((((But.of_same s1).trans kaz).trans kaz).trans kaz) hl' ?_ ⟨dx, _, kad, ?_, ?_, ?_⟩
  ·rw [kam nlx, kam nlx, kam nlx, kad]
  ·rw [kac, if_neg (by decide +kernel), kac, if_neg (by decide +kernel), kac, if_pos rfl]
  ·rw [kac, if_neg (by decide +kernel), kac, if_pos rfl]
  ·rw [kac, if_pos rfl]
theorem kdf : kas ["line", "member"] ["line", "member"] (kab kaL) := ⟨rfl, rfl, rfl, by decide +kernel, rfl, by decide +kernel, by decide +kernel⟩
theorem kdm (W : WB K mg d base) : FnOk P w K mg base CX0 1 d.Xr d.Xs ["line", "member"] (kjM d.qe) := by
 refine FunD.ok W.q9.F kdf (fun vs H Q E h => ?_) (fun cdv A outer s H vs Q E hr h => ?_)
 ·obtain ⟨x, m, r, rfl, _⟩ := h
  rfl
 ·obtain ⟨x, m, r, rfl, ⟨dx, fs, hx, lk, lp, lm, ls⟩, k⟩ := h
  refine ⟨_, kae (ps_if (PW.pt (kb6 (kbF (pv 1)) (kbS (kay kcy (kap (pv 0) rfl) kbC (kaF _))))) (kak (kat (kap (pv 0) rfl))) (kaA))
   (kak (kat (kap (pv 0) rfl))), ?_⟩
  refine ⟨_, rfl, m, rfl, ?_⟩
  cases m with
  | false =>
   refine iteF (iteF ⟨_, rfl, x, d.qe, dx, fs, _, rfl, hx, W.qe.cl, W.n_Line_price, lp, ?_⟩)
   exact k
  | true =>
   refine iteT ⟨_, rfl, x, d.qe, dx, fs, _, rfl, hx, W.qe.cl, W.n_Line_special, ls, rfl, _, rfl, ?_⟩
   cases e : r.ex with
   | none =>
    rw [e] at ls
    show if (!decide (V.non = V.non)) = true then _ else _
    rw [show (!decide (V.non = V.non)) = false by simp]
    refine iteF ⟨_, rfl, x, d.qe, dx, fs, _, rfl, hx, W.qe.cl, W.n_Line_price, lp, ?_⟩
    have ep : prc true r = r.pr := by
     unfold prc
     rw [if_pos rfl, e]
     rfl
    rw [ep] at k
    exact k
   | some z =>
    rw [e] at ls
    show if (!decide (V.int z = V.non)) = true then _ else _
    rw [show (!decide (V.int z = V.non)) = true by simp]
    refine iteT ⟨_, rfl, x, d.qe, dx, fs, _, rfl, hx, W.qe.cl, W.n_Line_special, ls, ?_⟩
    have ep : prc true r = z := by
     unfold prc
     rw [if_pos rfl, e]
     rfl
    rw [ep] at k
    exact k
theorem QA : kas ["self", "basket", "number", "line", "price"] ["self", "basket"] (kab kaX) := ⟨rfl, rfl, rfl, by decide +kernel, rfl, by decide +kernel, by decide +kernel⟩
theorem kcv (W : WB K mg d base) : FnOk P w K mg base CX0 2 d.YT d.YU ["self", "basket"] (kdL d.qe d.qi d.qc) := by
 refine FunD.ok W.qR.F QA (fun vs H Q E h => ?_) (fun cdv A outer s H vs Q E hr h => ?_)
 ·obtain ⟨x, dx, b, l, cg, m, ls, rs, rfl, _⟩ := h
  rfl
 ·obtain ⟨x, dx, b, l, cg, m, ls, rs, rfl, hx, ⟨dxb, fsb, hb, lbl, lbc, lbm⟩, hl, hL, hn, hok, k⟩ := h
  have ZG := kdm (P := P) (w := w) (base := base) W
  refine ⟨_, kae (ka5 (pv 0) (kbw kah) rfl)
   (kae (ka5 (pv 0) (kbw kah) rfl)
   (kae (ka5 (pv 0) (kap (pv 1) rfl) rfl)
   (kae (ka5 (pv 0) (kbw kah) rfl)
   (kak (kbQ PassesOwn.never rfl (kho rfl W.B.enum (kaa (kap (pv 1) rfl) kah)) (kcZ rfl (kaK (kau (i := 2) QA.nd rfl (Or.inl rfl)) (kaK (kau (i := 3) QA.nd rfl (Or.inl rfl)) kbR)))
   (kae (kav (i := 4) QA.nd rfl (Or.inl rfl) (kao ZG hr rfl W.q9.m W.q9.F.kp W.q9.b .nil pass0 (kaa (pv 3) (kaa (kap (pv 1) rfl) kah))))
   (kae (kby (pe_bm Ct SG SH kfw (kap (pv 0) rfl) (kaa (pe_op kht (kbw (kaa (pv 2) kah)) (kap (pv 3) rfl)) kah)))
   (kae (kby (pe_bm Ct SG SH kfw (kap (pv 0) rfl) (kaa (pe_op kht (kbw (kaa (pv 4) kah)) (kap (pv 3) rfl)) kah)))
   (kak (kby (pe_bm Ct CN CO kbG (kap (pv 0) rfl) (kaa pe_bl kah)))))))))))), ?_⟩
  have nbx : b ≠ x := ne_of hb hx (by
   intro z
   injection z with _ _ z
   rw [z] at lbl
   cases lbl)
  have nlx : l ≠ x := ne_of hl hx (by intro z; cases z)
  refine ⟨by decide, fun o ho => ?_⟩
  have nox : o ≠ x := (kal hx ho).symm
  refine ⟨_, rfl, x, d.qc, dx, [], rfl, kaj ho _ _ hx, W.qc.cl, W.n_Standing_owners, by decide, ?_⟩
  have b1 : But x H (upd (upd H o (.lst [])) x (.ins d.qc dx (putF "owners" (.ref o) []))) := (But.of_same (kaj ho)).trans kaz
  refine ⟨by decide, fun p hp => ?_⟩
  have npx : p ≠ x := fun e => by
   rw [e, kad] at hp
   cases hp
  have nop : o ≠ p := fun e => by
   rw [← e, kam nox, kad] at hp
   cases hp
  have hp0 : H p = none := by
   cases e : H p with
   | none => rfl
   | some u =>
    obtain ⟨u', e'⟩ := ke8 (b1 p u npx e)
    rw [e'] at hp
    cases hp
  refine ⟨_, rfl, x, d.qc, dx, _, rfl, kaj hp _ _ kad, W.qc.cl, W.n_Standing_prices, few (FQ (kan (n := 0) (FM _)) (by decide)), ?_⟩
  have b2 := (b1.same (kaj (o := .lst []) hp)).trans (kaz (o := .ins d.qc dx (putF "prices" (.ref p) (putF "owners" (.ref o) []))))
  refine ⟨_, rfl, b, d.qi, dxb, fsb, _, rfl, b2 b _ nbx hb, W.qi.cl, W.n_Basket_carriage, lbc, _, rfl, x, d.qc, dx, _, rfl, kad, W.qc.cl, W.n_Standing_carriage, few (FQ (kan (kan (n := 0) (FM _))) (by decide)), ?_⟩
  have b3 := b2.trans (kaz (o := .ins d.qc dx (putF "carriage" (.int cg) (putF "prices" (.ref p) (putF "owners" (.ref o) [])))))
  refine ⟨by decide, fun mk hm => ?_⟩
  have nmx : mk ≠ x := fun e => by
   rw [e, kad] at hm
   cases hm
  have hm0 : H mk = none := by
   cases e : H mk with
   | none => rfl
   | some u =>
    obtain ⟨u', e'⟩ := ke8 (b3 mk u nmx e)
    rw [e'] at hm
    cases hm
  have nom : o ≠ mk := fun e => by
   rw [← e, kam nox, kam nox, kam nop, kam nox, kad] at hm
   cases hm
  have npm : p ≠ mk := fun e => by
   rw [← e, kam npx, kam npx, kad] at hm
   cases hm
  refine ⟨_, rfl, x, d.qc, dx, _, rfl, kaj hm _ _ kad, W.qc.cl, W.n_Standing_marked, few (FQ (kan (kan (kan (n := 0) (FM _)))) (by decide)), ?_⟩
  have b4 := (b3.same (kaj (o := .lst []) hm)).trans (kaz (o := .ins d.qc dx (putF "marked" (.ref mk) (putF "carriage" (.int cg) (putF "prices" (.ref p) (putF "owners" (.ref o) []))))))
  have Di : Ds H x o p mk := ⟨ho, hp0, hm0, nox, npx, nmx, nop, nom, npm⟩
  have Z0 : S3 H x d.qc dx (putF "marked" (.ref mk) (putF "carriage" (.int cg) (putF "prices" (.ref p) (putF "owners" (.ref o) [])))) o p mk [] [] [] (upd (upd (upd (upd (upd (upd (upd H o (.lst [])) x (.ins d.qc dx (putF "owners" (.ref o) []))) p (.lst [])) x (.ins d.qc dx (putF "prices" (.ref p) (putF "owners" (.ref o) []))))
    x (.ins d.qc dx (putF "carriage" (.int cg) (putF "prices" (.ref p) (putF "owners" (.ref o) []))))) mk (.lst [])) x (.ins d.qc dx (putF "marked" (.ref mk) (putF "carriage" (.int cg) (putF "prices" (.ref p) (putF "owners" (.ref o) [])))))) := by
   refine ⟨b4, kad, ?_, ?_, ?_⟩
   ·rw [kam nox, kam nom, kam nox, kam nox, kam nop, kam nox, kad]
   ·rw [kam npx, kam npm, kam npx, kam npx, kad]
   ·rw [kam nmx, kad]
  have l1 : (putF "marked" (.ref mk) (putF "carriage" (.int cg) (putF "prices" (.ref p) (putF "owners" (.ref o) [])))).lookup ("owners" : Str) = some (.ref o) := by
   rw [kac, if_neg (by decide +kernel), kac, if_neg (by decide +kernel), kac, if_neg (by decide +kernel), kac, if_pos rfl]
  have l2 : (putF "marked" (.ref mk) (putF "carriage" (.int cg) (putF "prices" (.ref p) (putF "owners" (.ref o) [])))).lookup ("prices" : Str) = some (.ref p) := by
   rw [kac, if_neg (by decide +kernel), kac, if_neg (by decide +kernel), kac, if_pos rfl]
  have l3 : (putF "marked" (.ref mk) (putF "carriage" (.int cg) (putF "prices" (.ref p) (putF "owners" (.ref o) [])))).lookup ("carriage" : Str) = some (.int cg) := by
   rw [kac, if_neg (by decide +kernel), kac, if_pos rfl]
  have l4 : (putF "marked" (.ref mk) (putF "carriage" (.int cg) (putF "prices" (.ref p) (putF "owners" (.ref o) [])))).lookup ("marked" : Str) = some (.ref mk) := by
   rw [kac, if_pos rfl]
  have l5 : (putF "marked" (.ref mk) (putF "carriage" (.int cg) (putF "prices" (.ref p) (putF "owners" (.ref o) [])))).lookup ("whole" : Str) = none := by
   rw [kac, if_neg (by decide +kernel), kac, if_neg (by decide +kernel), kac, if_neg (by decide +kernel), kac, if_neg (by decide +kernel)]
   rfl
  have lfs : (putF "marked" (.ref mk) (putF "carriage" (.int cg) (putF "prices" (.ref p) (putF "owners" (.ref o) [])))).length ≤ 10 := FQ (kan (kan (kan (kan (n := 0) (FM _))))) (by decide)
  generalize putF "marked" (.ref mk) (putF "carriage" (.int cg) (putF "prices" (.ref p) (putF "owners" (.ref o) []))) = fs at *
  generalize (upd (upd (upd (upd (upd (upd (upd H o (.lst [])) x (.ins d.qc dx (putF "owners" (.ref o) []))) p (.lst [])) x (.ins d.qc dx (putF "prices" (.ref p) (putF "owners" (.ref o) []))))
    x (.ins d.qc dx (putF "carriage" (.int cg) (putF "prices" (.ref p) (putF "owners" (.ref o) []))))) mk (.lst [])) x (.ins d.qc dx fs)) = Hs at *
  refine ⟨_, rfl, b, d.qi, dxb, fsb, _, rfl, Z0.bt b _ nbx hb, W.qi.cl, W.n_Basket_lines, lbl, l, _, rfl, Z0.bt l _ nlx hl, kiY (xs := ls.map V.ref) (fun i σ H' => (∃ v2 v3 v4 : Option V, σ = [some (.ref x), some (.ref b), v2, v3, v4]) ∧
   S3 H x d.qc dx fs o p mk ((own (rs.take i)).map V.int) ((prs m (rs.take i)).map V.int) (FO i (.bl false)) H') ⟨⟨none, none, none, rfl⟩, Z0⟩ (fun i σ H' _ ⟨_, Z⟩ => Z.bt l _ nlx hl) ?_ ?_⟩
  ·rintro i y t σ H1 hy ⟨⟨v2, v3, v4, rfl⟩, Z⟩ ht
   have hll := hL.len
   have hil : i < (ls.map V.ref).length := (FZ.mp hy).1
   rw [FJ] at hil
   obtain ⟨lx, el, rfl⟩ : ∃ lx, ls[i]? = some lx ∧ y = V.ref lx := by
    rw [F0] at hy
    cases e : ls[i]? with
    | none => rw [e] at hy; cases hy
    | some z => rw [e] at hy; exact ⟨z, rfl, (Option.some.inj hy).symm⟩
   obtain ⟨r, er⟩ : ∃ r, rs[i]? = some r := ⟨rs[i]'(by omega), by simp [show i < rs.length by omega]⟩
   have hr' : r.Ok := hok r (FV er)
   obtain ⟨dxl, fsl, hlx, lk1, lk2, lk3, lk4⟩ := hL.get el er
   have nlxx : lx ≠ x := ne_of hlx hx (by
    intro z
    injection z with _ _ z
    rw [z] at lk1
    cases lk1)
   have hmn0 := hr'.mn0
   have hmn1 := hr'.mn1
   have Z1 := Z.same (kaj (o := .tup [.int (i : Nat), V.ref lx]) ht)
   have lo1 : ((own (rs.take i)).map V.int).length ≤ 720 := by
    rw [FJ]
    have := khs (rs.take i) fun r hr => hok r (Rj hr)
    rw [F2] at this
    omega
   have lp1 : ((prs m (rs.take i)).map V.int).length ≤ 720 := by
    rw [FJ]
    have := kfU m (rs.take i) fun r hr => hok r (Rj hr)
    rw [F2] at this
    omega
   refine ⟨t, _, rfl, SqT.of kad, rfl, _, _, rfl, _, _, rfl, rfl, ?_⟩
   refine ⟨_, rfl, _, rfl, b, d.qi, dxb, fsb, _, rfl, Z1.bt b _ nbx hb, W.qi.cl, W.n_Basket_member, lbm, lx, m, r, rfl, ⟨dxl, fsl, Z1.bt lx _ nlxx hlx, lk1, lk2, lk3, lk4⟩, ?_⟩
   refine ⟨_, rfl, x, d.qc, dx, fs, _, rfl, Z1.ob, W.qc.cl, W.n_Standing_owners, l1, .inl ⟨rfl, _, SqL.of Z1.ho⟩, _, rfl, (by show 1 ≤ sizeLine; decide), fun t1 ht1 => ?_⟩
   have Z2 := Z1.same (kaj (o := .lst [V.int (i : Nat)]) ht1)
   refine ⟨_, rfl, lx, d.qe, dxl, fsl, _, rfl, Z2.bt lx _ nlxx hlx, W.qe.cl, W.n_Line_many, lk3, t1, _, _, rfl, rfl, kad, by omega, by omega, FY (kar (by simp; omega)), fun t2 ht2 => ?_⟩
   have Z3 := Z2.same (kaj (o := .lst (FO r.mn.toNat [V.int (i : Nat)]).flatten) ht2)
   refine ⟨o, t2, _, _, rfl, rfl, Z3.ho, kad, FY (kar (by rw [rep1, CI]; omega)), ?_⟩
   have Z4 := Z3.setO (d := (own (rs.take i)).map V.int ++ (FO r.mn.toNat [V.int (i : Nat)]).flatten) Di
   refine ⟨_, rfl, x, d.qc, dx, fs, _, rfl, Z4.ob, W.qc.cl, W.n_Standing_prices, l2, .inl ⟨rfl, _, SqL.of Z4.hp⟩, _, rfl, (by show 1 ≤ sizeLine; decide), fun t3 ht3 => ?_⟩
   have Z5 := Z4.same (kaj (o := .lst [V.int (prc m r)]) ht3)
   refine ⟨_, rfl, lx, d.qe, dxl, fsl, _, rfl, Z5.bt lx _ nlxx hlx, W.qe.cl, W.n_Line_many, lk3, t3, _, _, rfl, rfl, kad, by omega, by omega, FY (kar (by simp; omega)), fun t4 ht4 => ?_⟩
   have Z6 := Z5.same (kaj (o := .lst (FO r.mn.toNat [V.int (prc m r)]).flatten) ht4)
   refine ⟨p, t4, _, _, rfl, rfl, Z6.hp, kad, FY (kar (by rw [rep1, CI]; omega)), ?_⟩
   have Z7 := Z6.setP (d := (prs m (rs.take i)).map V.int ++ (FO r.mn.toNat [V.int (prc m r)]).flatten) Di
   refine ⟨_, rfl, x, d.qc, dx, fs, _, rfl, Z7.ob, W.qc.cl, W.n_Standing_marked, l4, .inl ⟨rfl, _, SqL.of Z7.hm⟩, mk, _, _, rfl, rfl, Z7.hm, kar (by simp; omega), ?_⟩
   have Z8 := Z7.setM (d := FO i (V.bl false) ++ [V.bl false]) Di
   refine ⟨⟨_, _, _, rfl⟩, ?_⟩
   have e1 : (own (rs.take i)).map V.int ++ (FO r.mn.toNat [V.int (i : Nat)]).flatten = (own (rs.take (i + 1))).map V.int := by
    rw [take_snoc er, kiF, FX, rep1, kfT, F2, Ro (by omega)]
   have e2 : (prs m (rs.take i)).map V.int ++ (FO r.mn.toNat [V.int (prc m r)]).flatten = (prs m (rs.take (i + 1))).map V.int := by
    rw [take_snoc er, kgh, FX, rep1, kfT]
   have e3 : FO i (V.bl false) ++ [V.bl false] = FO (i + 1) (V.bl false) := by rw [RQ]
   rw [← e1, ← e2, ← e3]
   exact Z8
  ·rintro σ H' ⟨⟨v2, v3, v4, rfl⟩, Z⟩
   have hll := hL.len
   have e : (ls.map V.ref).length = rs.length := by rw [FJ, hll]
   rw [e, Cw] at Z
   exact k H' o p mk Z.bt ho hp0 hm0 ⟨dx, fs, Z.ob, l1, l2, l3, l4, l5⟩ Z.ho Z.hp Z.hm ⟨dx, fs, Z.ob, lfs⟩
theorem kdg : kas ["self"] ["self"] (kab kaP) := ⟨rfl, rfl, rfl, by decide +kernel, rfl, by decide +kernel, by decide +kernel⟩
theorem kdq (W : WB K mg d base) : FnOk P w K mg base CX0 1 d.YV d.YW ["self"] (kjH d.qc) := by
 refine FunD.ok W.Q0.F kdg (fun vs H Q E h => ?_) (fun cdv A outer s H vs Q E hr h => ?_)
 ·obtain ⟨x, o, p, mk, cg, ns, rfl, _⟩ := h
  rfl
 ·obtain ⟨x, o, p, mk, cg, ns, rfl, ⟨dx, fs, hx, l1, l2, l3, l4, l5⟩, hp, k⟩ := h
  refine ⟨_, kak (kat (pe_op kaY (kaQ (kci rfl) (by rfl) W.B.sum b_sum (kaa (kap (pv 0) rfl) kah)) (kap (pv 0) rfl))), ?_⟩
  exact ⟨_, rfl, x, d.qc, dx, fs, _, rfl, hx, W.qc.cl, W.n_Standing_prices, l2, p, ns, rfl, SqL.of hp, _, rfl, x, d.qc, dx, fs, _, rfl, hx, W.qc.cl, W.n_Standing_carriage, l3, _, _, rfl, rfl, k⟩
noncomputable def kkC (K : FK) (CM : Addr) : Sp := fun vs H Q _ => ∃ (mA a : Addr) (M : Mks) (ps : List (Option Nat)) (kn : Nat) (mk : Bool), vs = [.ref mA, .ref a, .int kn, .bl mk] ∧ MksIs CM H mA M ∧ SqL K H a (ps.map pV) ∧ Good ps ∧ kn < ps.length ∧ Q (.bl (kHit ps M.kind kn && (!M.lone || !mk))) H
theorem kjX : kas ["marks", "parents", "kind", "marked"] ["marks", "parents", "kind", "marked"] (kab kcs) := ⟨rfl, rfl, rfl, by decide +kernel, rfl, by decide +kernel, by decide +kernel⟩
theorem kj8 (W : WB K mg d base) : FnOk P w K mg base CX0 2 d.Xv d.Xw ["marks", "parents", "kind", "marked"] (kkC K d.qh) := by
 refine FunD.ok W.Qa.F kjX (fun vs H Q E h => ?_) (fun cdv A outer s H vs Q E hr h => ?_)
 ·obtain ⟨mA, a, M, ps, kn, mk, rfl, _⟩ := h
  rfl
 ·obtain ⟨mA, a, M, ps, kn, mk, rfl, ⟨dx, fs, hm, l1, l2, l3, l4, l5, l6⟩, hS, hg, hk, k⟩ := h
  have ZH := kiI (P := P) (w := w) (base := base) W
  refine ⟨_, kae (kcY (ps_if (PW.pt (kb6 (kbF (kap (pv 0) rfl)) (kbS (kbF (pv 3))))) (kak (kat pe_bl)) (kaA)))
   (kak (kat (pe_or (kbU kez (kap (pv 0) rfl) kbC (kaF _)) (khp (kao ZH hr rfl W.qZ.m W.qZ.F.kp W.qZ.b .nil pass0 (kaa (pv 1) (kaa (pv 2) (kaa (kap (pv 0) rfl) kah)))))))), ?_⟩
  refine ⟨fun σ' H' => σ' = [some (.ref mA), some (.ref a), some (.int kn), some (.bl mk)] ∧ H' = H ∧ (!M.lone || !mk) = true, ⟨_, rfl, mA, d.qh, dx, fs, _, rfl, hm, W.qh.cl, W.n_Marks_lone, l6, M.lone, rfl, ?_⟩, ?_⟩
  ·cases e : M.lone with
   | false => exact iteF (iteF ⟨rfl, rfl, rfl⟩)
   | true =>
    refine iteT ⟨_, rfl, mk, rfl, ?_⟩
    cases mk with
    | false => exact iteF ⟨rfl, rfl, rfl⟩
    | true =>
     refine iteT ?_
     rw [e, show (kHit ps M.kind kn && (!true || !true)) = false by simp] at k
     exact k
  ·rintro σ' H' ⟨rfl, rfl, hh⟩
   rw [hh, Bool.and_true] at k
   cases ek : M.kind with
   | none =>
    rw [ek] at l1 k
    refine ⟨_, rfl, mA, d.qh, dx, fs, _, rfl, hm, W.qh.cl, W.n_Marks_kind, l1, rfl, _, rfl, ?_⟩
    show if decide (V.non = V.non) = true then _ else _
    rw [show decide (V.non = V.non) = true by simp]
    exact iteT k
   | some kk =>
    rw [ek] at l1 k
    refine ⟨_, rfl, mA, d.qh, dx, fs, _, rfl, hm, W.qh.cl, W.n_Marks_kind, l1, rfl, _, rfl, ?_⟩
    show if decide (V.int (kk : Nat) = V.non) = true then _ else _
    rw [show decide (V.int (kk : Nat) = V.non) = false by simp]
    exact iteF ⟨_, rfl, _, rfl, _, rfl, mA, d.qh, dx, fs, _, rfl, hm, W.qh.cl, W.n_Marks_kind, l1, a, ps, kn, kk, rfl, hS, hg, hk, k⟩
theorem Y8 : kas ["voucher", "parents", "basket", "standing", "fitting"] ["voucher", "parents", "basket", "standing"] (kab kbP) := ⟨rfl, rfl, rfl, by decide +kernel, rfl, by decide +kernel, by decide +kernel⟩
theorem kgp (W : WB K mg d base) : FnOk P w K mg base CX0 3 d.Xt d.Xu ["voucher", "parents", "basket", "standing"] (kjV K d) := by
 refine FunD.ok W.qG.F Y8 (fun vs H Q E h => ?_) (fun cdv A outer s H vs Q E hr h => ?_)
 ·obtain ⟨v, a, b, x, V, ps, B, S, rfl, _⟩ := h
  rfl
 ·obtain ⟨v, a, b, x, Vc, ps, B, S, rfl, hV, hA, hB, hS, wf, vo, k⟩ := h
  obtain ⟨mA, dxv, fsv, hv, lvm, _, hM, hh, htb⟩ := id hV
  obtain ⟨l, ls, ⟨dxb, fsb, hb, lb1, lb2, lb3⟩, hl, hL⟩ := id hB
  obtain ⟨o, p, mk, ⟨dxs, fss, hx, l1, l2, l3, l4, l5⟩, ho, hp, hmk⟩ := id hS
  have ZI := kj8 (P := P) (w := w) (base := base) W
  refine ⟨_, kae (kav (i := 4) Y8.nd rfl (Or.inr rfl) (kbT (N := ["line", "marked", "voucher", "parents"]) (CompScope.of (N := ["line", "marked", "voucher", "parents"]) (cap := [none, none, some 0, some 1]) (kab kbP).names ["voucher", "parents", "basket", "standing", "fitting"] rfl rfl (by decide +kernel)) rfl (kdj rfl W.B.zip (kaa (kap (pv 2) rfl) (kaa (kap (pv 3) rfl) kah))) (fun _ _ _ _ => kdk (K := K) (n := 2) rfl (kaK (kau (i := 0) (show (["line", "marked", "voucher", "parents"] : List Str).Nodup by decide +kernel) rfl (Or.inl rfl)) (kaK (kau (i := 1) (show (["line", "marked", "voucher", "parents"] : List Str).Nodup by decide +kernel) rfl (Or.inl rfl)) kbR))) (fun _ _ _ _ => (kao ZI hr rfl W.Qa.m W.Qa.F.kp W.Qa.b .nil pass0 (kaa (kck (K := K) (pv 2) rfl) (kaa (pv 3) (kaa (kck (K := K) (pv 0) rfl) (kaa (pv 1) kah))))))))
   (kak (kat (kiD (N := ["piece", "owner", "fitting"]) (CompScope.of (N := ["piece", "owner", "fitting"]) (cap := [none, none, some 4]) (kab kbP).names ["voucher", "parents", "basket", "standing", "fitting"] rfl rfl (by decide +kernel)) rfl (kho rfl W.B.enum (kaa (kap (pv 3) rfl) kah)) (fun _ _ _ _ => kdk (K := K) (n := 2) rfl (kaK (kau (i := 0) (show (["piece", "owner", "fitting"] : List Str).Nodup by decide +kernel) rfl (Or.inl rfl)) (kaK (kau (i := 1) (show (["piece", "owner", "fitting"] : List Str).Nodup by decide +kernel) rfl (Or.inl rfl)) kbR))) (fun _ _ _ _ => kj5 (kbF (pe_ix (r := rIxL K) kbu (pv 2) (pv 1) (fun _ _ => rfl)))) (fun _ _ _ _ => (pv 0))))), ?_⟩
  have np := wf.np
  have nl := wf.nl
  have lenL := hL.len
  have lenM := wf.lm
  have emin : min (ls.map V.ref).length (S.mkd.map V.bl).length = B.rs.length := by rw [FJ, FJ, lenL, lenM, C8]
  refine ⟨_, rfl, b, d.qi, dxb, fsb, _, rfl, hb, W.qi.cl, W.n_Basket_lines, lb1, _, rfl, x, d.qc, dxs, fss, _, rfl, hx, W.qc.cl, W.n_Standing_marked, l4, l, mk, _, _, rfl, hl, hmk,
   kdP (xs := ls.map V.ref) (ys := S.mkd.map V.bl) (fun i σ zs H' => Same H H' ∧ zs = ((FU i).map fun l => hits ps (kds B) Vc.ms.kind Vc.ms.lone S.mkd l).map V.bl ∧ ∃ v0 v1 : Option V, σ = [v0, v1, some (.ref v), some (.ref a)])
    ⟨Same.refl _, rfl, none, none, rfl⟩ (by rw [emin]; exact FY (kar (by omega))) (fun i σ zs H' _ h => ⟨h.1 _ _ hl, h.1 _ _ hmk, by rw [h.2.1]; simp⟩) ?_ ?_⟩
  ·rintro i y m t σ zs H1 hy hm ⟨s1, rfl, v0, v1, rfl⟩ ht
   obtain ⟨lx, elx, rfl⟩ := kb9 hy
   obtain ⟨mv, emv, rfl⟩ := kbY hm
   obtain ⟨r, er, hr⟩ := hL.at elx
   have s2 := s1.trans (kaj (o := .tup [V.ref lx, V.bl mv]) ht)
   obtain ⟨dxl, fsl, hlx, lk1, _⟩ := hr.same s2
   have hkd := wf.kd r (FV er)
   obtain ⟨kn, ekn⟩ := Int.eq_ofNat_of_zero_le hkd.1
   have hkn : kn < ps.length := by omega
   refine ⟨t, _, rfl, SqT.of kad, rfl, _, _, rfl, _, _, rfl, rfl, ?_⟩
   refine ⟨_, rfl, v, clsOf d Vc.so, dxv, fsv, _, rfl, s2 _ _ hv, cl_of W hh, na_of W hh, lvm, _, rfl, _, rfl, lx, d.qe, dxl, fsl, _, rfl, hlx, W.qe.cl, W.n_Line_kind, lk1, _, rfl, mA, a, Vc.ms, ps, kn, mv, by rw [ekn]; rfl, hM.same s2, s2.seq hA, wf.good, hkn, s2, ?_, _, _, rfl⟩
   have e1 : hits ps (kds B) Vc.ms.kind Vc.ms.lone S.mkd i = (kHit ps Vc.ms.kind kn && (!Vc.ms.lone || !mv)) := by
    unfold hits
    have e2 : S.mkd.getD i false = mv := by rw [F6, emv]; rfl
    rw [e2, kkX er, ekn, Int.toNat_natCast]
   rw [CY, FX, FX, ← e1]
   rfl
  rintro σ zs H1 ⟨s1, rfl, v0, v1, rfl⟩ D hD
  rw [emin]
  have s2 := s1.trans (kaj (o := .lst (((FU B.rs.length).map fun l => hits ps (kds B) Vc.ms.kind Vc.ms.lone S.mkd l).map V.bl)) hD)
  have eD : (upd H1 D (.lst (((FU B.rs.length).map fun l => hits ps (kds B) Vc.ms.kind Vc.ms.lone S.mkd l).map V.bl))) D = some (.lst (((FU B.rs.length).map fun l => hits ps (kds B) Vc.ms.kind Vc.ms.lone S.mkd l).map V.bl)) := kad
  generalize upd H1 D (.lst (((FU B.rs.length).map fun l => hits ps (kds B) Vc.ms.kind Vc.ms.lone S.mkd l).map V.bl)) = H2 at *
  refine ⟨_, rfl, x, d.qc, dxs, fss, _, rfl, s2 _ _ hx, W.qc.cl, W.n_Standing_owners, l1, o, _, rfl, s2 _ _ ho,
   kgV (xs := S.ow.map iV) (fun i σ ys H' => Same H2 H' ∧ ys = ((FU i).filter fun i => hits ps (kds B) Vc.ms.kind Vc.ms.lone S.mkd (S.ow.getD i 0)).map iV ∧ ∃ v0 v1 : Option V, σ = [v0, v1, some (.ref D)])
    ⟨Same.refl _, rfl, none, none, rfl⟩ (by rw [FJ]; exact FY (kar (by omega))) (fun i σ zs H' _ h => ⟨h.1 _ _ (s2 _ _ ho), by rw [h.2.1, FJ]; have := RL (fun i => hits ps (kds B) Vc.ms.kind Vc.ms.lone S.mkd (S.ow.getD i 0)) (FU i); simpa using this⟩) ?_ ?_⟩
  ·rintro i y t σ zs H3 hy ⟨s3, rfl, v0, v1, rfl⟩ ht
   obtain ⟨ln, eln, rfl⟩ := kbY hy
   have hln := wf.line eln
   have s4 := s3.trans (kaj (o := .tup [V.int (i : Nat), iV ln]) ht)
   refine ⟨t, _, rfl, SqT.of kad, rfl, _, _, rfl, _, _, rfl, rfl, ?_⟩
   refine ⟨_, rfl, _, rfl, D, _, _, _, rfl, rfl, SqL.of (s4 _ _ eD), kbN (v := .bl (hits ps (kds B) Vc.ms.kind Vc.ms.lone S.mkd ln)) (by rw [F0, F0, RP hln]; rfl), _, rfl, ?_⟩
   have e1 : S.ow.getD i 0 = ln := by rw [F6, eln]; rfl
   have st := kja (ps := ps) (kk := kds B) (kind := Vc.ms.kind) (lone := Vc.ms.lone) (S := S) (i := i)
   rw [e1] at st
   cases hh2 : hits ps (kds B) Vc.ms.kind Vc.ms.lone S.mkd ln with
   | false => exact iteF ⟨s4, by rw [st, hh2]; simp, _, _, rfl⟩
   | true => exact iteT ⟨_, rfl, s4, by rw [st, hh2, if_pos rfl, FX]; rfl, _, _, rfl⟩
  ·rintro σ zs H3 ⟨s3, rfl, v0, v1, rfl⟩ D2 hD2
   rw [FJ]
   have s4 := (s2.trans s3).trans (kaj (o := .lst ((abt ps (kds B) Vc.ms.kind Vc.ms.lone S).map iV)) hD2)
   exact k _ D2 s4 (none_of (s2.trans s3) hD2) kad
noncomputable def kgF (CS : Addr) : Sp := fun vs H Q _ => ∃ (x g : Addr) (S : Stnd) (is : List Nat), vs = [.ref x, .ref g] ∧ StndIs CS H x S ∧ H g = some (.lst (is.map iV)) ∧ (∀ i ∈ is, i < S.pr.length) ∧ is.length ≤ 720 ∧
 ∀ p, H p = none → Q (.ref p) (upd H p (.lst ((qs S.pr is).map V.int)))
theorem kfi : kas ["standing", "pieces"] ["standing", "pieces"] (kab kbj) := ⟨rfl, rfl, rfl, by decide +kernel, rfl, by decide +kernel, by decide +kernel⟩
theorem kdw (W : WB K mg d base) : FnOk P w K mg base CX0 1 d.XS d.XT ["standing", "pieces"] (kgF d.qc) := by
 refine FunD.ok W.qK.F kfi (fun vs H Q E h => ?_) (fun cdv A outer s H vs Q E hr h => ?_)
 ·obtain ⟨x, g, S, is, rfl, _⟩ := h
  rfl
 ·obtain ⟨x, g, S, is, rfl, ⟨o, p, mk, ⟨dxs, fss, hx, l1, l2, l3, l4, l5⟩, ho, hp, hmk⟩, hg, hi, hl, k⟩ := h
  refine ⟨_, kak (kat (kbT (N := ["piece", "standing"]) (CompScope.of (N := ["piece", "standing"]) (cap := [none, some 0]) (kab kbj).names ["standing", "pieces"] rfl rfl (by decide +kernel)) rfl (kbx (pv 1)) (fun _ _ _ _ => kau (i := 0) (show (["piece", "standing"] : List Str).Nodup by decide +kernel) rfl (Or.inl rfl)) (fun _ _ _ _ => (pe_ix (r := rIxL K) kbu (kck (K := K) (pv 1) rfl) (pv 0) (fun _ _ => rfl))))), ?_⟩
  refine ⟨_, rfl, g, rfl, ⟨_, SqL.of hg⟩, kbI (xs := is.map iV) (fun j σ ys H' => H' = H ∧ ys = (qs S.pr (is.take j)).map V.int ∧ ∃ v, σ = [v, some (.ref x)]) ⟨rfl, rfl, none, rfl⟩ ?_ ?_ ?_ ?_⟩
  ·rw [FJ]
   exact FY (kar (by omega))
  ·rintro j σ ys H' hj ⟨rfl, rfl, _⟩
   exact ⟨SqL.of hg, by rw [FJ, kcg, F2]; rw [FJ] at hj; omega⟩
  ·rintro j y σ ys H' hy ⟨rfl, rfl, v, rfl⟩
   obtain ⟨n, en, rfl⟩ : ∃ n, is[j]? = some n ∧ y = iV n := kbY hy
   obtain ⟨z, ez⟩ := at_of (hi n (FV en))
   refine ⟨_, rfl, x, d.qc, dxs, fss, _, rfl, hx, W.qc.cl, W.n_Standing_prices, l2, _, rfl, p, _, _, _, rfl, rfl, SqL.of hp, kbN (by rw [F0, ez]; rfl), rfl, ?_, _, rfl⟩
   rw [CV, en]
   simp [qs, ez]
  ·rintro σ ys H' ⟨rfl, rfl, v, rfl⟩ D hD
   rw [FJ, Cw]
   exact k D hD
noncomputable def kjL (CS : Addr) : Sp := fun vs H Q _ => ∃ (x g : Addr) (S : Stnd) (is : List Nat), vs = [.ref x, .ref g] ∧ StndIs CS H x S ∧ H g = some (.lst (is.map iV)) ∧ (∀ i ∈ is, i < S.pr.length) ∧ is.length ≤ 720 ∧
 ∀ H', Same H H' → Q (.int (qs S.pr is).sum) H'
theorem kdC : kas ["standing", "pieces"] ["standing", "pieces"] (kab kaU) := ⟨rfl, rfl, rfl, by decide +kernel, rfl, by decide +kernel, by decide +kernel⟩
theorem kcu (W : WB K mg d base) : FnOk P w K mg base CX0 2 d.XU d.XW ["standing", "pieces"] (kjL d.qc) := by
 refine FunD.ok W.qp.F kdC (fun vs H Q E h => ?_) (fun cdv A outer s H vs Q E hr h => ?_)
 ·obtain ⟨x, g, S, is, rfl, _⟩ := h
  rfl
 ·obtain ⟨x, g, S, is, rfl, hS, hg, hi, hl, k⟩ := h
  have Q6 := kdw (P := P) (w := w) (base := base) W
  refine ⟨_, kak (kat (kaQ (kci rfl) (by rfl) W.B.sum b_sum (kaa (kao Q6 hr rfl W.qK.m W.qK.F.kp W.qK.b .nil pass0 (kaa (pv 0) (kaa (pv 1) kah))) kah))), ?_⟩
  exact ⟨_, rfl, _, rfl, x, g, S, is, rfl, hS, hg, hi, hl, fun p hp => ⟨p, _, rfl, SqL.of kad, k _ (kaj hp)⟩⟩
theorem Q7 : kas ["voucher", "parents", "basket", "standing", "marks", "pieces"] ["voucher", "parents", "basket", "standing"] (kab kbo) := ⟨rfl, rfl, rfl, by decide +kernel, rfl, by decide +kernel, by decide +kernel⟩
theorem kfq (W : WB K mg d base) : FnOk P w K mg base CX0 4 d.Xx d.Xy ["voucher", "parents", "basket", "standing"] (kkB K d) := by
 refine FunD.ok W.Qb.F Q7 (fun vs H Q E h => ?_) (fun cdv A outer s H vs Q E hr h => ?_)
 ·obtain ⟨v, a, b, x, V, ps, B, S, rfl, _⟩ := h
  rfl
 ·obtain ⟨v, a, b, x, Vc, ps, B, S, rfl, hV, hA, hB, hS, wf, vo, k⟩ := h
  obtain ⟨mA, dxv, fsv, hv, lvm, _, hM, hh, htb⟩ := id hV
  obtain ⟨dxm, fsm, hm, m1, m2, m3, m4, m5, m6⟩ := id hM
  obtain ⟨l, ls, ⟨dxb, fsb, hb, lb1, lb2, lb3⟩, hl, hL⟩ := id hB
  have Q8 := kgp (P := P) (w := w) (base := base) W
  have qU := kcu (P := P) (w := w) (base := base) W
  have hr2 : Room 2 _ := hr.mono (by decide)
  refine ⟨_, kae (kav (i := 4) Q7.nd rfl (Or.inl rfl) (kap (pv 0) rfl))
   (kae (kcY (ps_if (PW.pt (kb6 (kbF (kap (pv 4) rfl)) (kbS (kfo (kbF (kap (pv 2) rfl)))))) (kak (kat kb7)) (kaA)))
   (kae (kav (i := 5) Q7.nd rfl (Or.inl rfl) (kao Q8 hr rfl W.qG.m W.qG.F.kp W.qG.b .nil pass0 (kaa (pv 0) (kaa (pv 1) (kaa (pv 2) (kaa (pv 3) kah))))))
   (kae (ps_if (kay op_eq (kaQ ka6 (by rfl) W.B.len b_len (kaa (pv 5) kah)) kai (kaF _)) (kak (kat kb7)) (kaA))
   (kae (ps_if (kay op_lt (kao qU hr2 rfl W.qp.m W.qp.F.kp W.qp.b .nil pass0 (kaa (pv 3) (kaa (pv 5) kah))) (kap (pv 4) rfl) (kaF _)) (kak (kat kb7)) (kaA))
   (kak (kat kbC)))))), ?_⟩
  have np := wf.np
  have habl : ∀ i ∈ abt ps (kds B) Vc.ms.kind Vc.ms.lone S, i < S.pr.length := fun i hi => by rw [wf.lp]; exact kgC hi
  have lab : (abt ps (kds B) Vc.ms.kind Vc.ms.lone S).length ≤ 720 := FQ (keo _ _ _ _ _) np
  refine ⟨_, rfl, v, clsOf d Vc.so, dxv, fsv, _, rfl, hv, cl_of W hh, na_of W hh, lvm, ?_⟩
  refine ⟨fun σ' H' => σ' = [some (.ref v), some (.ref a), some (.ref b), some (.ref x), some (.ref mA), none] ∧ H' = H ∧ (Vc.ms.member && !B.m) = false, ⟨_, rfl, mA, d.qh, dxm, fsm, _, rfl, hm, W.qh.cl, W.n_Marks_member, m4, Vc.ms.member, rfl, ?_⟩, ?_⟩
  ·cases e : Vc.ms.member with
   | false => exact iteF (iteF ⟨rfl, rfl, rfl⟩)
   | true =>
    refine iteT ⟨_, rfl, b, d.qi, dxb, fsb, _, rfl, hb, W.qi.cl, W.n_Basket_member, lb3, B.m, rfl, ?_⟩
    cases e2 : B.m with
    | true => exact iteF ⟨rfl, rfl, rfl⟩
    | false =>
     refine iteT ?_
     have z := k H (Same.refl _)
     unfold hindM at z
     rw [e, e2, if_pos (by decide)] at z
     exact z
  ·rintro σ' H' ⟨rfl, rfl, hh2⟩
   refine ⟨_, rfl, _, rfl, _, rfl, _, rfl, v, a, b, x, Vc, ps, B, S, rfl, hV, hA, hB, hS, wf, vo, fun H1 pa s1 f1 h1 => ?_⟩
   refine ⟨_, rfl, pa, _, rfl, .inl (SqL.of h1), rfl, _, rfl, ?_⟩
   have ed : decide (V.int (((abt ps (kds B) Vc.ms.kind Vc.ms.lone S).map iV).length : Nat) = V.int 0) = decide ((abt ps (kds B) Vc.ms.kind Vc.ms.lone S).length = 0) := by
    rw [FJ]
    by_cases h0 : (abt ps (kds B) Vc.ms.kind Vc.ms.lone S).length = 0
    ·rw [h0]
     rfl
    ·rw [decide_eq_false h0]
     refine decide_eq_false fun z => h0 ?_
     injection z with z
     omega
   show if decide (V.int (((abt ps (kds B) Vc.ms.kind Vc.ms.lone S).map iV).length : Nat) = V.int 0) = true then _ else _
   rw [ed]
   by_cases h0 : (abt ps (kds B) Vc.ms.kind Vc.ms.lone S).length = 0
   ·rw [decide_eq_true h0]
    refine iteT ?_
    have z := k H1 s1
    unfold hindM at z
    rw [hh2, if_neg (by decide), if_pos h0] at z
    exact z
   ·rw [decide_eq_false h0]
    refine iteF ⟨_, rfl, _, rfl, x, pa, S, _, rfl, hS.same s1, h1, habl, lab, fun H2 s2 => ?_⟩
    have z := k H2 (s1.trans s2)
    unfold hindM at z
    rw [hh2, if_neg (by decide), if_neg h0] at z
    refine ⟨_, rfl, mA, d.qh, dxm, fsm, _, rfl, (s1.trans s2) _ _ hm, W.qh.cl, W.n_Marks_needs, m2, _, _, rfl, rfl, _, rfl, ?_⟩
    by_cases h2 : (qs S.pr (abt ps (kds B) Vc.ms.kind Vc.ms.lone S)).sum < Vc.ms.needs
    ·rw [if_pos h2] at z
     rw [decide_eq_true h2]
     exact iteT z
    ·rw [if_neg h2] at z
     rw [decide_eq_false h2]
     exact iteF z
noncomputable def kiw : Sp := fun vs H Q _ => ∃ (m : Option Int) (n : Int), vs = [oV m, .int n] ∧ Q (.int (atM m n)) H
theorem kgI : kas ["most", "number"] ["most", "number"] (kab kbA) := ⟨rfl, rfl, rfl, by decide +kernel, rfl, by decide +kernel, by decide +kernel⟩
theorem kgN (W : WB K mg d base) : FnOk P w K mg base CX0 1 d.XX d.XY ["most", "number"] kiw := by
 refine FunD.ok W.Qh.F kgI (fun vs H Q E h => ?_) (fun cdv A outer s H vs Q E hr h => ?_)
 ·obtain ⟨m, n, rfl, _⟩ := h
  rfl
 ·obtain ⟨m, n, rfl, k⟩ := h
  refine ⟨_, kae (ps_if (kay kez (pv 0) kbC (kaF _)) (kak (kat (pv 1))) (kaA))
   (kak (kat (kaQ (kek rfl) (by rfl) W.B.min b_min (kaa (pv 0) (kaa (pv 1) kah))))), ?_⟩
  cases m with
  | none =>
   refine ⟨_, rfl, rfl, _, rfl, ?_⟩
   show if decide (V.non = V.non) = true then _ else _
   rw [show decide (V.non = V.non) = true by simp]
   exact iteT ⟨_, rfl, k⟩
  | some z =>
   refine ⟨_, rfl, rfl, _, rfl, ?_⟩
   show if decide (V.int z = V.non) = true then _ else _
   rw [show decide (V.int z = V.non) = false by simp]
   refine iteF ⟨_, rfl, _, rfl, _, _, rfl, ?_⟩
   have e : atM (some z) n = if n < z then n else z := by
    show min z n = _
    split <;> omega
   rw [e] at k
   exact k
noncomputable def khb (d : D) : Sp := fun vs H Q _ => ∃ (v x : Addr) (V : Vch) (S : Stnd), vs = [.ref v, .ref x] ∧ VchIs d H v V ∧ StndIs d.qc H x S ∧ Q (.int (if kbZ V.so = true then atM V.ms.most S.cg else 0)) H
theorem kcW : kas ["voucher", "standing"] ["voucher", "standing"] (kab kaH) := ⟨rfl, rfl, rfl, by decide +kernel, rfl, by decide +kernel, by decide +kernel⟩
theorem kch (W : WB K mg d base) : FnOk P w K mg base CX0 2 d.XF d.XG ["voucher", "standing"] (khb d) := by
 refine FunD.ok W.qI.F kcW (fun vs H Q E h => ?_) (fun cdv A outer s H vs Q E hr h => ?_)
 ·obtain ⟨v, x, V, S, rfl, _⟩ := h
  rfl
 ·obtain ⟨v, x, Vc, S, rfl, ⟨mA, dxv, fsv, hv, lvm, _, ⟨dxm, fsm, hm, m1, m2, m3, m4, m5, m6⟩, hh, htb⟩, ⟨o, p, mk, ⟨dxs, fss, hx, l1, l2, l3, l4, l5⟩, ho, hp, hmk⟩, k⟩ := h
  have ZJ := kgN (P := P) (w := w) (base := base) W
  refine ⟨_, kae (ps_if (kbF (kaQ kcd (by rfl) W.B.isi b_isi (kaa (pv 0) (kaa (kdl (v := .ref d.qo) (by rfl) W.Zk rfl) kah)))) (kak (kat (kao ZJ hr rfl W.Qh.m W.Qh.F.kp W.Qh.b .nil pass0 (kaa (kap (kap (pv 0) rfl) rfl) (kaa (kap (pv 1) rfl) kah))))) (kaA))
   (kak (kat kai)), ?_⟩
  have I := kjp W hh
  refine ⟨_, rfl, _, _, _, _, rfl, .inr ⟨_, rfl⟩, TyOf.ins hv (cl_of W hh) I.ha I.hn I.ht I.hm, kfz W hh, _, rfl, ?_⟩
  cases e : kbZ Vc.so with
  | false =>
   rw [e, if_neg FW] at k
   exact iteF k
  | true =>
   rw [e, if_pos rfl] at k
   exact iteT ⟨_, rfl, v, clsOf d Vc.so, dxv, fsv, _, rfl, hv, cl_of W hh, na_of W hh, lvm, mA, d.qh, dxm, fsm, _, rfl, hm, W.qh.cl, W.n_Marks_most, m3, _, rfl, x, d.qc, dxs, fss, _, rfl, hx, W.qc.cl, W.n_Standing_carriage, l3, _, _, rfl, k⟩
noncomputable def kvOf (G : List (Nat × List Nat)) (gl : List Addr) : List (Key × V) := Cp (fun p r => (Sum.inl (p.1 : Int), V.ref r)) G gl
theorem kgu : ∀ {G : List (Nat × List Nat)} {gl : List Addr}, gl.length = G.length → (kvOf G gl).map Prod.snd = gl.map V.ref
 | [], [], _ => rfl
 | [], r :: gl, h => by cases h
 | p :: G, [], h => by cases h
 | p :: G, r :: gl, h => by
  have ih := kgu (G := G) (gl := gl) (by simpa using h)
  show V.ref r :: (kvOf G gl).map Prod.snd = V.ref r :: gl.map V.ref
  rw [ih]
theorem kf2 : ∀ {G : List (Nat × List Nat)} {gl : List Addr} (o a : Nat), gl.length = G.length →
  (atK (kvOf G gl) (Sum.inl (o : Int)) = none ∧ ins G o a = G ++ [(o, [a])]) ∨ ∃ (j : Nat) (g : List Nat) (r : Addr), G[j]? = some (o, g) ∧ gl[j]? = some r ∧ atK (kvOf G gl) (Sum.inl (o : Int)) = some (.ref r) ∧ ins G o a = G.set j (o, g ++ [a])
 | [], gl, o, a, h => .inl ⟨rfl, rfl⟩
 | (l, g) :: G, [], o, a, h => by cases h
 | (l, g) :: G, r :: gl, o, a, h => by
  have hl : gl.length = G.length := by simpa using h
  unfold ins
  by_cases e : l = o
  ·subst e
   exact .inr ⟨0, g, r, rfl, rfl, by simp [kvOf, atK], by rw [if_pos rfl]; rfl⟩
  ·rw [if_neg e]
   have e' : ¬ ((l : Int) = (o : Int)) := fun z => e (by omega)
   have ea : atK (kvOf ((l, g) :: G) (r :: gl)) (Sum.inl (o : Int)) = atK (kvOf G gl) (Sum.inl (o : Int)) := by
    simp [kvOf, atK, Rp, e']
   rcases kf2 o a hl with ⟨h1, h2⟩ | ⟨j, g', r', h1, h2, h3, h4⟩
   ·exact .inl ⟨by rw [ea]; exact h1, by rw [h2]; rfl⟩
   ·exact .inr ⟨j + 1, g', r', by simpa using h1, by simpa using h2, by rw [ea]; exact h3, by rw [h4]; rfl⟩
theorem kiR {G : List (Nat × List Nat)} {gl : List Addr} {j o : Nat} {g g' : List Nat} (h : G[j]? = some (o, g)) : kvOf (G.set j (o, g')) gl = kvOf G gl := by
 unfold kvOf
 apply List.ext_getElem?
 intro i
 rw [Rr, Rr]
 by_cases e : j = i
 ·subst e
  have hj := at_lt h
  rw [Ru hj, h]
  cases gl[j]? <;> rfl
 ·rw [Rv e]
theorem khF {G : List (Nat × List Nat)} {gl : List Addr} {o : Nat} {g : List Nat} {e : Addr} (h : gl.length = G.length) : kvOf (G ++ [(o, g)]) (gl ++ [e]) = kvOf G gl ++ [(Sum.inl (o : Int), .ref e)] := by
 unfold kvOf
 rw [List.zipWith_append h.symm]
 rfl
structure Ptd (H H' : Hp) (dd : Addr) (gl : List Addr) (G : List (Nat × List Nat)) : Prop where
 sm : Same H H'
 nd : gl.Nodup
 fg : ∀ r ∈ gl, H r = none ∧ r ≠ dd
 dk : H' dd = some (.dK (kvOf G gl))
 ls : P2 (fun r p => H' r = some (.lst (p.2.map iV))) gl G
theorem Ptd.more {H H' : Hp} {dd e : Addr} {gl : List Addr} {G : List (Nat × List Nat)} (h : Ptd H H' dd gl G) (fd : H dd = none) (he : H' e = none) {o a : Nat} :
  Ptd H (upd (upd (upd H' e (.lst [])) dd (.dK (kvOf G gl ++ [(Sum.inl (o : Int), .ref e)]))) e (.lst [iV a])) dd (gl ++ [e]) (G ++ [(o, [a])]) := by
 have e0 : H e = none := none_of h.sm he
 have ned : e ≠ dd := fun z => by rw [z, h.dk] at he; cases he
 refine ⟨kax e0 (kax fd (h.sm.trans (kaj he)) (kcP (nx h.dk)))  (kcP (nx kad)), ?_, fun r hr => ?_, ?_, ?_⟩
 ·refine Sl.mpr ⟨h.nd, by simp, fun x hx y hy z => ?_⟩
  rw [CW] at hy
  subst hy z
  obtain ⟨i, hi⟩ := Ra.mp hx
  obtain ⟨p, _, hp⟩ := h.ls.at hi
  rw [hp] at he
  cases he
 ·rcases Cq.mp hr with hr | hr
  ·exact h.fg r hr
  ·rw [CW] at hr
   subst hr
   exact ⟨e0, ned⟩
 ·rw [kam ned.symm, kad, khF h.ls.len]
 ·refine P2.snoc (P2.of h.ls.len fun i r p e1 e2 => ?_) kad
  have hp := h.ls.get e1 e2
  rw [kam (kal hp he), kam (h.fg r (FV e1)).2, kam (kal hp he)]
  exact hp
theorem Ptd.put {H H' : Hp} {dd e r : Addr} {gl : List Addr} {G : List (Nat × List Nat)} (h : Ptd H H' dd gl G) (he : H' e = none) {j o a : Nat} {g : List Nat} (h1 : G[j]? = some (o, g)) (h2 : gl[j]? = some r) :
  Ptd H (upd (upd H' e (.lst [])) r (.lst (g.map iV ++ [iV a]))) dd gl (G.set j (o, g ++ [a])) := by
 have hr := h.fg r (FV h2)
 have hrv := h.ls.get h2 h1
 refine ⟨kax hr.1 (h.sm.trans (kaj he)), h.nd, h.fg, ?_, P2.of (by rw [List.length_set]; exact h.ls.len) fun i r' p e1 e2 => ?_⟩
 ·rw [kam hr.2.symm, kam (kal h.dk he), h.dk, kiR h1]
 ·by_cases eji : j = i
  ·subst eji
   rw [h2] at e1
   cases e1
   rw [Ru (at_lt h1)] at e2
   cases e2
   rw [kad, FX]
   rfl
  ·rw [Rv eji] at e2
   have hp := h.ls.get e1 e2
   have hne : r' ≠ r := fun z => by
    subst z
    exact eji ((List.getElem?_inj (at_lt h2) h.nd).mp (h2.trans e1.symm))
   rw [kam hne, kam (kal hp he)]
   exact hp
noncomputable def kir (CS : Addr) : Sp := fun vs H Q _ => ∃ (x pa : Addr) (S : Stnd) (is : List Nat), vs = [.ref x, .ref pa] ∧ StndIs CS H x S ∧ H pa = some (.lst (is.map iV)) ∧ (∀ i ∈ is, i < S.ow.length) ∧ is.length ≤ 720 ∧
 ∀ (H' : Hp) (p : Addr) (gl : List Addr), Same H H' → H p = none → H' p = some (.lst (gl.map V.ref)) → P2 (fun r g => H' r = some (.lst (g.map iV))) gl ((parted (fun i => S.ow.getD i 0) is).map Prod.snd) → (∀ r ∈ gl, H r = none) → Q (.ref p) H'
theorem P2.mapR {α β γ : Type} {R : α → γ → Prop} {f : β → γ} {as : List α} {bs : List β} (h : P2 (fun a b => R a (f b)) as bs) : P2 R as (bs.map f) := by
 induction h with
 | nil => exact .nil
 | cons r t ih => exact .cons r ih
theorem Q9 : kas ["standing", "pieces", "by_line", "piece"] ["standing", "pieces"] (kab kaM) := ⟨rfl, rfl, rfl, by decide +kernel, rfl, by decide +kernel, by decide +kernel⟩
theorem kdn (W : WB K mg d base) : FnOk P w K mg base CX0 1 d.XJ d.XM ["standing", "pieces"] (kir d.qc) := by
 refine FunD.ok W.Qf.F Q9 (fun vs H Q E h => ?_) (fun cdv A outer s H vs Q E hr h => ?_)
 ·obtain ⟨x, pa, S, is, rfl, _⟩ := h
  rfl
 ·obtain ⟨x, pa, S, is, rfl, ⟨o, p, mk, ⟨dxs, fss, hx, l1, l2, l3, l4, l5⟩, ho, hp, hmk⟩, hpa, hi, hl, k⟩ := h
  refine ⟨_, kae (kav (i := 2) Q9.nd rfl (Or.inl rfl) kiC)
   (kae (kbQ PassesOwn.never rfl (kbx (pv 1)) (kau (i := 3) Q9.nd rfl (Or.inl rfl))
   (kak (kby (pe_bm Ct CN CO kbG (pe_bm SA Sz PySem.F.type_dict_setdefault ke4 (pv 2) (kaa (pe_ix (r := rIxL K) kbu (kap (pv 0) rfl) (pv 3) (fun _ _ => rfl)) (kaa (kbw kah) kah))) (kaa (pv 3) kah)))))
   (kak (kat (kfV rfl (by rfl) W.B.list (pv 2))))), ?_⟩
  refine fun dd hd => ?_
  have s1 := kaj (o := .dK []) hd
  refine ⟨_, rfl, pa, rfl, ⟨_, SqL.of (s1 _ _ hpa)⟩, kbW (K := K) (a := pa) (xs := is.map iV) (fun i σ H' => (∃ v3 : Option V, σ = [some (.ref x), some (.ref pa), some (.ref dd), v3]) ∧ ∃ gl, Ptd H H' dd gl (parted (fun i => S.ow.getD i 0) (is.take i)))
   ⟨⟨none, rfl⟩, [], s1, by simp, fun r hr => by simp at hr, kad, .nil⟩ (fun i σ H' _ h => SqL.of (h.2.choose_spec.sm _ _ hpa)) ?_ ?_⟩
  ·rintro i y σ H1 hy ⟨⟨v3, rfl⟩, gl, Z⟩
   obtain ⟨a, ea, rfl⟩ := kbY hy
   have hil := at_lt ea
   obtain ⟨ln, eln⟩ := at_of (hi a (FV ea))
   have eg : S.ow.getD a 0 = ln := by rw [F6, eln]; rfl
   have enext : parted (fun i => S.ow.getD i 0) (is.take (i + 1)) = ins (parted (fun i => S.ow.getD i 0) (is.take i)) ln a := by
    rw [kbL ea, kdZ, eg]
   have lenG := kex (fun i => S.ow.getD i 0) (is.take i)
   rw [F2] at lenG
   have lenK : (kvOf (parted (fun i => S.ow.getD i 0) (is.take i)) gl).length < sizeLine := by
    refine kar ?_
    unfold kvOf
    rw [Ri]
    omega
   refine ⟨_, rfl, .inr (.inr (.inl ⟨rfl, .inl ⟨_, Z.dk⟩⟩)), _, rfl, x, d.qc, dxs, fss, _, rfl, Z.sm _ _ hx, W.qc.cl, W.n_Standing_owners, l1, _, rfl, o, _, _, _, rfl, rfl, SqL.of (Z.sm _ _ ho), kbN (v := .int (ln : Nat)) (by rw [F0, eln]; rfl), by decide, fun e he => ?_⟩
   have ned : dd ≠ e := kal Z.dk he
   refine ⟨dd, kvOf (parted (fun i => S.ow.getD i 0) (is.take i)) gl, (ln : Nat), .ref e, rfl, rfl, by rw [kam ned]; exact Z.dk, lenK, fun v hv => ?_, fun hn => ?_⟩
   ·rcases kf2 (G := parted (fun i => S.ow.getD i 0) (is.take i)) ln a Z.ls.len with ⟨h1, _⟩ | ⟨j, g, r, h1, h2, h3, h4⟩
    ·rw [h1] at hv
     cases hv
    ·rw [h3] at hv
     cases hv
     have hrv := Z.ls.get h2 h1
     have gl20 : g.length ≤ 720 := by
      have eg' := (kcx (fun i => S.ow.getD i 0) (is.take i)).gs ln g (FV h1)
      rw [eg']
      refine FQ (RL _ _) ?_
      rw [F2]
      omega
     have hr2 : (upd H1 e (.lst [])) r = some (.lst (g.map iV)) := by rw [kam (kal hrv he)]; exact hrv
     refine ⟨.inl ⟨rfl, _, SqL.of hr2⟩, _, rfl, r, _, _, rfl, rfl, hr2, kar (by rw [FJ]; omega), ⟨_, rfl⟩, gl, ?_⟩
     rw [enext, h4]
     exact Z.put he h1 h2
   ·rcases kf2 (G := parted (fun i => S.ow.getD i 0) (is.take i)) ln a Z.ls.len with ⟨_, h4⟩ | ⟨j, g, r, h1, h2, h3, h4⟩
    ·have he2 : (upd (upd H1 e (.lst [])) dd (.dK (kvOf (parted (fun i => S.ow.getD i 0) (is.take i)) gl ++ [(Sum.inl ((ln : Nat) : Int), .ref e)]))) e = some (.lst []) := by rw [kam ned.symm, kad]
     refine ⟨.inl ⟨rfl, _, SqL.of he2⟩, _, rfl, e, [], _, rfl, rfl, he2, by decide, ⟨_, rfl⟩, gl ++ [e], ?_⟩
     rw [enext, h4]
     exact Z.more hd he
    ·rw [h3] at hn
     cases hn
  ·rintro σ H1 ⟨⟨v3, rfl⟩, gl, Z⟩
   rw [FJ, Cw] at Z
   refine ⟨_, rfl, dd, _, rfl, Z.dk, fun l hl2 => ?_⟩
   rw [kgu Z.ls.len]
   refine k _ l gl (Z.sm.trans (kaj hl2)) (none_of Z.sm hl2) kad (P2.mapR (f := Prod.snd) (R := fun r g => (upd H1 l (.lst (gl.map V.ref))) r = some (.lst (g.map iV))) (Z.ls.mono fun r p h => kaj hl2 _ _ h)) fun r hr => (Z.fg r hr).1
noncomputable def kha (d : D) : Sp := fun vs H Q _ => ∃ (x pa : Addr) (S : Stnd) (is : List Nat) (m : Nat), vs = [.ref x, .ref pa, .int m] ∧ StndIs d.qc H x S ∧ H pa = some (.lst (is.map iV)) ∧ is.Pairwise (· < ·) ∧ (∀ i ∈ is, i < S.pr.length) ∧ is.length < 64 ∧ 2 ≤ m ∧ m ≤ 20 ∧ Tbs d H ∧
 ∀ (H' : Hp) (p : Addr) (gl : List Addr), Same H H' → H p = none → H' p = some (.lst (gl.map V.ref)) → P2 (fun r g => H' r = some (.lst (g.map iV))) gl (grp m (fallP S.pr is)) → (∀ r ∈ gl, H r = none) → Q (.ref p) H'
theorem kki {pr : List Int} {is : List Nat} {ms : List Int} (hs : is.Pairwise (· < ·)) (hp : ms.Perm (is.map fun (i : Nat) => (i : Int))) (hk : ms.Pairwise fun a b => -(pr.getD a.toNat 0) < -(pr.getD b.toNat 0) ∨ (-(pr.getD a.toNat 0) = -(pr.getD b.toNat 0) ∧ a < b)) : ms.map V.int = (fallP pr is).map iV := by
 have e : ms = (ms.map Int.toNat).map fun (i : Nat) => (i : Int) := by
  rw [Cb]
  conv => lhs; rw [← List.map_id ms]
  refine Cy fun z hz => ?_
  obtain ⟨i, _, rfl⟩ := F4.mp (hp.mem_iff.mp hz)
  simp
 have hp2 : (ms.map Int.toNat).Perm is := by
  have := hp.map Int.toNat
  rw [Cb] at this
  have e2 : is.map (Int.toNat ∘ fun (i : Nat) => (i : Int)) = is := by
   conv => rhs; rw [← List.map_id is]
   exact Cy fun i _ => rfl
  rwa [e2] at this
 have hk2 : (ms.map Int.toNat).Pairwise (befP pr) := by
  rw [Sm]
  refine hk.imp_of_mem fun {a b} ha hb h => ?_
  obtain ⟨i, _, rfl⟩ := F4.mp (hp.mem_iff.mp ha)
  obtain ⟨j, _, rfl⟩ := F4.mp (hp.mem_iff.mp hb)
  unfold befP
  simp only [Int.toNat_natCast] at h ⊢
  omega
 rw [e, kgT hs hp2 hk2, Cb]
 rfl
theorem Y9 : kas ["standing", "pieces", "many", "falling"] ["standing", "pieces", "many"] (kab kaB) := ⟨rfl, rfl, rfl, by decide +kernel, rfl, by decide +kernel, by decide +kernel⟩
theorem kdo (W : WB K mg d base) : FnOk P w K mg base CX0 1 d.XO d.QK ["standing", "pieces", "many"] (kha d) := by
 refine FunD.okC W.qJ.F Y9 (fun vs H Q E h => ?_) (fun A outer s H vs Q E hr h => ?_)
 ·obtain ⟨x, pa, S, is, m, rfl, _⟩ := h
  rfl
 ·obtain ⟨x, pa, S, is, m, rfl, hS, hpa, hs, hi, h64, hm2, hm20, htb, k⟩ := h
  obtain ⟨o, p, mk, ⟨dxs, fss, hx, l1, l2, l3, l4, l5⟩, ho, hp, hmk⟩ := id hS
  refine ⟨_, kae (kav (i := 3) Y9.nd rfl (Or.inr rfl) (kgK (N := ["piece", "standing"]) (cap := [some 0]) (pv 1) ⟨CompScope.of (N := ["piece", "standing"]) (cap := [none, some 0]) (kab kaB).names ["standing", "pieces", "many", "falling"] rfl rfl (by decide +kernel), rfl, rfl, rfl, rfl, by decide +kernel⟩ rfl hr.depth W.code_falling_groups W.ck_falling_groups W.blt (by rfl) W.B.sorted (fun _ _ _ _ _ => rfl) (fun _ _ _ _ _ => (pe_un kjb (pe_ix (r := rIxL K) kbu (kck (K := K) (pv 1) rfl) (pv 0) (fun _ _ => rfl)))) (by rfl)))
   (kak (kat (kbT (N := ["start", "falling", "many"]) (CompScope.of (N := ["start", "falling", "many"]) (cap := [none, some 3, some 2]) (kab kaB).names ["standing", "pieces", "many", "falling"] rfl rfl (by decide +kernel)) rfl (kgJ rfl W.B.range (kaa kai (kaa (pe_op kaY (pe_op kd3 (kaQ ka6 (by rfl) W.B.len b_len (kaa (pv 3) kah)) (pv 2)) kai) (kaa (pv 2) kah)))) (fun _ _ _ _ => kau (i := 0) (show (["start", "falling", "many"] : List Str).Nodup by decide +kernel) rfl (Or.inl rfl)) (fun _ _ _ _ => (kcK (r := rSlL K) kde (pv 1) (kcT (pv 0)) (kcT (pe_op kaY (pv 0) (pv 2)))))))), ?_⟩
  have htb' : TbAt d.tP_falling_groups H := htb
  obtain ⟨qs0, eT, _⟩ := id htb'
  have npT : ∀ {b : Addr} {u : HO}, H b = some u → (∀ ps, u ≠ .tbl ps) → b ≠ d.tP_falling_groups := fun {b u} e hn z => by
   rw [z, eT] at e
   cases e
   exact hn _ rfl
  have ei : is.map iV = (is.map fun (i : Nat) => (i : Int)).map V.int := by rw [Cb]; rfl
  refine ⟨_, rfl, pa, is.map fun (i : Nat) => (i : Int), fun a => -(S.pr.getD a.toNat 0), rfl, SqL.of (by rw [← ei]; exact hpa), by rw [FJ]; exact h64, ?_, htb', npT hpa (fun ps z => by cases z), fun H2 G n hn => ?_, fun H2 l ms G f1 f2 hpm hpw => ?_⟩
  ·rw [Sm]
   exact hs.imp fun {a b} h => by omega
  ·obtain ⟨i, hin, rfl⟩ := F4.mp hn
   obtain ⟨z, ez⟩ := at_of (hi i hin)
   have hx2 := G.kp _ _ (npT hx (fun ps z => by cases z)) hx
   have hp2 := G.kp _ _ (npT hp (fun ps z => by cases z)) hp
   refine ⟨_, rfl, x, d.qc, dxs, fss, _, rfl, hx2, W.qc.cl, W.n_Standing_prices, l2, _, rfl, p, _, _, _, rfl, rfl, SqL.of hp2, kbN (v := .int z) (by rw [F0, ez]; rfl), _, rfl, ?_, rfl⟩
   show V.int (-z) = V.int (-(S.pr.getD ((i : Int)).toNat 0))
   rw [Int.toNat_natCast, F6, ez]
   rfl
  have s2 := G.same htb'
  rw [kki hs hpm hpw]
  have lf : (fallP S.pr is).length = is.length := (kbV S.pr is).length_eq
  have s3 := s2.trans (kaj (o := .lst ((fallP S.pr is).map iV)) f2)
  have el : (upd H2 l (.lst ((fallP S.pr is).map iV))) l = some (.lst ((fallP S.pr is).map iV)) := kad
  generalize upd H2 l (.lst ((fallP S.pr is).map iV)) = H3 at *
  have ecnt : (Builtin.Range.rangeSize 0 ((((fallP S.pr is).map iV).length : Int) - (m : Int) + 1) (m : Int)).toNat = (fallP S.pr is).length / m := by
   rw [FJ]
   exact kfQ (by omega)
  have lg := kf3 m (fallP S.pr is)
  refine ⟨_, rfl, l, _, rfl, .inl (SqL.of el), _, rfl, _, _, rfl, rfl, _, _, rfl, rfl, _, rfl, 0, _, _, rfl, by omega, ?_, by omega, by omega, ?_⟩
  ·rw [FJ]
   omega
  rw [ecnt]
  refine kh6 (n := (fallP S.pr is).length / m) (fun i σ ys H' => Same H3 H' ∧ (∃ v0 : Option V, σ = [v0, some (.ref l), some (.int m)]) ∧ ∃ gl, ys = gl.map V.ref ∧ P2 (fun r g => H' r = some (.lst (g.map iV))) gl ((grp m (fallP S.pr is)).take i) ∧ ∀ r ∈ gl, H r = none)
   ⟨Same.refl _, ⟨none, rfl⟩, [], rfl, .nil, fun r hr => by simp at hr⟩ ?_ ?_ ?_ ?_
  ·have : (grp m (fallP S.pr is)).length = (fallP S.pr is).length / m := by simp [grp]
   exact FY (kar (by omega))
  ·rintro i σ ys H' hi' ⟨_, _, gl, rfl, hP, _⟩
   rw [FJ, hP.len, F2]
   have : (grp m (fallP S.pr is)).length = (fallP S.pr is).length / m := by simp [grp]
   omega
  ·rintro i σ ys H' hi' ⟨s4, ⟨v0, rfl⟩, gl, rfl, hP, hfr⟩
   have eg : (grp m (fallP S.pr is))[i]? = some (((fallP S.pr is).drop (i * m)).take m) := by
    unfold grp
    rw [F0, RP hi']
    rfl
   have ecut : cutV ((fallP S.pr is).map iV) (some (0 + (i : Int) * (m : Int))) (some (0 + (i : Int) * (m : Int) + (m : Int))) = (((fallP S.pr is).drop (i * m)).take m).map iV := by
    have := kkq ((fallP S.pr is).map iV) (i * m) m
    rw [show (0 : Int) + (i : Int) * (m : Int) = ((i * m : Nat) : Int) by rw [Int.zero_add, Int.natCast_mul], show ((i * m : Nat) : Int) + (m : Int) = ((i * m + m : Nat) : Int) by rw [Int.natCast_add], this, C0, Sn]
   refine ⟨_, rfl, _, rfl, _, rfl, _, rfl, _, rfl, _, _, rfl, rfl, _, rfl, l, _, rfl, SqL.of (s4 _ _ el), fun r hr => ?_⟩
   refine ⟨s4.trans (kaj hr), ⟨_, rfl⟩, gl ++ [r], by rw [FX]; rfl, ?_, fun r' hr' => ?_⟩
   ·rw [kbL eg, ecut]
    exact P2.snoc (hP.mono fun r' g e => kaj hr _ _ e) kad
   ·rcases Cq.mp hr' with h | h
    ·exact hfr r' h
    ·rw [CW] at h
     rw [h]
     exact (s3.trans s4).free hr
  ·rintro σ ys H' ⟨s4, ⟨v0, rfl⟩, gl, rfl, hP, hfr⟩ D hD
   have el2 : (grp m (fallP S.pr is)).length = (fallP S.pr is).length / m := by simp [grp]
   rw [Cz (by omega)] at hP
   exact k _ D gl ((s3.trans s4).trans (kaj hD)) ((s3.trans s4).free hD) kad (hP.mono fun r g e => kaj hD _ _ e) hfr
theorem QB : kas ["voucher", "standing", "pieces", "groups", "lasts"] ["voucher", "standing", "pieces"] (kab kaR) := ⟨rfl, rfl, rfl, by decide +kernel, rfl, by decide +kernel, by decide +kernel⟩
theorem kes (W : WB K mg d base) : FnOk P w K mg base CX0 3 d.XH d.XI ["voucher", "standing", "pieces"] (kim d) := by
 refine FunD.ok W.Qe.F QB (fun vs H Q E h => ?_) (fun cdv A outer s H vs Q E hr h => ?_)
 ·obtain ⟨v, x, pa, V, ps, B, S, rfl, _⟩ := h
  rfl
 ·obtain ⟨v, x, pa, ⟨so, ms⟩, ps, B, S, rfl, ⟨mA, dxv, fsv, hv, lvm, hso, hM, hh, htb⟩, hS, hpa, wf, vo, k⟩ := h
  have qU := kcu (P := P) (w := w) (base := base) W
  have ZK := kdn (P := P) (w := w) (base := base) W
  have Za := kdo (P := P) (w := w) (base := base) W
  have hr1 : Room 1 _ := hr.mono (by decide)
  refine ⟨_, kae (ps_if (kbF (kaQ kcd (by rfl) W.B.isi b_isi (kaa (pv 0) (kaa (kdl (v := .ref d.c_Off) (by rfl) W.g_Off rfl) kah)))) (kak (kat (kbw (kaa (kcM (kaa (kaQ (kek rfl) (by rfl) W.B.min b_min (kaa (kap (pv 0) rfl) (kaa (kao qU hr rfl W.qp.m W.qp.F.kp W.qp.b .nil pass0 (kaa (pv 1) (kaa (pv 2) kah))) kah))) (kaa (pv 2) kah))) kah)))) (kaA))
   (kae (ps_if (kbF (kaQ kcd (by rfl) W.B.isi b_isi (kaa (pv 0) (kaa (kdl (v := .ref d.qk) (by rfl) W.Zh rfl) kah)))) (kae (kav (i := 3) QB.nd rfl (Or.inl rfl) (kkL (kgl (kbF (kap (pv 0) rfl)) (kao ZK hr1 rfl W.Qf.m W.Qf.F.kp W.Qf.b .nil pass0 (kaa (pv 1) (kaa (pv 2) kah))) (kbw (kaa (pv 2) kah)))))
   (kak (kat (kbT (N := ["group", "standing", "voucher"]) (CompScope.of (N := ["group", "standing", "voucher"]) (cap := [none, some 1, some 0]) (kab kaR).names ["voucher", "standing", "pieces", "groups", "lasts"] rfl rfl (by decide +kernel)) rfl (kbx (pv 3)) (fun _ _ _ _ => kau (i := 0) (show (["group", "standing", "voucher"] : List Str).Nodup by decide +kernel) rfl (Or.inl rfl)) (fun _ _ _ _ => (kcM (kaa (pe_op kd5 (pe_op kca (kao qU hr rfl W.qp.m W.qp.F.kp W.qp.b .nil pass0 (kaa (pv 1) (kaa (pv 0) kah))) (kck (K := K) (pv 2) rfl)) kai) (kaa (pv 0) kah)))))))) (kaA))
   (kae (ps_if (kbF (kaQ kcd (by rfl) W.B.isi b_isi (kaa (pv 0) (kaa (kdl (v := .ref d.qm) (by rfl) W.Zi rfl) kah)))) (kae (keS (N := ["group"]) (CompScope.plain rfl (by decide +kernel) (by decide +kernel) (by decide +kernel) (nd1 _)) rfl (kbx (kao Za hr1 rfl W.qJ.m W.qJ.F.kp W.qJ.b .nil pass0 (kaa (pv 1) (kaa (pv 2) (kaa (kap (pv 0) rfl) kah))))) (fun _ _ _ _ => kau (i := 0) (nd1 _) rfl (Or.inl rfl)) (fun _ _ _ _ => (pe_ix (r := rIxL K) kbu (pv 0) (pe_un kjb kai) (fun _ _ => rfl))) (kau (i := 4) QB.nd rfl (Or.inl rfl)))
   (kak (kat (kbT (N := ["last", "standing"]) (CompScope.of (N := ["last", "standing"]) (cap := [none, some 1]) (kab kaR).names ["voucher", "standing", "pieces", "groups", "lasts"] rfl rfl (by decide +kernel)) rfl (kbx (pv 4)) (fun _ _ _ _ => kau (i := 0) (show (["last", "standing"] : List Str).Nodup by decide +kernel) rfl (Or.inl rfl)) (fun _ _ _ _ => (kcM (kaa (pe_ix (r := rIxL K) kbu (kck (K := K) (pv 1) rfl) (pv 0) (fun _ _ => rfl)) (kaa (kbw (kaa (pv 0) kah)) kah)))))))) (kaA))
   (kae (ps_if (kbF (kaQ kcd (by rfl) W.B.isi b_isi (kaa (pv 0) (kaa (kdl (v := .ref d.ql) (by rfl) W.Zj rfl) kah)))) (kae (kav (i := 3) QB.nd rfl (Or.inl rfl) (kao Za hr1 rfl W.qJ.m W.qJ.F.kp W.qJ.b .nil pass0 (kaa (pv 1) (kaa (pv 2) (kaa (kap (pv 0) rfl) kah)))))
   (kak (kat (kbT (N := ["group", "standing", "voucher"]) (CompScope.of (N := ["group", "standing", "voucher"]) (cap := [none, some 1, some 0]) (kab kaR).names ["voucher", "standing", "pieces", "groups", "lasts"] rfl rfl (by decide +kernel)) rfl (kbx (pv 3)) (fun _ _ _ _ => kau (i := 0) (show (["group", "standing", "voucher"] : List Str).Nodup by decide +kernel) rfl (Or.inl rfl)) (fun _ _ _ _ => (kcM (kaa (kaQ (kh9 rfl) (by rfl) W.B.max b_max (kaa (pe_op kd3 (kao qU hr rfl W.qp.m W.qp.F.kp W.qp.b .nil pass0 (kaa (pv 1) (kaa (pv 0) kah))) (kck (K := K) (pv 2) rfl)) (kaa kai kah))) (kaa (pv 0) kah)))))))) (kaA))
   (kak (kat (kbw kah)))))), ?_⟩
  have I := kjp W hh
  refine ⟨_, rfl, _, _, _, _, rfl, .inr ⟨_, rfl⟩, TyOf.ins hv (cl_of W hh) I.ha I.hn I.ht I.hm, kkh W hh, _, rfl, ?_⟩
  have lp := wf.lp
  have np := wf.np
  have habl : ∀ i ∈ abt ps (kds B) ms.kind ms.lone S, i < S.pr.length := fun i hi => by rw [lp]; exact kgC hi
  have habo : ∀ i ∈ abt ps (kds B) ms.kind ms.lone S, i < S.ow.length := fun i hi => kgC hi
  have hand := kfN ps (kds B) ms.kind ms.lone S
  have lab : (abt ps (kds B) ms.kind ms.lone S).length ≤ 720 := FQ (keo _ _ _ _ _) np
  cases so with
  | off am =>
   have qn := kcf (qs_nn wf.nn (abt ps (kds B) ms.kind ms.lone S))
   have ha : 0 ≤ am ∧ am ≤ 1000000000000 := vo.so
   refine iteT ⟨_, rfl, v, d.c_Off, dxv, fsv, _, rfl, hv, W.c_Off.cl, W.n_Off_amount, hso, _, rfl, _, rfl, x, pa, S, _, rfl, hS, hpa, habl, lab, fun H1 s1 => ?_⟩
   refine ⟨_, _, rfl, _, rfl, (by show 2 ≤ sizeLine; decide), fun t ht => ⟨(by show 1 ≤ sizeLine; decide), fun l hl => ?_⟩⟩
   have emin : (if (qs S.pr (abt ps (kds B) ms.kind ms.lone S)).sum < am then (qs S.pr (abt ps (kds B) ms.kind ms.lone S)).sum else am) = min am (qs S.pr (abt ps (kds B) ms.kind ms.lone S)).sum := by
    split <;> omega
   rw [emin] at hl ⊢
   have s2 := s1.trans (kaj (o := .tup [.int (min am (qs S.pr (abt ps (kds B) ms.kind ms.lone S)).sum), .ref pa]) ht)
   have s3 := s2.trans (kaj (o := .lst [.ref t]) hl)
   refine k _ l [t] [(min am (qs S.pr (abt ps (kds B) ms.kind ms.lone S)).sum, abt ps (kds B) ms.kind ms.lone S)] s3 (none_of s2 hl) kad (.cons ⟨pa, kaj hl _ _ kad, s3 _ _ hpa, .inl rfl⟩ .nil) ?_ ?_ ?_ (by simp) ?_
   ·intro c g hc
    rw [CW] at hc
    cases hc
    exact ⟨by omega, by omega, lab⟩
   ·simpa using hand
   ·simpa using habl
   ·simp [want]
  | share sh bl =>
   have hsh : 1 ≤ sh ∧ sh ≤ 1000 := vo.so
   refine iteF ⟨_, rfl, _, _, _, _, rfl, .inr ⟨_, rfl⟩, TyOf.ins hv (cl_of W hh) I.ha I.hn I.ht I.hm, kc8 W hh, _, rfl, iteT ?_⟩
   refine ⟨fun gv H1 => ∃ (gp : Addr) (gl : List Addr) (gs : List (List Nat)), gv = .ref gp ∧ Same H H1 ∧ H gp = none ∧ H1 gp = some (.lst (gl.map V.ref)) ∧ P2 (fun r g => H1 r = some (.lst (g.map iV))) gl gs ∧ (∀ r ∈ gl, r = pa ∨ H r = none) ∧ gs.length ≤ 720 ∧ (∀ g ∈ gs, g.length ≤ 720) ∧ gs.flatten.Nodup ∧ (∀ i ∈ gs.flatten, i < S.pr.length) ∧
    spr S.pr.length gs.flatten (gs.map fun g => dl ((qs S.pr g).sum * sh / 1000) (qs S.pr g)).flatten = spr S.pr.length (abt ps (kds B) ms.kind ms.lone S) (want (.share sh bl) S.mkd.length ((abt ps (kds B) ms.kind ms.lone S).map fun i => S.ow.getD i 0) (qs S.pr (abt ps (kds B) ms.kind ms.lone S))), ?_, ?_⟩
   ·refine ⟨_, rfl, v, d.qk, dxv, fsv, _, rfl, hv, W.qk.cl, W.n_Share_by_line, hso.2, bl, rfl, ?_⟩
    cases bl with
    | true =>
     refine iteT ⟨_, rfl, _, rfl, x, pa, S, _, rfl, hS, hpa, habo, lab, fun H1 p gl s1 f1 h1 hP hg => ⟨p, gl, _, rfl, s1, f1, h1, hP, fun r hr => .inr (hg r hr), ?_, ?_, ?_, ?_, ?_⟩⟩
     ·rw [FJ]
      exact FQ (kex _ _) lab
     ·intro g hg'
      rw [(kcx (fun i => S.ow.getD i 0) (abt ps (kds B) ms.kind ms.lone S)).snds] at hg'
      obtain ⟨l, _, rfl⟩ := F4.mp hg'
      exact FQ (RL _ _) lab
     ·have ok := kcx (fun i => S.ow.getD i 0) (abt ps (kds B) ms.kind ms.lone S)
      rw [ok.snds]
      exact kdY (f := fun i => S.ow.getD i 0) hand ok.nd
     ·intro i hi
      rw [(kcx (fun i => S.ow.getD i 0) (abt ps (kds B) ms.kind ms.lone S)).snds] at hi
      obtain ⟨g, hg', hi'⟩ := CZ.mp hi
      obtain ⟨l, _, rfl⟩ := F4.mp hg'
      exact habl i (CJ.mp hi').1
     ·refine kgM (fun z => z * sh / 1000) hand fun i hi => ?_
      obtain ⟨ln, eln⟩ := at_of (habo i hi)
      rw [F6, eln, wf.lm]
      exact wf.line eln
    | false =>
     refine iteF ⟨_, rfl, (by show 1 ≤ sizeLine; decide), fun p hp => ⟨p, [pa], [abt ps (kds B) ms.kind ms.lone S], rfl, kaj hp, hp, kad, .cons (kaj hp _ _ hpa) .nil, fun r hr => .inl (by simpa using hr), by simp, fun g hg => ?_, by simpa using hand, by simpa using habl, by simp [want]⟩⟩
     rw [CW] at hg
     rw [hg]
     exact lab
   rintro gv H1 ⟨gp, gl, gs, rfl, s1, f1, h1, hP, hor, lgs, lg, gnd, glt, gsp⟩
   have lgl := hP.len
   have gok : ∀ g ∈ gs, ∀ i ∈ g, i < S.pr.length := fun g hg i hi => glt i (CZ.mpr ⟨g, hg, hi⟩)
   refine ⟨_, rfl, gp, rfl, ⟨_, SqL.of h1⟩, kbI (xs := gl.map V.ref) (fun i σ ys H' => Same H1 H' ∧ (∃ v0 : Option V, σ = [v0, some (.ref x), some (.ref v)]) ∧ ∃ tl, ys = tl.map V.ref ∧ P2 (GrpAt H H' pa) tl ((gs.take i).map fun g => ((qs S.pr g).sum * sh / 1000, g)))
    ⟨Same.refl _, ⟨none, rfl⟩, [], rfl, .nil⟩ (by rw [FJ]; exact FY (kar (by omega))) ?_ ?_ ?_⟩
   ·rintro i σ ys H2 hi ⟨s2, _, tl, rfl, hT⟩
    refine ⟨SqL.of (s2 _ _ h1), ?_⟩
    rw [FJ, hT.len, FJ, F2]
    rw [FJ] at hi
    omega
   ·rintro i y σ ys H2 hy ⟨s2, ⟨v0, rfl⟩, tl, rfl, hT⟩
    obtain ⟨r, er, rfl⟩ := kb9 hy
    obtain ⟨g, eg, hr⟩ := hP.at er
    have s12 := s1.trans s2
    have hg := FV eg
    have sn := kcf (qs_nn wf.nn g)
    have sl := khj wf (lg g hg) (gok g hg)
    refine ⟨_, rfl, _, rfl, x, r, S, g, rfl, hS.same s12, s2 _ _ hr, gok g hg, lg g hg, fun H3 s3 => ?_⟩
    have s13 := s12.trans s3
    refine ⟨_, rfl, v, d.qk, dxv, fsv, _, rfl, s13 _ _ hv, W.qk.cl, W.n_Share_share, hso.1, _, _, rfl, rfl, .inl ⟨by omega, by omega⟩, _, _, rfl, rfl, ⟨by decide, by decide⟩, _, rfl, (by show 2 ≤ sizeLine; decide), fun t ht => ?_⟩
    have s4 := kaj (o := .tup [.int ((qs S.pr g).sum * sh / 1000), .ref r]) ht
    refine ⟨(s2.trans s3).trans s4, ⟨_, rfl⟩, tl ++ [t], by rw [FX]; rfl, ?_⟩
    rw [kbL eg, FX]
    refine P2.snoc (hT.mono fun t' q ⟨ga, a1, a2, a3⟩ => ⟨ga, (s3.trans s4) _ _ a1, (s3.trans s4) _ _ a2, a3⟩) ⟨r, kad, ((s2.trans s3).trans s4) _ _ hr, hor r (FV er)⟩
   ·rintro σ ys H2 ⟨s2, ⟨v0, rfl⟩, tl, rfl, hT⟩ D hD
    rw [FJ, lgl, Cw] at hT
    have s3 := kaj (o := .lst (tl.map V.ref)) hD
    have e1 : (gs.map fun g => ((qs S.pr g).sum * sh / 1000, g)).map Prod.snd = gs := by
     rw [Cb]
     exact List.map_id' gs
    refine k _ D tl _ ((s1.trans s2).trans s3) (none_of (s1.trans s2) hD) kad (hT.mono fun t' q ⟨ga, a1, a2, a3⟩ => ⟨ga, s3 _ _ a1, s3 _ _ a2, a3⟩) ?_ (by rw [e1]; exact gnd) (by rw [e1]; exact glt) (by rw [FJ]; exact lgs) ?_
    ·intro c g hc
     obtain ⟨g', hg', e⟩ := F4.mp hc
     cases e
     have sn := kcf (qs_nn wf.nn g)
     have := keO sn hsh.1 hsh.2
     exact ⟨this.1, this.2, lg g hg'⟩
    ·rw [e1, Cb]
     exact gsp
  | cheap n =>
   have hn : 2 ≤ n ∧ n ≤ 20 := vo.so
   obtain ⟨m, rfl⟩ : ∃ m : Nat, n = m := ⟨n.toNat, by omega⟩
   refine iteF ⟨_, rfl, _, _, _, _, rfl, .inr ⟨_, rfl⟩, TyOf.ins hv (cl_of W hh) I.ha I.hn I.ht I.hm, kc8 W hh, _, rfl, iteF ⟨_, rfl, _, _, _, _, rfl, .inr ⟨_, rfl⟩, TyOf.ins hv (cl_of W hh) I.ha I.hn I.ht I.hm, kcC W hh, _, rfl, iteT ?_⟩⟩
   have hpw : (abt ps (kds B) ms.kind ms.lone S).Pairwise (· < ·) := Rf.filter _ Si
   have l64 : (abt ps (kds B) ms.kind ms.lone S).length < 64 := CT (keo _ _ _ _ _) wf.n64
   refine ⟨_, rfl, _, rfl, _, rfl, v, d.qm, dxv, fsv, _, rfl, hv, W.qm.cl, W.n_Cheapest_many, hso, x, pa, S, _, m, rfl, hS, hpa, hpw, habl, l64, by omega, by omega, htb, fun H1 gp gl s1 f1 h1 hP0 hg => ?_⟩
   have hP : P2 (fun r g => H1 r = some (.lst (g.map iV))) gl (grp m (fallP S.pr (abt ps (kds B) ms.kind ms.lone S))) := hP0
   clear hP0
   have lgl := hP.len
   have lG := kf3 m (fallP S.pr (abt ps (kds B) ms.kind ms.lone S))
   have lf : (fallP S.pr (abt ps (kds B) ms.kind ms.lone S)).length = (abt ps (kds B) ms.kind ms.lone S).length := (kbV _ _).length_eq
   have hgr : ∀ {i : Nat} {g : List Nat}, (grp m (fallP S.pr (abt ps (kds B) ms.kind ms.lone S)))[i]? = some g → 0 < g.length ∧ g[g.length - 1]? = some (g.getLastD 0) ∧ g.getLastD 0 ∈ abt ps (kds B) ms.kind ms.lone S := fun {i g} eg => by
    obtain ⟨h1, h2, h3⟩ := kgw eg
    have h4 := kf1 (by omega) eg
    refine ⟨by omega, ?_, (kbV _ _).mem_iff.mp (FV h4)⟩
    rw [h2, h3 _ (by omega)]
    exact h4
   have hla : ∀ a ∈ lasts (grp m (fallP S.pr (abt ps (kds B) ms.kind ms.lone S))), a ∈ abt ps (kds B) ms.kind ms.lone S := fun a ha => by
    obtain ⟨g, hg', rfl⟩ := F4.mp ha
    obtain ⟨j, hj⟩ := Ra.mp hg'
    exact (hgr hj).2.2
   refine ⟨gp, rfl, ⟨_, SqL.of h1⟩, kbI (xs := gl.map V.ref) (fun i σ ys H' => Same H1 H' ∧ (∃ v0 : Option V, σ = [v0]) ∧ ys = ((lasts (grp m (fallP S.pr (abt ps (kds B) ms.kind ms.lone S)))).take i).map iV)
    ⟨Same.refl _, ⟨none, rfl⟩, rfl⟩ (by rw [FJ]; exact FY (kar (by omega))) ?_ ?_ ?_⟩
   ·rintro i σ ys H2 hi ⟨s2, _, rfl⟩
    refine ⟨SqL.of (s2 _ _ h1), ?_⟩
    rw [FJ, F2, kc6]
    rw [FJ] at hi
    omega
   ·rintro i y σ ys H2 hy ⟨s2, ⟨v0, rfl⟩, rfl⟩
    obtain ⟨r, er, rfl⟩ := kb9 hy
    obtain ⟨g, eg, hr⟩ := hP.at er
    obtain ⟨g0, g1, g2⟩ := hgr eg
    have al : atI (g.map iV) (-1) = some (iV (g.getLastD 0)) := kic (by rw [FJ, F0, g1]; rfl) (by rw [FJ]; exact g0)
    refine ⟨_, rfl, 1, rfl, r, _, _, _, rfl, rfl, SqL.of (s2 _ _ hr), al, s2, ⟨_, rfl⟩, ?_⟩
    rw [kbL (r := g.getLastD 0) (by unfold lasts; rw [F0, eg]; rfl), FX]
    rfl
   rintro σ ys H2 ⟨s2, ⟨v0, rfl⟩, rfl⟩ D hD
   rw [FJ, lgl, Cz (by rw [kc6]; exact FM _)]
   have s3 := s2.trans (kaj (o := .lst ((lasts (grp m (fallP S.pr (abt ps (kds B) ms.kind ms.lone S)))).map iV)) hD)
   have fD : H D = none := none_of (s1.trans s2) hD
   have eD : (upd H2 D (.lst ((lasts (grp m (fallP S.pr (abt ps (kds B) ms.kind ms.lone S)))).map iV))) D = some (.lst ((lasts (grp m (fallP S.pr (abt ps (kds B) ms.kind ms.lone S)))).map iV)) := kad
   generalize upd H2 D (.lst ((lasts (grp m (fallP S.pr (abt ps (kds B) ms.kind ms.lone S)))).map iV)) = H3 at *
   obtain ⟨o, p, mk, ⟨dxs, fss, hx, l1, l2, l3, l4, l5⟩, ho, hp, hmk⟩ := id hS
   have s13 := s1.trans s3
   have lL := kc6 (grp m (fallP S.pr (abt ps (kds B) ms.kind ms.lone S)))
   refine ⟨_, rfl, D, rfl, ⟨_, SqL.of eD⟩, kbI (xs := (lasts (grp m (fallP S.pr (abt ps (kds B) ms.kind ms.lone S)))).map iV) (fun i σ ys H' => Same H3 H' ∧ (∃ v0 : Option V, σ = [v0, some (.ref x)]) ∧ ∃ tl, ys = tl.map V.ref ∧ P2 (GrpAt H H' pa) tl (((lasts (grp m (fallP S.pr (abt ps (kds B) ms.kind ms.lone S)))).take i).map fun a => (S.pr.getD a 0, [a])))
    ⟨Same.refl _, ⟨none, rfl⟩, [], rfl, .nil⟩ (by rw [FJ]; exact FY (kar (by omega))) ?_ ?_ ?_⟩
   ·rintro i σ ys H4 hi ⟨s4, _, tl, rfl, hT⟩
    refine ⟨SqL.of (s4 _ _ eD), ?_⟩
    rw [FJ, hT.len, FJ, F2]
    rw [FJ] at hi
    omega
   ·rintro i y σ ys H4 hy ⟨s4, ⟨v0, rfl⟩, tl, rfl, hT⟩
    obtain ⟨a, ea, rfl⟩ := kbY hy
    have ha := hla a (FV ea)
    obtain ⟨z, ez⟩ := at_of (habl a ha)
    have ez' : S.pr.getD a 0 = z := by rw [F6, ez]; rfl
    have s14 := s13.trans s4
    refine ⟨_, rfl, x, d.qc, dxs, fss, _, rfl, s14 _ _ hx, W.qc.cl, W.n_Standing_prices, l2, _, rfl, p, _, _, _, rfl, rfl, SqL.of (s14 _ _ hp), kbN (v := .int z) (by rw [F0, ez]; rfl), _, rfl, (by show 1 ≤ sizeLine; decide), fun q hq => ⟨(by show 2 ≤ sizeLine; decide), fun t ht => ?_⟩⟩
    have s5 := (kaj (o := .lst [iV a]) hq).trans (kaj (o := .tup [.int z, .ref q]) ht)
    refine ⟨s4.trans s5, ⟨_, rfl⟩, tl ++ [t], by rw [FX]; rfl, ?_⟩
    rw [kbL ea, FX]
    exact P2.snoc (hT.mono fun t' q' ⟨ga, a1, a2, a3⟩ => ⟨ga, s5 _ _ a1, s5 _ _ a2, a3⟩) ⟨q, by show upd _ _ _ _ = some (.tup [.int (S.pr.getD a 0), .ref q]); rw [ez']; exact kad, kaj ht _ _ kad, .inr (none_of s14 hq)⟩
   ·rintro σ ys H4 ⟨s4, ⟨v0, rfl⟩, tl, rfl, hT⟩ D2 hD2
    rw [FJ, Cw] at hT
    have s5 := kaj (o := .lst (tl.map V.ref)) hD2
    have e1 : ((lasts (grp m (fallP S.pr (abt ps (kds B) ms.kind ms.lone S)))).map fun a => (S.pr.getD a 0, [a])).map Prod.snd = (lasts (grp m (fallP S.pr (abt ps (kds B) ms.kind ms.lone S)))).map fun a => [a] := by
     rw [Cb]
     rfl
    have e2 := khf (fun i => S.pr.getD i 0) (lasts (grp m (fallP S.pr (abt ps (kds B) ms.kind ms.lone S))))
    refine k _ D2 tl _ ((s13.trans s4).trans s5) (none_of (s13.trans s4) hD2) kad (hT.mono fun t' q ⟨ga, a1, a2, a3⟩ => ⟨ga, s5 _ _ a1, s5 _ _ a2, a3⟩) ?_ (by rw [e1, e2.1]; exact kf0 (by omega) (keh hand)) (by rw [e1, e2.1]; exact fun i hi => habl i (hla i hi)) (by rw [FJ]; omega) ?_
    ·intro c g hc
     obtain ⟨a, ha, e⟩ := F4.mp hc
     cases e
     have q0 : (qs S.pr [a]).sum = S.pr.getD a 0 := by simp [qs]
     have q1 := kcf (qs_nn wf.nn [a])
     rw [q0] at q1 ⊢
     exact ⟨q1, Int.le_refl _, by simp⟩
    ·rw [e1, e2.1, Cb]
     have e3 : (lasts (grp m (fallP S.pr (abt ps (kds B) ms.kind ms.lone S)))).map ((fun p => dl p.1 (qs S.pr p.2)) ∘ fun a => (S.pr.getD a 0, [a])) = (lasts (grp m (fallP S.pr (abt ps (kds B) ms.kind ms.lone S)))).map fun a => [S.pr.getD a 0] :=
      Cy fun a _ => kk1 _
     rw [e3, e2.2]
     exact (kh8 (by omega) hand).symm
  | bund n pc =>
   have hn : 2 ≤ n ∧ n ≤ 20 ∧ 0 ≤ pc ∧ pc ≤ 1000000000000 := vo.so
   obtain ⟨m, rfl⟩ : ∃ m : Nat, n = m := ⟨n.toNat, by omega⟩
   refine iteF ⟨_, rfl, _, _, _, _, rfl, .inr ⟨_, rfl⟩, TyOf.ins hv (cl_of W hh) I.ha I.hn I.ht I.hm, kc8 W hh, _, rfl, iteF ⟨_, rfl, _, _, _, _, rfl, .inr ⟨_, rfl⟩, TyOf.ins hv (cl_of W hh) I.ha I.hn I.ht I.hm, kcC W hh, _, rfl, iteF ⟨_, rfl, _, _, _, _, rfl, .inr ⟨_, rfl⟩, TyOf.ins hv (cl_of W hh) I.ha I.hn I.ht I.hm, keC W hh, _, rfl, iteT ?_⟩⟩⟩
   have hpw : (abt ps (kds B) ms.kind ms.lone S).Pairwise (· < ·) := Rf.filter _ Si
   have l64 : (abt ps (kds B) ms.kind ms.lone S).length < 64 := CT (keo _ _ _ _ _) wf.n64
   refine ⟨_, rfl, _, rfl, _, rfl, v, d.ql, dxv, fsv, _, rfl, hv, W.ql.cl, W.n_Bundle_many, hso.1, x, pa, S, _, m, rfl, hS, hpa, hpw, habl, l64, by omega, by omega, htb, fun H1 gp gl s1 f1 h1 hP0 hg => ?_⟩
   have hP : P2 (fun r g => H1 r = some (.lst (g.map iV))) gl (grp m (fallP S.pr (abt ps (kds B) ms.kind ms.lone S))) := hP0
   clear hP0
   have lgl := hP.len
   have lG := kf3 m (fallP S.pr (abt ps (kds B) ms.kind ms.lone S))
   have lf : (fallP S.pr (abt ps (kds B) ms.kind ms.lone S)).length = (abt ps (kds B) ms.kind ms.lone S).length := (kbV _ _).length_eq
   have gin : ∀ g ∈ grp m (fallP S.pr (abt ps (kds B) ms.kind ms.lone S)), ∀ i ∈ g, i ∈ abt ps (kds B) ms.kind ms.lone S := fun g hg' i hi => (kbV _ _).mem_iff.mp (khQ hg' i hi)
   have gok : ∀ g ∈ grp m (fallP S.pr (abt ps (kds B) ms.kind ms.lone S)), ∀ i ∈ g, i < S.pr.length := fun g hg' i hi => habl i (gin g hg' i hi)
   have lg : ∀ g ∈ grp m (fallP S.pr (abt ps (kds B) ms.kind ms.lone S)), g.length ≤ 720 := fun g hg' => by
    obtain ⟨j, hj⟩ := Ra.mp hg'
    have := (kgw hj).2.1
    omega
   generalize egs : grp m (fallP S.pr (abt ps (kds B) ms.kind ms.lone S)) = gs at *
   refine ⟨_, rfl, gp, rfl, ⟨_, SqL.of h1⟩, kbI (xs := gl.map V.ref) (fun i σ ys H' => Same H1 H' ∧ (∃ v0 : Option V, σ = [v0, some (.ref x), some (.ref v)]) ∧ ∃ tl, ys = tl.map V.ref ∧ P2 (GrpAt H H' pa) tl ((gs.take i).map fun g => (max 0 ((qs S.pr g).sum - pc), g)))
    ⟨Same.refl _, ⟨none, rfl⟩, [], rfl, .nil⟩ (by rw [FJ]; exact FY (kar (by omega))) ?_ ?_ ?_⟩
   ·rintro i σ ys H2 hi ⟨s2, _, tl, rfl, hT⟩
    refine ⟨SqL.of (s2 _ _ h1), ?_⟩
    rw [FJ, hT.len, FJ, F2]
    rw [FJ] at hi
    omega
   ·rintro i y σ ys H2 hy ⟨s2, ⟨v0, rfl⟩, tl, rfl, hT⟩
    obtain ⟨r, er, rfl⟩ := kb9 hy
    obtain ⟨g, eg, hr⟩ := hP.at er
    have s12 := s1.trans s2
    have hg' := FV eg
    have sn := kcf (qs_nn wf.nn g)
    refine ⟨_, rfl, _, rfl, x, r, S, g, rfl, hS.same s12, s2 _ _ hr, gok g hg', lg g hg', fun H3 s3 => ?_⟩
    have s13 := s12.trans s3
    refine ⟨_, rfl, v, d.ql, dxv, fsv, _, rfl, s13 _ _ hv, W.ql.cl, W.n_Bundle_price, hso.2, _, _, rfl, rfl, ?_⟩
    refine ⟨_, _, rfl, _, rfl, (by show 2 ≤ sizeLine; decide), fun t ht => ?_⟩
    have emax : (if (0 : Int) > (qs S.pr g).sum - pc then 0 else (qs S.pr g).sum - pc) = max 0 ((qs S.pr g).sum - pc) := by
     split <;> omega
    rw [emax]
    have s4 := kaj (o := .tup [.int (max 0 ((qs S.pr g).sum - pc)), .ref r]) ht
    refine ⟨(s2.trans s3).trans s4, ⟨_, rfl⟩, tl ++ [t], by rw [FX]; rfl, ?_⟩
    rw [kbL eg, FX]
    refine P2.snoc (hT.mono fun t' q ⟨ga, a1, a2, a3⟩ => ⟨ga, (s3.trans s4) _ _ a1, (s3.trans s4) _ _ a2, a3⟩) ⟨r, kad, ((s2.trans s3).trans s4) _ _ hr, .inr (hg r (FV er))⟩
   ·rintro σ ys H2 ⟨s2, ⟨v0, rfl⟩, tl, rfl, hT⟩ D hD
    rw [FJ, lgl, Cw] at hT
    have s3 := kaj (o := .lst (tl.map V.ref)) hD
    have e1 : (gs.map fun g => (max 0 ((qs S.pr g).sum - pc), g)).map Prod.snd = gs := by
     rw [Cb]
     exact List.map_id' gs
    refine k _ D tl _ ((s1.trans s2).trans s3) (none_of (s1.trans s2) hD) kad (hT.mono fun t' q ⟨ga, a1, a2, a3⟩ => ⟨ga, s3 _ _ a1, s3 _ _ a2, a3⟩) ?_ (by rw [e1, ← egs]; exact khP (keh hand)) (by rw [e1]; intro i hi; obtain ⟨g, hg', hi'⟩ := CZ.mp hi; exact gok g hg' i hi') (by rw [FJ]; omega) ?_
    ·intro c g hc
     obtain ⟨g', hg', e⟩ := F4.mp hc
     cases e
     have sn := kcf (qs_nn wf.nn g)
     exact ⟨by omega, by omega, lg g hg'⟩
    ·rw [e1, Cb, ← egs]
     exact (ki4 (fun z => max 0 (z - pc)) hand).symm
  | carr =>
   refine iteF ⟨_, rfl, _, _, _, _, rfl, .inr ⟨_, rfl⟩, TyOf.ins hv (cl_of W hh) I.ha I.hn I.ht I.hm, kc8 W hh, _, rfl, iteF ⟨_, rfl, _, _, _, _, rfl, .inr ⟨_, rfl⟩, TyOf.ins hv (cl_of W hh) I.ha I.hn I.ht I.hm, kcC W hh, _, rfl, iteF ⟨_, rfl, _, _, _, _, rfl, .inr ⟨_, rfl⟩, TyOf.ins hv (cl_of W hh) I.ha I.hn I.ht I.hm, keC W hh, _, rfl, iteF ?_⟩⟩⟩
   refine ⟨by decide, fun l hl => ?_⟩
   refine k _ l [] [] (kaj hl) hl kad .nil (fun c g hc => by simp at hc) (by simp) (by simp) (by simp) ?_
   exact (spr_zero (k := 0)).trans spr_zero.symm
noncomputable def kjT (K : FK) (d : D) : Sp := fun vs H Q _ => ∃ (v a b x : Addr) (V : Vch) (ps : List (Option Nat)) (B : Bask) (S : Stnd), vs = [.ref v, .ref a, .ref b, .ref x] ∧ VchIs d H v V ∧ SqL K H a (ps.map pV) ∧ BaskIs d.qe d.qi H b B ∧ StndIs d.qc H x S ∧ Wf ps B S ∧ VchOk ps V ∧
 ∀ (H' : Hp) (p : Addr), Same H H' → H p = none → H' p = some (.lst ((cutM V ps (kds B) S).1.map L2.V.int)) → Q (.ref p) H'
theorem qC : kas ["voucher", "parents", "basket", "standing", "pieces", "wanted", "cut", "group", "piece", "part", "most"] ["voucher", "parents", "basket", "standing"] (kab kaN) := ⟨rfl, rfl, rfl, by decide +kernel, rfl, by decide +kernel, by decide +kernel⟩
theorem kcm (W : WB K mg d base) : FnOk P w K mg base CX0 4 d.XD d.XE ["voucher", "parents", "basket", "standing"] (kjT K d) := by
 refine FunD.ok W.qH.F qC (fun vs H Q E h => ?_) (fun cdv A outer s H vs Q E hr h => ?_)
 ·obtain ⟨v, a, b, x, V, ps, B, S, rfl, _⟩ := h
  rfl
 ·obtain ⟨v, a, b, x, Vc, ps, B, S, rfl, hV, hA, hB, hS, wf, vo, k⟩ := h
  have Q8 := kgp (P := P) (w := w) (base := base) W
  have ZL := kes (P := P) (w := w) (base := base) W
  have Zb := kiJ (P := P) (w := w) (base := base) W
  have Q6 := kdw (P := P) (w := w) (base := base) W
  have hr1 : Room 1 _ := hr.mono (by decide)
  refine ⟨_, kae (kav (i := 4) qC.nd rfl (Or.inl rfl) (kao Q8 hr rfl W.qG.m W.qG.F.kp W.qG.b .nil pass0 (kaa (pv 0) (kaa (pv 1) (kaa (pv 2) (kaa (pv 3) kah))))))
   (kae (keS (N := ["price"]) (CompScope.plain rfl (by decide +kernel) (by decide +kernel) (by decide +kernel) (nd1 _)) rfl (kbx (kap (pv 3) rfl)) (fun _ _ _ _ => kau (i := 0) (nd1 _) rfl (Or.inl rfl)) (fun _ _ _ _ => kai) (kau (i := 5) qC.nd rfl (Or.inl rfl)))
   (kae (kbQ PassesOwn.never rfl (kbx (kao ZL hr rfl W.Qe.m W.Qe.F.kp W.Qe.b .nil pass0 (kaa (pv 0) (kaa (pv 3) (kaa (pv 4) kah))))) (kcZ rfl (kaK (kau (i := 6) qC.nd rfl (Or.inl rfl)) (kaK (kau (i := 7) qC.nd rfl (Or.inl rfl)) kbR)))
   (kak (kbQ PassesOwn.never rfl (kdj rfl W.B.zip (kaa (pv 7) (kaa (kao Zb hr1 rfl W.qF.m W.qF.F.kp W.qF.b .nil pass0 (kaa (pv 6) (kaa (kao Q6 hr1 rfl W.qK.m W.qK.F.kp W.qK.b .nil pass0 (kaa (pv 3) (kaa (pv 7) kah))) kah))) kah))) (kcZ rfl (kaK (kau (i := 8) qC.nd rfl (Or.inl rfl)) (kaK (kau (i := 9) qC.nd rfl (Or.inl rfl)) kbR)))
   (kak (kjg (pv 9) (kji (pv 5) (pv 8) set_list))))))
   (kae (kav (i := 10) qC.nd rfl (Or.inl rfl) (kap (kap (pv 0) rfl) rfl))
   (kae (ps_if (PW.pt (kb6 (kay kcy (pv 10) kbC (kaF _)) (kbS (kay op_gt (kaQ (kci rfl) (by rfl) W.B.sum b_sum (kaa (pv 5) kah)) (pv 10) (kaF _))))) (kak (kat (kao Zb hr1 rfl W.qF.m W.qF.F.kp W.qF.b .nil pass0 (kaa (pv 10) (kaa (pv 5) kah))))) (kaA))
   (kak (kat (pv 5))))))), ?_⟩
  have np := wf.np
  have lp := wf.lp
  refine ⟨_, rfl, _, rfl, _, rfl, _, rfl, v, a, b, x, Vc, ps, B, S, rfl, hV, hA, hB, hS, wf, vo, fun H1 pa s1 f1 h1 => ?_⟩
  have habl : ∀ i ∈ abt ps (kds B) Vc.ms.kind Vc.ms.lone S, i < S.pr.length := fun i hi => by rw [lp]; exact kgC hi
  have hand := kfN ps (kds B) Vc.ms.kind Vc.ms.lone S
  have lab : (abt ps (kds B) Vc.ms.kind Vc.ms.lone S).length ≤ 720 := FQ (keo _ _ _ _ _) np
  obtain ⟨o, p, mk, ⟨dxs, fss, hx, l1, l2, l3, l4, l5⟩, ho, hp, hmk⟩ := id (hS.same s1)
  refine ⟨_, rfl, x, d.qc, dxs, fss, _, rfl, hx, W.qc.cl, W.n_Standing_prices, l2, p, rfl, ⟨_, SqL.of hp⟩, kbI (xs := S.pr.map V.int) (fun i σ ys H' => H' = H1 ∧ ys = (FO i (0 : Int)).map V.int ∧ ∃ v, σ = [v]) ⟨rfl, rfl, none, rfl⟩ ?_ ?_ ?_ ?_⟩
  ·rw [FJ]
   exact FY (kar (by omega))
  ·rintro i σ ys H' hi ⟨rfl, rfl, _⟩
   exact ⟨SqL.of hp, by simp⟩
  ·rintro i y σ ys H' hy ⟨rfl, rfl, v, rfl⟩
   exact ⟨rfl, by rw [RQ, FX]; rfl, _, rfl⟩
  rintro σ ys H' ⟨rfl, rfl, v0, rfl⟩ w hw
  rw [FJ]
  have s2 := s1.trans (kaj (o := .lst ((FO S.pr.length (0 : Int)).map V.int)) hw)
  have hw0 : H w = none := none_of s1 hw
  have ew : (upd H' w (.lst ((FO S.pr.length (0 : Int)).map V.int))) w = some (.lst ((FO S.pr.length (0 : Int)).map V.int)) := kad
  have h1o := h1
  have h1 := kaj (o := .lst ((FO S.pr.length (0 : Int)).map V.int)) hw _ _ h1
  have nw : pa ≠ w := kal h1o hw
  generalize upd H' w (.lst ((FO S.pr.length (0 : Int)).map V.int)) = H2 at *
  refine ⟨_, rfl, _, rfl, _, rfl, v, x, pa, Vc, ps, B, S, rfl, hV.same s2, hS.same s2, h1, wf, vo, fun H3 gp tl gl s3 f3 h3 hP hc hnd hlt hgl hsp => ?_⟩
  have s03 := s2.trans s3
  have e3 := s3 _ _ ew
  have ngw : gp ≠ w := fun e => by rw [e, ew] at f3; cases f3
  refine ⟨gp, rfl, ⟨_, SqL.of h3⟩, kbW (K := K) (a := gp) (xs := tl.map V.ref) (fun i σ H' => (∃ v8 v9 v10 v11 v12 : Option V, σ = [some (.ref v), some (.ref a), some (.ref b), some (.ref x), some (.ref pa), some (.ref w), v8, v9, v10, v11, v12]) ∧ But w H3 H' ∧
    H' w = some (.lst ((spr S.pr.length ((gl.take i).map Prod.snd).flatten ((gl.take i).map fun p => dl p.1 (qs S.pr p.2)).flatten).map V.int)))
   ⟨⟨none, none, none, none, none, rfl⟩, But.refl, by rw [e3]; simp [kjF]⟩ (fun i σ H' _ h => SqL.of (h.2.1 _ _ ngw h3)) ?_ ?_⟩
  ·rintro i y σ H4 hy ⟨⟨v8, v9, v10, v11, v12, rfl⟩, b4, h4⟩
   obtain ⟨t, et, rfl⟩ := kb9 hy
   obtain ⟨⟨c, g⟩, eg, ga, ht, hga, hor⟩ := hP.at et
   have hcg := hc c g (FV eg)
   have hgl' : ∀ i ∈ g, i < S.pr.length := fun j hj => hlt j (CZ.mpr ⟨g, F4.mpr ⟨(c, g), FV eg, rfl⟩, hj⟩)
   have ngaw : ga ≠ w := by
    rcases hor with rfl | hor
    ·exact nw
    ·exact fun e => by rw [e, ew] at hor; cases hor
   have ntw : t ≠ w := ne_of ht e3 (by intro z; cases z)
   have htt : H4 t = some (.tup [.int c, .ref ga]) := b4 _ _ ntw ht
   have hgg : H4 ga = some (.lst (g.map iV)) := b4 _ _ ngaw hga
   refine ⟨t, _, rfl, SqT.of htt, rfl, _, _, rfl, _, _, rfl, rfl, ?_⟩
   have hS4 : StndIs d.qc H4 x S := by
    exact StndIs.same (H := H) (kgc hw0 s03 b4) hS
   have gnn := qs_nn wf.nn g
   have gsum := khj wf hcg.2.2 hgl'
   have hg720 := hcg.2.2
   refine ⟨_, rfl, _, rfl, _, rfl, _, rfl, x, ga, S, g, rfl, hS4, hgg, hgl', hg720, fun p5 hp5 => ?_⟩
   have s5 := kaj (o := .lst ((qs S.pr g).map V.int)) hp5
   refine ⟨c, p5, qs S.pr g, rfl, SqL.of kad, gnn, by omega, hcg.1, by omega, by rw [kcg]; omega, fun p6 hp6 => ?_⟩
   have s6 := s5.trans (kaj (o := .lst ((dl c (qs S.pr g)).map V.int)) hp6)
   have h6 : (upd (upd H4 p5 (.lst ((qs S.pr g).map V.int))) p6 (.lst ((dl c (qs S.pr g)).map V.int))) p6 = some (.lst ((dl c (qs S.pr g)).map V.int)) := kad
   have n6 : H4 p6 = none := none_of s5 hp6
   generalize upd (upd H4 p5 (.lst ((qs S.pr g).map V.int))) p6 (.lst ((dl c (qs S.pr g)).map V.int)) = H6 at *
   have b6 := b4.same s6
   have w6 := s6 _ _ h4
   have n6w : p6 ≠ w := fun e => by rw [e, h4] at n6; cases n6
   have ldl : (dl c (qs S.pr g)).length = g.length := by rw [keE, kcg]
   have emin : min (g.map iV).length ((dl c (qs S.pr g)).map V.int).length = g.length := by rw [FJ, FJ, ldl, C8]
   have ndt : ∀ (j n : Nat), g[j]? = some n → (((gl.take i).map Prod.snd).flatten ++ g.take j ++ [n]).Nodup := fun j n hj => by
    rw [C0]
    exact kdS hnd (i := i) (by rw [F0, eg]; rfl) hj
   have lfl : ((gl.take i).map Prod.snd).flatten.length = ((gl.take i).map fun p => dl p.1 (qs S.pr p.2)).flatten.length := by
    rw [List.length_flatten, List.length_flatten, Cb, Cb]
    congr 1
    refine Cy fun q _ => ?_
    show q.2.length = (dl q.1 (qs S.pr q.2)).length
    rw [keE, kcg]
   refine ⟨ga, p6, _, _, rfl, s6 _ _ hgg, h6, khU (xs := g.map iV) (ys := (dl c (qs S.pr g)).map V.int) (fun j σ H' => (∃ v8 v9 v10 v11 v12 : Option V, σ = [some (.ref v), some (.ref a), some (.ref b), some (.ref x), some (.ref pa), some (.ref w), v8, v9, v10, v11, v12]) ∧ But w H3 H' ∧ H' ga = some (.lst (g.map iV)) ∧ H' p6 = some (.lst ((dl c (qs S.pr g)).map V.int)) ∧
     H' w = some (.lst ((spr S.pr.length (((gl.take i).map Prod.snd).flatten ++ g.take j) (((gl.take i).map fun p => dl p.1 (qs S.pr p.2)).flatten ++ (dl c (qs S.pr g)).take j)).map V.int)))
    ⟨⟨_, _, _, _, _, rfl⟩, b6, s6 _ _ hgg, h6, by rw [w6]; simp⟩ (fun j σ H' _ h => ⟨h.2.2.1, h.2.2.2.1⟩) ?_ ?_⟩
   ·rintro j y1 y2 t2 σ H7 hy1 hy2 ⟨⟨v8, v9, v10, v11, v12, rfl⟩, b7, g7, d7, w7⟩ ht2
    obtain ⟨n, en, rfl⟩ := kbY hy1
    obtain ⟨z, ez, rfl⟩ := kbY hy2
    have hn := hgl' n (FV en)
    have s8 := kaj (o := .tup [iV n, V.int z]) ht2
    refine ⟨t2, _, rfl, SqT.of kad, rfl, _, _, rfl, _, _, rfl, rfl, ?_⟩
    refine ⟨_, rfl, _, rfl, _, rfl, w, _, _, n, rfl, rfl, s8 _ _ w7, khJ (by rw [FJ, kcR]; exact hn), ⟨_, _, _, _, _, rfl⟩, (b7.same s8).trans kaz, ?_, ?_, ?_⟩
    ·rw [kam ngaw]
     exact s8 _ _ g7
    ·rw [kam n6w]
     exact s8 _ _ d7
    ·rw [kad, ← List.map_set, kbL en, kbL ez, ← C7, ← C7]
     rw [kik (by rw [Ca, Ca, lfl, F2, F2, ldl]) (ndt j n en) hn]
   ·rintro σ H7 ⟨⟨v8, v9, v10, v11, v12, rfl⟩, b7, g7, d7, w7⟩
    refine ⟨⟨_, _, _, _, _, rfl⟩, b7, ?_⟩
    rw [w7, emin, Cw, Cz (Ry ldl), kbL eg]
    simp
  rintro σ H4 ⟨⟨v8, v9, v10, v11, v12, rfl⟩, b4, h4⟩
  have ltl : (tl.map V.ref).length = gl.length := by rw [FJ, hP.len]
  rw [ltl, Cw, hsp] at h4
  have s04 : Same H H4 := kgc hw0 s03 b4
  obtain ⟨mA, dxv, fsv, hv, lvm, _, ⟨dxm, fsm, hm, m1, m2, m3, m4, m5, m6⟩, hh, htb⟩ := id (hV.same s04)
  refine ⟨_, rfl, v, clsOf d Vc.so, dxv, fsv, _, rfl, hv, cl_of W hh, na_of W hh, lvm, mA, d.qh, dxm, fsm, _, rfl, hm, W.qh.cl, W.n_Marks_most, m3, ?_⟩
  have wle := kgX (so := Vc.so) (n := S.mkd.length) (lines := (abt ps (kds B) Vc.ms.kind Vc.ms.lone S).map fun i => S.ow.getD i 0) (qs_nn wf.nn (abt ps (kds B) Vc.ms.kind Vc.ms.lone S)) vo.so
  have cn := ki1 (V := Vc) (ps := ps) (kk := kds B) (S := S)
  have cs := fun (m : Int) (e : Vc.ms.most = some m) (h0 : 0 ≤ m) => ki0 (V := Vc) (ps := ps) (kk := kds B) (S := S) lp wle e h0
  have sabs := khj wf lab habl
  generalize ewant : want Vc.so S.mkd.length ((abt ps (kds B) Vc.ms.kind Vc.ms.lone S).map fun i => S.ow.getD i 0) (qs S.pr (abt ps (kds B) Vc.ms.kind Vc.ms.lone S)) = wn at *
  have fnn : Nn (spr S.pr.length (abt ps (kds B) Vc.ms.kind Vc.ms.lone S) wn) := (kfe wf.nn wle).nn
  have fsum : (spr S.pr.length (abt ps (kds B) Vc.ms.kind Vc.ms.lone S) wn).sum ≤ 720000000000000 := by
   have h := (kfe wf.nn wle).sum
   have h2 := kdd (b := 1000000000000) (q := S.pr) fun z hz => (wf.pr z hz).2
   omega
  cases em : Vc.ms.most with
  | none =>
   refine ⟨_, rfl, rfl, _, rfl, ?_⟩
   show if (!decide (V.non = V.non)) = true then _ else _
   rw [kjl]
   refine iteF (iteF ⟨_, rfl, k _ w s04 hw0 ?_⟩)
   rw [h4, cn em]
  | some m =>
   have hm0 := vo.ms.most m em
   refine ⟨_, rfl, rfl, _, rfl, ?_⟩
   show if (!decide (V.int m = V.non)) = true then _ else _
   rw [kjm]
   refine iteT ⟨_, rfl, w, _, rfl, SqL.of h4, _, rfl, _, _, rfl, rfl, _, rfl, ?_⟩
   by_cases hgt : (spr S.pr.length (abt ps (kds B) Vc.ms.kind Vc.ms.lone S) wn).sum > m
   ·rw [decide_eq_true hgt]
    refine iteT ⟨_, rfl, _, rfl, m, w, _, rfl, SqL.of h4, fnn, by omega, hm0.1, by omega, by rw [kcR]; omega, fun p7 hp7 => ?_⟩
    refine k _ p7 (s04.trans (kaj hp7)) (none_of s04 hp7) ?_
    rw [kad, cs m em hm0.1, if_pos hgt]
   ·rw [decide_eq_false hgt]
    refine iteF ⟨_, rfl, k _ w s04 hw0 ?_⟩
    rw [h4, cs m em hm0.1, if_neg hgt]
theorem kjY : kas ["voucher", "parents", "basket", "standing"] ["voucher", "parents", "basket", "standing"] (kab kct) := ⟨rfl, rfl, rfl, by decide +kernel, rfl, by decide +kernel, by decide +kernel⟩
theorem kj9 (W : WB K mg d base) : FnOk P w K mg base CX0 5 d.Xz d.XA ["voucher", "parents", "basket", "standing"] (kkE K d) := by
 refine FunD.ok W.Qc.F kjY (fun vs H Q E h => ?_) (fun cdv A outer s H vs Q E hr h => ?_)
 ·obtain ⟨v, a, b, x, V, ps, B, S, rfl, _⟩ := h
  rfl
 ·obtain ⟨v, a, b, x, Vc, ps, B, S, rfl, hV, hA, hB, hS, wf, vo, k⟩ := h
  have Xa := kcm (P := P) (w := w) (base := base) W
  have Xb := kch (P := P) (w := w) (base := base) W
  have hr2 : Room 2 _ := hr.mono (by decide)
  refine ⟨_, kak (kat (kcM (kaa (kao Xa hr rfl W.qH.m W.qH.F.kp W.qH.b .nil pass0 (kaa (pv 0) (kaa (pv 1) (kaa (pv 2) (kaa (pv 3) kah))))) (kaa (kao Xb hr2 rfl W.qI.m W.qI.F.kp W.qI.b .nil pass0 (kaa (pv 0) (kaa (pv 3) kah))) kah)))), ?_⟩
  refine ⟨_, rfl, _, rfl, _, rfl, _, rfl, v, a, b, x, Vc, ps, B, S, rfl, hV, hA, hB, hS, wf, vo, fun H1 p s1 f1 h1 => ?_⟩
  refine ⟨_, rfl, _, rfl, v, x, Vc, S, rfl, hV.same s1, hS.same s1, (by show 2 ≤ sizeLine; decide), fun t ht => ?_⟩
  rw [← khW (ps := ps) (kk := kds B) (S := S) vo]
  refine k _ t p (s1.trans (kaj ht)) (none_of s1 ht) f1 ?_ (kaj ht _ _ h1)
  exact kad
theorem ki8 {l : List Nat} {f g : Nat → Bool} (h : ∀ x ∈ l, f x = g x) : l.any f = l.any g := by
 induction l with
 | nil => rfl
 | cons a l ih => rw [C6, C6, h a Cd, ih fun x hx => h x (F9 _ hx)]
theorem kf6 {ow : List Nat} {cs : List Int} {i o l : Nat} (h : ow[i]? = some o) : kc9 (ow.take (i + 1)) cs l = (kc9 (ow.take i) cs l || (o == l && decide (0 < cs.getD i 0))) := by
 have hi := at_lt h
 unfold kc9
 rw [F2, F2, Ro (by omega), Ro (by omega), CY, List.any_append]
 congr 1
 ·refine ki8 fun j hj => ?_
  have hj' : j < i := by simpa using hj
  simp only [F6, List.getElem?_take]
  rw [if_pos (by omega), if_pos hj']
 ·simp only [C6, List.any_nil, Bool.or_false]
  rw [F6, List.getElem?_take, if_pos (by omega), h]
  rfl
noncomputable def kep (d : D) : Sp := fun vs H Q _ => ∃ (v x c : Addr) (V : Vch) (S : Stnd) (cs : List Int), vs = [.ref v, .ref x, .ref c] ∧ VchIs d H v V ∧ StndIs d.qc H x S ∧ H c = some (.lst (cs.map L2.V.int)) ∧ cs.length = S.ow.length ∧ S.ow.length ≤ 720 ∧ S.mkd.length ≤ 12 ∧ (∀ l ∈ S.ow, l < S.mkd.length) ∧
 ∀ (H' : Hp) (p : Addr), Same H H' → H p = none → H' p = some (.lst (((FU S.mkd.length).map fun l => S.mkd.getD l false || (V.ms.lone && kc9 S.ow cs l)).map L2.V.bl)) → Q (.ref p) H'
theorem QC : kas ["voucher", "standing", "piece_cuts", "marked", "owner", "cut"] ["voucher", "standing", "piece_cuts"] (kab kaV) := ⟨rfl, rfl, rfl, by decide +kernel, rfl, by decide +kernel, by decide +kernel⟩
theorem kdH (W : WB K mg d base) : FnOk P w K mg base CX0 1 d.XQ d.XR ["voucher", "standing", "piece_cuts"] (kep d) := by
 refine FunD.ok W.Qg.F QC (fun vs H Q E h => ?_) (fun cdv A outer s H vs Q E hr h => ?_)
 ·obtain ⟨v, x, c, V, S, cs, rfl, _⟩ := h
  rfl
 ·obtain ⟨v, x, c, Vc, S, cs, rfl, ⟨mA, dxv, fsv, hv, lvm, _, ⟨dxm, fsm, hm, m1, m2, m3, m4, m5, m6⟩, hh, htb⟩, ⟨o, p, mk, ⟨dxs, fss, hx, l1, l2, l3, l4, l5⟩, ho, hp, hmk⟩, hc, lc, lo, lmk, hw, k⟩ := h
  refine ⟨_, kae (kav (i := 3) QC.nd rfl (Or.inl rfl) (kbB kbt (by rfl) W.B.list kcJ (kaa (kap (pv 1) rfl) kah)))
   (kae (ps_if (kbF (kap (kap (pv 0) rfl) rfl)) (kak (kbQ PassesOwn.never rfl (kdj rfl W.B.zip (kaa (kap (pv 1) rfl) (kaa (pv 2) kah))) (kcZ rfl (kaK (kau (i := 4) QC.nd rfl (Or.inl rfl)) (kaK (kau (i := 5) QC.nd rfl (Or.inl rfl)) kbR)))
   (kak (ps_if (kay op_gt (pv 5) kai (kaF _)) (kak (kjg pe_bl (kji (pv 3) (pv 4) set_list))) (kaA))))) (kaA))
   (kak (kat (pv 3)))), ?_⟩
  have e0 : S.mkd.map V.bl = ((FU S.mkd.length).map fun l => S.mkd.getD l false || kc9 (S.ow.take 0) cs l).map V.bl := by
   congr 1
   apply C5
   ·simp
   ·intro j h1 h2
    simp [kc9, h1]
  refine ⟨_, rfl, x, d.qc, dxs, fss, _, rfl, hx, W.qc.cl, W.n_Standing_marked, l4, mk, _, rfl, .inl (SqL.of hmk), fun q hq => ?_⟩
  have s1 := kaj (o := .lst (S.mkd.map V.bl)) hq
  refine ⟨_, rfl, v, clsOf d Vc.so, dxv, fsv, _, rfl, s1 _ _ hv, cl_of W hh, na_of W hh, lvm, mA, d.qh, dxm, fsm, _, rfl, s1 _ _ hm, W.qh.cl, W.n_Marks_lone, m6, _, rfl, ?_⟩
  cases e : Vc.ms.lone with
  | false =>
   refine iteF ⟨_, rfl, k _ q s1 hq ?_⟩
   rw [e0]
   simp only [e, RY, Bool.or_false]
   rw [kad]
   congr 2
   simp [kc9]
  | true =>
   refine iteT ?_
   have emin : min (S.ow.map iV).length (cs.map V.int).length = S.ow.length := by rw [FJ, FJ, lc, C8]
   refine ⟨_, rfl, x, d.qc, dxs, fss, _, rfl, s1 _ _ hx, W.qc.cl, W.n_Standing_owners, l1, _, rfl, o, c, _, _, rfl, s1 _ _ ho, s1 _ _ hc,
    khU (xs := S.ow.map iV) (ys := cs.map V.int) (fun i σ H' => (∃ v4 v5 : Option V, σ = [some (.ref v), some (.ref x), some (.ref c), some (.ref q), v4, v5]) ∧ But q H H' ∧ H' q = some (.lst (((FU S.mkd.length).map fun l => S.mkd.getD l false || kc9 (S.ow.take i) cs l).map V.bl)))
     ⟨⟨none, none, rfl⟩, But.of_same s1, by rw [kad, e0]⟩ (fun i σ H' _ h => ⟨h.2.1 _ _ (kal ho hq) ho, h.2.1 _ _ (kal hc hq) hc⟩) ?_ ?_⟩
   ·rintro i y z t σ H1 hy hz ⟨⟨v4, v5, rfl⟩, b1, h1⟩ ht
    obtain ⟨ln, eln, rfl⟩ := kbY hy
    obtain ⟨cz, ecz, rfl⟩ := kbY hz
    have hln := hw ln (FV eln)
    have st := fun l => kf6 (cs := cs) (l := l) eln
    have eg : cs.getD i 0 = cz := by rw [F6, ecz]; rfl
    have tq : q ≠ t := kal h1 ht
    have b2 := b1.same (kaj (o := .tup [iV ln, V.int cz]) ht)
    have h2 := kaj (o := .tup [iV ln, V.int cz]) ht _ _ h1
    refine ⟨t, _, rfl, SqT.of kad, rfl, _, _, rfl, _, _, rfl, rfl, ?_⟩
    refine ⟨_, rfl, _, _, rfl, rfl, _, rfl, ?_⟩
    by_cases hc0 : cz > 0
    ·rw [decide_eq_true hc0]
     refine iteT ⟨_, rfl, _, rfl, q, _, _, ln, rfl, rfl, h2, khJ (by simpa using hln), ⟨_, _, rfl⟩, b2.trans kaz, ?_⟩
     rw [kad, ← List.map_set]
     congr 3
     apply C5
     ·simp
     ·intro j g1 g2
      have hj : j < S.mkd.length := by simpa using g1
      rw [List.getElem_set]
      simp only [Rq, RM]
      rw [st j, eg]
      by_cases hjl : ln = j
      ·subst hjl
       simp [hc0]
      ·rw [if_neg hjl, show (ln == j) = false by simpa using hjl]
       simp
    ·rw [decide_eq_false hc0]
     refine iteF ⟨⟨_, _, rfl⟩, b2, ?_⟩
     rw [h2]
     congr 3
     refine Cy fun l _ => ?_
     rw [st l, eg, show decide (0 < cz) = false by simpa using hc0]
     simp
   ·rintro σ H1 ⟨⟨v4, v5, rfl⟩, b1, h1⟩
    rw [emin, Cw] at h1
    refine ⟨_, rfl, k _ q (kia b1 hq) hq ?_⟩
    rw [h1]
    simp only [e, Bool.true_and]
theorem Xc : kas ["voucher", "parents", "basket", "standing", "piece_cuts", "left"] ["voucher", "parents", "basket", "standing"] (kab kb5) := ⟨rfl, rfl, rfl, by decide +kernel, rfl, by decide +kernel, by decide +kernel⟩
theorem kiK (W : WB K mg d base) : FnOk P w K mg base CX0 5 d.XB d.XC ["voucher", "parents", "basket", "standing"] (kjU K d) := by
 refine FunD.ok W.Qd.F Xc (fun vs H Q E h => ?_) (fun cdv A outer s H vs Q E hr h => ?_)
 ·obtain ⟨v, a, b, x, V, ps, B, S, rfl, _⟩ := h
  rfl
 ·obtain ⟨v, a, b, x, Vc, ps, B, S, rfl, hV, hA, hB, hS, wf, vo, k⟩ := h
  have Xa := kcm (P := P) (w := w) (base := base) W
  have Xd := kcv (P := P) (w := w) (base := base) W
  have Xb := kch (P := P) (w := w) (base := base) W
  have ZM := kdH (P := P) (w := w) (base := base) W
  have hr1 : Room 1 _ := hr.mono (by decide)
  have hr2 : Room 2 _ := hr.mono (by decide)
  have hr3 : Room 3 _ := hr.mono (by decide)
  refine ⟨_, kae (kav (i := 4) Xc.nd rfl (Or.inl rfl) (kao Xa hr rfl W.qH.m W.qH.F.kp W.qH.b .nil pass0 (kaa (pv 0) (kaa (pv 1) (kaa (pv 2) (kaa (pv 3) kah))))))
   (kae (kav (i := 5) Xc.nd rfl (Or.inl rfl) (kbM (W.qR.mk' W.qc) Xd hr3 rfl W.qc.m W.qR.b .nil pass0 (kaa (pv 2) kah)))
   (kae (ka5 (pv 5) (kbB kbt (by rfl) W.B.list kcJ (kaa (kap (pv 3) rfl) kah)) rfl)
   (kae (ka5 (pv 5) (kbT (N := ["price", "cut"]) (CompScope.plain rfl (by decide +kernel) (by decide +kernel) (by decide +kernel) (show (["price", "cut"] : List Str).Nodup by decide +kernel)) rfl (kdj rfl W.B.zip (kaa (kap (pv 3) rfl) (kaa (pv 4) kah))) (fun _ _ _ _ => kdk (K := K) (n := 2) rfl (kaK (kau (i := 0) (show (["price", "cut"] : List Str).Nodup by decide +kernel) rfl (Or.inl rfl)) (kaK (kau (i := 1) (show (["price", "cut"] : List Str).Nodup by decide +kernel) rfl (Or.inl rfl)) kbR))) (fun _ _ _ _ => (pe_op kd3 (pv 0) (pv 1)))) rfl)
   (kae (ka5 (pv 5) (pe_op kd3 (kap (pv 3) rfl) (kao Xb hr2 rfl W.qI.m W.qI.F.kp W.qI.b .nil pass0 (kaa (pv 0) (kaa (pv 3) kah)))) rfl)
   (kae (ka5 (pv 5) (kao ZM hr1 rfl W.Qg.m W.Qg.F.kp W.Qg.b .nil pass0 (kaa (pv 0) (kaa (pv 3) (kaa (pv 4) kah)))) rfl)
   (kak (kat (pv 5)))))))), ?_⟩
  have np := wf.np
  have lp := wf.lp
  have lcut : (cutM Vc ps (kds B) S).1.length = S.pr.length := (kh5 wf.nn wf.cg.1 vo.so fun m e => (vo.ms.most m e).1).1.1
  refine ⟨_, rfl, _, rfl, _, rfl, _, rfl, v, a, b, x, Vc, ps, B, S, rfl, hV, hA, hB, hS, wf, vo, fun H1 pc s1 f1 h1 => ?_⟩
  obtain ⟨l, ls, hb1, hl1, hL1⟩ := id (hB.same s1)
  refine ⟨_, rfl, khz hb1 hl1 hL1 wf.nl wf.ok fun H2 y s2 f2 dxy fsy hy ly lyw => ?_⟩
  have fy : H y = none := none_of s1 f2
  have s02 := s1.trans s2
  obtain ⟨o, p, mk, ⟨dxs, fss, hx, l1, l2, l3, l4, l5⟩, ho, hp, hmk⟩ := id hS
  refine ⟨_, rfl, x, d.qc, dxs, fss, _, rfl, s02 _ _ hx, W.qc.cl, W.n_Standing_owners, l1, o, _, rfl, .inl (SqL.of (s02 _ _ ho)), fun q1 hq1 => ?_⟩
  have n1 : q1 ≠ y := (kal hy hq1).symm
  refine ⟨_, rfl, y, d.qc, dxy, fsy, rfl, kaj hq1 _ _ hy, W.qc.cl, W.n_Standing_owners, few (by omega), ?_⟩
  have s3 : Same H (upd (upd H2 q1 (.lst (S.ow.map iV))) y (.ins d.qc dxy (putF "owners" (.ref q1) fsy))) := kax fy (s02.trans (kaj hq1))
  have e3 : (upd (upd H2 q1 (.lst (S.ow.map iV))) y (.ins d.qc dxy (putF "owners" (.ref q1) fsy))) q1 = some (.lst (S.ow.map iV)) := by rw [kam n1, kad]
  have y3 : (upd (upd H2 q1 (.lst (S.ow.map iV))) y (.ins d.qc dxy (putF "owners" (.ref q1) fsy))) y = some (.ins d.qc dxy (putF "owners" (.ref q1) fsy)) := kad
  have c3 : (upd (upd H2 q1 (.lst (S.ow.map iV))) y (.ins d.qc dxy (putF "owners" (.ref q1) fsy))) pc = some (.lst ((cutM Vc ps (kds B) S).1.map V.int)) := by
   rw [kam (kal h1 f2)]
   exact kaj hq1 _ _ (s2 _ _ h1)
  have f3 := FQ (kan (f := "owners") (v := .ref q1) ly) (by decide : 11 ≤ 20)
  generalize upd (upd H2 q1 (.lst (S.ow.map iV))) y (.ins d.qc dxy (putF "owners" (.ref q1) fsy)) = H3 at *
  have emin : min (S.pr.map V.int).length ((cutM Vc ps (kds B) S).1.map V.int).length = S.pr.length := by rw [FJ, FJ, lcut, C8]
  refine ⟨_, rfl, x, d.qc, dxs, fss, _, rfl, s3 _ _ hx, W.qc.cl, W.n_Standing_prices, l2, _, rfl, p, pc, _, _, rfl, s3 _ _ hp, c3,
   kdP (xs := S.pr.map V.int) (ys := (cutM Vc ps (kds B) S).1.map V.int) (fun i σ zs H' => Same H3 H' ∧ zs = ((Cp (· - ·) S.pr (cutM Vc ps (kds B) S).1).take i).map V.int ∧ ∃ v0 v1 : Option V, σ = [v0, v1])
    ⟨Same.refl _, rfl, none, none, rfl⟩ (by rw [emin]; exact FY (kar (by omega))) (fun i σ zs H' hi h => ⟨h.1 _ _ (s3 _ _ hp), h.1 _ _ c3, by rw [h.2.1, FJ, F2, Ri, lcut]; rw [emin] at hi; omega⟩) ?_ ?_⟩
  ·rintro i y1 y2 t σ zs H4 hy1 hy2 ⟨s4, rfl, v0, v1, rfl⟩ ht
   obtain ⟨z1, ez1, rfl⟩ := kbY hy1
   obtain ⟨z2, ez2, rfl⟩ := kbY hy2
   refine ⟨t, _, rfl, SqT.of kad, rfl, _, _, rfl, _, _, rfl, rfl, _, rfl, _, rfl, _, _, rfl, rfl, s4.trans (kaj ht), ?_, _, _, rfl⟩
   rw [kbL (r := z1 - z2) (by rw [Rr, ez1, ez2]), FX]
   rfl
  rintro σ zs H4 ⟨s4, rfl, v0, v1, rfl⟩ q2 hq2
  rw [emin, Cz (by rw [Ri, lcut]; omega)]
  have n2 : q2 ≠ y := (kal (s4 _ _ y3) hq2).symm
  have n12 : q1 ≠ q2 := kal (s4 _ _ e3) hq2
  have s5 := kaj (o := .lst ((Cp (· - ·) S.pr (cutM Vc ps (kds B) S).1).map V.int)) hq2
  refine ⟨_, rfl, y, d.qc, dxy, _, rfl, s5 _ _ (s4 _ _ y3), W.qc.cl, W.n_Standing_prices, few f3, ?_⟩
  have s6 : Same H (upd (upd H4 q2 (.lst ((Cp (· - ·) S.pr (cutM Vc ps (kds B) S).1).map V.int))) y (.ins d.qc dxy (putF "prices" (.ref q2) (putF "owners" (.ref q1) fsy)))) := kax fy ((s3.trans s4).trans s5) (nx (s5 _ _ (s4 _ _ y3)))
  have e6 : (upd (upd H4 q2 (.lst ((Cp (· - ·) S.pr (cutM Vc ps (kds B) S).1).map V.int))) y (.ins d.qc dxy (putF "prices" (.ref q2) (putF "owners" (.ref q1) fsy)))) q1 = some (.lst (S.ow.map iV)) := by
   rw [kam n1]
   exact s5 _ _ (s4 _ _ e3)
  have p6 : (upd (upd H4 q2 (.lst ((Cp (· - ·) S.pr (cutM Vc ps (kds B) S).1).map V.int))) y (.ins d.qc dxy (putF "prices" (.ref q2) (putF "owners" (.ref q1) fsy)))) q2 = some (.lst ((Cp (· - ·) S.pr (cutM Vc ps (kds B) S).1).map V.int)) := by rw [kam n2, kad]
  have y6 : (upd (upd H4 q2 (.lst ((Cp (· - ·) S.pr (cutM Vc ps (kds B) S).1).map V.int))) y (.ins d.qc dxy (putF "prices" (.ref q2) (putF "owners" (.ref q1) fsy)))) y = some (.ins d.qc dxy (putF "prices" (.ref q2) (putF "owners" (.ref q1) fsy))) := kad
  have c6 : (upd (upd H4 q2 (.lst ((Cp (· - ·) S.pr (cutM Vc ps (kds B) S).1).map V.int))) y (.ins d.qc dxy (putF "prices" (.ref q2) (putF "owners" (.ref q1) fsy)))) pc = some (.lst ((cutM Vc ps (kds B) S).1.map V.int)) := by
   rw [kam (kal h1 f2)]
   exact s5 _ _ (s4 _ _ c3)
  have f6 := FQ (kan (f := "prices") (v := .ref q2) (kan (f := "owners") (v := .ref q1) ly)) (by decide : 12 ≤ 20)
  generalize upd (upd H4 q2 (.lst ((Cp (· - ·) S.pr (cutM Vc ps (kds B) S).1).map V.int))) y (.ins d.qc dxy (putF "prices" (.ref q2) (putF "owners" (.ref q1) fsy))) = H6 at *
  refine ⟨_, rfl, x, d.qc, dxs, fss, _, rfl, s6 _ _ hx, W.qc.cl, W.n_Standing_carriage, l3, _, rfl, _, rfl, v, x, Vc, S, rfl, hV.same s6, hS.same s6, _, _, rfl, rfl, ?_⟩
  rw [← khW (ps := ps) (kk := kds B) (S := S) vo]
  refine ⟨_, rfl, y, d.qc, dxy, _, rfl, y6, W.qc.cl, W.n_Standing_carriage, few f6, ?_⟩
  have s7 : Same H (upd H6 y (.ins d.qc dxy (putF "carriage" (.int (S.cg - (cutM Vc ps (kds B) S).2)) (putF "prices" (.ref q2) (putF "owners" (.ref q1) fsy))))) := kax fy s6
  have e7 : (upd H6 y (.ins d.qc dxy (putF "carriage" (.int (S.cg - (cutM Vc ps (kds B) S).2)) (putF "prices" (.ref q2) (putF "owners" (.ref q1) fsy))))) q1 = some (.lst (S.ow.map iV)) := by rw [kam n1]; exact e6
  have p7 : (upd H6 y (.ins d.qc dxy (putF "carriage" (.int (S.cg - (cutM Vc ps (kds B) S).2)) (putF "prices" (.ref q2) (putF "owners" (.ref q1) fsy))))) q2 = some (.lst ((Cp (· - ·) S.pr (cutM Vc ps (kds B) S).1).map V.int)) := by rw [kam n2]; exact p6
  have y7 : (upd H6 y (.ins d.qc dxy (putF "carriage" (.int (S.cg - (cutM Vc ps (kds B) S).2)) (putF "prices" (.ref q2) (putF "owners" (.ref q1) fsy))))) y = some (.ins d.qc dxy (putF "carriage" (.int (S.cg - (cutM Vc ps (kds B) S).2)) (putF "prices" (.ref q2) (putF "owners" (.ref q1) fsy)))) := kad
  have c7 : (upd H6 y (.ins d.qc dxy (putF "carriage" (.int (S.cg - (cutM Vc ps (kds B) S).2)) (putF "prices" (.ref q2) (putF "owners" (.ref q1) fsy))))) pc = some (.lst ((cutM Vc ps (kds B) S).1.map V.int)) := by rw [kam (kal h1 f2)]; exact c6
  have f7 := FQ (kan (f := "carriage") (v := .int (S.cg - (cutM Vc ps (kds B) S).2)) (kan (f := "prices") (v := .ref q2) (kan (f := "owners") (v := .ref q1) ly))) (by decide : 13 ≤ 20)
  generalize upd H6 y (.ins d.qc dxy (putF "carriage" (.int (S.cg - (cutM Vc ps (kds B) S).2)) (putF "prices" (.ref q2) (putF "owners" (.ref q1) fsy)))) = H7 at *
  refine ⟨_, rfl, _, rfl, _, rfl, v, x, pc, Vc, S, _, rfl, hV.same s7, hS.same s7, c7, by rw [lcut, lp], np, by rw [wf.lm]; exact wf.nl, fun l hl => ?_, fun H8 q3 s8 f8 h8 => ?_⟩
  ·obtain ⟨i, hi⟩ := Ra.mp hl
   rw [wf.lm]
   exact wf.line hi
  have n3 : q3 ≠ y := (kal y7 f8).symm
  refine ⟨_, rfl, y, d.qc, dxy, _, rfl, s8 _ _ y7, W.qc.cl, W.n_Standing_marked, few f7, ?_⟩
  refine ⟨_, rfl, k _ y (kax fy (s7.trans s8) (nx (s8 _ _ y7))) fy ⟨q1, q2, q3, ⟨dxy, _, kad, ?_, ?_, ?_, ?_, ?_⟩, ?_, ?_, ?_⟩⟩
  ·(repeat (first | rw [kac, if_pos rfl] | rw [kac, if_neg (by decide +kernel)]))
  ·(repeat (first | rw [kac, if_pos rfl] | rw [kac, if_neg (by decide +kernel)]))
  ·(repeat (first | rw [kac, if_pos rfl] | rw [kac, if_neg (by decide +kernel)]))
   rfl
  ·(repeat (first | rw [kac, if_pos rfl] | rw [kac, if_neg (by decide +kernel)]))
  ·rw [kac, if_neg (by decide +kernel), kac, if_neg (by decide +kernel), kac, if_neg (by decide +kernel), kac, if_neg (by decide +kernel)]
   exact lyw
  ·rw [kam n1]
   exact s8 _ _ e7
  ·rw [kam n2]
   exact s8 _ _ p7
  ·rw [kam n3]
   exact h8
noncomputable def kg7 (d : D) : Sp := fun vs H Q _ => ∃ (H0 : Hp) (x dx p vl rl : Addr) (ps vs' rs : List V) (bk : Str), vs = [.ref x, .ref p, .ref vl, .ref rl, .str bk] ∧ H0 x = none ∧ Same H0 H ∧ H x = some (.ins d.qg dx []) ∧ H0 p = some (.lst ps) ∧ H0 vl = some (.lst vs') ∧ H0 rl = some (.lst rs) ∧
 ∀ (H' : Hp) (p' vl' rl' : Addr) (fs : List (Str × V)), Same H0 H' → H0 p' = none → H0 vl' = none → H0 rl' = none → H' p' = some (.lst ps) → H' vl' = some (.lst vs') → H' rl' = some (.lst rs) → H' x = some (.ins d.qg dx fs) → fs.lookup ("parents" : Str) = some (.ref p') → fs.lookup ("vouchers" : Str) = some (.ref vl') → fs.lookup ("rules" : Str) = some (.ref rl') → fs.lookup ("back" : Str) = some (.str bk) → Q .non H'
theorem kfk : kas ["self", "parents", "vouchers", "rules", "back"] ["self", "parents", "vouchers", "rules", "back"] (kab kba) := ⟨rfl, rfl, rfl, by decide +kernel, rfl, by decide +kernel, by decide +kernel⟩
theorem kft (W : WB K mg d base) : FnOk P w K mg base CX0 1 d.Y7 d.QS ["self", "parents", "vouchers", "rules", "back"] (kg7 d) := by
 refine FunD.ok W.Q3.F kfk (fun vs H Q E h => ?_) (fun cdv A outer s H vs Q E hr h => ?_)
 ·obtain ⟨H0, x, dx, p, vl, rl, ps, vs', rs, bk, rfl, _⟩ := h
  rfl
 ·obtain ⟨H0, x, dx, p, vl, rl, ps, vs', rs, bk, rfl, fx, s0, hx, hp, hvl, hrl, k⟩ := h
  refine ⟨_, kae (ka5 (pv 0) (kbB kbt (by rfl) W.B.list kcJ (kaa (pv 1) kah)) rfl)
   (kae (ka5 (pv 0) (kbB kbt (by rfl) W.B.list kcJ (kaa (pv 2) kah)) rfl)
   (kae (ka5 (pv 0) (kbB kbt (by rfl) W.B.list kcJ (kaa (pv 3) kah)) rfl)
   (kak (ka5 (pv 0) (pv 4) rfl)))), ?_⟩
  refine ⟨_, rfl, p, _, rfl, .inl (SqL.of (s0 _ _ hp)), fun p' hp' => ?_⟩
  have n1 := kaj (o := .lst ps) hp'
  have fp := s0.free hp'
  have np : p' ≠ x := (kal hx hp').symm
  have e1 : (upd H p' (.lst ps)) p' = some (.lst ps) := kad
  have s1 := s0.trans n1
  have hx1 := n1 _ _ hx
  clear n1
  generalize upd H p' (.lst ps) = H1 at *
  refine ⟨_, rfl, x, d.qg, dx, [], rfl, hx1, W.qg.cl, W.n_Till_parents, by decide, ?_⟩
  have s2 : Same H0 (upd H1 x (.ins d.qg dx (putF "parents" (.ref p') []))) := kax fx s1 (nx hx1)
  have e2 : (upd H1 x (.ins d.qg dx (putF "parents" (.ref p') []))) p' = some (.lst ps) := by rw [kam np]; exact e1
  have hx2 : (upd H1 x (.ins d.qg dx (putF "parents" (.ref p') []))) x = some (.ins d.qg dx (putF "parents" (.ref p') [])) := kad
  generalize upd H1 x (.ins d.qg dx (putF "parents" (.ref p') [])) = H2 at *
  refine ⟨_, rfl, vl, _, rfl, .inl (SqL.of (s2 _ _ hvl)), fun v' hv' => ?_⟩
  have n3 := kaj (o := .lst vs') hv'
  have fv := s2.free hv'
  have nv : v' ≠ x := (kal hx2 hv').symm
  have s3 := s2.trans n3
  have e3 := n3 _ _ e2
  have ev3 : (upd H2 v' (.lst vs')) v' = some (.lst vs') := kad
  have hx3 := n3 _ _ hx2
  clear n3
  generalize upd H2 v' (.lst vs') = H3 at *
  refine ⟨_, rfl, x, d.qg, dx, _, rfl, hx3, W.qg.cl, W.n_Till_vouchers, few (FQ (kan (n := 0) (FM _)) (by decide)), ?_⟩
  have s4 : Same H0 (upd H3 x (.ins d.qg dx (putF "vouchers" (.ref v') (putF "parents" (.ref p') [])))) := kax fx s3 (nx hx3)
  have e4 : (upd H3 x (.ins d.qg dx (putF "vouchers" (.ref v') (putF "parents" (.ref p') [])))) p' = some (.lst ps) := by rw [kam np]; exact e3
  have ev4 : (upd H3 x (.ins d.qg dx (putF "vouchers" (.ref v') (putF "parents" (.ref p') [])))) v' = some (.lst vs') := by rw [kam nv]; exact ev3
  have hx4 : (upd H3 x (.ins d.qg dx (putF "vouchers" (.ref v') (putF "parents" (.ref p') [])))) x = some (.ins d.qg dx (putF "vouchers" (.ref v') (putF "parents" (.ref p') []))) := kad
  generalize upd H3 x (.ins d.qg dx (putF "vouchers" (.ref v') (putF "parents" (.ref p') []))) = H4 at *
  refine ⟨_, rfl, rl, _, rfl, .inl (SqL.of (s4 _ _ hrl)), fun r' hr' => ?_⟩
  have n5 := kaj (o := .lst rs) hr'
  have fr := s4.free hr'
  have nr : r' ≠ x := (kal hx4 hr').symm
  have s5 := s4.trans n5
  have e5 := n5 _ _ e4
  have ev5 := n5 _ _ ev4
  have er5 : (upd H4 r' (.lst rs)) r' = some (.lst rs) := kad
  have hx5 := n5 _ _ hx4
  clear n5
  generalize upd H4 r' (.lst rs) = H5 at *
  refine ⟨_, rfl, x, d.qg, dx, _, rfl, hx5, W.qg.cl, W.n_Till_rules, few (FQ (kan (kan (n := 0) (FM _))) (by decide)), ?_⟩
  have s6 : Same H0 (upd H5 x (.ins d.qg dx (putF "rules" (.ref r') (putF "vouchers" (.ref v') (putF "parents" (.ref p') []))))) := kax fx s5 (nx hx5)
  have hx6 : (upd H5 x (.ins d.qg dx (putF "rules" (.ref r') (putF "vouchers" (.ref v') (putF "parents" (.ref p') []))))) x = some (.ins d.qg dx (putF "rules" (.ref r') (putF "vouchers" (.ref v') (putF "parents" (.ref p') [])))) := kad
  refine ⟨_, rfl, _, rfl, x, d.qg, dx, _, rfl, hx6, W.qg.cl, W.n_Till_back, few (FQ (kan (kan (kan (n := 0) (FM _)))) (by decide)), ?_⟩
  refine k _ p' v' r' _ (kax fx s6 (nx hx6)) fp fv fr ?_ ?_ ?_ kad ?_ ?_ ?_ ?_
  ·rw [kam np, kam np]; exact e5
  ·rw [kam nv, kam nv]; exact ev5
  ·rw [kam nr, kam nr]; exact er5
  ·(repeat (first | rw [kac, if_pos rfl] | rw [kac, if_neg (by decide +kernel)]))
  ·(repeat (first | rw [kac, if_pos rfl] | rw [kac, if_neg (by decide +kernel)]))
  ·(repeat (first | rw [kac, if_pos rfl] | rw [kac, if_neg (by decide +kernel)]))
  ·(repeat (first | rw [kac, if_pos rfl] | rw [kac, if_neg (by decide +kernel)]))
theorem kkc {d : D} {H : Hp} {p vl rl : Addr} {T : TillD} {va ra : List Addr} {R : Addr → Hp → Prop} {E : XK} (hp : H p = some (.lst (T.ps.map pV))) (hvl : H vl = some (.lst (va.map V.ref))) (hv : P2 (fun a V => VchIs d H a V) va T.vs) (hrl : H rl = some (.lst (ra.map V.ref))) (hr : P2 (fun a r => RulIs H a r) ra T.rs)
  (k : ∀ (H' : Hp) (x : Addr), Same H H' → H x = none → TillIs d H' x T → R x H') :
  ∀ x dx, H x = none → H dx = none → dx ≠ x → kg7 d [.ref x, .ref p, .ref vl, .ref rl, .str T.bk] (upd (upd H dx (.own x)) x (.ins d.qg dx [])) (fun v H2 => v = .non ∧ R x H2) E :=
 fun x dx nx nd _ => ⟨H, x, dx, p, vl, rl, _, _, _, _, rfl, nx, kbE nx nd, kad, hp, hvl, hrl, fun H' p' vl' rl' fs s f1 f2 f3 h1 h2 h3 hx l1 l2 l3 l4 => ⟨rfl, k H' x s nx ⟨dx, fs, p', vl', rl', va, ra, hx, l1, l2, l3, l4, h1, h2, hv.mono fun a V h => h.same s, h3, hr.mono fun a r h => s _ _ h⟩⟩⟩
noncomputable def kg8 (f : List Rul → List Nat → Nat → Bool) : Sp := fun vs H Q _ => ∃ (rl u : Addr) (ra : List Addr) (rs : List Rul) (used : List Nat) (n : Nat), vs = [.ref rl, .ref u, iV n] ∧ H rl = some (.lst (ra.map V.ref)) ∧ P2 (fun a r => RulIs H a r) ra rs ∧ H u = some (.lst (used.map iV)) ∧ Q (.bl (f rs used n)) H
theorem kif {f : Rul → Bool} {rs : List Rul} {i : Nat} {r : Rul} (e : rs[i]? = some r) (h : f r = true) : rs.any f = true := List.any_eq_true.mpr ⟨r, FV e, h⟩
theorem kjw {f : Rul → Bool} {rs : List Rul} {n : Nat} (hn : n = rs.length) (h : ∀ r ∈ rs.take n, f r = false) : rs.any f = false := by
 rw [hn, Cw] at h
 cases e : rs.any f with
 | false => rfl
 | true =>
  obtain ⟨r, hr, e2⟩ := List.any_eq_true.mp e
  rw [h r hr] at e2
  cases e2
theorem kcb {f : Rul → Bool} {rs : List Rul} {i : Nat} {r : Rul} (e : rs[i]? = some r) (h : ∀ q ∈ rs.take i, f q = false) (hr : f r = false) : ∀ q ∈ rs.take (i + 1), f q = false := fun q hq => by
 rw [CV, e] at hq
 rcases Cq.mp hq with z | z
 ·exact h q z
 ·have e2 : q = r := by simpa using z
  rw [e2]
  exact hr
theorem QD : kas ["rules", "used", "number", "word", "one", "other"] ["rules", "used", "number"] (kab kaZ) := ⟨rfl, rfl, rfl, by decide +kernel, rfl, by decide +kernel, by decide +kernel⟩
theorem kd6 (W : WB K mg d base) : FnOk P w K mg base CX0 1 d.X5 d.X6 ["rules", "used", "number"] (kg8 keA) := by
 refine FunD.ok W.Qk.F QD (fun vs H Q E h => ?_) (fun cdv A outer s H vs Q E hr h => ?_)
 ·obtain ⟨rl, u, ra, rs, used, n, rfl, _⟩ := h
  rfl
 ·obtain ⟨rl, u, ra, rs, used, n, rfl, hrl, hr, hu, k⟩ := h
  refine ⟨_, kae (kbQ PassesOwn.never rfl (kbx (pv 0)) (kcZ rfl (kaK (kau (i := 3) QD.nd rfl (Or.inl rfl)) (kaK (kau (i := 4) QD.nd rfl (Or.inl rfl)) (kaK (kau (i := 5) QD.nd rfl (Or.inl rfl)) kbR))))
   (kak (ps_if (PW.pt (kb6 (kay op_eq (pv 3) kb7 (kaF _)) (kbS (PW.pt (pw_or (PW.pt (kb6 (kay op_eq (pv 4) (pv 2) (kaF _)) (kbS (kay kcz (pv 5) (pv 1) (by with_unfolding_all rfl))))) (kfn (PW.pt (kb6 (kay op_eq (pv 5) (pv 2) (kaF _)) (kbS (kay kcz (pv 4) (pv 1) (by with_unfolding_all rfl))))))))))) (kak (kat pe_bl)) (kaA))))
   (kak (kat pe_bl)), ?_⟩
  refine ⟨_, rfl, rl, rfl, ⟨_, SqL.of hrl⟩, kbW (xs := ra.map V.ref) (fun i σ H' => H' = H ∧ (∀ r ∈ rs.take i, nevR used n r = false) ∧ ∃ v3 v4 v5 : Option V, σ = [some (.ref rl), some (.ref u), some (iV n), v3, v4, v5])
   ⟨rfl, (fun r hr => by simp at hr), none, none, none, rfl⟩ (fun i σ H' _ h => by rw [h.1]; exact SqL.of hrl) ?_ ?_⟩
  ·rintro i y σ H' hy ⟨rfl, hno, v3, v4, v5, rfl⟩
   obtain ⟨a, ea, rfl⟩ := kb9 hy
   obtain ⟨r, er, hra⟩ := hr.at ea
   have yes : nevR used n r = true → Q (.bl true) H' := fun e => by
    have z := kif (f := nevR used n) er e
    unfold keA at k
    rw [z] at k
    exact k
   refine ⟨a, _, rfl, SqT.of hra, rfl, _, _, rfl, _, _, rfl, _, _, rfl, rfl, ?_⟩
   refine ⟨_, rfl, rfl, _, rfl, ?_⟩
   show if decide (V.str r.w = V.str "never") = true then _ else _
   rw [eq_str]
   by_cases hw : r.w = ("never" : Str)
   ·rw [decide_eq_true hw]
    refine iteT ⟨_, rfl, _, rfl, rfl, _, rfl, ?_⟩
    show if decide (iV r.a = iV n) = true then _ else _
    rw [kgy]
    by_cases ha : r.a = n
    ·rw [decide_eq_true ha]
     refine iteT ⟨_, rfl, _, rfl, u, _, rfl, .inl (SqL.of hu), rfl, kcl _, _, rfl, ?_⟩
     rw [if_neg FW, kcD]
     cases hb : used.contains r.b with
     | true => exact iteT (iteT (yes (by unfold nevR; rw [decide_eq_true hw, decide_eq_true ha, hb]; rfl)))
     | false =>
      refine iteF ⟨_, rfl, _, rfl, rfl, _, rfl, ?_⟩
      show if decide (iV r.b = iV n) = true then _ else _
      rw [kgy]
      by_cases hc : r.b = n
      ·rw [decide_eq_true hc]
       refine iteT ⟨_, rfl, _, rfl, u, _, rfl, .inl (SqL.of hu), rfl, kcl _, _, rfl, ?_⟩
       rw [if_neg FW, kcD]
       cases hd : used.contains r.a with
       | true => exact iteT (yes (by unfold nevR; rw [decide_eq_true hw, decide_eq_true ha, hb, decide_eq_true hc, hd]; rfl))
       | false => exact iteF ⟨rfl, kcb er hno (by unfold nevR; rw [decide_eq_true hw, decide_eq_true ha, hb, decide_eq_true hc, hd]; rfl), _, _, _, rfl⟩
      ·rw [decide_eq_false hc]
       exact iteF (iteF ⟨rfl, kcb er hno (by unfold nevR; rw [decide_eq_true hw, decide_eq_true ha, hb, decide_eq_false hc]; rfl), _, _, _, rfl⟩)
    ·rw [decide_eq_false ha]
     refine iteF (iteF ⟨_, rfl, _, rfl, rfl, _, rfl, ?_⟩)
     show if decide (iV r.b = iV n) = true then _ else _
     rw [kgy]
     by_cases hc : r.b = n
     ·rw [decide_eq_true hc]
      refine iteT ⟨_, rfl, _, rfl, u, _, rfl, .inl (SqL.of hu), rfl, kcl _, _, rfl, ?_⟩
      rw [if_neg FW, kcD]
      cases hd : used.contains r.a with
      | true => exact iteT (yes (by unfold nevR; rw [decide_eq_true hw, decide_eq_false ha, decide_eq_true hc, hd]; rfl))
      | false => exact iteF ⟨rfl, kcb er hno (by unfold nevR; rw [decide_eq_true hw, decide_eq_false ha, decide_eq_true hc, hd]; rfl), _, _, _, rfl⟩
     ·rw [decide_eq_false hc]
      exact iteF (iteF ⟨rfl, kcb er hno (by unfold nevR; rw [decide_eq_true hw, decide_eq_false ha, decide_eq_false hc]; rfl), _, _, _, rfl⟩)
   ·rw [decide_eq_false hw]
    refine iteF (iteF ⟨rfl, kcb er hno ?_, _, _, _, rfl⟩)
    unfold nevR
    rw [decide_eq_false hw]
    rfl
  ·rintro σ H' ⟨rfl, hno, v3, v4, v5, rfl⟩
   have z := kjw (by rw [FJ]; exact hr.len) hno
   unfold keA at k
   rw [z] at k
   exact k
theorem QE : kas ["rules", "used", "number", "word", "one", "other"] ["rules", "used", "number"] (kab ka0) := ⟨rfl, rfl, rfl, by decide +kernel, rfl, by decide +kernel, by decide +kernel⟩
theorem kd7 (W : WB K mg d base) : FnOk P w K mg base CX0 1 d.X7 d.X8 ["rules", "used", "number"] (kg8 keI) := by
 refine FunD.ok W.Ql.F QE (fun vs H Q E h => ?_) (fun cdv A outer s H vs Q E hr h => ?_)
 ·obtain ⟨rl, u, ra, rs, used, n, rfl, _⟩ := h
  rfl
 ·obtain ⟨rl, u, ra, rs, used, n, rfl, hrl, hr, hu, k⟩ := h
  refine ⟨_, kae (kbQ PassesOwn.never rfl (kbx (pv 0)) (kcZ rfl (kaK (kau (i := 3) QE.nd rfl (Or.inl rfl)) (kaK (kau (i := 4) QE.nd rfl (Or.inl rfl)) (kaK (kau (i := 5) QE.nd rfl (Or.inl rfl)) kbR))))
   (kak (ps_if (PW.pt (kb6 (kay op_eq (pv 3) kb7 (kaF _)) (kb6 (kay op_eq (pv 4) (pv 2) (kaF _)) (kbS (kay kcz (pv 5) (pv 1) (by with_unfolding_all rfl)))))) (kak (kat pe_bl)) (kaA))))
   (kak (kat pe_bl)), ?_⟩
  refine ⟨_, rfl, rl, rfl, ⟨_, SqL.of hrl⟩, kbW (xs := ra.map V.ref) (fun i σ H' => H' = H ∧ (∀ r ∈ rs.take i, ahdR used n r = false) ∧ ∃ v3 v4 v5 : Option V, σ = [some (.ref rl), some (.ref u), some (iV n), v3, v4, v5])
   ⟨rfl, (fun r hr => by simp at hr), none, none, none, rfl⟩ (fun i σ H' _ h => by rw [h.1]; exact SqL.of hrl) ?_ ?_⟩
  ·rintro i y σ H' hy ⟨rfl, hno, v3, v4, v5, rfl⟩
   obtain ⟨a, ea, rfl⟩ := kb9 hy
   obtain ⟨r, er, hra⟩ := hr.at ea
   have yes : ahdR used n r = true → Q (.bl true) H' := fun e => by
    have z := kif (f := ahdR used n) er e
    unfold keI at k
    rw [z] at k
    exact k
   refine ⟨a, _, rfl, SqT.of hra, rfl, _, _, rfl, _, _, rfl, _, _, rfl, rfl, ?_⟩
   refine ⟨_, rfl, rfl, _, rfl, ?_⟩
   show if decide (V.str r.w = V.str "ahead") = true then _ else _
   rw [eq_str]
   by_cases hw : r.w = ("ahead" : Str)
   ·rw [decide_eq_true hw]
    refine iteT ⟨_, rfl, _, rfl, rfl, _, rfl, ?_⟩
    show if decide (iV r.a = iV n) = true then _ else _
    rw [kgy]
    by_cases ha : r.a = n
    ·rw [decide_eq_true ha]
     refine iteT ⟨_, rfl, _, rfl, u, _, rfl, .inl (SqL.of hu), rfl, kcl _, _, rfl, ?_⟩
     rw [if_neg FW, kcD]
     cases hb : used.contains r.b with
     | true => exact iteT (yes (by unfold ahdR; rw [decide_eq_true hw, decide_eq_true ha, hb]; rfl))
     | false => exact iteF ⟨rfl, kcb er hno (by unfold ahdR; rw [decide_eq_true hw, decide_eq_true ha, hb]; rfl), _, _, _, rfl⟩
    ·rw [decide_eq_false ha]
     exact iteF (iteF ⟨rfl, kcb er hno (by unfold ahdR; rw [decide_eq_true hw, decide_eq_false ha]; rfl), _, _, _, rfl⟩)
   ·rw [decide_eq_false hw]
    refine iteF (iteF ⟨rfl, kcb er hno ?_, _, _, _, rfl⟩)
    unfold ahdR
    rw [decide_eq_false hw]
    rfl
  ·rintro σ H' ⟨rfl, hno, v3, v4, v5, rfl⟩
   have z := kjw (by rw [FJ]; exact hr.len) hno
   unfold keI at k
   rw [z] at k
   exact k
noncomputable def khc : Sp := fun vs H Q _ => ∃ (rl u : Addr) (ra : List Addr) (rs : List Rul) (order : List Nat), vs = [.ref rl, .ref u] ∧ H rl = some (.lst (ra.map V.ref)) ∧ P2 (fun a r => RulIs H a r) ra rs ∧ H u = some (.lst (order.map iV)) ∧ Q (pV (onlyM rs order)) H
theorem kgx {f : Rul → Bool} : ∀ {rs : List Rul} {i : Nat} {r : Rul}, rs[i]? = some r → f r = true → (∀ q ∈ rs.take i, f q = false) → rs.find? f = some r
 | [], i, r, e, _, _ => by simp at e
 | q :: rs, 0, r, e, h, _ => by
  have e2 : q = r := by simpa using e
  subst e2
  simp [h]
 | q :: rs, i + 1, r, e, h, hno => by
  have h1 := hno q (by simp)
  rw [List.find?_cons_of_neg (by rw [h1]; simp)]
  exact kgx (by simpa using e) h fun z hz => hno z (by simp [hz])
theorem kko {f : Rul → Bool} {rs : List Rul} {n : Nat} (hn : n = rs.length) (h : ∀ r ∈ rs.take n, f r = false) : rs.find? f = none := by
 rw [hn, Cw] at h
 exact List.find?_eq_none.mpr fun r hr => by rw [h r hr]; simp
theorem QF : kas ["rules", "order", "word", "one", "other"] ["rules", "order"] (kab kaG) := ⟨rfl, rfl, rfl, by decide +kernel, rfl, by decide +kernel, by decide +kernel⟩
theorem kc1 (W : WB K mg d base) : FnOk P w K mg base CX0 1 d.X9 d.Ya ["rules", "order"] khc := by
 refine FunD.ok W.Qm.F QF (fun vs H Q E h => ?_) (fun cdv A outer s H vs Q E hr h => ?_)
 ·obtain ⟨rl, u, ra, rs, order, rfl, _⟩ := h
  rfl
 ·obtain ⟨rl, u, ra, rs, order, rfl, hrl, hr, hu, k⟩ := h
  refine ⟨_, kae (kbQ PassesOwn.never rfl (kbx (pv 0)) (kcZ rfl (kaK (kau (i := 2) QF.nd rfl (Or.inl rfl)) (kaK (kau (i := 3) QF.nd rfl (Or.inl rfl)) (kaK (kau (i := 4) QF.nd rfl (Or.inl rfl)) kbR))))
   (kak (ps_if (PW.pt (kb6 (kay op_eq (pv 2) kb7 (kaF _)) (kb6 (kay kcz (pv 3) (pv 1) (by with_unfolding_all rfl)) (kbS (kay kfp (pv 4) (pv 1) (by with_unfolding_all rfl)))))) (kak (kat (pv 3))) (kaA))))
   (kak (kat kbC)), ?_⟩
  refine ⟨_, rfl, rl, rfl, ⟨_, SqL.of hrl⟩, kbW (xs := ra.map V.ref) (fun i σ H' => H' = H ∧ (∀ r ∈ rs.take i, loneM order r = false) ∧ ∃ v3 v4 v5 : Option V, σ = [some (.ref rl), some (.ref u), v3, v4, v5])
   ⟨rfl, (fun r hr => by simp at hr), none, none, none, rfl⟩ (fun i σ H' _ h => by rw [h.1]; exact SqL.of hrl) ?_ ?_⟩
  ·rintro i y σ H' hy ⟨rfl, hno, v3, v4, v5, rfl⟩
   obtain ⟨a, ea, rfl⟩ := kb9 hy
   obtain ⟨r, er, hra⟩ := hr.at ea
   refine ⟨a, _, rfl, SqT.of hra, rfl, _, _, rfl, _, _, rfl, _, _, rfl, rfl, ?_⟩
   refine ⟨_, rfl, rfl, _, rfl, ?_⟩
   show if decide (V.str r.w = V.str "only") = true then _ else _
   rw [eq_str]
   by_cases hw : r.w = ("only" : Str)
   ·rw [decide_eq_true hw]
    refine iteT ⟨_, rfl, _, rfl, u, _, rfl, .inl (SqL.of hu), rfl, kcl _, _, rfl, ?_⟩
    rw [if_neg FW, kcD]
    cases ha : order.contains r.a with
    | true =>
     refine iteT ⟨_, rfl, _, rfl, u, _, rfl, .inl (SqL.of hu), rfl, kcl _, _, rfl, ?_⟩
     rw [if_pos rfl, kcD]
     cases hb : order.contains r.b with
     | true => exact iteF ⟨rfl, kcb er hno (by unfold loneM; rw [decide_eq_true hw, ha, hb]; rfl), _, _, _, rfl⟩
     | false =>
      refine iteT ⟨_, rfl, ?_⟩
      have z := kgx (f := loneM order) er (by unfold loneM; rw [decide_eq_true hw, ha, hb]; rfl) hno
      unfold onlyM at k
      rw [z] at k
      exact k
    | false => exact iteF (iteF ⟨rfl, kcb er hno (by unfold loneM; rw [decide_eq_true hw, ha]; rfl), _, _, _, rfl⟩)
   ·rw [decide_eq_false hw]
    refine iteF (iteF ⟨rfl, kcb er hno ?_, _, _, _, rfl⟩)
    unfold loneM
    rw [decide_eq_false hw]
    rfl
  ·rintro σ H' ⟨rfl, hno, v3, v4, v5, rfl⟩
   have z := kko (by rw [FJ]; exact hr.len) hno
   unfold onlyM at k
   rw [z] at k
   exact k
noncomputable def kil (d : D) : Sp := fun vs H Q _ => ∃ (t h u : Addr) (T : TillD) (hand : List Int) (used : List Nat) (n : Nat) (V : Vch), vs = [.ref t, .ref h, .ref u, iV n] ∧ TillIs d H t T ∧ H h = some (.lst (hand.map L2.V.int)) ∧ H u = some (.lst (used.map iV)) ∧ T.vs[n]? = some V ∧ hand.length = T.vs.length ∧ Q (sV (wordM V T.rs hand used n)) H
theorem kdB : kas ["till", "hand", "used", "number"] ["till", "hand", "used", "number"] (kab kaT) := ⟨rfl, rfl, rfl, by decide +kernel, rfl, by decide +kernel, by decide +kernel⟩
theorem kdG (W : WB K mg d base) : FnOk P w K mg base CX0 2 d.X3 d.X4 ["till", "hand", "used", "number"] (kil d) := by
 refine FunD.ok W.Qj.F kdB (fun vs H Q E h => ?_) (fun cdv A outer s H vs Q E hr h => ?_)
 ·obtain ⟨t, h, u, T, hand, used, n, V, rfl, _⟩ := h
  rfl
 ·obtain ⟨t, h, u, T, hand, used, n, Vc, rfl, hT, hh, hu, hn, hl, k⟩ := h
  obtain ⟨dx, fs, p, vl, rl, va, ra, ht, t1, t2, t3, t4, hp, hvl, hva, hrl, hra⟩ := hT
  have ZN := kd6 (P := P) (w := w) (base := base) W
  have ZO := kd7 (P := P) (w := w) (base := base) W
  refine ⟨_, kae (ps_if (kay op_gt (pe_op kaY (pe_bm Ct PySem.F.slot_list_count PySem.F.type_list_count kiL (pv 2) (kaa (pv 3) kah)) kai) (pe_ix (r := rIxL K) kbu (pv 1) (pv 3) (fun _ _ => rfl)) (kaF _)) (kak (kat kb7)) (kaA))
   (kae (ps_if (PW.pt (kb6 (kbF (kap (kap (pe_ix (r := rIxL K) kbu (kap (pv 0) rfl) (pv 3) (fun _ _ => rfl)) rfl) rfl)) (kbS (kay kcz (pv 3) (pv 2) (by with_unfolding_all rfl))))) (kak (kat kb7)) (kaA))
   (kae (ps_if (kbF (kao ZN hr rfl W.Qk.m W.Qk.F.kp W.Qk.b .nil pass0 (kaa (kap (pv 0) rfl) (kaa (pv 2) (kaa (pv 3) kah))))) (kak (kat kb7)) (kaA))
   (kae (ps_if (kbF (kao ZO hr rfl W.Ql.m W.Ql.F.kp W.Ql.b .nil pass0 (kaa (kap (pv 0) rfl) (kaa (pv 2) (kaa (pv 3) kah))))) (kak (kat kb7)) (kaA))
   (kak (kat kbC))))), ?_⟩
  obtain ⟨v, ev⟩ := at_of (xs := va) (i := n) (by rw [hva.len]; exact at_lt hn)
  obtain ⟨Vc', eV', hV⟩ := hva.at ev
  rw [hn] at eV'
  cases eV'
  obtain ⟨mA, dxv, fsv, hv, lvm, _, ⟨dxm, fsm, hm, m1, m2, m3, m4, m5, m6⟩, hh', _⟩ := id hV
  obtain ⟨z, ez⟩ := at_of (xs := hand) (i := n) (by rw [hl]; exact at_lt hn)
  have eu : H u = some (.lst ((used.map fun (i : Nat) => (i : Int)).map V.int)) := by rw [hu, Cb]; rfl
  have eg : hand.getD n 0 = z := by rw [F6, ez]; rfl
  refine ⟨_, rfl, .inl ⟨rfl, _, SqL.of hu⟩, _, rfl, u, _, _, rfl, rfl, eu, _, _, rfl, rfl, _, rfl, _, rfl, h, _, _, _, rfl, rfl, SqL.of hh, kbN (v := .int z) (by rw [F0, ez]; rfl), _, _, rfl, rfl, _, rfl, ?_⟩
  rw [kkr]
  unfold wordM at k
  rw [eg] at k
  by_cases c1 : z < (used.count n : Int) + 1
  ·rw [if_pos c1] at k
   rw [show decide ((used.count n : Int) + 1 > z) = true from decide_eq_true c1]
   exact iteT k
  rw [if_neg c1] at k
  rw [show decide ((used.count n : Int) + 1 > z) = false from decide_eq_false c1]
  refine iteF ?_
  refine ⟨_, rfl, t, d.qg, dx, fs, _, rfl, ht, W.qg.cl, W.n_Till_vouchers, t2, _, rfl, vl, _, _, _, rfl, rfl, SqL.of hvl, kbN (v := .ref v) (by rw [F0, ev]; rfl), v, clsOf d Vc.so, dxv, fsv, _, rfl, hv, cl_of W hh', na_of W hh', lvm, mA, d.qh, dxm, fsm, _, rfl, hm, W.qh.cl, W.n_Marks_once, m5, Vc.ms.once, rfl, ?_⟩
  cases ho : Vc.ms.once with
  | true =>
   rw [ho, Bool.true_and] at k
   refine iteT ⟨_, rfl, _, rfl, u, _, rfl, .inl (SqL.of hu), rfl, kcl _, _, rfl, ?_⟩
   rw [if_neg FW, kcD]
   cases hc : used.contains n with
   | true =>
    rw [hc, if_pos rfl] at k
    exact iteT k
   | false =>
    rw [hc, if_neg FW] at k
    refine iteF ?_
    refine ⟨_, rfl, t, d.qg, dx, fs, _, rfl, ht, W.qg.cl, W.n_Till_rules, t3, _, rfl, _, rfl, rl, u, ra, T.rs, used, n, rfl, hrl, hra, hu, _, rfl, ?_⟩
    cases h1 : keA T.rs used n with
    | true =>
     rw [h1, if_pos rfl] at k
     exact iteT k
    | false =>
     rw [h1, if_neg FW] at k
     refine iteF ⟨_, rfl, t, d.qg, dx, fs, _, rfl, ht, W.qg.cl, W.n_Till_rules, t3, _, rfl, _, rfl, rl, u, ra, T.rs, used, n, rfl, hrl, hra, hu, _, rfl, ?_⟩
     cases h2 : keI T.rs used n with
     | true =>
      rw [h2, if_pos rfl] at k
      exact iteT k
     | false =>
      rw [h2, if_neg FW] at k
      exact iteF k
  | false =>
   rw [ho, RY, if_neg FW] at k
   refine iteF (iteF ?_)
   refine ⟨_, rfl, t, d.qg, dx, fs, _, rfl, ht, W.qg.cl, W.n_Till_rules, t3, _, rfl, _, rfl, rl, u, ra, T.rs, used, n, rfl, hrl, hra, hu, _, rfl, ?_⟩
   cases h1 : keA T.rs used n with
   | true =>
    rw [h1, if_pos rfl] at k
    exact iteT k
   | false =>
    rw [h1, if_neg FW] at k
    refine iteF ⟨_, rfl, t, d.qg, dx, fs, _, rfl, ht, W.qg.cl, W.n_Till_rules, t3, _, rfl, _, rfl, rl, u, ra, T.rs, used, n, rfl, hrl, hra, hu, _, rfl, ?_⟩
    cases h2 : keI T.rs used n with
    | true =>
     rw [h2, if_pos rfl] at k
     exact iteT k
    | false =>
     rw [h2, if_neg FW] at k
     exact iteF k
noncomputable def kjf (d : D) : Sp := fun vs H Q _ => ∃ (H0 : Hp) (w dx t b h : Addr) (hand : List Int) (B : Bask), vs = [.ref w, .ref t, .ref b, .ref h] ∧ H0 w = none ∧ Same H0 H ∧ H w = some (.ins d.c_Way dx []) ∧ H0 h = some (.lst (hand.map V.int)) ∧ BaskIs d.qe d.qi H0 b B ∧ B.rs.length ≤ 12 ∧ (∀ r ∈ B.rs, r.Ok) ∧
 ∀ (H' : Hp) (x : Addr), Same H0 H' → H0 x = none → WayAt d 5 H' w t b x hand [] → StndIs d.qc H' x (stnd0 B) → Q .non H'
theorem kfR : kas ["self", "till", "basket", "hand"] ["self", "till", "basket", "hand"] (kab kbv) := ⟨rfl, rfl, rfl, by decide +kernel, rfl, by decide +kernel, by decide +kernel⟩
theorem kcU (W : WB K mg d base) : FnOk P w K mg base CX0 4 d.YX d.YY ["self", "till", "basket", "hand"] (kjf d) := by
 refine FunD.ok W.qN.F kfR (fun vs H Q E h => ?_) (fun cdv A outer s H vs Q E hr h => ?_)
 ·obtain ⟨H0, wy, dx, t, b, h, hand, B, rfl, _⟩ := h
  rfl
 ·obtain ⟨H0, wy, dx, t, b, h, hand, B, rfl, fw, s0, hw, hh, hb, hB, hok, k⟩ := h
  have Xd := kcv (P := P) (w := w) (base := base) W
  refine ⟨_, kae (ka5 (pv 0) (pv 1) rfl)
   (kae (ka5 (pv 0) (pv 2) rfl)
   (kae (ka5 (pv 0) (kbB kbt (by rfl) W.B.list kcJ (kaa (pv 3) kah)) rfl)
   (kae (ka5 (pv 0) (kbw kah) rfl)
   (kak (ka5 (pv 0) (kbM (W.qR.mk' W.qc) Xd hr rfl W.qc.m W.qR.b .nil pass0 (kaa (pv 2) kah)) rfl))))), ?_⟩
  refine ⟨_, rfl, _, rfl, wy, d.c_Way, dx, [], rfl, hw, W.c_Way.cl, W.n_Way_till, by decide, ?_⟩
  have s1 : Same H0 (upd H wy (.ins d.c_Way dx (putF "till" (.ref t) []))) := kax fw s0 (nx hw)
  have hw1 : (upd H wy (.ins d.c_Way dx (putF "till" (.ref t) []))) wy = some (.ins d.c_Way dx (putF "till" (.ref t) [])) := kad
  generalize upd H wy (.ins d.c_Way dx (putF "till" (.ref t) [])) = H1 at *
  refine ⟨_, rfl, _, rfl, wy, d.c_Way, dx, _, rfl, hw1, W.c_Way.cl, W.n_Way_basket, few (FQ (kan (n := 0) (FM _)) (by decide)), ?_⟩
  have s2 : Same H0 (upd H1 wy (.ins d.c_Way dx (putF "basket" (.ref b) (putF "till" (.ref t) [])))) := kax fw s1 (nx hw1)
  have hw2 : (upd H1 wy (.ins d.c_Way dx (putF "basket" (.ref b) (putF "till" (.ref t) [])))) wy = some (.ins d.c_Way dx (putF "basket" (.ref b) (putF "till" (.ref t) []))) := kad
  generalize upd H1 wy (.ins d.c_Way dx (putF "basket" (.ref b) (putF "till" (.ref t) []))) = H2 at *
  refine ⟨_, rfl, h, _, rfl, .inl (SqL.of (s2 _ _ hh)), fun h' hh' => ?_⟩
  have n3 := kaj (o := .lst (hand.map V.int)) hh'
  have nh : h' ≠ wy := (kal hw2 hh').symm
  have s3 := s2.trans n3
  have e3 : (upd H2 h' (.lst (hand.map V.int))) h' = some (.lst (hand.map V.int)) := kad
  have hw3 := n3 _ _ hw2
  clear n3
  generalize upd H2 h' (.lst (hand.map V.int)) = H3 at *
  refine ⟨_, rfl, wy, d.c_Way, dx, _, rfl, hw3, W.c_Way.cl, W.n_Way_hand, few (FQ (kan (kan (n := 0) (FM _))) (by decide)), ?_⟩
  have s4 : Same H0 (upd H3 wy (.ins d.c_Way dx (putF "hand" (.ref h') (putF "basket" (.ref b) (putF "till" (.ref t) []))))) := kax fw s3 (nx hw3)
  have e4 : (upd H3 wy (.ins d.c_Way dx (putF "hand" (.ref h') (putF "basket" (.ref b) (putF "till" (.ref t) []))))) h' = some (.lst (hand.map V.int)) := by rw [kam nh]; exact e3
  have hw4 : (upd H3 wy (.ins d.c_Way dx (putF "hand" (.ref h') (putF "basket" (.ref b) (putF "till" (.ref t) []))))) wy = some (.ins d.c_Way dx (putF "hand" (.ref h') (putF "basket" (.ref b) (putF "till" (.ref t) [])))) := kad
  generalize upd H3 wy (.ins d.c_Way dx (putF "hand" (.ref h') (putF "basket" (.ref b) (putF "till" (.ref t) [])))) = H4 at *
  refine ⟨by decide, fun u hu => ?_⟩
  have n5 := kaj (o := .lst []) hu
  have nu : u ≠ wy := (kal hw4 hu).symm
  have s5 := s4.trans n5
  have e5 := n5 _ _ e4
  have eu5 : (upd H4 u (.lst [])) u = some (.lst (([] : List Nat).map iV)) := kad
  have hw5 := n5 _ _ hw4
  clear n5
  generalize upd H4 u (.lst []) = H5 at *
  refine ⟨_, rfl, wy, d.c_Way, dx, _, rfl, hw5, W.c_Way.cl, W.n_Way_used, few (FQ (kan (kan (kan (n := 0) (FM _)))) (by decide)), ?_⟩
  have s6 : Same H0 (upd H5 wy (.ins d.c_Way dx (putF "used" (.ref u) (putF "hand" (.ref h') (putF "basket" (.ref b) (putF "till" (.ref t) [])))))) := kax fw s5 (nx hw5)
  have e6 : (upd H5 wy (.ins d.c_Way dx (putF "used" (.ref u) (putF "hand" (.ref h') (putF "basket" (.ref b) (putF "till" (.ref t) [])))))) h' = some (.lst (hand.map V.int)) := by rw [kam nh]; exact e5
  have eu6 : (upd H5 wy (.ins d.c_Way dx (putF "used" (.ref u) (putF "hand" (.ref h') (putF "basket" (.ref b) (putF "till" (.ref t) [])))))) u = some (.lst (([] : List Nat).map iV)) := by rw [kam nu]; exact eu5
  have hw6 : (upd H5 wy (.ins d.c_Way dx (putF "used" (.ref u) (putF "hand" (.ref h') (putF "basket" (.ref b) (putF "till" (.ref t) [])))))) wy = some (.ins d.c_Way dx (putF "used" (.ref u) (putF "hand" (.ref h') (putF "basket" (.ref b) (putF "till" (.ref t) []))))) := kad
  generalize upd H5 wy (.ins d.c_Way dx (putF "used" (.ref u) (putF "hand" (.ref h') (putF "basket" (.ref b) (putF "till" (.ref t) []))))) = H6 at *
  refine ⟨_, rfl, kkd (hb.same s6) hB hok fun H7 x s7 f7 hx => ?_⟩
  have hw7 := s7 _ _ hw6
  have fx : H0 x = none := s6.free f7
  have nxw : x ≠ wy := (kal hw6 f7).symm
  refine ⟨_, rfl, wy, d.c_Way, dx, _, rfl, hw7, W.c_Way.cl, W.n_Way_standing, few (FQ (kan (kan (kan (kan (n := 0) (FM _))))) (by decide)), ?_⟩
  refine k _ x (kax fw (s6.trans s7) (nx hw7)) fx ⟨dx, _, h', u, kad, ?_, ?_, ?_, ?_, ?_, ?_, ?_, ?_, ?_, ?_, ?_, ?_⟩ ?_
  ·(repeat (first | rw [kac, if_pos rfl] | rw [kac, if_neg (by decide +kernel)]))
  ·(repeat (first | rw [kac, if_pos rfl] | rw [kac, if_neg (by decide +kernel)]))
  ·(repeat (first | rw [kac, if_pos rfl] | rw [kac, if_neg (by decide +kernel)]))
  ·(repeat (first | rw [kac, if_pos rfl] | rw [kac, if_neg (by decide +kernel)]))
  ·(repeat (first | rw [kac, if_pos rfl] | rw [kac, if_neg (by decide +kernel)]))
  ·(repeat (first | rw [kac, if_pos rfl] | rw [kac, if_neg (by decide +kernel)]))
   rfl
  ·(repeat (first | rw [kac, if_pos rfl] | rw [kac, if_neg (by decide +kernel)]))
   rfl
  ·(repeat (first | rw [kac, if_pos rfl] | rw [kac, if_neg (by decide +kernel)]))
   rfl
  ·(repeat (first | rw [kac, if_pos rfl] | rw [kac, if_neg (by decide +kernel)]))
   rfl
  ·exact FQ (kan (kan (kan (kan (kan (n := 0) (FM _)))))) (by decide)
  ·rw [kam nh]; exact s7 _ _ e6
  ·rw [kam nu]; exact s7 _ _ eu6
  ·obtain ⟨o, pp, mm, ⟨dxs, fss, hxs, q⟩, ho, hpp, hmm⟩ := hx
   exact ⟨o, pp, mm, ⟨dxs, fss, by rw [kam nxw]; exact hxs, q⟩, by rw [kam (ne_of ho hw7 (by intro z; cases z))]; exact ho, by rw [kam (ne_of hpp hw7 (by intro z; cases z))]; exact hpp, by rw [kam (ne_of hmm hw7 (by intro z; cases z))]; exact hmm⟩
theorem khy {d : D} {H : Hp} {t b h : Addr} {hand : List Int} {B : Bask} {R : Addr → Hp → Prop} {E : XK} (hh : H h = some (.lst (hand.map V.int))) (hb : BaskIs d.qe d.qi H b B) (hB : B.rs.length ≤ 12) (hok : ∀ r ∈ B.rs, r.Ok)
  (k : ∀ (H' : Hp) (w x : Addr), Same H H' → H w = none → H x = none → WayAt d 5 H' w t b x hand [] → StndIs d.qc H' x (stnd0 B) → R w H') :
  ∀ w dx, H w = none → H dx = none → dx ≠ w → kjf d [.ref w, .ref t, .ref b, .ref h] (upd (upd H dx (.own w)) w (.ins d.c_Way dx [])) (fun v H2 => v = .non ∧ R w H2) E :=
 fun w dx nw nd _ => ⟨H, w, dx, t, b, h, hand, B, rfl, nw, kbE nw nd, kad, hh, hb, hB, hok, fun H' x s f hW hx => ⟨rfl, k H' w x s nw f hW hx⟩⟩
noncomputable def kg6 (d : D) : Sp := fun vs H Q _ => ∃ (wy t b x : Addr) (T : TillD) (B : Bask) (S : Stnd) (hand : List Int) (used : List Nat) (n : Nat) (V : Vch), vs = [.ref wy, iV n] ∧ WayIs d H wy t b x hand used ∧ TillIs d H t T ∧ BaskIs d.qe d.qi H b B ∧ StndIs d.qc H x S ∧ Wf T.ps B S ∧ VchOk T.ps V ∧ T.vs[n]? = some V ∧ hand.length = T.vs.length ∧ ∀ (H' : Hp), Same H H' → Q (dueM V T B hand used S n) H'
theorem Zc : kas ["self", "number", "word"] ["self", "number"] (kab ka4) := ⟨rfl, rfl, rfl, by decide +kernel, rfl, by decide +kernel, by decide +kernel⟩
theorem kcA (W : WB K mg d base) : FnOk P w K mg base CX0 5 d.YZ d.Y0 ["self", "number"] (kg6 d) := by
 refine FunD.ok W.qS.F Zc (fun vs H Q E h => ?_) (fun cdv A outer s H vs Q E hr h => ?_)
 ·obtain ⟨wy, t, b, x, T, B, S, hand, used, n, V, rfl, _⟩ := h
  rfl
 ·obtain ⟨wy, t, b, x, T, B, S, hand, used, n, Vc, rfl, hW, hT, hB, hS, wf, vo, hn, hl, k⟩ := h
  obtain ⟨dxw, fsw, h, u, hw, w1, w2, w3, w4, w5, w6, w7, w8, w9, w10, hh, hu⟩ := id hW
  obtain ⟨dx, fs, p, vl, rl, va, ra, ht, t1, t2, t3, t4, hp, hvl, hva, hrl, hra⟩ := id hT
  have ZP := kdG (P := P) (w := w) (base := base) W
  have ZQ := kfq (P := P) (w := w) (base := base) W
  have hr2 : Room 2 _ := hr.mono (by decide)
  refine ⟨_, kae (kav (i := 2) Zc.nd rfl (Or.inl rfl) (kao ZP hr2 rfl W.Qj.m W.Qj.F.kp W.Qj.b .nil pass0 (kaa (kap (pv 0) rfl) (kaa (kap (pv 0) rfl) (kaa (kap (pv 0) rfl) (kaa (pv 1) kah))))))
   (kae (ps_if (kay kcy (pv 2) kbC (kaF _)) (kak (kat (pv 2))) (kaA))
   (kak (kat (kao ZQ hr rfl W.Qb.m W.Qb.F.kp W.Qb.b .nil pass0 (kaa (pe_ix (r := rIxL K) kbu (kap (kap (pv 0) rfl) rfl) (pv 1) (fun _ _ => rfl)) (kaa (kap (kap (pv 0) rfl) rfl) (kaa (kap (pv 0) rfl) (kaa (kap (pv 0) rfl) kah)))))))), ?_⟩
  obtain ⟨v, ev⟩ := at_of (xs := va) (i := n) (by rw [hva.len]; exact at_lt hn)
  obtain ⟨Vc', eV', hV⟩ := hva.at ev
  rw [hn] at eV'
  cases eV'
  refine ⟨_, rfl, wy, d.c_Way, dxw, fsw, _, rfl, hw, W.c_Way.cl, W.n_Way_till, w1, _, rfl, wy, d.c_Way, dxw, fsw, _, rfl, hw, W.c_Way.cl, W.n_Way_hand, w3, _, rfl, wy, d.c_Way, dxw, fsw, _, rfl, hw, W.c_Way.cl, W.n_Way_used, w4, _, rfl, t, h, u, T, hand, used, n, Vc, rfl, hT, hh, hu, hn, hl, ?_⟩
  unfold dueM at k
  cases e : wordM Vc T.rs hand used n with
  | some z =>
   rw [e] at k
   refine ⟨_, rfl, rfl, _, rfl, ?_⟩
   show if (!decide (V.str z = V.non)) = true then _ else _
   rw [show (!decide (V.str z = V.non)) = true by simp]
   exact iteT ⟨_, rfl, k H (Same.refl _)⟩
  | none =>
   rw [e] at k
   refine ⟨_, rfl, rfl, _, rfl, ?_⟩
   show if (!decide (V.non = V.non)) = true then _ else _
   rw [show (!decide (V.non = V.non)) = false by simp]
   refine iteF ⟨_, rfl, wy, d.c_Way, dxw, fsw, _, rfl, hw, W.c_Way.cl, W.n_Way_till, w1, t, d.qg, dx, fs, _, rfl, ht, W.qg.cl, W.n_Till_vouchers, t2, _, rfl, vl, _, _, _, rfl, rfl, SqL.of hvl, kbN (v := .ref v) (by rw [F0, ev]; rfl), ?_⟩
   refine ⟨_, rfl, wy, d.c_Way, dxw, fsw, _, rfl, hw, W.c_Way.cl, W.n_Way_till, w1, t, d.qg, dx, fs, _, rfl, ht, W.qg.cl, W.n_Till_parents, t1, _, rfl, wy, d.c_Way, dxw, fsw, _, rfl, hw, W.c_Way.cl, W.n_Way_basket, w2, _, rfl, wy, d.c_Way, dxw, fsw, _, rfl, hw, W.c_Way.cl, W.n_Way_standing, w5, ?_⟩
   exact ⟨v, p, b, x, Vc, T.ps, B, S, rfl, hV, SqL.of hp, hB, hS, wf, vo, k⟩
noncomputable def kiv (d : D) : Sp := fun vs H Q _ => ∃ (wy t b x : Addr) (T : TillD) (B : Bask) (S : Stnd) (hand : List Int) (used : List Nat) (n : Nat) (V : Vch), vs = [.ref wy, iV n] ∧ WayIs d H wy t b x hand used ∧ TillIs d H t T ∧ BaskIs d.qe d.qi H b B ∧ StndIs d.qc H x S ∧ Wf T.ps B S ∧ VchOk T.ps V ∧ T.vs[n]? = some V ∧ used.length < 64 ∧
 ∀ (H' : Hp) (wy' x' : Addr), Same H H' → H wy' = none → WayIs d H' wy' t b x' hand (used ++ [n]) → StndIs d.qc H' x' (aftM V T.ps (kds B) S) → Q (.ref wy') H'
theorem Zd : kas ["self", "number", "further"] ["self", "number"] (kab kbi) := ⟨rfl, rfl, rfl, by decide +kernel, rfl, by decide +kernel, by decide +kernel⟩
theorem kc2 (W : WB K mg d base) : FnOk P w K mg base CX0 6 d.Y1 d.Y2 ["self", "number"] (kiv d) := by
 refine FunD.ok W.qT.F Zd (fun vs H Q E h => ?_) (fun cdv A outer s H vs Q E hr h => ?_)
 ·obtain ⟨wy, t, b, x, T, B, S, hand, used, n, V, rfl, _⟩ := h
  rfl
 ·obtain ⟨wy, t, b, x, T, B, S, hand, used, n, Vc, rfl, hW, hT, hB, hS, wf, vo, hn, hl, k⟩ := h
  obtain ⟨dxw, fsw, h, u, hw, w1, w2, w3, w4, w5, w6, w7, w8, w9, w10, hh, hu⟩ := id hW
  obtain ⟨dx, fs, p, vl, rl, va, ra, ht, t1, t2, t3, t4, hp, hvl, hva, hrl, hra⟩ := id hT
  have qV := kcU (P := P) (w := w) (base := base) W
  have ZR := kiK (P := P) (w := w) (base := base) W
  refine ⟨_, kae (kav (i := 2) Zd.nd rfl (Or.inl rfl) (kbM (W.qN.mk' W.c_Way) qV hr rfl W.c_Way.m W.qN.b .nil pass0 (kaa (kap (pv 0) rfl) (kaa (kap (pv 0) rfl) (kaa (kap (pv 0) rfl) kah)))))
   (kae (ka5 (pv 2) (pe_op kgo (kap (pv 0) rfl) (kbw (kaa (pv 1) kah))) rfl)
   (kae (ka5 (pv 2) (kao ZR hr rfl W.Qd.m W.Qd.F.kp W.Qd.b .nil pass0 (kaa (pe_ix (r := rIxL K) kbu (kap (kap (pv 0) rfl) rfl) (pv 1) (fun _ _ => rfl)) (kaa (kap (kap (pv 0) rfl) rfl) (kaa (kap (pv 0) rfl) (kaa (kap (pv 0) rfl) kah))))) rfl)
   (kak (kat (pv 2))))), ?_⟩
  obtain ⟨v, ev⟩ := at_of (xs := va) (i := n) (by rw [hva.len]; exact at_lt hn)
  obtain ⟨Vc', eV', hV⟩ := hva.at ev
  rw [hn] at eV'
  cases eV'
  refine ⟨_, rfl, wy, d.c_Way, dxw, fsw, _, rfl, hw, W.c_Way.cl, W.n_Way_till, w1, _, rfl, wy, d.c_Way, dxw, fsw, _, rfl, hw, W.c_Way.cl, W.n_Way_basket, w2, _, rfl, wy, d.c_Way, dxw, fsw, _, rfl, hw, W.c_Way.cl, W.n_Way_hand, w3, khy hh hB wf.nl wf.ok fun H1 y x1 s1 fy fx1 hy hx1 => ?_⟩
  obtain ⟨dxy, fsy, h1, u1, hyy, y1, y2, y3, y4, y5, y6, y7, y8, y9, y10, hh1, hu1⟩ := hy
  refine ⟨_, rfl, wy, d.c_Way, dxw, fsw, _, rfl, s1 _ _ hw, W.c_Way.cl, W.n_Way_used, w4, _, rfl, (by show 1 ≤ sizeLine; decide), fun q1 hq1 => ?_⟩
  have n2 := kaj (o := .lst [iV n]) hq1
  have eq1 : (upd H1 q1 (.lst [iV n])) q1 = some (.lst [iV n]) := kad
  have s2 := s1.trans n2
  have hy2 := n2 _ _ hyy
  have hh2 := n2 _ _ hh1
  clear n2
  generalize upd H1 q1 (.lst [iV n]) = H2 at *
  refine ⟨u, q1, _, _, rfl, rfl, s2 _ _ hu, eq1, FY (kar (by rw [FJ]; show _ + 1 ≤ 1000; omega)), fun q2 hq2 => ?_⟩
  have n3 := kaj (o := .lst (used.map iV ++ [iV n])) hq2
  have eq2 : (upd H2 q2 (.lst (used.map iV ++ [iV n]))) q2 = some (.lst ((used ++ [n]).map iV)) := by rw [kad, FX]; rfl
  have s3 := s2.trans n3
  have hy3 := n3 _ _ hy2
  have hh3 := n3 _ _ hh2
  have nq2 : q2 ≠ y := (kal hy2 hq2).symm
  clear n3
  generalize upd H2 q2 (.lst (used.map iV ++ [iV n])) = H3 at *
  have nh1 : h1 ≠ y := ne_of hh3 hy3 (by intro z; cases z)
  refine ⟨_, rfl, y, d.c_Way, dxy, fsy, rfl, hy3, W.c_Way.cl, W.n_Way_used, few (FQ y10 (by decide)), ?_⟩
  have s4 : Same H (upd H3 y (.ins d.c_Way dxy (putF "used" (.ref q2) fsy))) := kax fy s3 (nx hy3)
  have eq4 : (upd H3 y (.ins d.c_Way dxy (putF "used" (.ref q2) fsy))) q2 = some (.lst ((used ++ [n]).map iV)) := by rw [kam nq2]; exact eq2
  have hh4 : (upd H3 y (.ins d.c_Way dxy (putF "used" (.ref q2) fsy))) h1 = some (.lst (hand.map V.int)) := by rw [kam nh1]; exact hh3
  have hy4 : (upd H3 y (.ins d.c_Way dxy (putF "used" (.ref q2) fsy))) y = some (.ins d.c_Way dxy (putF "used" (.ref q2) fsy)) := kad
  generalize upd H3 y (.ins d.c_Way dxy (putF "used" (.ref q2) fsy)) = H4 at *
  refine ⟨_, rfl, wy, d.c_Way, dxw, fsw, _, rfl, s4 _ _ hw, W.c_Way.cl, W.n_Way_till, w1, t, d.qg, dx, fs, _, rfl, s4 _ _ ht, W.qg.cl, W.n_Till_vouchers, t2, _, rfl, vl, _, _, _, rfl, rfl, SqL.of (s4 _ _ hvl), kbN (v := .ref v) (by rw [F0, ev]; rfl), ?_⟩
  refine ⟨_, rfl, wy, d.c_Way, dxw, fsw, _, rfl, s4 _ _ hw, W.c_Way.cl, W.n_Way_till, w1, t, d.qg, dx, fs, _, rfl, s4 _ _ ht, W.qg.cl, W.n_Till_parents, t1, _, rfl, wy, d.c_Way, dxw, fsw, _, rfl, s4 _ _ hw, W.c_Way.cl, W.n_Way_basket, w2, _, rfl, wy, d.c_Way, dxw, fsw, _, rfl, s4 _ _ hw, W.c_Way.cl, W.n_Way_standing, w5, ?_⟩
  refine ⟨v, p, b, x, Vc, T.ps, B, S, rfl, hV.same s4, SqL.of (s4 _ _ hp), hB.same s4, hS.same s4, wf, vo, fun H5 x' s5 f5 hx' => ?_⟩
  have hy5 := s5 _ _ hy4
  have hh5 := s5 _ _ hh4
  have eq5 := s5 _ _ eq4
  have nx' : x' ≠ y := (kal hy4 f5).symm
  refine ⟨_, rfl, y, d.c_Way, dxy, _, rfl, hy5, W.c_Way.cl, W.n_Way_standing, few (FQ (kan y10) (by decide)), ?_⟩
  refine ⟨_, rfl, k _ y x' (kax fy (s4.trans s5) (nx hy5)) fy ⟨dxy, _, h1, q2, kad, ?_, ?_, ?_, ?_, ?_, ?_, ?_, ?_, ?_, ?_, ?_, ?_⟩ ?_⟩
  ·(repeat (first | rw [kac, if_pos rfl] | rw [kac, if_neg (by decide +kernel)]))
   exact y1
  ·(repeat (first | rw [kac, if_pos rfl] | rw [kac, if_neg (by decide +kernel)]))
   exact y2
  ·(repeat (first | rw [kac, if_pos rfl] | rw [kac, if_neg (by decide +kernel)]))
   exact y3
  ·(repeat (first | rw [kac, if_pos rfl] | rw [kac, if_neg (by decide +kernel)]))
  ·(repeat (first | rw [kac, if_pos rfl] | rw [kac, if_neg (by decide +kernel)]))
  ·(repeat (first | rw [kac, if_pos rfl] | rw [kac, if_neg (by decide +kernel)]))
   exact y6
  ·(repeat (first | rw [kac, if_pos rfl] | rw [kac, if_neg (by decide +kernel)]))
   exact y7
  ·(repeat (first | rw [kac, if_pos rfl] | rw [kac, if_neg (by decide +kernel)]))
   exact y8
  ·(repeat (first | rw [kac, if_pos rfl] | rw [kac, if_neg (by decide +kernel)]))
   exact y9
  ·exact FQ (kan (kan y10)) (by decide)
  ·rw [kam nh1]; exact hh5
  ·rw [kam nq2]; exact eq5
  ·obtain ⟨o, pp, mm, ⟨dxs, fss, hxs, q⟩, ho, hpp, hmm⟩ := hx'
   exact ⟨o, pp, mm, ⟨dxs, fss, by rw [kam nx']; exact hxs, q⟩, by rw [kam (ne_of ho hy5 (by intro z; cases z))]; exact ho, by rw [kam (ne_of hpp hy5 (by intro z; cases z))]; exact hpp, by rw [kam (ne_of hmm hy5 (by intro z; cases z))]; exact hmm⟩
noncomputable def kjN (d : D) : Sp := fun vs H Q _ => ∃ (wy t b x : Addr) (T : TillD) (hand : List Int) (used : List Nat), vs = [.ref wy] ∧ WayIs d H wy t b x hand used ∧ TillIs d H t T ∧ Q (.bl (onlyM T.rs used).isNone) H
theorem kdD : kas ["self"] ["self"] (kab kaW) := ⟨rfl, rfl, rfl, by decide +kernel, rfl, by decide +kernel, by decide +kernel⟩
theorem kdI (W : WB K mg d base) : FnOk P w K mg base CX0 2 d.Y3 d.Y4 ["self"] (kjN d) := by
 refine FunD.ok W.Q1.F kdD (fun vs H Q E h => ?_) (fun cdv A outer s H vs Q E hr h => ?_)
 ·obtain ⟨wy, t, b, x, T, hand, used, rfl, _⟩ := h
  rfl
 ·obtain ⟨wy, t, b, x, T, hand, used, rfl, hW, hT, k⟩ := h
  obtain ⟨dxw, fsw, h, u, hw, w1, w2, w3, w4, w5, w6, w7, w8, w9, w10, hh, hu⟩ := id hW
  obtain ⟨dx, fs, p, vl, rl, va, ra, ht, t1, t2, t3, t4, hp, hvl, hva, hrl, hra⟩ := id hT
  have ZS := kc1 (P := P) (w := w) (base := base) W
  refine ⟨_, kak (kat (kbU kez (kao ZS hr rfl W.Qm.m W.Qm.F.kp W.Qm.b .nil pass0 (kaa (kap (kap (pv 0) rfl) rfl) (kaa (kap (pv 0) rfl) kah))) kbC (kaF _))), ?_⟩
  refine ⟨_, rfl, wy, d.c_Way, dxw, fsw, _, rfl, hw, W.c_Way.cl, W.n_Way_till, w1, t, d.qg, dx, fs, _, rfl, ht, W.qg.cl, W.n_Till_rules, t3, _, rfl, wy, d.c_Way, dxw, fsw, _, rfl, hw, W.c_Way.cl, W.n_Way_used, w4, rl, u, ra, T.rs, used, rfl, hrl, hra, hu, rfl, ?_⟩
  cases e : onlyM T.rs used with
  | none =>
   rw [e] at k
   show Q (.bl (decide (V.non = V.non))) H
   rw [show decide (V.non = V.non) = true by simp]
   exact k
  | some z =>
   rw [e] at k
   show Q (.bl (decide (V.int (z : Int) = V.non))) H
   rw [show decide (V.int (z : Int) = V.non) = false by simp]
   exact k
noncomputable def walkM (T : TillD) (B : Bask) (hand : List Int) : List Nat → List Nat → Stnd → List Nat × Stnd
 | [], used, S => (used, S)
 | n :: ns, used, S => match T.vs[n]? with
  | none => (used, S)
  | some V => if dueM V T B hand used S n = .non then walkM T B hand ns (used ++ [n]) (aftM V T.ps (kds B) S) else (used, S)
noncomputable def kjI (d : D) : Sp := fun vs H Q _ => ∃ (t b h o : Addr) (T : TillD) (B : Bask) (hand : List Int) (order : List Nat), vs = [.ref t, .ref b, .ref h, .ref o] ∧ TillIs d H t T ∧ kda T ∧ BaskIs d.qe d.qi H b B ∧ Wf T.ps B (stnd0 B) ∧ H h = some (.lst (hand.map V.int)) ∧ H o = some (.lst (order.map iV)) ∧ hand.length = T.vs.length ∧ (∀ n ∈ order, n < T.vs.length) ∧ order.length < 64 ∧
 ∀ (H' : Hp) (wy x : Addr), Same H H' → H wy = none → WayIs d H' wy t b x hand (walkM T B hand order [] (stnd0 B)).1 → StndIs d.qc H' x (walkM T B hand order [] (stnd0 B)).2 → Wf T.ps B (walkM T B hand order [] (stnd0 B)).2 → Q (.ref wy) H'
theorem QG : kas ["till", "basket", "hand", "order", "way", "number"] ["till", "basket", "hand", "order"] (kab kbJ) := ⟨rfl, rfl, rfl, by decide +kernel, rfl, by decide +kernel, by decide +kernel⟩
theorem khu (W : WB K mg d base) : FnOk P w K mg base CX0 7 d.X1 d.X2 ["till", "basket", "hand", "order"] (kjI d) := by
 refine FunD.ok W.Qi.F QG (fun vs H Q E h => ?_) (fun cdv A outer s H vs Q E hr h => ?_)
 ·obtain ⟨t, b, h, o, T, B, hand, order, rfl, _⟩ := h
  rfl
 ·obtain ⟨t, b, h, o, T, B, hand, order, rfl, hT, tok, hB, wf0, hh, ho, hl, hlt, h64, k⟩ := h
  have qV := kcU (P := P) (w := w) (base := base) W
  have Xe := kcA (P := P) (w := w) (base := base) W
  have Xf := kc2 (P := P) (w := w) (base := base) W
  have hr5 : Room 5 _ := hr.mono (by decide)
  refine ⟨_, kae (kav (i := 4) QG.nd rfl (Or.inl rfl) (kbM (W.qN.mk' W.c_Way) qV hr5 rfl W.c_Way.m W.qN.b .nil pass0 (kaa (pv 0) (kaa (pv 1) (kaa (pv 2) kah)))))
   (kae (kbQ PassesOwn.never rfl (kbx (pv 3)) (kau (i := 5) QG.nd rfl (Or.inl rfl))
   (kae (ps_if (kay kcy (keU (pv 4) W.c_Way.cl W.qS.me Xe hr5 W.qS.b .nil pass0 (kaa (pv 5) kah)) kbC (kaF _)) (kak (kat (pv 4))) (kaA))
   (kak (kav (i := 4) QG.nd rfl (Or.inl rfl) (keU (pv 4) W.c_Way.cl W.qT.me Xf hr W.qT.b .nil pass0 (kaa (pv 5) kah))))))
   (kak (kat (pv 4)))), ?_⟩
  generalize eR : walkM T B hand order [] (stnd0 B) = R at k
  refine ⟨_, rfl, _, rfl, _, rfl, khy hh hB wf0.nl wf0.ok fun H1 y0 x0 s1 fy0 fx0 hy0 hx0 => ?_⟩
  refine ⟨_, rfl, o, rfl, ⟨_, SqL.of (s1 _ _ ho)⟩, kbW (xs := order.map iV) (fun i σ H' => Same H H' ∧ ∃ (y x : Addr) (used : List Nat) (S : Stnd) (v5 : Option V), WayIs d H' y t b x hand used ∧ H y = none ∧ StndIs d.qc H' x S ∧ Wf T.ps B S ∧ used.length = i ∧ walkM T B hand (order.drop i) used S = R ∧ σ = [some (.ref t), some (.ref b), some (.ref h), some (.ref o), some (.ref y), v5])
   ⟨s1, y0, x0, [], _, none, hy0.most (by decide), fy0, hx0, wf0, rfl, eR, rfl⟩ (fun i σ H' _ h => SqL.of (h.1 _ _ ho)) ?_ ?_⟩
  ·rintro i yv σ H' hyv ⟨sI, y, x, used, S, v5, hY, fy, hx, wf, hul, hwalk, rfl⟩
   obtain ⟨n, en, rfl⟩ : ∃ n, order[i]? = some n ∧ yv = iV n := kbY hyv
   have hi := at_lt en
   obtain ⟨Vc, hV⟩ := at_of (hlt n (FV en))
   have vo := tok.vs Vc (FV hV)
   have ed : order.drop i = n :: order.drop (i + 1) := by
    obtain ⟨h1, h2⟩ := FZ.mp en
    rw [Sr h1, h2]
   rw [ed] at hwalk
   have hwk := hwalk
   unfold walkM at hwk
   rw [hV] at hwk
   simp only at hwk
   obtain ⟨dxw, fsw, hd, u, hw, w1, w2, w3, w4, w5, w6, w7, w8, w9, w10, hh', hu⟩ := id hY
   refine ⟨_, rfl, y, dxw, fsw, rfl, hw, w6, _, rfl, y, t, b, x, T, B, S, hand, used, n, Vc, rfl, hY, hT.same sI, hB.same sI, hx, wf, vo, hV, hl, fun H2 s2 => ⟨rfl, _, rfl, ?_⟩⟩
   have s02 := sI.trans s2
   by_cases hn : dueM Vc T B hand used S n = .non
   ·rw [if_pos hn] at hwk
    rw [hn]
    rw [show (!decide (V.non = V.non)) = false by simp]
    refine iteF ⟨_, rfl, y, dxw, fsw, rfl, s2 _ _ hw, w7, _, rfl, y, t, b, x, T, B, S, hand, used, n, Vc, rfl, hY.same s2, hT.same s02, hB.same s02, hx.same s2, wf, vo, hV, by omega, fun H3 y' x' s3 fy' hY' hx' => ?_⟩
    exact ⟨s02.trans s3, y', x', used ++ [n], _, _, hY', s02.free fy', hx', wf.after vo, by rw [Ca, hul]; rfl, hwk, rfl⟩
   ·rw [if_neg hn] at hwk
    rw [show (!decide (dueM Vc T B hand used S n = V.non)) = true by simp [hn]]
    refine iteT ⟨_, rfl, k H2 y x s02 fy ?_ ?_ ?_⟩
    ·rw [← hwk]; exact hY.same s2
    ·rw [← hwk]; exact hx.same s2
    ·rw [← hwk]; exact wf
  ·rintro σ H' ⟨sI, y, x, used, S, v5, hY, fy, hx, wf, hul, hwalk, rfl⟩
   rw [FJ, Ss] at hwalk
   have hwk := hwalk
   unfold walkM at hwk
   refine ⟨_, rfl, k H' y x sI fy ?_ ?_ ?_⟩
   ·rw [← hwk]; exact hY
   ·rw [← hwk]; exact hx
   ·rw [← hwk]; exact wf
noncomputable def kcF (T : TillD) (B : Bask) (hand : List Int) (order : List Nat) : Option (Nat × L2.V) :=
 let r := walkM T B hand order [] (stnd0 B)
 if r.1.length < order.length then match T.vs[order.getD r.1.length 0]? with
  | none => none
  | some V => some (r.1.length, dueM V T B hand r.1 r.2 (order.getD r.1.length 0))
 else if (onlyM T.rs r.1).isNone = true then none else some (r.1.length, .str "only")
noncomputable def FltIs (H : Hp) (v : L2.V) : Option (Nat × L2.V) → Prop
 | none => v = .non
 | some (k, z) => ∃ a, v = .ref a ∧ H a = some (.tup [iV k, z])
noncomputable def kjR (d : D) : Sp := fun vs H Q _ => ∃ (t b h o : Addr) (T : TillD) (B : Bask) (hand : List Int) (order : List Nat), vs = [.ref t, .ref b, .ref h, .ref o] ∧ TillIs d H t T ∧ kda T ∧ BaskIs d.qe d.qi H b B ∧ Wf T.ps B (stnd0 B) ∧ H h = some (.lst (hand.map V.int)) ∧ H o = some (.lst (order.map iV)) ∧ hand.length = T.vs.length ∧ (∀ n ∈ order, n < T.vs.length) ∧ order.length < 64 ∧
 ∀ (H' : Hp) (v : L2.V), Same H H' → FltIs H' v (kcF T B hand order) → Q v H'
theorem Xg : kas ["till", "basket", "hand", "order", "way", "place"] ["till", "basket", "hand", "order"] (kab kb3) := ⟨rfl, rfl, rfl, by decide +kernel, rfl, by decide +kernel, by decide +kernel⟩
theorem kdN (W : WB K mg d base) : FnOk P w K mg base CX0 8 d.XZ d.X0 ["till", "basket", "hand", "order"] (kjR d) := by
 refine FunD.ok W.qq.F Xg (fun vs H Q E h => ?_) (fun cdv A outer s H vs Q E hr h => ?_)
 ·obtain ⟨t, b, h, o, T, B, hand, order, rfl, _⟩ := h
  rfl
 ·obtain ⟨t, b, h, o, T, B, hand, order, rfl, hT, tok, hB, wf0, hh, ho, hl, hlt, h64, k⟩ := h
  have ZT := khu (P := P) (w := w) (base := base) W
  have Xe := kcA (P := P) (w := w) (base := base) W
  have ZU := kdI (P := P) (w := w) (base := base) W
  have hr2 : Room 2 _ := hr.mono (by decide)
  have hr5 : Room 5 _ := hr.mono (by decide)
  refine ⟨_, kae (kav (i := 4) Xg.nd rfl (Or.inl rfl) (kao ZT hr rfl W.Qi.m W.Qi.F.kp W.Qi.b .nil pass0 (kaa (pv 0) (kaa (pv 1) (kaa (pv 2) (kaa (pv 3) kah))))))
   (kae (kav (i := 5) Xg.nd rfl (Or.inl rfl) (kaQ ka6 (by rfl) W.B.len b_len (kaa (kap (pv 4) rfl) kah)))
   (kae (ps_if (kay op_lt (pv 5) (kaQ ka6 (by rfl) W.B.len b_len (kaa (pv 3) kah)) (kaF _)) (kak (kat (kcM (kaa (pv 5) (kaa (keU (pv 4) W.c_Way.cl W.qS.me Xe hr5 W.qS.b .nil pass0 (kaa (pe_ix (r := rIxL K) kbu (pv 3) (pv 5) (fun _ _ => rfl)) kah)) kah))))) (kaA))
   (kae (ps_if (kfo (kbF (kgk (pv 4) W.c_Way.cl W.Q1.me ZU hr2 W.Q1.b .nil pass0))) (kak (kat (kcM (kaa (pv 5) (kaa kb7 kah))))) (kaA))
   (kak (kat kbC))))), ?_⟩
  refine ⟨_, rfl, _, rfl, _, rfl, _, rfl, t, b, h, o, T, B, hand, order, rfl, hT, tok, hB, wf0, hh, ho, hl, hlt, h64, fun H1 y x s1 fy hY hx wf => ?_⟩
  unfold kcF at k
  simp only at k
  generalize walkM T B hand order [] (stnd0 B) = r at *
  obtain ⟨used, S⟩ := r
  simp only at *
  obtain ⟨dxw, fsw, hd, u, hw, w1, w2, w3, w4, w5, w6, w7, w8, w9, w10, hh', hu⟩ := id hY
  refine ⟨_, rfl, y, d.c_Way, dxw, fsw, _, rfl, hw, W.c_Way.cl, W.n_Way_used, w4, u, _, rfl, .inl (SqL.of hu), ?_⟩
  rw [FJ]
  refine ⟨_, rfl, _, rfl, o, _, rfl, .inl (SqL.of (s1 _ _ ho)), _, _, rfl, rfl, _, rfl, ?_⟩
  rw [FJ]
  by_cases hlen : used.length < order.length
  ·rw [if_pos hlen] at k
   rw [show decide ((used.length : Int) < (order.length : Int)) = true by simp; exact hlen]
   obtain ⟨n, en⟩ := at_of hlen
   have eg : order.getD used.length 0 = n := by rw [F6, en]; rfl
   obtain ⟨Vc, hV⟩ := at_of (hlt n (FV en))
   rw [eg, hV] at k
   have vo := tok.vs Vc (FV hV)
   refine iteT ⟨_, rfl, _, rfl, y, dxw, fsw, rfl, hw, w6, _, rfl, _, rfl, o, _, _, _, rfl, rfl, SqL.of (s1 _ _ ho), kbN (v := iV n) (by rw [F0, en]; rfl), y, t, b, x, T, B, S, hand, used, n, Vc, rfl, hY, hT.same s1, hB.same s1, hx, wf, vo, hV, hl, fun H2 s2 => ?_⟩
   refine ⟨(by show 2 ≤ sizeLine; decide), fun q hq => ?_⟩
   exact k _ _ ((s1.trans s2).trans (kaj hq)) ⟨q, rfl, kad⟩
  ·rw [if_neg hlen] at k
   rw [show decide ((used.length : Int) < (order.length : Int)) = false by simp; omega]
   refine iteF ⟨_, rfl, y, dxw, fsw, rfl, hw, w8, y, t, b, x, T, hand, used, rfl, hY, hT.same s1, _, rfl, ?_⟩
   cases e : (onlyM T.rs used).isNone with
   | true =>
    rw [e, if_pos rfl] at k
    exact iteF (k H1 _ s1 rfl)
   | false =>
    rw [e, if_neg FW] at k
    refine iteT ⟨_, rfl, (by show 2 ≤ sizeLine; decide), fun q hq => ?_⟩
    exact k _ _ (s1.trans (kaj hq)) ⟨q, rfl, kad⟩
structure Step where
 n : Nat
 cs : List Int
 c : Int
noncomputable def StepIs (H : Hp) (a : Addr) (s : Step) : Prop := ∃ l, H a = some (.tup [iV s.n, .ref l, .int s.c]) ∧ H l = some (.lst (s.cs.map V.int))
theorem StepIs.same {H H' : Hp} {a : Addr} {t : Step} (s : Same H H') : StepIs H a t → StepIs H' a t := fun ⟨l, h1, h2⟩ => ⟨l, s _ _ h1, s _ _ h2⟩
noncomputable def StepN (H0 H : Hp) (a : Addr) (s : Step) : Prop := H0 a = none ∧ ∃ l, H0 l = none ∧ H a = some (.tup [iV s.n, .ref l, .int s.c]) ∧ H l = some (.lst (s.cs.map V.int))
theorem StepN.same {H0 H H' : Hp} {a : Addr} {t : Step} (s : Same H H') : StepN H0 H a t → StepN H0 H' a t := fun ⟨f, l, g, h1, h2⟩ => ⟨f, l, g, s _ _ h1, s _ _ h2⟩
theorem StepN.but {H0 H H' : Hp} {a x : Addr} {t : Step} (b : But x H H') (hx : H0 x ≠ none) : StepN H0 H a t → StepN H0 H' a t := fun ⟨f, l, g, h1, h2⟩ => ⟨f, l, g, b _ _ (fun e => hx (e ▸ f)) h1, b _ _ (fun e => hx (e ▸ g)) h2⟩
structure BillD where
 order : List Nat
 steps : List Step
 pr : List Int
 cg : Int
 total : Int
noncomputable def BillIs (d : D) (H0 H : Hp) (b : Addr) (B : BillD) : Prop := ∃ (dx : Addr) (fs : List (Str × V)) (o s p : Addr) (sa : List Addr), H b = some (.ins d.qf dx fs) ∧ fs.lookup ("order" : Str) = some (.ref o) ∧ fs.lookup ("steps" : Str) = some (.ref s) ∧ fs.lookup ("prices" : Str) = some (.ref p) ∧ fs.lookup ("carriage" : Str) = some (.int B.cg) ∧ fs.lookup ("total" : Str) = some (.int B.total) ∧
 H0 b = none ∧ H0 o = none ∧ H0 s = none ∧ H0 p = none ∧ H o = some (.lst (B.order.map iV)) ∧ H s = some (.lst (sa.map V.ref)) ∧ P2 (fun a t => StepN H0 H a t) sa B.steps ∧ H p = some (.lst (B.pr.map V.int))
theorem BillIs.same {d : D} {H0 H H' : Hp} {b : Addr} {B : BillD} (z : Same H H') : BillIs d H0 H b B → BillIs d H0 H' b B := fun ⟨dx, fs, o, s, p, sa, h1, h2, h3, h4, h5, h6, f1, f2, f3, f4, h7, h8, h9, h10⟩ =>
 ⟨dx, fs, o, s, p, sa, z _ _ h1, h2, h3, h4, h5, h6, f1, f2, f3, f4, z _ _ h7, z _ _ h8, h9.mono fun a t h => h.same z, z _ _ h10⟩
theorem BillIs.but {d : D} {H0 H H' : Hp} {b x : Addr} {B : BillD} (z : But x H H') (hx : H0 x ≠ none) : BillIs d H0 H b B → BillIs d H0 H' b B := fun ⟨dx, fs, o, s, p, sa, h1, h2, h3, h4, h5, h6, f1, f2, f3, f4, h7, h8, h9, h10⟩ =>
 ⟨dx, fs, o, s, p, sa, z _ _ (fun e => hx (e ▸ f1)) h1, h2, h3, h4, h5, h6, f1, f2, f3, f4, z _ _ (fun e => hx (e ▸ f2)) h7, z _ _ (fun e => hx (e ▸ f3)) h8, h9.mono fun a t h => h.but z hx, z _ _ (fun e => hx (e ▸ f4)) h10⟩
noncomputable def khd (d : D) : Sp := fun vs H Q _ => ∃ (H0 : Hp) (b dx o s x : Addr) (order : List Nat) (steps : List Step) (S : Stnd) (sa : List Addr), vs = [.ref b, .ref o, .ref s, .ref x] ∧ H0 b = none ∧ Same H0 H ∧ H b = some (.ins d.qf dx []) ∧ H0 o = some (.lst (order.map iV)) ∧ H0 s = some (.lst (sa.map V.ref)) ∧ P2 (fun a t => StepIs H0 a t) sa steps ∧ steps.length < 64 ∧ StndIs d.qc H0 x S ∧
 ∀ H', Same H0 H' → BillIs d H0 H' b ⟨order, steps, S.pr, S.cg, S.pr.sum + S.cg⟩ → Q .non H'
theorem kfm : kas ["self", "order", "steps", "standing"] ["self", "order", "steps", "standing"] (kab kbq) := ⟨rfl, rfl, rfl, by decide +kernel, rfl, by decide +kernel, by decide +kernel⟩
theorem kfv (W : WB K mg d base) : FnOk P w K mg base CX0 2 d.Y5 d.Y6 ["self", "order", "steps", "standing"] (khd d) := by
 refine FunD.ok W.Q2.F kfm (fun vs H Q E h => ?_) (fun cdv A outer s H vs Q E hr h => ?_)
 ·obtain ⟨H0, b, dx, o, s, x, order, steps, S, sa, rfl, _⟩ := h
  rfl
 ·obtain ⟨H0, b, dx, o, st, x, order, steps, S, sa, rfl, fb, s0, hb, ho, hst, hsa, h64, hS, kk⟩ := h
  obtain ⟨ow, pp, mm, ⟨dxs, fss, hxs, l1, l2, l3, l4, l5⟩, how, hpp, hmm⟩ := id hS
  have ZV := kdq (P := P) (w := w) (base := base) W
  refine ⟨_, kae (ka5 (pv 0) (kbB kbt (by rfl) W.B.list kcJ (kaa (pv 1) kah)) rfl)
   (kae (ka5 (pv 0) (kbT (N := ["number", "piece_cuts", "carriage_cut"]) (CompScope.plain rfl (by decide +kernel) (by decide +kernel) (by decide +kernel) (show (["number", "piece_cuts", "carriage_cut"] : List Str).Nodup by decide +kernel)) rfl (kbx (pv 2)) (fun _ _ _ _ => kdk (K := K) (n := 3) rfl (kaK (kau (i := 0) (show (["number", "piece_cuts", "carriage_cut"] : List Str).Nodup by decide +kernel) rfl (Or.inl rfl)) (kaK (kau (i := 1) (show (["number", "piece_cuts", "carriage_cut"] : List Str).Nodup by decide +kernel) rfl (Or.inl rfl)) (kaK (kau (i := 2) (show (["number", "piece_cuts", "carriage_cut"] : List Str).Nodup by decide +kernel) rfl (Or.inl rfl)) kbR)))) (fun _ _ _ _ => (kcM (kaa (pv 0) (kaa (kbB (r := kj0 K) kbt (by rfl) W.B.list kcJ (kaa (pv 1) kah)) (kaa (pv 2) kah)))))) rfl)
   (kae (ka5 (pv 0) (kbB kbt (by rfl) W.B.list kcJ (kaa (kap (pv 3) rfl) kah)) rfl)
   (kae (ka5 (pv 0) (kap (pv 3) rfl) rfl)
   (kak (ka5 (pv 0) (kgk (pv 3) W.qc.cl W.Q0.me ZV hr W.Q0.b .nil pass0) rfl))))), ?_⟩
  refine ⟨_, rfl, o, _, rfl, .inl (SqL.of (s0 _ _ ho)), fun o' ho' => ?_⟩
  have n1 := kaj (o := .lst (order.map iV)) ho'
  have fo := s0.free ho'
  have no : o' ≠ b := (kal hb ho').symm
  have e1 : (upd H o' (.lst (order.map iV))) o' = some (.lst (order.map iV)) := kad
  have s1 := s0.trans n1
  have hb1 := n1 _ _ hb
  clear n1
  generalize upd H o' (.lst (order.map iV)) = H1 at *
  refine ⟨_, rfl, b, d.qf, dx, [], rfl, hb1, W.qf.cl, W.n_Bill_order, by decide, ?_⟩
  have s2 : Same H0 (upd H1 b (.ins d.qf dx (putF "order" (.ref o') []))) := kax fb s1 (nx hb1)
  have e2 : (upd H1 b (.ins d.qf dx (putF "order" (.ref o') []))) o' = some (.lst (order.map iV)) := by rw [kam no]; exact e1
  have hb2 : (upd H1 b (.ins d.qf dx (putF "order" (.ref o') []))) b = some (.ins d.qf dx (putF "order" (.ref o') [])) := kad
  generalize upd H1 b (.ins d.qf dx (putF "order" (.ref o') [])) = H2 at *
  refine ⟨_, rfl, st, rfl, ⟨_, SqL.of (s2 _ _ hst)⟩, kbI (xs := sa.map V.ref) (fun i σ ys H' => Same H2 H' ∧ ∃ (ta : List Addr) (v0 v1 v2 : Option V), ys = ta.map V.ref ∧ P2 (fun a t => StepN H0 H' a t) ta (steps.take i) ∧ σ = [v0, v1, v2])
   ⟨Same.refl _, [], none, none, none, rfl, .nil, rfl⟩ (by rw [FJ, hsa.len]; exact FY (kar (by omega))) ?_ ?_ ?_⟩
  ·rintro i σ ys H' hi ⟨s3, ta, v0, v1, v2, rfl, hT, rfl⟩
   refine ⟨SqL.of (s3 _ _ (s2 _ _ hst)), ?_⟩
   rw [FJ, hT.len, F2]
   rw [FJ, hsa.len] at hi
   omega
  ·rintro i y σ ys H' hy ⟨s3, ta, v0, v1, v2, rfl, hT, rfl⟩
   obtain ⟨a, ea, rfl⟩ := kb9 hy
   obtain ⟨t, et, l, ha, hl⟩ := hsa.at ea
   have s03 := s2.trans s3
   refine ⟨a, _, rfl, SqT.of (s03 _ _ ha), rfl, _, _, rfl, _, _, rfl, _, _, rfl, rfl, ?_⟩
   refine ⟨_, rfl, _, rfl, l, _, rfl, .inl (SqL.of (s03 _ _ hl)), fun l' hl' => ⟨_, rfl, (by show 3 ≤ sizeLine; decide), fun q hq => ?_⟩⟩
   have n4 := kaj (o := .lst (t.cs.map V.int)) hl'
   have n5 := kaj (o := .tup [iV t.n, V.ref l', V.int t.c]) hq
   refine ⟨s3.trans (n4.trans n5), ta ++ [q], _, _, _, by rw [FX]; rfl, ?_, rfl⟩
   rw [kbL et]
   exact P2.snoc (hT.mono fun a t h => h.same (n4.trans n5)) ⟨s03.free (n4.free hq), l', s03.free hl', kad, n5 _ _ kad⟩
  rintro σ ys H3 ⟨s3, ta, v0, v1, v2, rfl, hT, rfl⟩ sp hsp
  rw [FJ, hsa.len, Cw] at hT
  have n4 := kaj (o := .lst (ta.map V.ref)) hsp
  have s03 := s2.trans s3
  have fsp := s03.free hsp
  have hb3 := s3 _ _ hb2
  have nsp : sp ≠ b := (kal hb3 hsp).symm
  have s4 := s03.trans n4
  have e4 := n4 _ _ (s3 _ _ e2)
  have es4 : (upd H3 sp (.lst (ta.map V.ref))) sp = some (.lst (ta.map V.ref)) := kad
  have hT4 : P2 (fun a t => StepN H0 (upd H3 sp (.lst (ta.map V.ref))) a t) ta steps := hT.mono fun a t h => h.same n4
  have hb4 := n4 _ _ hb3
  clear n4
  generalize upd H3 sp (.lst (ta.map V.ref)) = H4 at *
  refine ⟨_, rfl, b, d.qf, dx, _, rfl, hb4, W.qf.cl, W.n_Bill_steps, few (FQ (kan (n := 0) (FM _)) (by decide)), ?_⟩
  have b5 : But b H4 (upd H4 b (.ins d.qf dx (putF "steps" (.ref sp) (putF "order" (.ref o') [])))) := kaz (nx hb4)
  have s5 : Same H0 (upd H4 b (.ins d.qf dx (putF "steps" (.ref sp) (putF "order" (.ref o') [])))) := kax fb s4 (nx hb4)
  have e5 : (upd H4 b (.ins d.qf dx (putF "steps" (.ref sp) (putF "order" (.ref o') [])))) o' = some (.lst (order.map iV)) := by rw [kam no]; exact e4
  have es5 : (upd H4 b (.ins d.qf dx (putF "steps" (.ref sp) (putF "order" (.ref o') [])))) sp = some (.lst (ta.map V.ref)) := by rw [kam nsp]; exact es4
  have hb5 : (upd H4 b (.ins d.qf dx (putF "steps" (.ref sp) (putF "order" (.ref o') [])))) b = some (.ins d.qf dx (putF "steps" (.ref sp) (putF "order" (.ref o') []))) := kad
  have stepb : ∀ {H5 : Hp}, But b H4 H5 → P2 (fun a t => StepN H0 H5 a t) ta steps := fun {H5} bt => hT4.mono fun a t ⟨f, l, g, h1, h2⟩ => ⟨f, l, g, bt _ _ (ne_of h1 hb4 (by intro z; cases z)) h1, bt _ _ (ne_of h2 hb4 (by intro z; cases z)) h2⟩
  generalize upd H4 b (.ins d.qf dx (putF "steps" (.ref sp) (putF "order" (.ref o') []))) = H5 at *
  refine ⟨_, rfl, x, d.qc, dxs, fss, _, rfl, s5 _ _ hxs, W.qc.cl, W.n_Standing_prices, l2, pp, _, rfl, .inl (SqL.of (s5 _ _ hpp)), fun p' hp' => ?_⟩
  have n6 := kaj (o := .lst (S.pr.map V.int)) hp'
  have fp := s5.free hp'
  have np : p' ≠ b := (kal hb5 hp').symm
  have s6 := s5.trans n6
  have b6 := b5.same n6
  have e6 := n6 _ _ e5
  have es6 := n6 _ _ es5
  have ep6 : (upd H5 p' (.lst (S.pr.map V.int))) p' = some (.lst (S.pr.map V.int)) := kad
  have hb6 := n6 _ _ hb5
  clear n6
  generalize upd H5 p' (.lst (S.pr.map V.int)) = H6 at *
  refine ⟨_, rfl, b, d.qf, dx, _, rfl, hb6, W.qf.cl, W.n_Bill_prices, few (FQ (kan (kan (n := 0) (FM _))) (by decide)), ?_⟩
  have b7 : But b H4 (upd H6 b (.ins d.qf dx (putF "prices" (.ref p') (putF "steps" (.ref sp) (putF "order" (.ref o') []))))) := b6.trans (kaz (nx hb6))
  have s7 : Same H0 (upd H6 b (.ins d.qf dx (putF "prices" (.ref p') (putF "steps" (.ref sp) (putF "order" (.ref o') []))))) := kax fb s6 (nx hb6)
  have e7 : (upd H6 b (.ins d.qf dx (putF "prices" (.ref p') (putF "steps" (.ref sp) (putF "order" (.ref o') []))))) o' = some (.lst (order.map iV)) := by rw [kam no]; exact e6
  have es7 : (upd H6 b (.ins d.qf dx (putF "prices" (.ref p') (putF "steps" (.ref sp) (putF "order" (.ref o') []))))) sp = some (.lst (ta.map V.ref)) := by rw [kam nsp]; exact es6
  have ep7 : (upd H6 b (.ins d.qf dx (putF "prices" (.ref p') (putF "steps" (.ref sp) (putF "order" (.ref o') []))))) p' = some (.lst (S.pr.map V.int)) := by rw [kam np]; exact ep6
  have hb7 : (upd H6 b (.ins d.qf dx (putF "prices" (.ref p') (putF "steps" (.ref sp) (putF "order" (.ref o') []))))) b = some (.ins d.qf dx (putF "prices" (.ref p') (putF "steps" (.ref sp) (putF "order" (.ref o') [])))) := kad
  generalize upd H6 b (.ins d.qf dx (putF "prices" (.ref p') (putF "steps" (.ref sp) (putF "order" (.ref o') [])))) = H7 at *
  refine ⟨_, rfl, x, d.qc, dxs, fss, _, rfl, s7 _ _ hxs, W.qc.cl, W.n_Standing_carriage, l3, _, rfl, b, d.qf, dx, _, rfl, hb7, W.qf.cl, W.n_Bill_carriage, few (FQ (kan (kan (kan (n := 0) (FM _)))) (by decide)), ?_⟩
  have s8 : Same H0 (upd H7 b (.ins d.qf dx (putF "carriage" (.int S.cg) (putF "prices" (.ref p') (putF "steps" (.ref sp) (putF "order" (.ref o') [])))))) := kax fb s7 (nx hb7)
  have hb8 : (upd H7 b (.ins d.qf dx (putF "carriage" (.int S.cg) (putF "prices" (.ref p') (putF "steps" (.ref sp) (putF "order" (.ref o') [])))))) b = some (.ins d.qf dx (putF "carriage" (.int S.cg) (putF "prices" (.ref p') (putF "steps" (.ref sp) (putF "order" (.ref o') []))))) := kad
  refine ⟨_, rfl, x, dxs, fss, rfl, s8 _ _ hxs, l5, x, ow, pp, mm, S.cg, S.pr, rfl, ⟨dxs, fss, s8 _ _ hxs, l1, l2, l3, l4, l5⟩, s8 _ _ hpp, _, rfl, b, d.qf, dx, _, rfl, hb8, W.qf.cl, W.n_Bill_total, few (FQ (kan (kan (kan (kan (n := 0) (FM _))))) (by decide)), ?_⟩
  refine kk _ (kax fb s8 (nx hb8)) ⟨dx, _, o', sp, p', ta, kad, ?_, ?_, ?_, ?_, ?_, fb, fo, fsp, fp, ?_, ?_, stepb ((b7.trans (kaz (nx hb7))).trans (kaz (nx hb8))), ?_⟩
  ·(repeat (first | rw [kac, if_pos rfl] | rw [kac, if_neg (by decide +kernel)]))
  ·(repeat (first | rw [kac, if_pos rfl] | rw [kac, if_neg (by decide +kernel)]))
  ·(repeat (first | rw [kac, if_pos rfl] | rw [kac, if_neg (by decide +kernel)]))
  ·(repeat (first | rw [kac, if_pos rfl] | rw [kac, if_neg (by decide +kernel)]))
  ·(repeat (first | rw [kac, if_pos rfl] | rw [kac, if_neg (by decide +kernel)]))
  ·rw [kam no, kam no]; exact e7
  ·rw [kam nsp, kam nsp]; exact es7
  ·rw [kam np, kam np]; exact ep7
theorem kkf {d : D} {H : Hp} {o s x : Addr} {order : List Nat} {steps : List Step} {S : Stnd} {sa : List Addr} {R : Addr → Hp → Prop} {E : XK} (ho : H o = some (.lst (order.map iV))) (hs : H s = some (.lst (sa.map V.ref))) (hsa : P2 (fun a t => StepIs H a t) sa steps) (h64 : steps.length < 64) (hS : StndIs d.qc H x S)
  (k : ∀ (H' : Hp) (b : Addr), Same H H' → BillIs d H H' b ⟨order, steps, S.pr, S.cg, S.pr.sum + S.cg⟩ → R b H') :
  ∀ b dx, H b = none → H dx = none → dx ≠ b → khd d [.ref b, .ref o, .ref s, .ref x] (upd (upd H dx (.own b)) b (.ins d.qf dx [])) (fun v H2 => v = .non ∧ R b H2) E :=
 fun b dx nb nd _ => ⟨H, b, dx, o, s, x, order, steps, S, sa, rfl, nb, kbE nb nd, kad, ho, hs, hsa, h64, hS, fun H' z hB => ⟨rfl, k H' b z hB⟩⟩
theorem kdh {H : Hp} {sp o : Addr} {xs : List Addr} {ys : List V} (hsp : H sp = some (.lst (xs.map V.ref))) (h0 : xs ≠ []) (ho : H o = some (.lst ys)) (hy : ∀ y ∈ ys, ∀ r, y ≠ V.ref r) : o ≠ sp := fun z => by
 rw [z, hsp] at ho
 injection ho with ho
 injection ho with ho
 cases xs with
 | nil => exact h0 rfl
 | cons r xs => exact hy (V.ref r) (by rw [← ho]; simp) r rfl
theorem StndIs.butR {C sp x : Addr} {H H' : Hp} {S : Stnd} {xs : List Addr} (b : But sp H H') (hsp : H sp = some (.lst (xs.map V.ref))) (h0 : xs ≠ []) : StndIs C H x S → StndIs C H' x S := fun ⟨o, p, mk, ⟨dx, fs, hx, q⟩, ho, hp, hm⟩ =>
 ⟨o, p, mk, ⟨dx, fs, b _ _ (ne_of hx hsp (by intro z; cases z)) hx, q⟩,
  b _ _ (kdh hsp h0 ho fun y hy r e => by obtain ⟨n, _, rfl⟩ := F4.mp hy; cases e) ho,
  b _ _ (kdh hsp h0 hp fun y hy r e => by obtain ⟨n, _, rfl⟩ := F4.mp hy; cases e) hp,
  b _ _ (kdh hsp h0 hm fun y hy r e => by obtain ⟨n, _, rfl⟩ := F4.mp hy; cases e) hm⟩
theorem WayAt.butR {d : D} {m : Nat} {sp w t b x : Addr} {H H' : Hp} {hand : List Int} {used : List Nat} {xs : List Addr} (z : But sp H H') (hsp : H sp = some (.lst (xs.map V.ref))) (h0 : xs ≠ []) : WayAt d m H w t b x hand used → WayAt d m H' w t b x hand used := fun ⟨dx, fs, h, u, h1, h2, h3, h4, h5, h6, h7, h8, h9, h10, h11, h12, h13⟩ =>
 ⟨dx, fs, h, u, z _ _ (ne_of h1 hsp (by intro z; cases z)) h1, h2, h3, h4, h5, h6, h7, h8, h9, h10, h11,
  z _ _ (kdh hsp h0 h12 fun y hy r e => by obtain ⟨n, _, rfl⟩ := F4.mp hy; cases e) h12,
  z _ _ (kdh hsp h0 h13 fun y hy r e => by obtain ⟨n, _, rfl⟩ := F4.mp hy; cases e) h13⟩
noncomputable def billM (T : TillD) (B : Bask) : List Nat → Stnd → List Step × Stnd
 | [], S => ([], S)
 | n :: ns, S => match T.vs[n]? with
  | none => ([], S)
  | some V => (⟨n, (cutM V T.ps (kds B) S).1, (cutM V T.ps (kds B) S).2⟩ :: (billM T B ns (aftM V T.ps (kds B) S)).1, (billM T B ns (aftM V T.ps (kds B) S)).2)
noncomputable def kcI (T : TillD) (B : Bask) (order : List Nat) : BillD := ⟨order, (billM T B order (stnd0 B)).1, (billM T B order (stnd0 B)).2.pr, (billM T B order (stnd0 B)).2.cg, (billM T B order (stnd0 B)).2.pr.sum + (billM T B order (stnd0 B)).2.cg⟩
noncomputable def kip (d : D) : Sp := fun vs H Q _ => ∃ (t b h o : Addr) (T : TillD) (B : Bask) (hand : List Int) (order : List Nat), vs = [.ref t, .ref b, .ref h, .ref o] ∧ TillIs d H t T ∧ kda T ∧ BaskIs d.qe d.qi H b B ∧ Wf T.ps B (stnd0 B) ∧ H h = some (.lst (hand.map V.int)) ∧ H o = some (.lst (order.map iV)) ∧ hand.length = T.vs.length ∧ (∀ n ∈ order, n < T.vs.length) ∧ order.length < 64 ∧ kcF T B hand order = none ∧
 ∀ (H0 H' : Hp) (bl : Addr), Same H H0 → Same H0 H' → BillIs d H0 H' bl (kcI T B order) → Q (.ref bl) H'
theorem qO : kas ["till", "basket", "hand", "order", "due", "way", "steps", "number", "told"] ["till", "basket", "hand", "order"] (kab kbK) := ⟨rfl, rfl, rfl, by decide +kernel, rfl, by decide +kernel, by decide +kernel⟩
theorem khv (W : WB K mg d base) : FnOk P w K mg base CX0 9 d.Yb d.Yc ["till", "basket", "hand", "order"] (kip d) := by
 refine FunD.ok W.qL.F qO (fun vs H Q E h => ?_) (fun cdv A outer s H vs Q E hr h => ?_)
 ·obtain ⟨t, b, h, o, T, B, hand, order, rfl, _⟩ := h
  rfl
 ·obtain ⟨t, b, h, o, T, B, hand, order, rfl, hT, tok, hB, wf0, hh, ho, hl, hlt, h64, hf, kk⟩ := h
  have qP := kdN (P := P) (w := w) (base := base) W
  have qV := kcU (P := P) (w := w) (base := base) W
  have ZW := kj9 (P := P) (w := w) (base := base) W
  have Xf := kc2 (P := P) (w := w) (base := base) W
  have ZX := kfv (P := P) (w := w) (base := base) W
  have hr3 : Room 3 _ := hr.mono (by decide)
  have hr5 : Room 5 _ := hr.mono (by decide)
  have hr6 : Room 6 _ := hr.mono (by decide)
  refine ⟨_, kae (kav (i := 4) qO.nd rfl (Or.inl rfl) (kao qP hr rfl W.qq.m W.qq.F.kp W.qq.b .nil pass0 (kaa (pv 0) (kaa (pv 1) (kaa (pv 2) (kaa (pv 3) kah))))))
   (kae (ps_if (kay kcy (pv 4) kbC (kaF _)) (kak (ps_no)) (kaA))
   (kae (kav (i := 5) qO.nd rfl (Or.inl rfl) (kbM (W.qN.mk' W.c_Way) qV hr5 rfl W.c_Way.m W.qN.b .nil pass0 (kaa (pv 0) (kaa (pv 1) (kaa (pv 2) kah)))))
   (kae (kav (i := 6) qO.nd rfl (Or.inl rfl) (kbw kah))
   (kae (kbQ PassesOwn.never rfl (kbx (pv 3)) (kau (i := 7) qO.nd rfl (Or.inl rfl))
   (kae (kav (i := 8) qO.nd rfl (Or.inl rfl) (kao ZW hr5 rfl W.Qc.m W.Qc.F.kp W.Qc.b .nil pass0 (kaa (pe_ix (r := rIxL K) kbu (kap (pv 0) rfl) (pv 7) (fun _ _ => rfl)) (kaa (kap (pv 0) rfl) (kaa (pv 1) (kaa (kap (pv 5) rfl) kah))))))
   (kae (kby (pe_bm Ct CN CO kbG (pv 6) (kaa (kcM (kaa (pv 7) (kaa (pe_ix (r := rIxT K) khH (pv 8) kai (fun _ _ => rfl)) (kaa (pe_ix (r := rIxT K) khH (pv 8) kai (fun _ _ => rfl)) kah)))) kah)))
   (kak (kav (i := 5) qO.nd rfl (Or.inl rfl) (keU (pv 5) W.c_Way.cl W.qT.me Xf hr6 W.qT.b .nil pass0 (kaa (pv 7) kah)))))))
   (kak (kat (kbM (W.Q2.mk' W.qf) ZX hr3 rfl W.qf.m W.Q2.b .nil pass0 (kaa (pv 3) (kaa (pv 6) (kaa (kap (pv 5) rfl) kah)))))))))), ?_⟩
  refine ⟨_, rfl, _, rfl, _, rfl, _, rfl, t, b, h, o, T, B, hand, order, rfl, hT, tok, hB, wf0, hh, ho, hl, hlt, h64, fun H1 v s1 hF => ?_⟩
  rw [hf] at hF
  have ev : v = .non := hF
  subst ev
  refine ⟨_, rfl, rfl, _, rfl, ?_⟩
  show if (!decide (V.non = V.non)) = true then _ else _
  rw [show (!decide (V.non = V.non)) = false by simp]
  refine iteF ⟨_, rfl, _, rfl, _, rfl, khy (s1 _ _ hh) (hB.same s1) wf0.nl wf0.ok fun H2 y0 x0 s2 fy0 fx0 hy0 hx0 => ?_⟩
  have s02 := s1.trans s2
  refine ⟨by decide, fun sp fsp => ?_⟩
  have n3 := kaj (o := .lst []) fsp
  have esp0 : (upd H2 sp (.lst [])) sp = some (.lst (([] : List Addr).map V.ref)) := kad
  generalize upd H2 sp (.lst []) = H3 at *
  have fsp0 := s02.free fsp
  generalize eR : billM T B order (stnd0 B) = R at *
  refine ⟨_, rfl, o, rfl, ⟨_, SqL.of ((s02.trans n3) _ _ ho)⟩, kbW (xs := order.map iV) (fun i σ H' => Same H2 H' ∧ ∃ (y x : Addr) (used : List Nat) (S : Stnd) (sa : List Addr) (st : List Step) (v7 v8 : Option V), WayIs d H' y t b x hand used ∧ StndIs d.qc H' x S ∧ (sa = [] → WayIs d H2 y t b x hand used ∧ StndIs d.qc H2 x S) ∧ Wf T.ps B S ∧ used.length = i ∧ H' sp = some (.lst (sa.map V.ref)) ∧ P2 (fun a t => StepIs H' a t) sa st ∧ st.length = i ∧ st ++ (billM T B (order.drop i) S).1 = R.1 ∧ (billM T B (order.drop i) S).2 = R.2 ∧ σ = [some (.ref t), some (.ref b), some (.ref h), some (.ref o), some .non, some (.ref y), some (.ref sp), v7, v8])
   ⟨n3, y0, x0, [], _, [], [], none, none, (hy0.most (by decide)).same n3, hx0.same n3, (fun _ => ⟨hy0.most (by decide), hx0⟩), wf0, rfl, esp0, .nil, rfl, by rw [Rh, eR]; rfl, by rw [Rh, eR], rfl⟩ (fun i σ H' _ h => SqL.of ((s02.trans h.1) _ _ ho)) ?_ ?_⟩
  ·rintro i yv σ H' hyv ⟨sI, y, x, used, S, sa, st, v7, v8, hY, hx, h2, wf, hul, hsp, hsa, hsl, hR1, hR2, rfl⟩
   obtain ⟨n, en, rfl⟩ : ∃ n, order[i]? = some n ∧ yv = iV n := kbY hyv
   have hi := at_lt en
   obtain ⟨Vc, hV⟩ := at_of (hlt n (FV en))
   have vo := tok.vs Vc (FV hV)
   have ed : order.drop i = n :: order.drop (i + 1) := by
    obtain ⟨z1, z2⟩ := FZ.mp en
    rw [Sr z1, z2]
   rw [ed] at hR1 hR2
   unfold billM at hR1 hR2
   rw [hV] at hR1 hR2
   simp only at hR1 hR2
   have s0I := s02.trans sI
   obtain ⟨dxw, fsw, hd, u, hw, w1, w2, w3, w4, w5, w6, w7, w8, w9, w10, hh', hu⟩ := id hY
   obtain ⟨dx, fs, p, vl, rl, va, ra, ht, t1, t2, t3, t4, hp, hvl, hva, hrl, hra⟩ := id (hT.same s0I)
   obtain ⟨vv, evv⟩ := at_of (xs := va) (i := n) (by rw [hva.len]; exact at_lt hV)
   obtain ⟨Vc', eV', hVv⟩ := hva.at evv
   rw [hV] at eV'
   cases eV'
   refine ⟨_, rfl, t, d.qg, dx, fs, _, rfl, ht, W.qg.cl, W.n_Till_vouchers, t2, _, rfl, vl, _, _, _, rfl, rfl, SqL.of hvl, kbN (v := .ref vv) (by rw [F0, evv]; rfl), ?_⟩
   refine ⟨_, rfl, t, d.qg, dx, fs, _, rfl, ht, W.qg.cl, W.n_Till_parents, t1, _, rfl, _, rfl, y, d.c_Way, dxw, fsw, _, rfl, hw, W.c_Way.cl, W.n_Way_standing, w5, ?_⟩
   refine ⟨vv, p, b, x, Vc, T.ps, B, S, rfl, hVv, SqL.of hp, hB.same s0I, hx, wf, vo, fun H4 tt pc s4 ft fpc htt hpc => ?_⟩
   have hsp4 := s4 _ _ hsp
   refine ⟨_, rfl, .inl ⟨rfl, _, SqL.of hsp4⟩, _, rfl, _, rfl, tt, _, _, _, rfl, rfl, SqT.of htt, rfl, _, rfl, tt, _, _, _, rfl, rfl, SqT.of htt, rfl, (by show 3 ≤ sizeLine; decide), fun q hq => ?_⟩
   have n5 := kaj (o := .tup [iV n, V.ref pc, V.int (cutM Vc T.ps (kds B) S).2]) hq
   have eq5 : (upd H4 q (.tup [iV n, V.ref pc, V.int (cutM Vc T.ps (kds B) S).2])) q = some (.tup [iV n, V.ref pc, V.int (cutM Vc T.ps (kds B) S).2]) := kad
   have s5 := s4.trans n5
   have hsp5 := n5 _ _ hsp4
   have hpc5 := n5 _ _ hpc
   have npc : pc ≠ sp := (kal hsp fpc).symm
   clear n5
   generalize upd H4 q (.tup [iV n, V.ref pc, V.int (cutM Vc T.ps (kds B) S).2]) = H5 at *
   refine ⟨sp, _, _, rfl, rfl, hsp5, kar (by rw [FJ, hsa.len]; omega), ?_⟩
   have b6 : But sp H5 (upd H5 sp (.lst (sa.map V.ref ++ [V.ref q]))) := kaz (nx hsp5)
   have s6 : Same H2 (upd H5 sp (.lst (sa.map V.ref ++ [V.ref q]))) := kax fsp (sI.trans s5) (nx hsp5)
   have esp6 : (upd H5 sp (.lst (sa.map V.ref ++ [V.ref q]))) sp = some (.lst ((sa ++ [q]).map V.ref)) := by rw [kad, FX]; rfl
   generalize upd H5 sp (.lst (sa.map V.ref ++ [V.ref q])) = H6 at *
   have hYx : WayIs d H6 y t b x hand used ∧ StndIs d.qc H6 x S := by
    by_cases h0 : sa = []
    ·exact ⟨(h2 h0).1.same s6, (h2 h0).2.same s6⟩
    ·exact ⟨(hY.same s5).butR b6 hsp5 h0, (hx.same s5).butR b6 hsp5 h0⟩
   have hst : P2 (fun a t => StepIs H6 a t) (sa ++ [q]) (st ++ [⟨n, (cutM Vc T.ps (kds B) S).1, (cutM Vc T.ps (kds B) S).2⟩]) := by
    refine P2.snoc ?_ ⟨pc, b6 _ _ (ne_of eq5 hsp5 (by intro z; cases z)) eq5, b6 _ _ npc hpc5⟩
    by_cases h0 : sa = []
    ·subst h0
     cases hsa
     exact .nil
    ·refine hsa.mono fun a t ⟨l, g1, g2⟩ => ?_
     have g1' := s5 _ _ g1
     have g2' := s5 _ _ g2
     refine ⟨l, b6 _ _ (ne_of g1' hsp5 (by intro z; cases z)) g1', b6 _ _ ?_ g2'⟩
     exact kdh hsp5 h0 g2' fun y hy r e => by obtain ⟨n, _, rfl⟩ := F4.mp hy; cases e
   have s06 := s02.trans s6
   obtain ⟨dxw', fsw', hd', u', hw', _, _, _, _, _, _, w7', _⟩ := id hYx.1
   refine ⟨_, rfl, y, dxw', fsw', rfl, hw', w7', _, rfl, y, t, b, x, T, B, S, hand, used, n, Vc, rfl, hYx.1, hT.same s06, hB.same s06, hYx.2, wf, vo, hV, by omega, fun H7 y' x' s7 fy' hY' hx' => ?_⟩
   refine ⟨s6.trans s7, y', x', used ++ [n], _, sa ++ [q], _, _, _, hY', hx', (fun e => by simp at e), wf.after vo, by rw [Ca, hul]; rfl, s7 _ _ esp6, hst.mono fun a t h => h.same s7, by rw [Ca, hsl]; rfl, ?_, hR2, rfl⟩
   rw [C7]
   exact hR1
  ·rintro σ H' ⟨sI, y, x, used, S, sa, st, v7, v8, hY, hx, h2, wf, hul, hsp, hsa, hsl, hR1, hR2, rfl⟩
   rw [FJ, Ss] at hR1 hR2
   unfold billM at hR1 hR2
   have e1 : st = R.1 := by simpa using hR1
   have e2 : S = R.2 := hR2
   obtain ⟨dxw, fsw, hd, u, hw, w1, w2, w3, w4, w5, w6, w7, w8, w9, w10, hh', hu⟩ := id hY
   rw [FJ] at hsl
   refine ⟨_, rfl, _, rfl, _, rfl, y, d.c_Way, dxw, fsw, _, rfl, hw, W.c_Way.cl, W.n_Way_standing, w5, kkf ((s02.trans sI) _ _ ho) hsp hsa (by omega) hx fun H8 bl s8 hBl => ?_⟩
   refine kk H' H8 bl (s02.trans sI) s8 ?_
   unfold kcI
   rw [eR, ← e1, ← e2]
   exact hBl
noncomputable def kiu (K : FK) : Sp := fun vs H Q _ => ∃ (a : Addr) (ns : List Int) (n : Int), vs = [.ref a, .int n] ∧ SqL K H a (ns.map V.int) ∧ 0 ≤ n ∧ ∀ z : Int, Q (.int z) H
theorem kdT : kas ["_law_script", "_law_k"] ["_law_script", "_law_k"] (kab ka3) := ⟨rfl, rfl, rfl, by decide +kernel, rfl, by decide +kernel, by decide +kernel⟩
theorem kea (W : WB K mg d base) : FnOk P w K mg base CX0 1 d.Yd d.Ye ["_law_script", "_law_k"] (kiu K) := by
 refine FunD.ok W.Qn.F kdT (fun vs H Q E h => ?_) (fun cdv A outer s H vs Q E hr h => ?_)
 ·obtain ⟨a, ns, n, rfl, _⟩ := h
  rfl
 ·obtain ⟨a, ns, n, rfl, hS, n0, kk⟩ := h
  refine ⟨_, kae (ps_if (kay op_lt (pv 1) (kaQ ka6 (by rfl) W.B.len b_len (kaa (pv 0) kah)) (kaF _)) (kak (kat (pe_ix (r := rIxL K) kbu (pv 0) (pv 1) (fun _ _ => rfl)))) (kaA))
   (kak (kat kai)), ?_⟩
  obtain ⟨m, rfl⟩ := Int.eq_ofNat_of_zero_le n0
  refine ⟨_, rfl, _, rfl, a, _, rfl, .inl hS, _, _, rfl, rfl, _, rfl, ite2 (fun h => ?_) (fun _ => kk 0)⟩
  have hn : m < ns.length := by
   have : (m : Int) < ((ns.map V.int).length : Nat) := by simpa using h
   rw [FJ] at this
   omega
  obtain ⟨z, ez⟩ := at_of hn
  exact ⟨_, rfl, _, rfl, a, _, _, _, rfl, rfl, hS, kbN (v := .int z) (by rw [F0, ez]; rfl), kk z⟩
noncomputable def kkz (K : FK) : Sp := fun vs H Q _ => ∃ (a : Addr) (ns : List Int) (k t m : Int), vs = [.ref a, .int k, .int t, .int m] ∧ SqL K H a (ns.map V.int) ∧ (0 ≤ k ∧ k ≤ 1000) ∧ (0 ≤ t ∧ t ≤ 1000) ∧ 0 < m ∧ ∀ z : Int, 0 ≤ z → z < m → Q (.int z) H
theorem Xh : kas ["_law_script", "_law_k", "_law_salt", "_law_many", "_law_cell", "_law_mixed"] ["_law_script", "_law_k", "_law_salt", "_law_many"] (kab kbp) := ⟨rfl, rfl, rfl, by decide +kernel, rfl, by decide +kernel, by decide +kernel⟩
theorem kbr (W : WB K mg d base) : FnOk P w K mg base CX0 2 d.Yf d.Yg ["_law_script", "_law_k", "_law_salt", "_law_many"] (kkz K) := by
 refine FunD.ok W.qd.F Xh (fun vs H Q E h => ?_) (fun cdv A outer s H vs Q E hr h => ?_)
 ·obtain ⟨a, ns, k, t, m, rfl, _⟩ := h
  rfl
 ·obtain ⟨a, ns, k, t, m, rfl, hS, hk, ht, hm, kk⟩ := h
  have ZY := kea (P := P) (w := w) (base := base) W
  refine ⟨_, kae (kav (i := 4) Xh.nd rfl (Or.inl rfl) (pe_op kaY (pe_op kd4 (kao ZY hr rfl W.Qn.m W.Qn.F.kp W.Qn.b .nil pass0 (kaa (pv 0) (kaa (pv 1) kah))) kai) kai))
   (kae (kav (i := 5) Xh.nd rfl (Or.inl rfl) (pe_op kd4 (pe_op kca (pv 4) (pe_op kaY (pe_op kaY kai (pe_op kca (pe_op kca kai (pv 1)) (pv 1))) (pe_op kca (pe_op kca kai (pv 2)) (pv 2)))) kai))
   (kak (kat (pe_op kd4 (pe_op kd5 (pe_op kd4 (pe_op kca (pv 5) (pv 5)) kai) kai) (pv 3))))), ?_⟩
  refine ⟨_, rfl, _, rfl, a, ns, k, rfl, hS, hk.1, fun z => ⟨_, _, rfl, rfl, (by show (0 : Int) < 1000003; decide), _, _, rfl, rfl, ?_⟩⟩
  refine ⟨_, rfl, _, rfl, _, _, rfl, rfl, .inl ⟨by decide, by decide⟩, _, rfl, _, _, rfl, rfl, .inr ⟨by omega, by omega⟩, _, _, rfl, rfl, _, rfl, _, _, rfl, rfl, .inl ⟨by decide, by decide⟩, _, rfl, _, _, rfl, rfl, .inr ⟨by omega, by omega⟩, _, _, rfl, rfl, _, _, rfl, rfl, .inl ⟨by omega, by omega⟩, _, _, rfl, rfl, (by show (0 : Int) < 2147483647; decide), ?_⟩
  generalize hx : (z % 1000003 + 1) * (48271 + 1000 * k * k + 69621 * t * t) % 2147483647 = x
  have x0 : 0 ≤ x ∧ x < 2147483647 := by omega
  refine ⟨_, rfl, _, rfl, _, _, rfl, rfl, .inl ⟨by omega, by omega⟩, _, _, rfl, rfl, (by show (0 : Int) < 2147483629; decide), _, _, rfl, rfl, ⟨by decide, by decide⟩, _, rfl, _, _, rfl, rfl, hm, ?_⟩
  exact kk _ (Int.emod_nonneg _ (by omega)) (Int.emod_lt_of_pos _ hm)
noncomputable def kiq (K : FK) : Sp := fun vs H Q _ => ∃ (a : Addr) (ns : List Int) (k t : Int), vs = [.ref a, .int k, .int t] ∧ SqL K H a (ns.map V.int) ∧ (0 ≤ k ∧ k ≤ 1000) ∧ (0 ≤ t ∧ t ≤ 900) ∧ ∀ z : Int, 0 ≤ z → z ≤ 1000000000000 → Q (.int z) H
theorem Ze : kas ["_law_script", "_law_k", "_law_salt", "_law_how"] ["_law_script", "_law_k", "_law_salt"] (kab kbe) := ⟨rfl, rfl, rfl, by decide +kernel, rfl, by decide +kernel, by decide +kernel⟩
theorem keY (W : WB K mg d base) : FnOk P w K mg base CX0 3 d.Yh d.Yi ["_law_script", "_law_k", "_law_salt"] (kiq K) := by
 refine FunD.ok W.qx.F Ze (fun vs H Q E h => ?_) (fun cdv A outer s H vs Q E hr h => ?_)
 ·obtain ⟨a, ns, k, t, rfl, _⟩ := h
  rfl
 ·obtain ⟨a, ns, k, t, rfl, hS, hk, ht, kk⟩ := h
  have qj := kbr (P := P) (w := w) (base := base) W
  refine ⟨_, kae (kav (i := 3) Ze.nd rfl (Or.inl rfl) (kao qj hr rfl W.qd.m W.qd.F.kp W.qd.b .nil pass0 (kaa (pv 0) (kaa (pv 1) (kaa (pv 2) (kaa kai kah))))))
   (kae (ps_if (kay op_lt (pv 3) kai (kaF _)) (kak (kat (kao qj hr rfl W.qd.m W.qd.F.kp W.qd.b .nil pass0 (kaa (pv 0) (kaa (pv 1) (kaa (pe_op kaY (pv 2) kai) (kaa kai kah))))))) (kaA))
   (kae (ps_if (kay op_eq (pv 3) kai (kaF _)) (kak (kat (pe_op kca kai (kao qj hr rfl W.qd.m W.qd.F.kp W.qd.b .nil pass0 (kaa (pv 0) (kaa (pv 1) (kaa (pe_op kaY (pv 2) kai) (kaa kai kah)))))))) (kaA))
   (kak (kat (pe_op kaY (pe_op kca (kao qj hr rfl W.qd.m W.qd.F.kp W.qd.b .nil pass0 (kaa (pv 0) (kaa (pv 1) (kaa (pe_op kaY (pv 2) kai) (kaa kai kah))))) kai) (kao qj hr rfl W.qd.m W.qd.F.kp W.qd.b .nil pass0 (kaa (pv 0) (kaa (pv 1) (kaa (pe_op kaY (pv 2) kai) (kaa kai kah)))))))))), ?_⟩
  refine ⟨_, rfl, _, rfl, _, rfl, a, ns, k, t, 4, rfl, hS, hk, ⟨by omega, by omega⟩, by decide, fun w w0 w1 => ?_⟩
  refine ⟨_, rfl, _, _, rfl, rfl, _, rfl, ite2 (fun _ => ?_) (fun _ => ?_)⟩
  ·exact ⟨_, rfl, _, rfl, _, rfl, _, _, rfl, rfl, a, ns, k, t + 1, 10, rfl, hS, hk, ⟨by omega, by omega⟩, by decide, fun z z0 z1 => kk z z0 (by omega)⟩
  refine ⟨_, rfl, rfl, _, rfl, ite2 (fun _ => ?_) (fun _ => ?_)⟩
  ·exact ⟨_, rfl, _, rfl, _, rfl, _, _, rfl, rfl, a, ns, k, t + 1, 40, rfl, hS, hk, ⟨by omega, by omega⟩, by decide, fun z z0 z1 => ⟨_, _, rfl, rfl, .inl ⟨by decide, by decide⟩, kk _ (by omega) (by omega)⟩⟩
  exact ⟨_, rfl, _, rfl, _, rfl, _, _, rfl, rfl, a, ns, k, t + 1, 1000000, rfl, hS, hk, ⟨by omega, by omega⟩, by decide, fun z z0 z1 => ⟨_, _, rfl, rfl, .inr ⟨by decide, by decide⟩, _, rfl, _, rfl, _, rfl, _, _, rfl, rfl, a, ns, k, t + 2, 1000001, rfl, hS, hk, ⟨by omega, by omega⟩, by decide, fun y y0 y1 => ⟨_, _, rfl, rfl, kk _ (by omega) (by omega)⟩⟩⟩
noncomputable def kkA (K : FK) : Sp := fun vs H Q _ => ∃ (a : Addr) (ns : List Int), vs = [.ref a] ∧ SqL K H a (ns.map V.int) ∧ ∀ (H' : Hp) (p : Addr) (ps : List (Option Nat)), Same H H' → H p = none → H' p = some (.lst (ps.map pV)) → Good ps → ps.length ≤ 20 → 0 < ps.length → Q (.ref p) H'
theorem Xi : kas ["_law_script", "_law_parents_here", "_law_j"] ["_law_script"] (kab ka2) := ⟨rfl, rfl, rfl, by decide +kernel, rfl, by decide +kernel, by decide +kernel⟩
theorem kd9 (W : WB K mg d base) : FnOk P w K mg base CX0 3 d.Yj d.Yk ["_law_script"] (kkA K) := by
 refine FunD.ok W.Qo.F Xi (fun vs H Q E h => ?_) (fun cdv A outer s H vs Q E hr h => ?_)
 ·obtain ⟨a, ns, rfl, _⟩ := h
  rfl
 ·obtain ⟨a, ns, rfl, hS, kk⟩ := h
  have qj := kbr (P := P) (w := w) (base := base) W
  refine ⟨_, kae (kav (i := 1) Xi.nd rfl (Or.inl rfl) (kbw kah))
   (kae (kbQ PassesOwn.never rfl (kbX rfl W.B.range (kaa (pe_op kaY kai (kao qj hr rfl W.qd.m W.qd.F.kp W.qd.b .nil pass0 (kaa (pv 0) (kaa kai (kaa kai (kaa kai kah)))))) kah)) (kau (i := 2) Xi.nd rfl (Or.inl rfl))
   (kak (ps_if (PW.pt (pw_or (kay op_eq (pv 2) kai (kaF _)) (kfn (kay op_eq (kao qj hr rfl W.qd.m W.qd.F.kp W.qd.b .nil pass0 (kaa (pv 0) (kaa kai (kaa (pe_op kaY kai (pv 2)) (kaa kai kah))))) kai (kaF _))))) (kak (kby (pe_bm Ct CN CO kbG (pv 1) (kaa kbC kah)))) (kak (kby (pe_bm Ct CN CO kbG (pv 1) (kaa (kao qj hr rfl W.qd.m W.qd.F.kp W.qd.b .nil pass0 (kaa (pv 0) (kaa kai (kaa (pe_op kaY kai (pv 2)) (kaa (pv 2) kah))))) kah)))))))
   (kak (kat (pv 1)))), ?_⟩
  refine ⟨by decide, fun p hp => ?_⟩
  have s1 := kaj (o := .lst []) hp
  have hp1 : (upd H p (.lst [])) p = some (.lst (([] : List (Option Nat)).map pV)) := kad
  generalize upd H p (.lst []) = H1 at *
  refine ⟨_, rfl, a, ns, 0, 1, 6, rfl, s1.seq hS, ⟨by decide, by decide⟩, ⟨by decide, by decide⟩, by decide, fun m m0 m1 => ⟨_, _, rfl, rfl, _, rfl, by omega, by omega, ?_⟩⟩
  refine kcn (fun i σ H' => Same H H' ∧ ∃ (ps : List (Option Nat)) (v2 : Option V), σ = [some (.ref a), some (.ref p), v2] ∧ H' p = some (.lst (ps.map pV)) ∧ ps.length = i ∧ Good ps)
   ⟨s1, [], none, rfl, hp1, rfl, kiW⟩ ?_ ?_
  ·rintro i σ H' hi ⟨s2, ps, v2, rfl, hp2, hl, hg⟩
   rw [Int.zero_add]
   have hi6 : i < 7 := by omega
   have fin : ∀ (o : Option Nat) (v2 : Option V), (∀ k, o = some k → k < ps.length) → khi (.ref p) [pV o] H' (fun _ H1 => Same H H1 ∧ ∃ (ps' : List (Option Nat)) (v2' : Option V), ([some (.ref a), some (.ref p), v2] : St) = [some (.ref a), some (.ref p), v2'] ∧ H1 p = some (.lst (ps'.map pV)) ∧ ps'.length = i + 1 ∧ Good ps') := by
    intro o v2 h
    refine ⟨p, _, _, rfl, rfl, hp2, kar (by rw [FJ]; omega), kax hp s2, ps ++ [o], v2, rfl, ?_, by simp [hl], khT hg h⟩
    rw [kad]
    simp
   refine ⟨_, rfl, rfl, _, rfl, ite2 (fun _ => iteT ⟨_, rfl, .inl ⟨rfl, _, SqL.of hp2⟩, fin none _ (fun k e => by cases e)⟩) (fun h0 => ?_)⟩
   refine ⟨_, rfl, _, rfl, _, _, rfl, rfl, a, ns, 0, 10 + (i : Int), 3, rfl, s2.seq hS, ⟨by decide, by decide⟩, ⟨by omega, by omega⟩, by decide, fun y y0 y1 => ⟨rfl, _, rfl, ite2 (fun _ => ⟨_, rfl, .inl ⟨rfl, _, SqL.of hp2⟩, fin none _ (fun k e => by cases e)⟩) (fun _ => ?_)⟩⟩
   have hi0 : 0 < i := by
    rcases Nat.eq_zero_or_pos i with e | e
    ·exact absurd (by rw [e]; decide) h0
    ·exact e
   refine ⟨_, rfl, .inl ⟨rfl, _, SqL.of hp2⟩, _, rfl, _, rfl, _, _, rfl, rfl, _, rfl, a, ns, 0, 20 + (i : Int), (i : Int), rfl, s2.seq hS, ⟨by decide, by decide⟩, ⟨by omega, by omega⟩, by omega, fun y y0 y1 => ?_⟩
   obtain ⟨n, en⟩ := Int.eq_ofNat_of_zero_le y0
   have q := fin (some n) (some (.int i)) (fun k e => by cases e; omega)
   rw [show pV (some n) = V.int y by rw [en]; rfl] at q
   exact q
  ·rintro σ H' ⟨s2, ps, v2, rfl, hp2, hl, hg⟩
   exact ⟨_, rfl, kk H' p ps s2 hp hp2 hg (by omega) (by omega)⟩
noncomputable def wrth (rs : List Row) : List Int := rs.map fun r => r.pr * r.mn
noncomputable def kjG (d : D) : Sp := fun vs H Q _ => ∃ (b : Addr) (B : Bask), vs = [.ref b] ∧ BaskIs d.qe d.qi H b B ∧ B.rs.length ≤ 12 ∧ (∀ r ∈ B.rs, r.Ok) ∧ ∀ (H' : Hp), Same H H' → 0 ≤ (wrth B.rs).sum → Q (.int (wrth B.rs).sum) H'
theorem keP : kas ["_law_basket_here"] ["_law_basket_here"] (kab kbc) := ⟨rfl, rfl, rfl, by decide +kernel, rfl, by decide +kernel, by decide +kernel⟩
theorem keW (W : WB K mg d base) : FnOk P w K mg base CX0 1 d.Yv d.Yw ["_law_basket_here"] (kjG d) := by
 refine FunD.ok W.Qt.F keP (fun vs H Q E h => ?_) (fun cdv A outer s H vs Q E hr h => ?_)
 ·obtain ⟨b, B, rfl, _⟩ := h
  rfl
 ·obtain ⟨b, B, rfl, hB, h12, hok, kk⟩ := h
  obtain ⟨l, ls, ⟨dxb, fsb, hb, lb1, lb2, lb3⟩, hl, hL⟩ := id hB
  refine ⟨_, kak (kat (kaQ (kci rfl) (by rfl) W.B.sum b_sum (kaa (kbT (N := ["_law_line"]) (CompScope.plain rfl (by decide +kernel) (by decide +kernel) (by decide +kernel) (nd1 _)) rfl (kbx (kap (pv 0) rfl)) (fun _ _ _ _ => kau (i := 0) (nd1 _) rfl (Or.inl rfl)) (fun _ _ _ _ => (pe_op kca (kck (K := K) (pv 0) rfl) (kck (K := K) (pv 0) rfl)))) kah))), ?_⟩
  refine ⟨_, rfl, b, d.qi, dxb, fsb, _, rfl, hb, W.qi.cl, W.n_Basket_lines, lb1, l, rfl, ⟨_, SqL.of hl⟩, kbI (xs := ls.map V.ref) (fun i σ ys H' => H' = H ∧ ys = ((wrth B.rs).take i).map V.int ∧ ∃ v0 : Option V, σ = [v0]) ⟨rfl, rfl, none, rfl⟩ (by rw [FJ, hL.len]; exact FY (kar (by omega))) ?_ ?_ ?_⟩
  ·rintro i σ ys H' hi ⟨rfl, rfl, v0, rfl⟩
   refine ⟨SqL.of hl, ?_⟩
   rw [FJ, F2]
   unfold wrth
   rw [FJ, hL.len] at hi
   rw [FJ]
   omega
  ·rintro i y σ ys H' hy ⟨rfl, rfl, v0, rfl⟩
   obtain ⟨a, ea, rfl⟩ := kb9 hy
   obtain ⟨r, er, dxl, fsl, ha, q1, q2, q3, q4⟩ := hL.at ea
   have ro := hok r (FV er)
   refine ⟨_, rfl, a, d.qe, dxl, fsl, _, rfl, ha, W.qe.cl, W.n_Line_price, q2, _, rfl, a, d.qe, dxl, fsl, _, rfl, ha, W.qe.cl, W.n_Line_many, q3, _, _, rfl, rfl, .inl ⟨by have := ro.pr0; omega, by have := ro.pr1; omega⟩, rfl, ?_, _, rfl⟩
   rw [kbL (r := r.pr * r.mn) (by unfold wrth; rw [F0, er]; rfl), FX]
   rfl
  ·rintro σ ys H' ⟨rfl, rfl, v0, rfl⟩ D hD
   rw [FJ, Cz (by unfold wrth; rw [FJ, hL.len]; exact FM _)]
   refine ⟨D, _, rfl, SqL.of kad, kk _ (kaj hD) (kcf fun z hz => ?_)⟩
   obtain ⟨r, hr, rfl⟩ := F4.mp hz
   have ro := hok r hr
   exact Int.mul_nonneg ro.pr0 ro.mn0
theorem at5N {a b c e f : V} {i : Int} (h0 : 0 ≤ i) (h5 : i < 5) : ∃ v, atI [a, b, c, e, f] i = some v ∧ (v = a ∨ v = b ∨ v = c ∨ v = e ∨ v = f) := by
 obtain ⟨n, rfl⟩ := Int.eq_ofNat_of_zero_le h0
 have hn : n < 5 := by omega
 match n, hn with
 | 0, _ => exact ⟨a, rfl, .inl rfl⟩
 | 1, _ => exact ⟨b, rfl, .inr (.inl rfl)⟩
 | 2, _ => exact ⟨c, rfl, .inr (.inr (.inl rfl))⟩
 | 3, _ => exact ⟨e, rfl, .inr (.inr (.inr (.inl rfl)))⟩
 | 4, _ => exact ⟨f, rfl, .inr (.inr (.inr (.inr rfl)))⟩
noncomputable def kjP (K : FK) : Sp := fun vs H Q _ => ∃ (a : Addr) (ns : List Int) (m : Nat), vs = [.ref a, iV m] ∧ SqL K H a (ns.map V.int) ∧ m ≤ 8 ∧ ∀ (H' : Hp) (h : Addr) (hand : List Int), Same H H' → H h = none → H' h = some (.lst (hand.map V.int)) → hand.length = m → Q (.ref h) H'
theorem kfj : kas ["_law_script", "_law_many"] ["_law_script", "_law_many"] (kab kbl) := ⟨rfl, rfl, rfl, by decide +kernel, rfl, by decide +kernel, by decide +kernel⟩
theorem kfs (W : WB K mg d base) : FnOk P w K mg base CX0 3 d.Yz d.YA ["_law_script", "_law_many"] (kjP K) := by
 refine FunD.ok W.Qv.F kfj (fun vs H Q E h => ?_) (fun cdv A outer s H vs Q E hr h => ?_)
 ·obtain ⟨a, ns, m, rfl, _⟩ := h
  rfl
 ·obtain ⟨a, ns, m, rfl, hS, hm, kk⟩ := h
  have qj := kbr (P := P) (w := w) (base := base) W
  refine ⟨_, kak (kat (kbT (N := ["_law_j", "_law_script"]) (CompScope.of (N := ["_law_j", "_law_script"]) (cap := [none, some 0]) (kab kbl).names ["_law_script", "_law_many"] rfl rfl (by decide +kernel)) rfl (kbX rfl W.B.range (kaa (pv 1) kah)) (fun _ _ _ _ => kau (i := 0) (show (["_law_j", "_law_script"] : List Str).Nodup by decide +kernel) rfl (Or.inl rfl)) (fun _ _ _ _ => (pe_ix (r := rIxL K) kbu (kbw (kaa kai (kaa kai (kaa kai (kaa kai (kaa kai kah)))))) (kao qj hr rfl W.qd.m W.qd.F.kp W.qd.b .nil pass0 (kaa (pv 1) (kaa kai (kaa (pe_op kaY kai (pv 0)) (kaa kai kah))))) (fun _ _ => rfl))))), ?_⟩
  refine ⟨_, rfl, _, rfl, by omega, by omega, ?_⟩
  rw [Int.toNat_natCast]
  refine keF (fun i σ ys H' => Same H H' ∧ ∃ (hand : List Int) (v0 : Option V), ys = hand.map V.int ∧ hand.length = i ∧ σ = [v0, some (.ref a)])
   ⟨Same.refl _, [], none, rfl, rfl, rfl⟩ (FY (kar (by omega))) (fun i σ ys H' hi h => by obtain ⟨_, o, v0, rfl, hl, _⟩ := h; rw [FJ]; exact hl) ?_ ?_
  ·rintro i σ ys H' hi ⟨s1, hand, v0, rfl, hl, rfl⟩
   rw [Int.zero_add]
   refine ⟨(by show 5 ≤ sizeLine; decide), fun l hl' => ?_⟩
   have n2 := kaj (o := .lst [V.int 1, V.int 1, V.int 2, V.int 0, V.int 3]) hl'
   refine ⟨_, rfl, _, rfl, _, _, rfl, rfl, a, ns, 7, 1 + (i : Int), 5, rfl, (s1.trans n2).seq hS, ⟨by decide, by decide⟩, ⟨by omega, by omega⟩, by decide, fun z z0 z1 => ?_⟩
   obtain ⟨v, e, hv⟩ := at5N (a := .int 1) (b := .int 1) (c := .int 2) (e := .int 0) (f := .int 3) z0 z1
   obtain ⟨k, rfl⟩ : ∃ k : Int, v = .int k := by rcases hv with rfl | rfl | rfl | rfl | rfl <;> exact ⟨_, rfl⟩
   exact ⟨l, _, _, _, rfl, rfl, SqL.of kad, e, s1.trans n2, hand ++ [k], _, by rw [FX]; rfl, by simp [hl], rfl⟩
  ·rintro σ ys H' ⟨s1, hand, v0, rfl, hl, rfl⟩ D hD
   exact kk _ D hand (s1.trans (kaj hD)) (s1.free hD) kad hl
noncomputable def kjQ (d : D) : Sp := fun vs H Q _ => ∃ (t b h o : Addr) (T : TillD) (B : Bask) (hand : List Int) (order : List Nat), vs = [.ref t, .ref b, .ref h, .ref o] ∧ TillIs d H t T ∧ kda T ∧ BaskIs d.qe d.qi H b B ∧ Wf T.ps B (stnd0 B) ∧ H h = some (.lst (hand.map V.int)) ∧ H o = some (.lst (order.map iV)) ∧ hand.length = T.vs.length ∧ (∀ n ∈ order, n < T.vs.length) ∧ order.length < 64 ∧
 ∀ (H' : Hp) (g : Bool), Same H H' → Q (.bl g) H'
theorem khX {T : TillD} {B : Bask} {hand : List Int} {order : List Nat} {k : Nat} {z : L2.V} (hf : kcF T B hand order = some (k, z)) : (∃ s, z = .str s) ∨ z = .non := by
 unfold kcF at hf
 simp only at hf
 split at hf
 ·split at hf
  ·cases hf
  ·injection hf with hf
   injection hf with _ hz
   subst hz
   unfold dueM
   split
   ·exact .inl ⟨_, rfl⟩
   ·unfold hindM
    split
    ·exact .inl ⟨_, rfl⟩
    ·split
     ·exact .inl ⟨_, rfl⟩
     ·split
      ·exact .inl ⟨_, rfl⟩
      ·exact .inr rfl
 ·split at hf
  ·cases hf
  ·injection hf with hf
   injection hf with _ hz
   exact .inl ⟨_, hz.symm⟩
theorem Zf : kas ["_law_till_here", "_law_basket_here", "_law_hand_here", "_law_order_here", "_law_found"] ["_law_till_here", "_law_basket_here", "_law_hand_here", "_law_order_here"] (kab kbh) := ⟨rfl, rfl, rfl, by decide +kernel, rfl, by decide +kernel, by decide +kernel⟩
theorem ke1 (W : WB K mg d base) : FnOk P w K mg base CX0 9 d.YB d.YC ["_law_till_here", "_law_basket_here", "_law_hand_here", "_law_order_here"] (kjQ d) := by
 refine FunD.ok W.Qw.F Zf (fun vs H Q E h => ?_) (fun cdv A outer s H vs Q E hr h => ?_)
 ·obtain ⟨t, b, h, o, T, B, hand, order, rfl, _⟩ := h
  rfl
 ·obtain ⟨t, b, h, o, T, B, hand, order, rfl, hT, tok, hB, wf0, hh, ho, hl, hlt, h64, kk⟩ := h
  have qP := kdN (P := P) (w := w) (base := base) W
  refine ⟨_, kae (kav (i := 4) Zf.nd rfl (Or.inl rfl) (kao qP hr rfl W.qq.m W.qq.F.kp W.qq.b .nil pass0 (kaa (pv 0) (kaa (pv 1) (kaa (pv 2) (kaa (pv 3) kah))))))
   (kak (kat (pe_or (kbU kez (pv 4) kbC (kaF _)) (khp (kbU op_eq (pe_ix (r := rIxT K) khH (pv 4) kai (fun _ _ => rfl)) kb7 (kaF _)))))), ?_⟩
  refine ⟨_, rfl, _, rfl, _, rfl, _, rfl, t, b, h, o, T, B, hand, order, rfl, hT, tok, hB, wf0, hh, ho, hl, hlt, h64, fun H1 v s1 hF => ?_⟩
  cases e : kcF T B hand order with
  | none =>
   rw [e] at hF
   have ev : v = .non := hF
   subst ev
   refine ⟨_, rfl, rfl, _, rfl, ?_⟩
   show if decide (V.non = V.non) = true then _ else _
   rw [show decide (V.non = V.non) = true by simp]
   exact iteT (kk H1 _ s1)
  | some p =>
   obtain ⟨k, z⟩ := p
   rw [e] at hF
   obtain ⟨a, rfl, ha⟩ := hF
   refine ⟨_, rfl, rfl, _, rfl, ?_⟩
   show if decide (V.ref a = V.non) = true then _ else _
   rw [show decide (V.ref a = V.non) = false by simp]
   refine iteF ⟨_, rfl, a, _, _, _, rfl, rfl, SqT.of ha, rfl, ?_, kk H1 _ s1⟩
   rcases khX e with ⟨s, rfl⟩ | rfl <;> rfl
theorem khY {T : TillD} {B : Bask} {hand : List Int} : kcF T B hand [] = none := by
 have e : onlyM T.rs [] = none := by
  unfold onlyM
  rw [List.find?_eq_none.mpr fun r _ => by unfold loneM; simp]
  rfl
 have ew : walkM T B hand [] [] (stnd0 B) = ([], stnd0 B) := rfl
 unfold kcF
 rw [ew]
 simp [e]
noncomputable def kis (K : FK) (d : D) : Sp := fun vs H Q _ => ∃ (a t b h : Addr) (ns : List Int) (k : Int) (T : TillD) (B : Bask) (hand : List Int), vs = [.ref a, .int k, .ref t, .ref b, .ref h] ∧ SqL K H a (ns.map V.int) ∧ (0 ≤ k ∧ k ≤ 900) ∧ TillIs d H t T ∧ kda T ∧ 0 < T.vs.length ∧ BaskIs d.qe d.qi H b B ∧ Wf T.ps B (stnd0 B) ∧ H h = some (.lst (hand.map V.int)) ∧ hand.length = T.vs.length ∧
 ∀ (H' : Hp) (o : Addr) (order : List Nat), Same H H' → H o = none → H' o = some (.lst (order.map iV)) → (∀ n ∈ order, n < T.vs.length) → order.length ≤ 8 → kcF T B hand order = none → Q (.ref o) H'
theorem QH : kas ["_law_script", "_law_k", "_law_till_here", "_law_basket_here", "_law_hand_here", "_law_order_here", "_law_j", "_law_number"] ["_law_script", "_law_k", "_law_till_here", "_law_basket_here", "_law_hand_here"] (kab kbf) := ⟨rfl, rfl, rfl, by decide +kernel, rfl, by decide +kernel, by decide +kernel⟩
theorem keZ (W : WB K mg d base) : FnOk P w K mg base CX0 10 d.YD d.YE ["_law_script", "_law_k", "_law_till_here", "_law_basket_here", "_law_hand_here"] (kis K d) := by
 refine FunD.ok W.Qx.F QH (fun vs H Q E h => ?_) (fun cdv A outer s H vs Q E hr h => ?_)
 ·obtain ⟨a, t, b, h, ns, k, T, B, hand, rfl, _⟩ := h
  rfl
 ·obtain ⟨a, t, b, h, ns, k, T, B, hand, rfl, hS, hk, hT, tok, hv0, hB, wf0, hh, hl, kk⟩ := h
  have qj := kbr (P := P) (w := w) (base := base) W
  have ZZ := ke1 (P := P) (w := w) (base := base) W
  have qP := kdN (P := P) (w := w) (base := base) W
  have hr2 : Room 2 _ := hr.mono (by decide)
  have hr8 : Room 8 _ := hr.mono (by decide)
  refine ⟨_, kae (kav (i := 5) QH.nd rfl (Or.inl rfl) (kbw kah))
   (kae (kbQ PassesOwn.never rfl (kbX rfl W.B.range (kaa kai kah)) (kau (i := 6) QH.nd rfl (Or.inl rfl))
   (kae (kav (i := 7) QH.nd rfl (Or.inl rfl) (kao qj hr2 rfl W.qd.m W.qd.F.kp W.qd.b .nil pass0 (kaa (pv 0) (kaa (pe_op kaY (pv 1) (pv 6)) (kaa kai (kaa (kaQ ka6 (by rfl) W.B.len b_len (kaa (kap (pv 2) rfl) kah)) kah))))))
   (kak (ps_if (kbF (kao ZZ hr rfl W.Qw.m W.Qw.F.kp W.Qw.b .nil pass0 (kaa (pv 2) (kaa (pv 3) (kaa (pv 4) (kaa (pe_op kgo (pv 5) (kbw (kaa (pv 7) kah))) kah)))))) (kak (kby (pe_bm Ct CN CO kbG (pv 5) (kaa (pv 7) kah)))) (kaA)))))
   (kae (kgg PassesOwn.never (kay kcy (kao qP hr8 rfl W.qq.m W.qq.F.kp W.qq.b .nil pass0 (kaa (pv 2) (kaa (pv 3) (kaa (pv 4) (kaa (pv 5) kah))))) kbC (kaF _))
   (kak (kby (kkM Ct PySem.F.slot_list_pop PySem.F.type_list_pop kkR (pv 5)))))
   (kak (kat (pv 5))))), ?_⟩
  refine ⟨by decide, fun o fo => ?_⟩
  have s1 := kaj (o := .lst []) fo
  have eo1 : (upd H o (.lst [])) o = some (.lst (([] : List Nat).map iV)) := kad
  generalize upd H o (.lst []) = H1 at *
  refine ⟨_, rfl, by decide, by decide, kcn (fun i σ H' => Same H H' ∧ ∃ (order : List Nat) (v6 v7 : Option V), H' o = some (.lst (order.map iV)) ∧ (∀ n ∈ order, n < T.vs.length) ∧ order.length ≤ i ∧ σ = [some (.ref a), some (.int k), some (.ref t), some (.ref b), some (.ref h), some (.ref o), v6, v7])
   ⟨s1, [], none, none, eo1, (fun n hn => by simp at hn), FM _, rfl⟩ ?_ ?_⟩
  ·rintro i σ H' hi ⟨s2, order, v6, v7, eo, hlt, hle, rfl⟩
   have hi8 : i < 8 := hi
   rw [Int.zero_add]
   obtain ⟨dx, fs, p, vl, rl, va, ra, ht, t1, t2, t3, t4, hp, hvl, hva, hrl, hra⟩ := id (hT.same s2)
   have lva := hva.len
   refine ⟨_, rfl, _, rfl, _, rfl, _, _, rfl, rfl, _, rfl, t, d.qg, dx, fs, _, rfl, ht, W.qg.cl, W.n_Till_vouchers, t2, vl, _, rfl, .inl (SqL.of hvl), a, ns, k + (i : Int), 1, _, rfl, s2.seq hS, ⟨by omega, by omega⟩, ⟨by decide, by decide⟩, (by rw [FJ]; omega), fun z z0 z1 => ?_⟩
   rw [FJ, lva] at z1
   obtain ⟨n, rfl⟩ := Int.eq_ofNat_of_zero_le z0
   have hn : n < T.vs.length := by omega
   refine ⟨_, rfl, _, rfl, _, rfl, _, rfl, _, rfl, (by show 1 ≤ sizeLine; decide), fun q1 hq1 => ?_⟩
   have n3 := kaj (o := .lst [V.int (n : Int)]) hq1
   refine ⟨o, q1, _, _, rfl, rfl, n3 _ _ eo, kad, FY (kar (by rw [FJ]; show _ + 1 ≤ 1000; omega)), fun q2 hq2 => ?_⟩
   have n4 := kaj (o := .lst (order.map iV ++ [V.int (n : Int)])) hq2
   have eq2 : (upd (upd H' q1 (.lst [V.int (n : Int)])) q2 (.lst (order.map iV ++ [V.int (n : Int)]))) q2 = some (.lst ((order ++ [n]).map iV)) := by rw [kad, FX]; rfl
   have s34 := n3.trans n4
   generalize upd (upd H' q1 (.lst [V.int (n : Int)])) q2 (.lst (order.map iV ++ [V.int (n : Int)])) = H4 at *
   have s4 := s2.trans s34
   have eo4 := s34 _ _ eo
   have hlt' : ∀ m ∈ order ++ [n], m < T.vs.length := fun m hm => by
    rcases Cq.mp hm with h | h
    ·exact hlt m h
    ·have : m = n := by simpa using h
     omega
   refine ⟨t, b, h, q2, T, B, hand, order ++ [n], rfl, hT.same s4, tok, hB.same s4, wf0, s4 _ _ hh, eq2, hl, hlt', by rw [Ca]; show _ + 1 < 64; omega, fun H5 g s5 => ⟨g, rfl, ?_⟩⟩
   have s05 := s4.trans s5
   have eo5 := s5 _ _ eo4
   cases g with
   | true =>
    refine iteT ⟨_, rfl, .inl ⟨rfl, _, SqL.of eo5⟩, _, rfl, o, _, _, rfl, rfl, eo5, kar (by rw [FJ]; omega), ?_⟩
    refine ⟨kax fo s05 (nx eo5), order ++ [n], _, _, ?_, hlt', by rw [Ca]; show _ + 1 ≤ _; omega, rfl⟩
    rw [kad, FX]
    rfl
   | false => exact iteF ⟨s05, order, _, _, eo5, hlt, by omega, rfl⟩
  ·rintro σ H' ⟨s2, order, v6, v7, eo, hlt, hle, rfl⟩
   have hle8 : order.length ≤ 8 := hle
   refine kf9 (fun σ H' => Same H H' ∧ ∃ (order : List Nat) (v6 v7 : Option V), H' o = some (.lst (order.map iV)) ∧ (∀ n ∈ order, n < T.vs.length) ∧ order.length ≤ 8 ∧ σ = [some (.ref a), some (.int k), some (.ref t), some (.ref b), some (.ref h), some (.ref o), v6, v7])
    (fun _ H' => match H' o with | some (.lst xs) => xs.length | _ => 0) ⟨s2, order, v6, v7, eo, hlt, hle8, rfl⟩ ?_ ?_
   ·rintro σ H3 ⟨s3, order, v6, v7, eo3, hlt, hle, rfl⟩
    refine ⟨_, rfl, _, rfl, _, rfl, _, rfl, t, b, h, o, T, B, hand, order, rfl, hT.same s3, tok, hB.same s3, wf0, s3 _ _ hh, eo3, hl, hlt, by omega, fun H4 v s4 hF => ⟨rfl, _, rfl, ?_⟩⟩
    have eo4 := s4 _ _ eo3
    cases e : kcF T B hand order with
    | none =>
     rw [e] at hF
     have ev : v = .non := hF
     subst ev
     rw [show (!decide (V.non = V.non)) = false by simp]
     exact iteF ⟨_, rfl, kk H4 o order (s3.trans s4) fo eo4 hlt hle e⟩
    | some pz =>
     obtain ⟨kz, z⟩ := pz
     rw [e] at hF
     obtain ⟨fa, rfl, hfa⟩ := hF
     rw [show (!decide (V.ref fa = V.non)) = true by simp]
     have h0 : order ≠ [] := fun z => by
      rw [z, khY] at e
      cases e
     have hpos : 0 < order.length := List.length_pos_iff.mpr h0
     obtain ⟨y, ey⟩ := at_of (xs := order) (i := order.length - 1) (by omega)
     refine iteT ⟨_, rfl, .inl ⟨rfl, _, SqL.of eo4⟩, o, _, iV y, rfl, rfl, eo4, (by rw [FJ, F0, ey]; rfl), ?_⟩
     rw [← List.map_dropLast]
     refine ⟨⟨kax fo (s3.trans s4) (nx eo4), order.dropLast, _, _, kad, fun n hn => hlt n ((List.dropLast_sublist order).subset hn), by rw [Sa]; omega, rfl⟩, ?_⟩
     show (match (upd H4 o _) o with | some (.lst xs) => xs.length | _ => 0) < (match H3 o with | some (.lst xs) => xs.length | _ => 0)
     rw [kad, eo3]
     show (order.dropLast.map iV).length < (order.map iV).length
     rw [FJ, FJ, Sa]
     omega
   ·rintro σ H' Q' Q'' hq ⟨x0, g0, x1, g1, x2, g2, x3, g3, t', b', h', o', T', B', hd', od', e, a1, a2, a3, a4, a5, a6, a7, a8, a9, kz⟩
    refine ⟨x0, g0, x1, g1, x2, g2, x3, g3, t', b', h', o', T', B', hd', od', e, a1, a2, a3, a4, a5, a6, a7, a8, a9, fun H1 v z1 hF => ?_⟩
    obtain ⟨r, c, e2, q⟩ := kz H1 v z1 hF
    exact ⟨r, c, e2, hq _ _ q⟩
noncomputable def kio (K : FK) : Sp := fun vs H Q _ => ∃ (a : Addr) (ns : List Int) (m : Nat), vs = [.ref a, iV m] ∧ SqL K H a (ns.map V.int) ∧ 0 < m ∧ ∀ (H' : Hp) (l : Addr) (ra : List Addr) (rs : List Rul), Same H H' → H l = none → H' l = some (.lst (ra.map V.ref)) → P2 (fun a r => RulIs H' a r) ra rs → rs.length ≤ 20 → Q (.ref l) H'
theorem QI : kas ["_law_script", "_law_many", "_law_rules_here", "_law_j", "_law_word"] ["_law_script", "_law_many"] (kab kbd) := ⟨rfl, rfl, rfl, by decide +kernel, rfl, by decide +kernel, by decide +kernel⟩
theorem keX (W : WB K mg d base) : FnOk P w K mg base CX0 3 d.Yt d.Yu ["_law_script", "_law_many"] (kio K) := by
 refine FunD.ok W.Qs.F QI (fun vs H Q E h => ?_) (fun cdv A outer s H vs Q E hr h => ?_)
 ·obtain ⟨a, ns, m, rfl, _⟩ := h
  rfl
 ·obtain ⟨a, ns, m, rfl, hS, hm, kk⟩ := h
  have qj := kbr (P := P) (w := w) (base := base) W
  refine ⟨_, kae (kav (i := 2) QI.nd rfl (Or.inl rfl) (kbw kah))
   (kae (kbQ PassesOwn.never rfl (kbX rfl W.B.range (kaa (kao qj hr rfl W.qd.m W.qd.F.kp W.qd.b .nil pass0 (kaa (pv 0) (kaa kai (kaa kai (kaa kai kah))))) kah)) (kau (i := 3) QI.nd rfl (Or.inl rfl))
   (kae (kav (i := 4) QI.nd rfl (Or.inl rfl) (pe_ix (r := rIxL K) kbu (kbw (kaa kb7 (kaa kb7 (kaa kb7 kah)))) (kao qj hr rfl W.qd.m W.qd.F.kp W.qd.b .nil pass0 (kaa (pv 0) (kaa kai (kaa (pe_op kaY kai (pv 3)) (kaa kai kah))))) (fun _ _ => rfl)))
   (kak (kby (pe_bm Ct CN CO kbG (pv 2) (kaa (kcM (kaa (pv 4) (kaa (kao qj hr rfl W.qd.m W.qd.F.kp W.qd.b .nil pass0 (kaa (pv 0) (kaa kai (kaa (pe_op kaY kai (pv 3)) (kaa (pv 1) kah))))) (kaa (kao qj hr rfl W.qd.m W.qd.F.kp W.qd.b .nil pass0 (kaa (pv 0) (kaa kai (kaa (pe_op kaY kai (pv 3)) (kaa (pv 1) kah))))) kah)))) kah))))))
   (kak (kat (pv 2)))), ?_⟩
  refine ⟨by decide, fun l fl => ?_⟩
  have s1 := kaj (o := .lst []) fl
  have el1 : (upd H l (.lst [])) l = some (.lst (([] : List Addr).map V.ref)) := kad
  generalize upd H l (.lst []) = H1 at *
  refine ⟨_, rfl, a, ns, 5, 1, 4, rfl, s1.seq hS, ⟨by decide, by decide⟩, ⟨by decide, by decide⟩, by decide, fun c c0 c1 => ⟨_, rfl, by omega, by omega, ?_⟩⟩
  refine kcn (fun i σ H' => Same H H' ∧ ∃ (ra : List Addr) (rs : List Rul) (v3 v4 : Option V), H' l = some (.lst (ra.map V.ref)) ∧ P2 (fun a r => RulIs H' a r) ra rs ∧ rs.length = i ∧ σ = [some (.ref a), some (iV m), some (.ref l), v3, v4])
   ⟨s1, [], [], none, none, el1, .nil, rfl, rfl⟩ ?_ ?_
  ·rintro i σ H' hi ⟨s2, ra, rs, v3, v4, el, hr, hlen, rfl⟩
   have hi4 : i < 4 := by omega
   rw [Int.zero_add]
   refine ⟨(by show 3 ≤ sizeLine; decide), fun q1 hq1 => ?_⟩
   have n3 := kaj (o := .lst [V.str "only", V.str "never", V.str "ahead"]) hq1
   have e3 : (upd H' q1 (.lst [V.str "only", V.str "never", V.str "ahead"])) q1 = some (.lst [V.str "only", V.str "never", V.str "ahead"]) := kad
   have el3 := n3 _ _ el
   have s3 := s2.trans n3
   have hr3 : P2 (fun a r => RulIs (upd H' q1 (.lst [V.str "only", V.str "never", V.str "ahead"])) a r) ra rs := hr.mono fun a r h => n3 _ _ h
   clear n3
   generalize upd H' q1 (.lst [V.str "only", V.str "never", V.str "ahead"]) = H3 at *
   refine ⟨_, rfl, _, rfl, _, _, rfl, rfl, a, ns, 5, 10 + (i : Int), 3, rfl, s3.seq hS, ⟨by decide, by decide⟩, ⟨by omega, by omega⟩, by decide, fun z z0 z1 => ?_⟩
   obtain ⟨v, ev, hv⟩ : ∃ v, atI [V.str "only", V.str "never", V.str "ahead"] z = some v ∧ ∃ w : Str, v = .str w := by
    obtain ⟨n, rfl⟩ := Int.eq_ofNat_of_zero_le z0
    have hn : n < 3 := by omega
    match n, hn with
    | 0, _ => exact ⟨_, rfl, _, rfl⟩
    | 1, _ => exact ⟨_, rfl, _, rfl⟩
    | 2, _ => exact ⟨_, rfl, _, rfl⟩
   obtain ⟨wd, rfl⟩ := hv
   refine ⟨q1, _, _, _, rfl, rfl, SqL.of e3, ev, ?_⟩
   refine ⟨_, rfl, .inl ⟨rfl, _, SqL.of el3⟩, _, rfl, _, rfl, _, rfl, _, _, rfl, rfl, _, rfl, a, ns, 5, 20 + (i : Int), (m : Int), rfl, s3.seq hS, ⟨by decide, by decide⟩, ⟨by omega, by omega⟩, by omega, fun x x0 x1 => ?_⟩
   refine ⟨_, rfl, _, rfl, _, _, rfl, rfl, _, rfl, a, ns, 5, 30 + (i : Int), (m : Int), rfl, s3.seq hS, ⟨by decide, by decide⟩, ⟨by omega, by omega⟩, by omega, fun y y0 y1 => ⟨(by show 3 ≤ sizeLine; decide), fun q hq => ?_⟩⟩
   obtain ⟨xn, rfl⟩ := Int.eq_ofNat_of_zero_le x0
   obtain ⟨yn, rfl⟩ := Int.eq_ofNat_of_zero_le y0
   have n4 := kaj (o := .tup [V.str wd, V.int (xn : Int), V.int (yn : Int)]) hq
   have e4 : (upd H3 q (.tup [V.str wd, V.int (xn : Int), V.int (yn : Int)])) q = some (.tup [V.str wd, V.int (xn : Int), V.int (yn : Int)]) := kad
   have el4 := n4 _ _ el3
   have s4 := s3.trans n4
   have hr4 : P2 (fun a r => RulIs (upd H3 q (.tup [V.str wd, V.int (xn : Int), V.int (yn : Int)])) a r) ra rs := hr3.mono fun a r h => n4 _ _ h
   clear n4
   generalize upd H3 q (.tup [V.str wd, V.int (xn : Int), V.int (yn : Int)]) = H4 at *
   refine ⟨l, _, _, rfl, rfl, el4, kar (by rw [FJ, hr.len]; omega), ?_⟩
   have b5 : But l H4 (upd H4 l (.lst (ra.map V.ref ++ [V.ref q]))) := kaz (nx el4)
   refine ⟨kax fl s4 (nx el4), ra ++ [q], rs ++ [⟨wd, xn, yn⟩], _, _, by rw [kad, FX]; rfl, P2.snoc (hr4.mono fun a r h => b5 _ _ (ne_of h el4 (by intro z; cases z)) h) (b5 _ _ (ne_of e4 el4 (by intro z; cases z)) e4), by rw [Ca, hlen]; rfl, rfl⟩
  ·rintro σ H' ⟨s2, ra, rs, v3, v4, el, hr, hlen, rfl⟩
   exact ⟨_, rfl, kk H' l ra rs s2 fl el hr (by omega)⟩
noncomputable def kix (K : FK) : Sp := fun vs H Q _ => ∃ (a : Addr) (ns : List Int) (k t w : Int), vs = [.ref a, .int k, .int t, .int w] ∧ SqL K H a (ns.map V.int) ∧ (0 ≤ k ∧ k ≤ 1000) ∧ (0 ≤ t ∧ t ≤ 900) ∧ 0 ≤ w ∧ ∀ (H' : Hp) (z : Int), Same H H' → 0 ≤ z → z ≤ 1000000000000 → Q (.int z) H'
theorem Xj : kas ["_law_script", "_law_k", "_law_salt", "_law_worth_here", "_law_how", "_law_some_here"] ["_law_script", "_law_k", "_law_salt", "_law_worth_here"] (kab ka9) := ⟨rfl, rfl, rfl, by decide +kernel, rfl, by decide +kernel, by decide +kernel⟩
theorem kcO (W : WB K mg d base) : FnOk P w K mg base CX0 3 d.Yn d.Yo ["_law_script", "_law_k", "_law_salt", "_law_worth_here"] (kix K) := by
 refine FunD.ok W.qr.F Xj (fun vs H Q E h => ?_) (fun cdv A outer s H vs Q E hr h => ?_)
 ·obtain ⟨a, ns, k, t, w, rfl, _⟩ := h
  rfl
 ·obtain ⟨a, ns, k, t, wo, rfl, hS, hk, ht, hw, kk⟩ := h
  have qj := kbr (P := P) (w := w) (base := base) W
  refine ⟨_, kae (kav (i := 4) Xj.nd rfl (Or.inl rfl) (kao qj hr rfl W.qd.m W.qd.F.kp W.qd.b .nil pass0 (kaa (pv 0) (kaa (pv 1) (kaa (pv 2) (kaa kai kah))))))
   (kae (kav (i := 5) Xj.nd rfl (Or.inl rfl) (kbw (kaa (kao qj hr rfl W.qd.m W.qd.F.kp W.qd.b .nil pass0 (kaa (pv 0) (kaa (pv 1) (kaa (pe_op kaY (pv 2) kai) (kaa kai kah))))) (kaa (pv 3) (kaa (pe_op kaY (pv 3) kai) (kaa (pe_op kd5 (pv 3) kai) (kaa (pe_op kd5 (pv 3) kai) kah)))))))
   (kae (kby (pe_bm Ct CN CO kbG (pv 5) (kaa (kao qj hr rfl W.qd.m W.qd.F.kp W.qd.b .nil pass0 (kaa (pv 0) (kaa (pv 1) (kaa (pe_op kaY (pv 2) kai) (kaa kai kah))))) kah)))
   (kak (kat (kaQ (kek rfl) (by rfl) W.B.min b_min (kaa kai (kaa (pe_ix (r := rIxL K) kbu (pv 5) (pv 4) (fun _ _ => rfl)) kah))))))), ?_⟩
  refine ⟨_, rfl, _, rfl, _, rfl, a, ns, k, t, 6, rfl, hS, hk, ⟨by omega, by omega⟩, by decide, fun c c0 c1 => ?_⟩
  refine ⟨_, rfl, _, rfl, _, rfl, _, _, rfl, rfl, a, ns, k, t + 1, 10, rfl, hS, hk, ⟨by omega, by omega⟩, by decide, fun x x0 x1 => ⟨_, rfl, _, rfl, _, _, rfl, rfl, _, rfl, _, _, rfl, rfl, ⟨by decide, by decide⟩, _, rfl, _, _, rfl, rfl, ⟨by decide, by decide⟩, (by show 5 ≤ sizeLine; decide), fun l fl => ?_⟩⟩
  have s1 := kaj (o := .lst [V.int x, V.int wo, V.int (wo + 1), V.int (wo / 2), V.int (wo / 5)]) fl
  have e1 : (upd H l (.lst [V.int x, V.int wo, V.int (wo + 1), V.int (wo / 2), V.int (wo / 5)])) l = some (.lst ([x, wo, wo + 1, wo / 2, wo / 5].map V.int)) := kad
  generalize upd H l (.lst [V.int x, V.int wo, V.int (wo + 1), V.int (wo / 2), V.int (wo / 5)]) = H1 at *
  refine ⟨_, rfl, .inl ⟨rfl, _, SqL.of e1⟩, _, rfl, _, rfl, _, rfl, _, _, rfl, rfl, a, ns, k, t + 1, 1000000, rfl, s1.seq hS, hk, ⟨by omega, by omega⟩, by decide, fun y y0 y1 => ⟨l, _, _, rfl, rfl, e1, kar (by show 5 ≤ 1000; decide), ?_⟩⟩
  have s2 : Same H (upd H1 l (.lst ([x, wo, wo + 1, wo / 2, wo / 5].map V.int ++ [V.int y]))) := kax fl s1 (nx e1)
  have e2 : (upd H1 l (.lst ([x, wo, wo + 1, wo / 2, wo / 5].map V.int ++ [V.int y]))) l = some (.lst ([x, wo, wo + 1, wo / 2, wo / 5, y].map V.int)) := kad
  generalize upd H1 l (.lst ([x, wo, wo + 1, wo / 2, wo / 5].map V.int ++ [V.int y])) = H2 at *
  obtain ⟨z, ez, hz⟩ := pickI (zs := [x, wo, wo + 1, wo / 2, wo / 5, y]) (m := c) c0 (by show _ < (6 : Int); exact c1)
  have hz0 : 0 ≤ z := by
   simp only [F5, CA, or_false] at hz
   omega
  refine ⟨_, rfl, _, rfl, l, _, _, _, rfl, rfl, SqL.of e2, ez, _, _, rfl, kk H2 _ s2 ?_ ?_⟩
  ·split <;> omega
  ·split <;> omega
noncomputable def MkV (d : D) (H : Hp) (v : V) (M : Mks) : Prop := (v = .non ∧ M = mks0) ∨ ∃ mA, v = .ref mA ∧ MksIs d.qh H mA M
theorem MkV.same {d : D} {H H' : Hp} {v : V} {M : Mks} (s : Same H H') : MkV d H v M → MkV d H' v M
 | .inl h => .inl h
 | .inr ⟨mA, e, h⟩ => .inr ⟨mA, e, h.same s⟩
noncomputable def kit (K : FK) (d : D) : Sp := fun vs H Q _ => ∃ (a : Addr) (ns : List Int) (k w : Int) (ps : List (Option Nat)), vs = [.ref a, .int k, iV ps.length, .int w] ∧ SqL K H a (ns.map V.int) ∧ (0 ≤ k ∧ k ≤ 1000) ∧ 0 < ps.length ∧ 0 ≤ w ∧ ∀ (H' : Hp) (v : V) (M : Mks), Same H H' → MkV d H' v M → MksOk ps M → Q v H'
theorem qD : kas ["_law_script", "_law_k", "_law_kinds", "_law_worth_here", "_law_kind", "_law_least", "_law_bound", "_law_bits"] ["_law_script", "_law_k", "_law_kinds", "_law_worth_here"] (kab kbg) := ⟨rfl, rfl, rfl, by decide +kernel, rfl, by decide +kernel, by decide +kernel⟩
theorem ke0 (W : WB K mg d base) : FnOk P w K mg base CX0 4 d.Yp d.Yq ["_law_script", "_law_k", "_law_kinds", "_law_worth_here"] (kit K d) := by
 refine FunD.ok W.Qq.F qD (fun vs H Q E h => ?_) (fun cdv A outer s H vs Q E hr h => ?_)
 ·obtain ⟨a, ns, k, w, ps, rfl, _⟩ := h
  rfl
 ·obtain ⟨a, ns, k, wo, ps, rfl, hS, hk, hp0, hw, kk⟩ := h
  have qj := kbr (P := P) (w := w) (base := base) W
  have qW := kcO (P := P) (w := w) (base := base) W
  have Q5 := kc3 (P := P) (w := w) (base := base) W
  have hr2 : Room 2 _ := hr.mono (by decide)
  refine ⟨_, kae (ps_if (kay op_eq (kao qj hr2 rfl W.qd.m W.qd.F.kp W.qd.b .nil pass0 (kaa (pv 0) (kaa (pv 1) (kaa kai (kaa kai kah))))) kai (kaF _)) (kak (kat kbC)) (kaA))
   (kae (kav (i := 4) qD.nd rfl (Or.inl rfl) kbC)
   (kae (kcY (ps_if (kay op_eq (kao qj hr2 rfl W.qd.m W.qd.F.kp W.qd.b .nil pass0 (kaa (pv 0) (kaa (pv 1) (kaa kai (kaa kai kah))))) kai (kaF _)) (kak (kav (i := 4) qD.nd rfl (Or.inl rfl) (kao qj hr2 rfl W.qd.m W.qd.F.kp W.qd.b .nil pass0 (kaa (pv 0) (kaa (pv 1) (kaa kai (kaa (pv 2) kah))))))) (kaA)))
   (kae (kav (i := 5) qD.nd rfl (Or.inl rfl) kai)
   (kae (kcY (ps_if (kay op_eq (kao qj hr2 rfl W.qd.m W.qd.F.kp W.qd.b .nil pass0 (kaa (pv 0) (kaa (pv 1) (kaa kai (kaa kai kah))))) kai (kaF _)) (kak (kav (i := 5) qD.nd rfl (Or.inl rfl) (kao qW hr rfl W.qr.m W.qr.F.kp W.qr.b .nil pass0 (kaa (pv 0) (kaa (pv 1) (kaa kai (kaa (pv 3) kah))))))) (kaA)))
   (kae (kav (i := 6) qD.nd rfl (Or.inl rfl) kbC)
   (kae (kcY (ps_if (kay op_eq (kao qj hr2 rfl W.qd.m W.qd.F.kp W.qd.b .nil pass0 (kaa (pv 0) (kaa (pv 1) (kaa kai (kaa kai kah))))) kai (kaF _)) (kak (kav (i := 6) qD.nd rfl (Or.inl rfl) (kao qW hr rfl W.qr.m W.qr.F.kp W.qr.b .nil pass0 (kaa (pv 0) (kaa (pv 1) (kaa kai (kaa (pv 3) kah))))))) (kaA)))
   (kae (kav (i := 7) qD.nd rfl (Or.inl rfl) (kao qj hr2 rfl W.qd.m W.qd.F.kp W.qd.b .nil pass0 (kaa (pv 0) (kaa (pv 1) (kaa kai (kaa kai kah))))))
   (kak (kat (kbM (W.Qz.mk' W.qh) Q5 hr2 rfl W.qh.m W.Qz.b .nil pass0 (kaa (pv 4) (kaa (pv 5) (kaa (pv 6) (kaa (kbU op_eq (pe_op kd4 (pv 7) kai) kai (kaF _)) (kaa (kbU op_eq (pe_op kd4 (pv 7) kai) kai (kaF _)) (kaa (kbU op_eq (pe_op kd4 (pv 7) kai) kai (kaF _)) kah)))))))))))))))), ?_⟩
  refine ⟨_, rfl, _, rfl, a, ns, k, 1, 3, rfl, hS, hk, ⟨by decide, by decide⟩, by decide, fun c c0 c1 => ⟨rfl, _, rfl, ite2 (fun _ => ?_) (fun _ => ?_)⟩⟩
  ·exact kk H _ mks0 (Same.refl _) (.inl ⟨rfl, rfl⟩) ⟨(fun k e => by cases e), ⟨by decide, by decide⟩, (fun m e => by cases e)⟩
  refine ⟨fun σ H' => H' = H ∧ ∃ kd : Option Nat, (∀ k, kd = some k → k < ps.length) ∧ σ = [some (.ref a), some (.int k), some (iV ps.length), some (.int wo), some (pV kd), none, none, none], ?_, ?_⟩
  ·refine ⟨_, rfl, _, rfl, a, ns, k, 2, 3, rfl, hS, hk, ⟨by decide, by decide⟩, by decide, fun c c0 c1 => ⟨rfl, _, rfl, ite2 (fun _ => ?_) (fun _ => ⟨rfl, none, (fun k e => by cases e), rfl⟩)⟩⟩
   refine ⟨_, rfl, _, rfl, _, rfl, a, ns, k, 3, _, rfl, hS, hk, ⟨by decide, by decide⟩, (by show (0 : Int) < (ps.length : Int); omega), fun z z0 z1 => ?_⟩
   obtain ⟨n, rfl⟩ := Int.eq_ofNat_of_zero_le z0
   exact ⟨rfl, some n, (fun k e => by cases e; have : (n : Int) < (ps.length : Int) := z1; omega), rfl⟩
  rintro σ H' ⟨rfl, kd, hkd, rfl⟩
  refine ⟨fun σ H1 => Same H' H1 ∧ ∃ nd : Int, (0 ≤ nd ∧ nd ≤ 1000000000000) ∧ σ = [some (.ref a), some (.int k), some (iV ps.length), some (.int wo), some (pV kd), some (.int nd), none, none], ?_, ?_⟩
  ·refine ⟨_, rfl, _, rfl, a, ns, k, 4, 4, rfl, hS, hk, ⟨by decide, by decide⟩, by decide, fun c c0 c1 => ⟨rfl, _, rfl, ite2 (fun _ => ?_) (fun _ => ⟨Same.refl _, 0, ⟨by decide, by decide⟩, rfl⟩)⟩⟩
   exact ⟨_, rfl, _, rfl, _, rfl, a, ns, k, 5, wo, rfl, hS, hk, ⟨by decide, by decide⟩, hw, fun H1 z s1 z0 z1 => ⟨s1, z, ⟨z0, z1⟩, rfl⟩⟩
  rintro σ H1 ⟨s1, nd, hnd, rfl⟩
  refine ⟨fun σ H2 => Same H1 H2 ∧ ∃ mo : Option Int, (∀ m, mo = some m → 0 ≤ m ∧ m ≤ 1000000000000) ∧ σ = [some (.ref a), some (.int k), some (iV ps.length), some (.int wo), some (pV kd), some (.int nd), some (oV mo), none], ?_, ?_⟩
  ·refine ⟨_, rfl, _, rfl, a, ns, k, 8, 3, rfl, s1.seq hS, hk, ⟨by decide, by decide⟩, by decide, fun c c0 c1 => ⟨rfl, _, rfl, ite2 (fun _ => ?_) (fun _ => ⟨Same.refl _, none, (fun m e => by cases e), rfl⟩)⟩⟩
   exact ⟨_, rfl, _, rfl, _, rfl, a, ns, k, 9, wo, rfl, s1.seq hS, hk, ⟨by decide, by decide⟩, hw, fun H2 z s2 z0 z1 => ⟨s2, some z, (fun m e => by cases e; exact ⟨z0, z1⟩), rfl⟩⟩
  rintro σ H2 ⟨s2, mo, hmo, rfl⟩
  have s12 := s1.trans s2
  refine ⟨_, rfl, _, rfl, a, ns, k, 12, 60, rfl, s12.seq hS, hk, ⟨by decide, by decide⟩, by decide, fun bt b0 b1 => ?_⟩
  refine ⟨_, rfl, _, rfl, _, rfl, _, rfl, _, _, rfl, rfl, (by show (0 : Int) < 5; decide), rfl, _, rfl, _, _, rfl, rfl, (by show (0 : Int) < 4; decide), rfl, _, rfl, _, _, rfl, rfl, (by show (0 : Int) < 3; decide), rfl, ?_⟩
  generalize decide (V.int (bt % 5) = V.int 0) = m1
  generalize decide (V.int (bt % 4) = V.int 0) = m2
  generalize decide (V.int (bt % 3) = V.int 0) = m3
  exact kgs (M := ⟨kd, nd, mo, m1, m2, m3⟩) fun H3 mA s3 f3 hM => kk H3 _ _ (s12.trans s3) (.inr ⟨mA, rfl, hM⟩) ⟨hkd, hnd, hmo⟩
theorem keb {d : D} {H : Hp} {so : Srt} {is : Srt → Prop} {mv : V} {M : Mks} {R : Addr → Hp → Prop} {E : XK} (hi : is so) (hh : here so = true) (hM : MkV d H mv M) (k : ∀ (H' : Hp) (x : Addr), Same H H' → H x = none → VchIs d H' x ⟨so, M⟩ → R x H') (htb : Tbs d H := by assumption) :
  ∀ x dx, H x = none → H dx = none → dx ≠ x → kdv (clsOf d so) d.qh is (.ref x :: (keM so ++ [mv])) (upd (upd H dx (.own x)) x (.ins (clsOf d so) dx [])) (fun v H2 => v = .non ∧ R x H2) E := by
 rcases hM with ⟨rfl, rfl⟩ | ⟨mA, rfl, h⟩
 ·exact kkb hi hh k htb
 ·exact kkS hi hh h k htb
noncomputable def kky (K : FK) (d : D) : Sp := fun vs H Q _ => ∃ (a : Addr) (ns : List Int) (k w : Int) (ps : List (Option Nat)), vs = [.ref a, .int k, iV ps.length, .int w] ∧ SqL K H a (ns.map V.int) ∧ (0 ≤ k ∧ k ≤ 1000) ∧ 0 < ps.length ∧ 0 ≤ w ∧ Tbs d H ∧ ∀ (H' : Hp) (v : Addr) (V : Vch), Same H H' → H v = none → VchIs d H' v V → VchOk ps V → Q (.ref v) H'
theorem QJ : kas ["_law_script", "_law_k", "_law_kinds", "_law_worth_here", "_law_marks_here", "_law_how", "_law_share"] ["_law_script", "_law_k", "_law_kinds", "_law_worth_here"] (kab ka1) := ⟨rfl, rfl, rfl, by decide +kernel, rfl, by decide +kernel, by decide +kernel⟩
theorem kd8 (W : WB K mg d base) : FnOk P w K mg base CX0 6 d.Yr d.Ys ["_law_script", "_law_k", "_law_kinds", "_law_worth_here"] (kky K d) := by
 refine FunD.ok W.Qr.F QJ (fun vs H Q E h => ?_) (fun cdv A outer s H vs Q E hr h => ?_)
 ·obtain ⟨a, ns, k, w, ps, rfl, _⟩ := h
  rfl
 ·obtain ⟨a, ns, k, wo, ps, rfl, hS, hk, hp0, hw, htb0, kk⟩ := h
  have Z9 := ke0 (P := P) (w := w) (base := base) W
  have qj := kbr (P := P) (w := w) (base := base) W
  have Va := kfW (P := P) (w := w) (base := base) W
  have qW := kcO (P := P) (w := w) (base := base) W
  have Vb := ke2 (P := P) (w := w) (base := base) W
  have Vd := kdJ (P := P) (w := w) (base := base) W
  have Ve := keu (P := P) (w := w) (base := base) W
  have Vf := kdK (P := P) (w := w) (base := base) W
  have hr2 : Room 2 _ := hr.mono (by decide)
  have hr3 : Room 3 _ := hr.mono (by decide)
  have hr4 : Room 4 _ := hr.mono (by decide)
  refine ⟨_, kae (kav (i := 4) QJ.nd rfl (Or.inl rfl) (kao Z9 hr4 rfl W.Qq.m W.Qq.F.kp W.Qq.b .nil pass0 (kaa (pv 0) (kaa (pv 1) (kaa (pv 2) (kaa (pv 3) kah))))))
   (kae (kav (i := 5) QJ.nd rfl (Or.inl rfl) (kao qj hr2 rfl W.qd.m W.qd.F.kp W.qd.b .nil pass0 (kaa (pv 0) (kaa (pv 1) (kaa kai (kaa kai kah))))))
   (kae (ps_if (kay op_eq (pv 5) kai (kaF _)) (kak (kat (kbM (W.QT.mk' W.c_Off) Va hr rfl W.c_Off.m W.QT.b .nil pass0 (kaa (kao qW hr3 rfl W.qr.m W.qr.F.kp W.qr.b .nil pass0 (kaa (pv 0) (kaa (pv 1) (kaa kai (kaa (pv 3) kah))))) (kaa (pv 4) kah))))) (kaA))
   (kae (ps_if (kay op_eq (pv 5) kai (kaF _)) (kae (kav (i := 6) QJ.nd rfl (Or.inl rfl) (pe_ix (r := rIxL K) kbu (kbw (kaa kai (kaa kai (kaa (pe_op kaY kai (kao qj hr2 rfl W.qd.m W.qd.F.kp W.qd.b .nil pass0 (kaa (pv 0) (kaa (pv 1) (kaa kai (kaa kai kah)))))) kah)))) (kao qj hr2 rfl W.qd.m W.qd.F.kp W.qd.b .nil pass0 (kaa (pv 0) (kaa (pv 1) (kaa kai (kaa kai kah))))) (fun _ _ => rfl)))
   (kak (kat (kbM (W.QU.mk' W.qk) Vb hr rfl W.qk.m W.QU.b .nil pass0 (kaa (pv 6) (kaa (kbU op_eq (kao qj hr2 rfl W.qd.m W.qd.F.kp W.qd.b .nil pass0 (kaa (pv 0) (kaa (pv 1) (kaa kai (kaa kai kah))))) kai (kaF _)) (kaa (pv 4) kah))))))) (kaA))
   (kae (ps_if (kay op_eq (pv 5) kai (kaF _)) (kak (kat (kbM (W.QV.mk' W.qm) Vd hr rfl W.qm.m W.QV.b .nil pass0 (kaa (pe_op kaY kai (kao qj hr2 rfl W.qd.m W.qd.F.kp W.qd.b .nil pass0 (kaa (pv 0) (kaa (pv 1) (kaa kai (kaa (pe_ix (r := rIxL K) kbu (kbw (kaa kai (kaa kai kah))) (kao qj hr2 rfl W.qd.m W.qd.F.kp W.qd.b .nil pass0 (kaa (pv 0) (kaa (pv 1) (kaa kai (kaa kai kah))))) (fun _ _ => rfl)) kah)))))) (kaa (pv 4) kah))))) (kaA))
   (kae (ps_if (kay op_eq (pv 5) kai (kaF _)) (kak (kat (kbM (W.QW.mk' W.ql) Ve hr rfl W.ql.m W.QW.b .nil pass0 (kaa (pe_op kaY kai (kao qj hr2 rfl W.qd.m W.qd.F.kp W.qd.b .nil pass0 (kaa (pv 0) (kaa (pv 1) (kaa kai (kaa kai kah)))))) (kaa (kao qW hr3 rfl W.qr.m W.qr.F.kp W.qr.b .nil pass0 (kaa (pv 0) (kaa (pv 1) (kaa kai (kaa (pe_op kd5 (pv 3) kai) kah))))) (kaa (pv 4) kah)))))) (kaA))
   (kak (kat (kbM (W.QX.mk' W.qo) Vf hr rfl W.qo.m W.QX.b .nil pass0 (kaa (pv 4) kah))))))))), ?_⟩
  refine ⟨_, rfl, _, rfl, _, rfl, _, rfl, a, ns, k, wo, ps, rfl, hS, hk, hp0, hw, fun H1 mv M s1 hM mok => ?_⟩
  refine ⟨_, rfl, _, rfl, a, ns, k, 20, 5, rfl, s1.seq hS, hk, ⟨by decide, by decide⟩, by decide, fun c c0 c1 => ?_⟩
  have fin : ∀ {so : Srt} {H2 : Hp}, Same H H2 → SrtOk so → ∀ (H3 : Hp) (x : Addr), Same H2 H3 → H2 x = none → VchIs d H3 x ⟨so, M⟩ → Q (.ref x) H3 := fun {so H2} z ho H3 x s3 f3 hV => kk H3 x _ (z.trans s3) (z.free f3) hV ⟨ho, mok⟩
  refine ⟨_, rfl, rfl, _, rfl, ite2 (fun _ => ?_) (fun _ => ?_)⟩
  ·refine ⟨_, rfl, _, rfl, _, rfl, a, ns, k, 21, wo, rfl, s1.seq hS, hk, ⟨by decide, by decide⟩, hw, fun H2 z s2 z0 z1 => ⟨_, rfl, keb (so := .off z) ⟨_, rfl⟩ rfl (hM.same s2) (fin (s1.trans s2) ⟨z0, z1⟩) (Tbs.same (s1.trans s2) htb0)⟩⟩
  refine ⟨_, rfl, rfl, _, rfl, ite2 (fun _ => ?_) (fun _ => ?_)⟩
  ·refine ⟨_, rfl, _, rfl, a, ns, k, 23, 1000, rfl, s1.seq hS, hk, ⟨by decide, by decide⟩, by decide, fun x x0 x1 => ⟨_, _, rfl, rfl, (by show 3 ≤ sizeLine; decide), fun l hl => ?_⟩⟩
   have n2 := kaj (o := .lst [V.int 1, V.int 1000, V.int (1 + x)]) hl
   refine ⟨_, rfl, _, rfl, a, ns, k, 24, 3, rfl, (s1.trans n2).seq hS, hk, ⟨by decide, by decide⟩, by decide, fun y y0 y1 => ?_⟩
   obtain ⟨z, ez, hz⟩ := pickI (zs := [1, 1000, 1 + x]) (m := y) y0 (by show _ < (3 : Int); exact y1)
   have hz : 1 ≤ z ∧ z ≤ 1000 := by
    simp only [F5, CA, or_false] at hz
    omega
   refine ⟨l, _, _, _, rfl, rfl, SqL.of kad, ez, ?_⟩
   refine ⟨_, rfl, _, rfl, _, rfl, a, ns, k, 25, 2, rfl, (s1.trans n2).seq hS, hk, ⟨by decide, by decide⟩, by decide, fun b b0 b1 => ⟨rfl, _, rfl, keb (so := .share z _) ⟨_, _, rfl⟩ rfl (hM.same n2) (fin (s1.trans n2) hz) (Tbs.same (s1.trans n2) htb0)⟩⟩
  refine ⟨_, rfl, rfl, _, rfl, ite2 (fun _ => ?_) (fun _ => ?_)⟩
  ·refine ⟨_, rfl, _, rfl, (by show 2 ≤ sizeLine; decide), fun l hl => ?_⟩
   have n2 := kaj (o := .lst [V.int 3, V.int 19]) hl
   refine ⟨_, rfl, _, rfl, a, ns, k, 27, 2, rfl, (s1.trans n2).seq hS, hk, ⟨by decide, by decide⟩, by decide, fun y y0 y1 => ?_⟩
   obtain ⟨z, ez, hz⟩ := pickI (zs := [3, 19]) (m := y) y0 (by show _ < (2 : Int); exact y1)
   have hz : 0 < z ∧ z ≤ 19 := by
    simp only [F5, CA, or_false] at hz
    omega
   refine ⟨l, _, _, _, rfl, rfl, SqL.of kad, ez, a, ns, k, 26, z, rfl, (s1.trans n2).seq hS, hk, ⟨by decide, by decide⟩, hz.1, fun x x0 x1 => ⟨_, _, rfl, rfl, _, rfl, keb (so := .cheap (2 + x)) ⟨_, rfl⟩ rfl (hM.same n2) (fin (s1.trans n2) ⟨by omega, by omega⟩) (Tbs.same (s1.trans n2) htb0)⟩⟩
  refine ⟨_, rfl, rfl, _, rfl, ite2 (fun _ => ?_) (fun _ => ?_)⟩
  ·refine ⟨_, rfl, _, rfl, a, ns, k, 28, 4, rfl, s1.seq hS, hk, ⟨by decide, by decide⟩, by decide, fun x x0 x1 => ⟨_, _, rfl, rfl, _, rfl, _, rfl, _, rfl, _, _, rfl, rfl, ⟨by decide, by decide⟩, a, ns, k, 30, wo / 3, rfl, s1.seq hS, hk, ⟨by decide, by decide⟩, by omega, fun H2 z s2 z0 z1 => ⟨_, rfl, keb (so := .bund (2 + x) z) ⟨_, _, rfl⟩ rfl (hM.same s2) (fin (s1.trans s2) ⟨by omega, by omega, z0, z1⟩) (Tbs.same (s1.trans s2) htb0)⟩⟩⟩
  exact ⟨_, rfl, keb (so := .carr) (is := fun so => so = .carr) rfl rfl hM (fin s1 trivial) (Tbs.same s1 htb0)⟩
noncomputable def kjK (K : FK) (d : D) : Sp := fun vs H Q _ => ∃ (a p b : Addr) (ns : List Int) (ps : List (Option Nat)) (B : Bask) (bk : Str), vs = [.ref a, .ref p, .ref b, .str bk] ∧ SqL K H a (ns.map V.int) ∧ H p = some (.lst (ps.map pV)) ∧ 0 < ps.length ∧ BaskIs d.qe d.qi H b B ∧ B.rs.length ≤ 12 ∧ (∀ r ∈ B.rs, r.Ok) ∧ Tbs d H ∧ ∀ (H' : Hp) (t : Addr) (vs : List Vch) (rs : List Rul), Same H H' → H t = none → TillIs d H' t ⟨ps, vs, rs, bk⟩ → kda ⟨ps, vs, rs, bk⟩ → 0 < vs.length → Q (.ref t) H'
theorem Xk : kas ["_law_script", "_law_parents_here", "_law_basket_here", "_law_back", "_law_many", "_law_vouchers"] ["_law_script", "_law_parents_here", "_law_basket_here", "_law_back"] (kab kbk) := ⟨rfl, rfl, rfl, by decide +kernel, rfl, by decide +kernel, by decide +kernel⟩
theorem kfr (W : WB K mg d base) : FnOk P w K mg base CX0 7 d.Yx d.Yy ["_law_script", "_law_parents_here", "_law_basket_here", "_law_back"] (kjK K d) := by
 refine FunD.ok W.Qu.F Xk (fun vs H Q E h => ?_) (fun cdv A outer s H vs Q E hr h => ?_)
 ·obtain ⟨a, p, b, ns, ps, B, bk, rfl, _⟩ := h
  rfl
 ·obtain ⟨a, p, b, ns, ps, B, bk, rfl, hS, hp, hp0, hB, h12, hok, htb0, kk⟩ := h
  have qj := kbr (P := P) (w := w) (base := base) W
  have Vg := kd8 (P := P) (w := w) (base := base) W
  have Vh := keW (P := P) (w := w) (base := base) W
  have Vi := kft (P := P) (w := w) (base := base) W
  have Vj := keX (P := P) (w := w) (base := base) W
  have hr1 : Room 1 _ := hr.mono (by decide)
  have hr2 : Room 2 _ := hr.mono (by decide)
  have hr3 : Room 3 _ := hr.mono (by decide)
  refine ⟨_, kae (kav (i := 4) Xk.nd rfl (Or.inl rfl) (pe_op kaY kai (kao qj hr2 rfl W.qd.m W.qd.F.kp W.qd.b .nil pass0 (kaa (pv 0) (kaa kai (kaa kai (kaa kai kah)))))))
   (kae (keS (N := ["_law_j", "_law_script", "_law_parents_here", "_law_basket_here"]) (CompScope.of (N := ["_law_j", "_law_script", "_law_parents_here", "_law_basket_here"]) (cap := [none, some 0, some 1, some 2]) (kab kbk).names ["_law_script", "_law_parents_here", "_law_basket_here", "_law_back", "_law_many", "_law_vouchers"] rfl rfl (by decide +kernel)) rfl (kbX rfl W.B.range (kaa (pv 4) kah)) (fun _ _ _ _ => kau (i := 0) (show (["_law_j", "_law_script", "_law_parents_here", "_law_basket_here"] : List Str).Nodup by decide +kernel) rfl (Or.inl rfl)) (fun _ _ _ _ => (kao Vg hr rfl W.Qr.m W.Qr.F.kp W.Qr.b .nil pass0 (kaa (pv 1) (kaa (pe_op kaY kai (pv 0)) (kaa (kaQ (r := kj1 K) ka6 (by rfl) W.B.len b_len (kaa (pv 2) kah)) (kaa (kao Vh hr1 rfl W.Qt.m W.Qt.F.kp W.Qt.b .nil pass0 (kaa (pv 3) kah)) kah)))))) (kau (i := 5) Xk.nd rfl (Or.inl rfl)))
   (kak (kat (kbM (W.Q3.mk' W.qg) Vi hr2 rfl W.qg.m W.Q3.b .nil pass0 (kaa (pv 1) (kaa (pv 5) (kaa (kao Vj hr3 rfl W.Qs.m W.Qs.F.kp W.Qs.b .nil pass0 (kaa (pv 0) (kaa (pv 4) kah))) (kaa (pv 3) kah)))))))), ?_⟩
  refine ⟨_, rfl, a, ns, 0, 2, 4, rfl, hS, ⟨by decide, by decide⟩, ⟨by decide, by decide⟩, by decide, fun z z0 z1 => ⟨_, _, rfl, rfl, ?_⟩⟩
  obtain ⟨zn, rfl⟩ := Int.eq_ofNat_of_zero_le z0
  dsimp only
  rw [show (1 : Int) + (zn : Int) = ((1 + zn : Nat) : Int) by omega]
  have hm : 1 + zn ≤ 4 := by omega
  have hm0 : 0 < 1 + zn := by omega
  generalize 1 + zn = m at *
  refine ⟨_, rfl, _, rfl, by omega, by omega, ?_⟩
  rw [Int.toNat_natCast]
  refine keF (fun i σ ys H' => Same H H' ∧ ∃ (va : List Addr) (Vs : List Vch) (v0 : Option V), ys = va.map V.ref ∧ P2 (fun a V => VchIs d H' a V) va Vs ∧ (∀ V ∈ Vs, VchOk ps V) ∧ Vs.length = i ∧ σ = [v0, some (.ref a), some (.ref p), some (.ref b)])
   ⟨Same.refl _, [], [], none, rfl, .nil, (fun V hV => by simp at hV), rfl, rfl⟩ (FY (kar (by omega))) (fun i σ ys H' hi h => by obtain ⟨_, va, Vs, v0, rfl, hP, _, hl, _⟩ := h; rw [FJ, hP.len]; exact hl) ?_ ?_
  ·rintro i σ ys H' hi ⟨s1, va, Vs, v0, rfl, hP, hvo, hl, rfl⟩
   rw [Int.zero_add]
   refine ⟨_, rfl, _, rfl, _, _, rfl, rfl, _, rfl, p, _, rfl, .inl (SqL.of (s1 _ _ hp)), _, rfl, b, B, rfl, hB.same s1, h12, hok, fun H3 s3 hw => ?_⟩
   have s13 := s1.trans s3
   refine ⟨a, ns, 1 + (i : Int), _, ps, (by rw [FJ]; rfl), s13.seq hS, ⟨by omega, by omega⟩, hp0, hw, Tbs.same s13 htb0, fun H4 v Vc s4 f4 hV vo => ?_⟩
   refine ⟨s13.trans s4, va ++ [v], Vs ++ [Vc], _, by rw [FX]; rfl, P2.snoc (hP.mono fun a V h => (h.same s3).same s4) hV, fun V hV' => ?_, by simp [hl], rfl⟩
   rcases Cq.mp hV' with h | h
   ·exact hvo V h
   ·have e : V = Vc := by simpa using h
    rw [e]
    exact vo
  ·rintro σ ys H' ⟨s1, va, Vs, v0, rfl, hP, hvo, hl, rfl⟩ D hD
   have n2 := kaj (o := .lst (va.map V.ref)) hD
   have s2 := s1.trans n2
   have eD : (upd H' D (.lst (va.map V.ref))) D = some (.lst (va.map V.ref)) := kad
   have hP2 : P2 (fun a c => VchIs d (upd H' D (.lst (va.map V.ref))) a c) va Vs := hP.mono fun a c h => h.same n2
   clear n2
   generalize upd H' D (.lst (va.map V.ref)) = H2 at *
   refine ⟨_, rfl, _, rfl, _, rfl, _, rfl, a, ns, m, rfl, s2.seq hS, hm0, fun H5 rl ra rs s5 f5 h5 hr hlen => ⟨_, rfl, kkc (T := ⟨ps, Vs, rs, bk⟩) ((s2.trans s5) _ _ hp) (s5 _ _ eD) (hP2.mono fun a V h => h.same s5) h5 hr fun H6 t s6 f6 hT => ?_⟩⟩
   have s26 := (s2.trans s5).trans s6
   exact kk H6 t Vs rs s26 ((s2.trans s5).free f6) hT ⟨hvo, by show Vs.length ≤ 8; omega⟩ (by omega)
theorem P2.ins {α β : Type} {R : α → β → Prop} {a : α} {b : β} (hab : R a b) : ∀ {as : List α} {bs : List β}, P2 R as bs → ∀ k, P2 R (as.take k ++ a :: as.drop k) (bs.take k ++ b :: bs.drop k)
 | _, _, .nil, k => by
  cases k <;> exact .cons hab .nil
 | _, _, .cons h t, 0 => .cons hab (.cons h t)
 | _, _, .cons h t, k + 1 => .cons h (P2.ins hab t k)
theorem P2.app {α β : Type} {R : α → β → Prop} {as' : List α} {bs' : List β} (h' : P2 R as' bs') : ∀ {as : List α} {bs : List β}, P2 R as bs → P2 R (as ++ as') (bs ++ bs')
 | _, _, .nil => h'
 | _, _, .cons h t => .cons h (P2.app h' t)
theorem P2.tk {α β : Type} {R : α → β → Prop} : ∀ {as : List α} {bs : List β}, P2 R as bs → ∀ k, P2 R (as.take k) (bs.take k)
 | _, _, .nil, k => by
  rw [C1, C1]
  exact .nil
 | _, _, .cons _ _, 0 => .nil
 | _, _, .cons h t, k + 1 => .cons h (P2.tk t k)
theorem kgm : ∀ (rs : List Row) (k : Nat), (∀ r ∈ rs, 0 ≤ r.mn) → (((rs.zipIdx k).map fun p => FO p.1.mn.toNat p.2).flatten.length : Int) = (rs.map fun r => r.mn).sum
 | [], _, _ => by simp
 | r :: rs, k, h => by
  have h1 := h r Cd
  have ih := kgm rs (k + 1) fun q hq => h q (F9 _ hq)
  rw [Sh, F7, Cf, Ca, CI, F7, Sq]
  simp only
  omega
theorem khr (rs : List Row) (h : ∀ r ∈ rs, 0 ≤ r.mn) : ((ownN rs).length : Int) = (rs.map fun r => r.mn).sum := kgm rs 0 h
theorem kiT {α : Type} {a x : α} {l : List α} {k : Nat} (h : x ∈ l.take k ++ a :: l.drop k) : x = a ∨ x ∈ l := by
 rcases Cq.mp h with h | h
 ·exact .inr (Rj h)
 ·rcases F5.mp h with h | h
  ·exact .inl h
  ·exact .inr (List.mem_of_mem_drop h)
theorem kjD {r : Row} {rs : List Row} {k : Nat} : ((rs.take k ++ r :: rs.drop k).map fun r => r.mn).sum = (rs.map fun r => r.mn).sum + r.mn := by
 have e : (rs.map fun r => r.mn).sum = ((rs.take k).map fun r => r.mn).sum + ((rs.drop k).map fun r => r.mn).sum := by
  rw [← RS, ← FX, Sk]
 rw [e, FX, F7, RS, Sq]
 omega
noncomputable def kkF (K : FK) (CL CB : Addr) : Sp := fun vs H Q _ => ∃ (a : Addr) (ns : List Int) (n : Nat), vs = [.ref a, iV n] ∧ SqL K H a (ns.map V.int) ∧ 0 < n ∧
 ∀ (H' : Hp) (b : Addr) (B : Bask), Same H H' → H b = none → BaskIs CL CB H' b B → B.rs.length ≤ 12 → (∀ r ∈ B.rs, r.Ok) → (∀ r ∈ B.rs, 0 ≤ r.kd ∧ r.kd < (n : Int)) → 0 ≤ B.cg ∧ B.cg ≤ 1000000000000 → (ownN B.rs).length < 64 → Q (.ref b) H'
theorem qt : kas ["_law_script", "_law_kinds", "_law_lines", "_law_wide", "_law_salt", "_law_j", "_law_many", "_law_extra", "_law_price_here", "_law_pieces"] ["_law_script", "_law_kinds"] (kab ka8) := ⟨rfl, rfl, rfl, by decide +kernel, rfl, by decide +kernel, by decide +kernel⟩
theorem ket (W : WB K mg d base) : FnOk P w K mg base CX0 4 d.Yl d.Ym ["_law_script", "_law_kinds"] (kkF K d.qe d.qi) := by
 refine FunD.ok W.Qp.F qt (fun vs H Q E h => ?_) (fun cdv A outer s H vs Q E hr h => ?_)
 ·obtain ⟨a, ns, n, rfl, _⟩ := h
  rfl
 ·obtain ⟨a, ns, n, rfl, hS, hn0, kk⟩ := h
  have qj := kbr (P := P) (w := w) (base := base) W
  have Xl := keY (P := P) (w := w) (base := base) W
  have Vk := kfu (P := P) (w := w) (base := base) W
  have Vl := kev (P := P) (w := w) (base := base) W
  have hr2 : Room 2 _ := hr.mono (by decide)
  refine ⟨_, kae (kav (i := 2) qt.nd rfl (Or.inl rfl) (kbw kah))
   (kae (kav (i := 3) qt.nd rfl (Or.inl rfl) (kbU op_eq (kao qj hr2 rfl W.qd.m W.qd.F.kp W.qd.b .nil pass0 (kaa (pv 0) (kaa kai (kaa kai (kaa kai kah))))) kai (kaF _)))
   (kae (kav (i := 4) qt.nd rfl (Or.inl rfl) (pe_op kca kai (kbB kfE (by rfl) W.B.int b_int (kaa (pv 3) kah))))
   (kae (kbQ PassesOwn.never rfl (kbX rfl W.B.range (kaa (pe_ix (r := rIxL K) kbu (kbw (kaa (kao qj hr2 rfl W.qd.m W.qd.F.kp W.qd.b .nil pass0 (kaa (pv 0) (kaa kai (kaa kai (kaa kai kah))))) (kaa (pe_op kaY kai (kao qj hr2 rfl W.qd.m W.qd.F.kp W.qd.b .nil pass0 (kaa (pv 0) (kaa kai (kaa kai (kaa kai kah)))))) kah))) (kbB kfE (by rfl) W.B.int b_int (kaa (pv 3) kah)) (fun _ _ => rfl)) kah)) (kau (i := 5) qt.nd rfl (Or.inl rfl))
   (kae (kav (i := 6) qt.nd rfl (Or.inl rfl) (pe_op kaY kai (kao qj hr2 rfl W.qd.m W.qd.F.kp W.qd.b .nil pass0 (kaa (pv 0) (kaa kai (kaa (pe_op kaY kai (pv 5)) (kaa kai kah)))))))
   (kae (kcY (ps_if (kay op_lt (kao qj hr2 rfl W.qd.m W.qd.F.kp W.qd.b .nil pass0 (kaa (pv 0) (kaa kai (kaa (pe_op kaY kai (pv 5)) (kaa kai kah))))) kai (kaF _)) (kak (kav (i := 6) qt.nd rfl (Or.inl rfl) (pe_ix (r := rIxL K) kbu (kbw (kaa kai (kaa kai kah))) (kao qj hr2 rfl W.qd.m W.qd.F.kp W.qd.b .nil pass0 (kaa (pv 0) (kaa kai (kaa (pe_op kaY kai (pv 5)) (kaa kai kah))))) (fun _ _ => rfl)))) (kaA)))
   (kae (kcY (ps_if (kbF (pv 3)) (kak (kav (i := 6) qt.nd rfl (Or.inl rfl) (kao qj hr2 rfl W.qd.m W.qd.F.kp W.qd.b .nil pass0 (kaa (pv 0) (kaa kai (kaa (pe_op kaY (pe_op kaY (pv 4) kai) (pv 5)) (kaa kai kah))))))) (kaA)))
   (kae (kav (i := 7) qt.nd rfl (Or.inl rfl) kbC)
   (kae (kcY (ps_if (kay op_eq (kao qj hr2 rfl W.qd.m W.qd.F.kp W.qd.b .nil pass0 (kaa (pv 0) (kaa kai (kaa (pe_op kaY (pe_op kaY (pv 4) kai) (pv 5)) (kaa kai kah))))) kai (kaF _)) (kak (kav (i := 7) qt.nd rfl (Or.inl rfl) (kao Xl hr rfl W.qx.m W.qx.F.kp W.qx.b .nil pass0 (kaa (pv 0) (kaa kai (kaa (pe_op kaY (pe_op kaY (pv 4) kai) (pe_op kca kai (pv 5))) kah)))))) (kaA)))
   (kae (kav (i := 8) qt.nd rfl (Or.inl rfl) (kao Xl hr rfl W.qx.m W.qx.F.kp W.qx.b .nil pass0 (kaa (pv 0) (kaa kai (kaa (pe_op kaY (pe_op kaY (pv 4) kai) (pe_op kca kai (pv 5))) kah)))))
   (kak (kby (pe_bm Ct CN CO kbG (pv 2) (kaa (kbM (W.QY.mk' W.qe) Vk hr2 rfl W.qe.m W.QY.b .nil pass0 (kaa (kao qj hr2 rfl W.qd.m W.qd.F.kp W.qd.b .nil pass0 (kaa (pv 0) (kaa kai (kaa (pe_op kaY (pe_op kaY (pv 4) kai) (pv 5)) (kaa (pv 1) kah))))) (kaa (pv 8) (kaa (pv 6) (kaa (pv 7) kah))))) kah)))))))))))
   (kae (kav (i := 9) qt.nd rfl (Or.inl rfl) (kaQ (kci rfl) (by rfl) W.B.sum b_sum (kaa (kbT (N := ["_law_line"]) (CompScope.plain rfl (by decide +kernel) (by decide +kernel) (by decide +kernel) (nd1 _)) rfl (kbx (pe_op kgo (pv 2) (kcK kde (pv 2) kdW (kcT kai)))) (fun _ _ _ _ => kau (i := 0) (nd1 _) rfl (Or.inl rfl)) (fun _ _ _ _ => (kck (K := K) (pv 0) rfl))) kah)))
   (kae (kcY (ps_if (PW.pt (kb6 (kgf op_lt op_lt kai (kaQ ka6 (by rfl) W.B.len b_len (kaa (pv 2) kah)) kai) (kb6 (kay op_lt (pv 9) kai (kaF _)) (kbS (kay op_eq (kao qj hr2 rfl W.qd.m W.qd.F.kp W.qd.b .nil pass0 (kaa (pv 0) (kaa kai (kaa kai (kaa kai kah))))) kai (kaF _)))))) (kak (kby (pe_bm Ct PySem.F.slot_list_insert PySem.F.type_list_insert khx (pv 2) (kaa (kao qj hr2 rfl W.qd.m W.qd.F.kp W.qd.b .nil pass0 (kaa (pv 0) (kaa kai (kaa kai (kaa (pe_op kaY (kaQ ka6 (by rfl) W.B.len b_len (kaa (pv 2) kah)) kai) kah))))) (kaa (pe_ix (r := rIxL K) kbu (pv 2) kai (fun _ _ => rfl)) kah))))) (kaA)))
   (kak (kat (kbM (W.QZ.mk' W.qi) Vl hr2 rfl W.qi.m W.QZ.b .nil pass0 (kaa (pv 2) (kaa (kao Xl hr rfl W.qx.m W.qx.F.kp W.qx.b .nil pass0 (kaa (pv 0) (kaa kai (kaa kai kah)))) (kaa (kbU op_eq (kao qj hr2 rfl W.qd.m W.qd.F.kp W.qd.b .nil pass0 (kaa (pv 0) (kaa kai (kaa kai (kaa kai kah))))) kai (kaF _)) kah))))))))))), ?_⟩
  refine ⟨by decide, fun l fl => ?_⟩
  have s1 := kaj (o := .lst []) fl
  have el1 : (upd H l (.lst [])) l = some (.lst (([] : List Addr).map V.ref)) := kad
  generalize upd H l (.lst []) = H1 at *
  refine ⟨_, rfl, a, ns, 6, 99, 16, rfl, s1.seq hS, ⟨by decide, by decide⟩, ⟨by decide, by decide⟩, by decide, fun w0 _ _ => ⟨rfl, ?_⟩⟩
  generalize decide (V.int w0 = V.int 0) = wd
  refine ⟨_, rfl, .inr ⟨wd, rfl, _, _, rfl, rfl, .inl ⟨by decide, by decide⟩, ?_⟩⟩
  dsimp only
  have hsl : 0 ≤ 200 * (if wd = true then (1 : Int) else 0) ∧ 200 * (if wd = true then (1 : Int) else 0) ≤ 200 := by split <;> omega
  generalize 200 * (if wd = true then (1 : Int) else 0) = sl at *
  refine ⟨_, rfl, a, ns, 6, 1, 5, rfl, s1.seq hS, ⟨by decide, by decide⟩, ⟨by decide, by decide⟩, by decide, fun x x0 x1 => ⟨_, rfl, a, ns, 6, 1, 5, rfl, s1.seq hS, ⟨by decide, by decide⟩, ⟨by decide, by decide⟩, by decide, fun y y0 y1 => ⟨_, _, rfl, rfl, (by show 2 ≤ sizeLine; decide), fun q0 hq0 => ?_⟩⟩⟩
  have n2 := kaj (o := .lst [V.int x, V.int (8 + y)]) hq0
  obtain ⟨c, ec, hc0, hc1, hcw⟩ : ∃ c : Int, atI [V.int x, V.int (8 + y)] (if wd = true then (1 : Int) else 0) = some (.int c) ∧ 0 ≤ c ∧ c ≤ 12 ∧ (wd = false → c ≤ 4) := by
   cases wd with
   | true => exact ⟨8 + y, rfl, by omega, by omega, fun e => by cases e⟩
   | false => exact ⟨x, rfl, by omega, by omega, fun _ => by omega⟩
  refine ⟨_, rfl, .inr ⟨wd, rfl, q0, _, _, _, rfl, rfl, SqL.of kad, ec, _, rfl, by omega, by omega, ?_⟩⟩
  have s2 := s1.trans n2
  have el2 := n2 _ _ el1
  clear n2
  generalize upd H1 q0 (.lst [V.int x, V.int (8 + y)]) = H2 at *
  refine kcn (fun i σ H' => Same H H' ∧ ∃ (ls : List Addr) (rs : List Row) (v5 v6 v7 v8 : Option V), H' l = some (.lst (ls.map V.ref)) ∧ Lines d.qe H' ls rs ∧ rs.length = i ∧ (∀ r ∈ rs, r.Ok) ∧ (∀ r ∈ rs, 0 ≤ r.kd ∧ r.kd < (n : Int)) ∧ (rs.map fun r => r.mn).sum ≤ (if wd = true then 1 else 15) * (i : Int) ∧ σ = [some (.ref a), some (iV n), some (.ref l), some (.bl wd), some (.int sl), v5, v6, v7, v8, none])
   ⟨s2, [], [], none, none, none, none, el2, .nil, rfl, (fun r hr => by simp at hr), (fun r hr => by simp at hr), by simp, rfl⟩ ?_ ?_
  ·rintro i σ H' hi ⟨s3, ls, rs, v5, v6, v7, v8, el, hL, hlen, hok, hkd, hsum, rfl⟩
   have hi12 : i < 12 := by omega
   rw [Int.zero_add]
   refine ⟨_, rfl, _, rfl, _, _, rfl, rfl, a, ns, 6, 10 + (i : Int), 4, rfl, s3.seq hS, ⟨by decide, by decide⟩, ⟨by omega, by omega⟩, by decide, fun m0 m00 m01 => ⟨_, _, rfl, rfl, ?_⟩⟩
   refine ⟨fun σ H4 => Same H' H4 ∧ ∃ m : Int, 0 ≤ m ∧ m ≤ 15 ∧ σ = [some (.ref a), some (iV n), some (.ref l), some (.bl wd), some (.int sl), some (.int (i : Int)), some (.int m), v7, v8, none], ?_, ?_⟩
   ·refine ⟨_, rfl, _, rfl, _, _, rfl, rfl, a, ns, 6, 20 + (i : Int), 8, rfl, s3.seq hS, ⟨by decide, by decide⟩, ⟨by omega, by omega⟩, by decide, fun t t0 t1 => ⟨_, _, rfl, rfl, _, rfl, ite2 (fun _ => ?_) (fun _ => ⟨Same.refl _, 1 + m0, by omega, by omega, rfl⟩)⟩⟩
    refine ⟨(by show 2 ≤ sizeLine; decide), fun q hq => ?_⟩
    have n4 := kaj (o := .lst [V.int 0, V.int 15]) hq
    refine ⟨_, rfl, _, rfl, _, _, rfl, rfl, a, ns, 6, 25 + (i : Int), 2, rfl, (s3.trans n4).seq hS, ⟨by decide, by decide⟩, ⟨by omega, by omega⟩, by decide, fun u u0 u1 => ?_⟩
    obtain ⟨z, ez, hz⟩ := pickI (zs := [0, 15]) (m := u) u0 (by show _ < (2 : Int); exact u1)
    have hz : 0 ≤ z ∧ z ≤ 15 := by
     simp only [F5, CA, or_false] at hz
     omega
    exact ⟨q, _, _, _, rfl, rfl, SqL.of kad, ez, n4, z, hz.1, hz.2, rfl⟩
   rintro σ H4 ⟨s4, m1, m10, m11, rfl⟩
   have s34 := s3.trans s4
   refine ⟨fun σ H5 => H5 = H4 ∧ ∃ m : Int, 0 ≤ m ∧ m ≤ (if wd = true then 1 else 15) ∧ σ = [some (.ref a), some (iV n), some (.ref l), some (.bl wd), some (.int sl), some (.int (i : Int)), some (.int m), v7, v8, none], ?_, ?_⟩
   ·refine ⟨_, rfl, wd, rfl, ?_⟩
    cases wd with
    | true =>
     exact iteT ⟨_, rfl, _, rfl, _, _, rfl, rfl, _, rfl, _, _, rfl, rfl, a, ns, 6, sl + 10 + (i : Int), 2, rfl, s34.seq hS, ⟨by decide, by decide⟩, ⟨by omega, by omega⟩, by decide, fun u u0 u1 => ⟨rfl, u, u0, by show u ≤ 1; omega, rfl⟩⟩
    | false => exact iteF ⟨rfl, m1, m10, m11, rfl⟩
   rintro σ H5 ⟨rfl, m, hm0, hm1, rfl⟩
   have hm60 : m ≤ 60 := by
    split at hm1 <;> omega
   refine ⟨fun σ H6 => H6 = H5 ∧ ∃ ex : Option Int, (∀ z, ex = some z → 0 ≤ z ∧ z ≤ 1000000000000) ∧ σ = [some (.ref a), some (iV n), some (.ref l), some (.bl wd), some (.int sl), some (.int (i : Int)), some (.int m), some (oV ex), v8, none], ?_, ?_⟩
   ·refine ⟨_, rfl, _, rfl, _, _, rfl, rfl, _, rfl, _, _, rfl, rfl, a, ns, 6, sl + 30 + (i : Int), 3, rfl, s34.seq hS, ⟨by decide, by decide⟩, ⟨by omega, by omega⟩, by decide, fun u u0 u1 => ⟨rfl, _, rfl, ite2 (fun _ => ?_) (fun _ => ⟨rfl, none, (fun z e => by cases e), rfl⟩)⟩⟩
    exact ⟨_, rfl, _, rfl, _, _, rfl, rfl, _, rfl, _, _, rfl, rfl, .inl ⟨by decide, by decide⟩, _, _, rfl, rfl, a, ns, 6, sl + 40 + 3 * (i : Int), rfl, s34.seq hS, ⟨by decide, by decide⟩, ⟨by omega, by omega⟩, fun z z0 z1 => ⟨rfl, some z, (fun y e => by cases e; exact ⟨z0, z1⟩), rfl⟩⟩
   rintro σ H6 ⟨rfl, ex, hex, rfl⟩
   refine ⟨_, rfl, _, rfl, _, _, rfl, rfl, _, rfl, _, _, rfl, rfl, .inl ⟨by decide, by decide⟩, _, _, rfl, rfl, a, ns, 6, sl + 80 + 3 * (i : Int), rfl, s34.seq hS, ⟨by decide, by decide⟩, ⟨by omega, by omega⟩, fun pz pz0 pz1 => ?_⟩
   have el6 := s4 _ _ el
   refine ⟨_, rfl, .inl ⟨rfl, _, SqL.of el6⟩, _, rfl, _, rfl, _, _, rfl, rfl, _, rfl, _, _, rfl, rfl, _, rfl, a, ns, 6, sl + 60 + (i : Int), (n : Int), rfl, s34.seq hS, ⟨by decide, by decide⟩, ⟨by omega, by omega⟩, by omega, fun kd kd0 kd1 => ⟨_, rfl, _, rfl, _, rfl, kke (r := ⟨kd, pz, m, ex⟩) fun H7 ln s7 f7 hln => ?_⟩⟩
   have el7 := s7 _ _ el6
   have s37 := s34.trans s7
   refine ⟨l, _, _, rfl, rfl, el7, kar (by rw [FJ, hL.len]; omega), ?_⟩
   refine ⟨kax fl s37 (nx el7), ls ++ [ln], rs ++ [⟨kd, pz, m, ex⟩], _, _, _, _, by rw [kad, FX]; rfl, P2.snoc ((Lines.same (s4.trans s7) hL).set el7) (hln.set el7), by rw [Ca, hlen]; rfl, fun r hr => ?_, fun r hr => ?_, ?_, rfl⟩
   ·rcases Cq.mp hr with h | h
    ·exact hok r h
    ·have e : r = ⟨kd, pz, m, ex⟩ := by simpa using h
     rw [e]
     exact ⟨pz0, pz1, hm0, hm60, hex⟩
   ·rcases Cq.mp hr with h | h
    ·exact hkd r h
    ·have e : r = ⟨kd, pz, m, ex⟩ := by simpa using h
     rw [e]
     exact ⟨kd0, kd1⟩
   ·rw [FX, RS]
    show _ + (m + 0) ≤ _
    cases wd with
    | true => simp only [if_true] at hsum hm1 ⊢; omega
    | false => simp only [Cv, if_false] at hsum hm1 ⊢; omega
  ·rintro σ H' ⟨s3, ls, rs, v5, v6, v7, v8, el, hL, hlen, hok, hkd, hsum, rfl⟩
   have hlen12 : rs.length ≤ 12 := by omega
   have hs60 : (rs.map fun r => r.mn).sum ≤ 60 := by
    cases wd with
    | true => simp only [if_true] at hsum; omega
    | false =>
     simp only [Cv, if_false] at hsum
     have := hcw rfl
     omega
   have hown := khr rs fun r hr => (hok r hr).mn0
   refine ⟨_, rfl, _, rfl, _, rfl, l, _, rfl, SqL.of el, fun q1 hq1 => ?_⟩
   have ecut : cutV (ls.map V.ref) none (some 1) = (ls.take 1).map V.ref := by
    show cutV (ls.map V.ref) none (some ((1 : Nat) : Int)) = _
    rw [kfB, C0]
   rw [ecut]
   have n4 := kaj (o := .lst ((ls.take 1).map V.ref)) hq1
   have e4 : (upd H' q1 (.lst ((ls.take 1).map V.ref))) q1 = some (.lst ((ls.take 1).map V.ref)) := kad
   have el4 := n4 _ _ el
   have hL4 := Lines.same n4 hL
   have s4 := s3.trans n4
   clear n4
   generalize upd H' q1 (.lst ((ls.take 1).map V.ref)) = H4 at *
   refine ⟨l, q1, _, _, rfl, rfl, el4, e4, FY (kar (by rw [FJ, FJ, F2, hL.len]; omega)), fun q2 hq2 => ?_⟩
   rw [← FX]
   have n5 := kaj (o := .lst ((ls ++ ls.take 1).map V.ref)) hq2
   have e5 : (upd H4 q2 (.lst ((ls ++ ls.take 1).map V.ref))) q2 = some (.lst ((ls ++ ls.take 1).map V.ref)) := kad
   have el5 := n5 _ _ el4
   have hL5 := Lines.same n5 hL4
   have s5 := s4.trans n5
   clear n5
   generalize upd H4 q2 (.lst ((ls ++ ls.take 1).map V.ref)) = H5 at *
   have hLL : P2 (LineAt d.qe H5) (ls ++ ls.take 1) (rs ++ rs.take 1) := P2.app (P2.tk hL5 1) hL5
   refine ⟨q2, rfl, ⟨_, SqL.of e5⟩, kbI (xs := (ls ++ ls.take 1).map V.ref) (fun i σ ys H'' => H'' = H5 ∧ ys = (((rs ++ rs.take 1).map fun r => r.mn).take i).map V.int ∧ ∃ v, σ = [v]) ⟨rfl, rfl, none, rfl⟩ (by rw [FJ, hLL.len, Ca, F2]; exact FY (kar (by omega))) ?_ ?_ ?_⟩
   ·rintro j σ ys H'' hj ⟨rfl, rfl, v, rfl⟩
    refine ⟨SqL.of e5, ?_⟩
    rw [FJ, F2, FJ]
    rw [FJ, hLL.len] at hj
    omega
   ·rintro j y σ ys H'' hy ⟨rfl, rfl, v, rfl⟩
    obtain ⟨la, ea, rfl⟩ := kb9 hy
    obtain ⟨r, er, dxl, fsl, ha, g1, g2, g3, g4⟩ := hLL.at ea
    refine ⟨_, rfl, la, d.qe, dxl, fsl, _, rfl, ha, W.qe.cl, W.n_Line_many, g3, rfl, ?_, _, rfl⟩
    rw [kbL (r := r.mn) (by rw [F0, er]; rfl), FX (f := V.int)]
    rfl
   rintro σ ys H'' ⟨rfl, rfl, v, rfl⟩ D hD
   rw [FJ, hLL.len, Cz (by rw [FJ]; exact FM _)]
   have n6 := kaj (o := .lst (((rs ++ rs.take 1).map fun r => r.mn).map V.int)) hD
   refine ⟨D, _, rfl, SqL.of kad, ?_⟩
   have el6 := n6 _ _ el5
   have hL6 := Lines.same n6 hL5
   have s6 := s5.trans n6
   clear n6
   generalize upd H'' D (.lst (((rs ++ rs.take 1).map fun r => r.mn).map V.int)) = H6 at *
   generalize hpc : ((rs ++ rs.take 1).map fun r => r.mn).sum = pc at *
   refine ⟨fun σ H7 => Same H H7 ∧ ∃ (ls' : List Addr) (rs' : List Row), H7 l = some (.lst (ls'.map V.ref)) ∧ Lines d.qe H7 ls' rs' ∧ rs'.length ≤ 12 ∧ (∀ r ∈ rs', r.Ok) ∧ (∀ r ∈ rs', 0 ≤ r.kd ∧ r.kd < (n : Int)) ∧ (ownN rs').length < 64 ∧ σ = [some (.ref a), some (iV n), some (.ref l), some (.bl wd), some (.int sl), v5, v6, v7, v8, some (.int pc)], ?_, ?_⟩
   ·have plain : Same H H6 ∧ ∃ (ls' : List Addr) (rs' : List Row), H6 l = some (.lst (ls'.map V.ref)) ∧ Lines d.qe H6 ls' rs' ∧ rs'.length ≤ 12 ∧ (∀ r ∈ rs', r.Ok) ∧ (∀ r ∈ rs', 0 ≤ r.kd ∧ r.kd < (n : Int)) ∧ (ownN rs').length < 64 ∧ ([some (.ref a), some (iV n), some (.ref l), some (.bl wd), some (.int sl), v5, v6, v7, v8, some (.int pc)] : St) = [some (.ref a), some (iV n), some (.ref l), some (.bl wd), some (.int sl), v5, v6, v7, v8, some (.int pc)] := ⟨s6, ls, rs, el6, hL6, hlen12, hok, hkd, by omega, rfl⟩
    refine ⟨_, rfl, l, _, rfl, .inl (SqL.of el6), _, _, rfl, rfl, _, rfl, ?_⟩
    refine ite2 (fun h1 => ?_) (fun _ => ⟨_, rfl, iteF (iteF plain)⟩)
    have hl0 : 0 < ls.length := by
     have : (0 : Int) < ((ls.map V.ref).length : Nat) := by simpa using h1
     rw [FJ] at this
     omega
    refine ⟨_, _, rfl, rfl, _, rfl, ite2 (fun h2 => ?_) (fun _ => iteF plain)⟩
    have hl12 : ls.length < 12 := by
     have : ((ls.map V.ref).length : Int) < 12 := by simpa using h2
     rw [FJ] at this
     omega
    refine ⟨_, rfl, _, _, rfl, rfl, _, rfl, ite2 (fun h3 => ?_) (fun _ => iteF plain)⟩
    have hp61 : pc < 61 := by simpa using h3
    refine ⟨_, rfl, a, ns, 6, 98, 3, rfl, s6.seq hS, ⟨by decide, by decide⟩, ⟨by decide, by decide⟩, by decide, fun u u0 u1 => ⟨rfl, _, rfl, ite2 (fun _ => ?_) (fun _ => plain)⟩⟩
    obtain ⟨l0, el0⟩ := at_of hl0
    obtain ⟨r0, er0, hr0⟩ := hL6.at el0
    have e0s : (rs.take 1).map (fun r => r.mn) = [r0.mn] := by
     rw [kbL er0]
     rfl
    have hpc' : (rs.map fun r => r.mn).sum + r0.mn = pc := by
     rw [← hpc, FX, RS, e0s]
     simp
    refine ⟨_, rfl, .inl ⟨rfl, _, SqL.of el6⟩, _, rfl, _, rfl, l, _, rfl, .inl (SqL.of el6), _, _, rfl, rfl, a, ns, 6, 97, _, rfl, s6.seq hS, ⟨by decide, by decide⟩, ⟨by decide, by decide⟩, (by show (0 : Int) < _; omega), fun k k0 k1 => ?_⟩
    refine ⟨_, rfl, l, _, _, _, rfl, rfl, SqL.of el6, kbN (j := 0) (v := .ref l0) (by rw [F0, el0]; rfl), l, _, k, _, rfl, rfl, el6, k0, by omega, kar (by rw [FJ]; omega), ?_⟩
    rw [← C0, ← Sn]
    have el7 : (upd H6 l (.lst ((ls.take k.toNat).map V.ref ++ V.ref l0 :: (ls.drop k.toNat).map V.ref))) l = some (.lst ((ls.take k.toNat ++ l0 :: ls.drop k.toNat).map V.ref)) := by
     rw [kad, FX, F7]
    have hmem : ∀ r ∈ rs.take k.toNat ++ r0 :: rs.drop k.toNat, r ∈ rs := fun r hr => by
     rcases kiT hr with e | e
     ·rw [e]; exact FV er0
     ·exact e
    have hown7 := khr (rs.take k.toNat ++ r0 :: rs.drop k.toNat) fun r hr => (hok r (hmem r hr)).mn0
    rw [kjD] at hown7
    refine ⟨kax fl s6 (nx el6), ls.take k.toNat ++ l0 :: ls.drop k.toNat, rs.take k.toNat ++ r0 :: rs.drop k.toNat, el7, P2.ins (hr0.set el6) (Lines.set el6 hL6) k.toNat, ?_, fun r hr => hok r (hmem r hr), fun r hr => hkd r (hmem r hr), by omega, rfl⟩
    have l1 := hL6.len
    rw [Ca, Cu, F2, RB]
    omega
   rintro σ H7 ⟨s7, ls', rs', el7, hL7, h12, hok7, hkd7, h64, rfl⟩
   refine ⟨_, rfl, _, rfl, a, ns, 6, 90, rfl, s7.seq hS, ⟨by decide, by decide⟩, ⟨by decide, by decide⟩, fun cg cg0 cg1 => ⟨_, rfl, a, ns, 6, 95, 2, rfl, s7.seq hS, ⟨by decide, by decide⟩, ⟨by decide, by decide⟩, by decide, fun mb mb0 mb1 => ⟨rfl, kkg (SqL.of el7) fun H8 b l' s8 f8 f8' hl' hb => ?_⟩⟩⟩
   exact kk H8 b ⟨rs', cg, _⟩ (s7.trans s8) (s7.free f8) ⟨l', ls', hb, hl', Lines.same s8 hL7⟩ h12 hok7 hkd7 ⟨cg0, cg1⟩ h64
noncomputable def kjO (d : D) : Sp := fun vs H Q _ => ∃ (b : Addr) (B : Bask), vs = [.ref b] ∧ BaskIs d.qe d.qi H b B ∧ B.rs.length ≤ 12 ∧ (∀ r ∈ B.rs, r.Ok) ∧ ∀ (H' : Hp) (p : Addr), Same H H' → H p = none → H' p = some (.lst ((prs B.m B.rs).map V.int)) → Q (.ref p) H'
theorem qQ : kas ["_law_basket_here", "_law_prices_here", "_law_line", "_law_price_here"] ["_law_basket_here"] (kab ka7) := ⟨rfl, rfl, rfl, by decide +kernel, rfl, by decide +kernel, by decide +kernel⟩
theorem kcN (W : WB K mg d base) : FnOk P w K mg base CX0 1 d.YF d.YG ["_law_basket_here"] (kjO d) := by
 refine FunD.ok W.qM.F qQ (fun vs H Q E h => ?_) (fun cdv A outer s H vs Q E hr h => ?_)
 ·obtain ⟨b, B, rfl, _⟩ := h
  rfl
 ·obtain ⟨b, B, rfl, ⟨l, ls, ⟨dxb, fsb, hb, lbl, lbc, lbm⟩, hl, hL⟩, h12, hok, k⟩ := h
  refine ⟨_, kae (kav (i := 1) qQ.nd rfl (Or.inl rfl) (kbw kah))
   (kae (kbQ PassesOwn.never rfl (kbx (kap (pv 0) rfl)) (kau (i := 2) qQ.nd rfl (Or.inl rfl))
   (kae (kav (i := 3) qQ.nd rfl (Or.inl rfl) (kap (pv 2) rfl))
   (kae (ps_if (PW.pt (kb6 (kbF (kap (pv 0) rfl)) (kbS (kay kcy (kap (pv 2) rfl) kbC (kaF _))))) (kak (kav (i := 3) qQ.nd rfl (Or.inl rfl) (kap (pv 2) rfl))) (kaA))
   (kak (kav (i := 1) qQ.nd rfl (Or.inl rfl) (pe_op kgo (pv 1) (pe_op kht (kbw (kaa (pv 3) kah)) (kap (pv 2) rfl))))))))
   (kak (kat (pv 1)))), ?_⟩
  have hll := hL.len
  refine ⟨by decide, fun p0 fp0 => ?_⟩
  have n0 := kaj (o := .lst []) fp0
  have e0 : (upd H p0 (.lst [])) p0 = some (.lst []) := kad
  generalize upd H p0 (.lst []) = H0 at *
  refine ⟨_, rfl, b, d.qi, dxb, fsb, _, rfl, n0 _ _ hb, W.qi.cl, W.n_Basket_lines, lbl, l, rfl, ⟨_, SqL.of (n0 _ _ hl)⟩, kbW (xs := ls.map V.ref) (fun i σ H' => Same H H' ∧ ∃ (p : Addr) (v2 v3 : Option V), H p = none ∧ H' p = some (.lst ((prs B.m (B.rs.take i)).map V.int)) ∧ σ = [some (.ref b), some (.ref p), v2, v3])
   ⟨n0, p0, none, none, fp0, e0, rfl⟩ (fun i σ H' _ h => SqL.of (h.1 _ _ hl)) ?_ ?_⟩
  ·rintro i y σ H1 hy ⟨s1, p, v2, v3, fp, ep, rfl⟩
   obtain ⟨lx, el, rfl⟩ := kb9 hy
   have hi : i < B.rs.length := by
    have := at_lt el
    omega
   obtain ⟨r, er⟩ := at_of hi
   have hr' : r.Ok := hok r (FV er)
   obtain ⟨dxl, fsl, hlx, lk1, lk2, lk3, lk4⟩ := hL.get el er
   have hmn0 := hr'.mn0
   have hmn1 := hr'.mn1
   have lp1 : ((prs B.m (B.rs.take i)).map V.int).length ≤ 720 := by
    rw [FJ]
    have := kfU B.m (B.rs.take i) fun r hr => hok r (Rj hr)
    rw [F2] at this
    omega
   have fin : ∀ (H' : Hp) (q : Addr) (z : Int) (v3 : Option V), z = prc B.m r → Same H H' → H q = none → H' q = some (.lst ((prs B.m (B.rs.take i)).map V.int ++ (FO r.mn.toNat [V.int z]).flatten)) → Same H H' ∧ ∃ (p : Addr) (v2' v3' : Option V), H p = none ∧ H' p = some (.lst ((prs B.m (B.rs.take (i + 1))).map V.int)) ∧ [some (V.ref b), some (V.ref q), some (V.ref lx), v3] = [some (V.ref b), some (V.ref p), v2', v3'] := fun H' q z v3 ez s f e => ⟨s, q, _, _, f, by rw [e, take_snoc er, kgh, FX, rep1, kfT, ez], rfl⟩
   refine ⟨_, rfl, lx, d.qe, dxl, fsl, _, rfl, s1 _ _ hlx, W.qe.cl, W.n_Line_price, lk2, ?_⟩
   refine ⟨_, rfl, b, d.qi, dxb, fsb, _, rfl, s1 _ _ hb, W.qi.cl, W.n_Basket_member, lbm, _, rfl, ?_⟩
   cases em : B.m with
   | false =>
    rw [em] at fin ep lp1
    refine iteF ?_
    obtain ⟨z, hz⟩ : ∃ z, z = prc false r := ⟨_, rfl⟩
    rw [show r.pr = z from hz.symm]
    refine ⟨_, rfl, _, rfl, (by show 1 ≤ sizeLine; decide), fun t1 ht1 => ?_⟩
    have n2 := kaj (o := .lst [V.int z]) ht1
    have u2 : (upd H1 t1 (.lst [V.int z])) t1 = some (.lst [V.int z]) := kad
    have s2 := s1.trans n2
    have ep2 := n2 _ _ ep
    clear n2
    generalize upd H1 t1 (.lst [V.int z]) = H2 at *
    refine ⟨_, rfl, lx, d.qe, dxl, fsl, _, rfl, s2 _ _ hlx, W.qe.cl, W.n_Line_many, lk3, t1, _, _, rfl, rfl, u2, by omega, by omega, FY (kar (by simp; omega)), fun t2 ht2 => ?_⟩
    have n3 := kaj (o := .lst (FO r.mn.toNat [V.int z]).flatten) ht2
    have u3 : (upd H2 t2 (.lst (FO r.mn.toNat [V.int z]).flatten)) t2 = some (.lst (FO r.mn.toNat [V.int z]).flatten) := kad
    have s3 := s2.trans n3
    have ep3 := n3 _ _ ep2
    clear n3
    generalize upd H2 t2 (.lst (FO r.mn.toNat [V.int z]).flatten) = H3 at *
    refine ⟨p, t2, _, _, rfl, rfl, ep3, u3, FY (kar (by rw [rep1, CI]; omega)), fun q fq => ?_⟩
    exact fin _ q z _ hz (s3.trans (kaj fq)) (s3.free fq) kad
   | true =>
    rw [em] at fin ep lp1
    refine iteT ⟨_, rfl, lx, d.qe, dxl, fsl, _, rfl, s1 _ _ hlx, W.qe.cl, W.n_Line_special, lk4, rfl, _, rfl, ?_⟩
    cases e : r.ex with
    | none =>
     show if (!decide (V.non = V.non)) = true then _ else _
     rw [show (!decide (V.non = V.non)) = false by simp]
     refine iteF ?_
     obtain ⟨z, hz⟩ : ∃ z, z = prc true r := ⟨_, rfl⟩
     rw [show r.pr = z by rw [hz]; unfold prc; rw [if_pos rfl, e]; rfl]
     refine ⟨_, rfl, _, rfl, (by show 1 ≤ sizeLine; decide), fun t1 ht1 => ?_⟩
     have n2 := kaj (o := .lst [V.int z]) ht1
     have u2 : (upd H1 t1 (.lst [V.int z])) t1 = some (.lst [V.int z]) := kad
     have s2 := s1.trans n2
     have ep2 := n2 _ _ ep
     clear n2
     generalize upd H1 t1 (.lst [V.int z]) = H2 at *
     refine ⟨_, rfl, lx, d.qe, dxl, fsl, _, rfl, s2 _ _ hlx, W.qe.cl, W.n_Line_many, lk3, t1, _, _, rfl, rfl, u2, by omega, by omega, FY (kar (by simp; omega)), fun t2 ht2 => ?_⟩
     have n3 := kaj (o := .lst (FO r.mn.toNat [V.int z]).flatten) ht2
     have u3 : (upd H2 t2 (.lst (FO r.mn.toNat [V.int z]).flatten)) t2 = some (.lst (FO r.mn.toNat [V.int z]).flatten) := kad
     have s3 := s2.trans n3
     have ep3 := n3 _ _ ep2
     clear n3
     generalize upd H2 t2 (.lst (FO r.mn.toNat [V.int z]).flatten) = H3 at *
     refine ⟨p, t2, _, _, rfl, rfl, ep3, u3, FY (kar (by rw [rep1, CI]; omega)), fun q fq => ?_⟩
     exact fin _ q z _ hz (s3.trans (kaj fq)) (s3.free fq) kad
    | some z =>
     show if (!decide (V.int z = V.non)) = true then _ else _
     rw [show (!decide (V.int z = V.non)) = true by simp]
     rw [e] at lk4
     have lk5 : fsl.lookup ("special" : Str) = some (V.int z) := lk4
     refine iteT ⟨_, rfl, lx, d.qe, dxl, fsl, _, rfl, s1 _ _ hlx, W.qe.cl, W.n_Line_special, lk5, ?_⟩
     have hz : z = prc true r := by
      unfold prc
      rw [if_pos rfl, e]
      rfl
     refine ⟨_, rfl, _, rfl, (by show 1 ≤ sizeLine; decide), fun t1 ht1 => ?_⟩
     have n2 := kaj (o := .lst [V.int z]) ht1
     have u2 : (upd H1 t1 (.lst [V.int z])) t1 = some (.lst [V.int z]) := kad
     have s2 := s1.trans n2
     have ep2 := n2 _ _ ep
     clear n2
     generalize upd H1 t1 (.lst [V.int z]) = H2 at *
     refine ⟨_, rfl, lx, d.qe, dxl, fsl, _, rfl, s2 _ _ hlx, W.qe.cl, W.n_Line_many, lk3, t1, _, _, rfl, rfl, u2, by omega, by omega, FY (kar (by simp; omega)), fun t2 ht2 => ?_⟩
     have n3 := kaj (o := .lst (FO r.mn.toNat [V.int z]).flatten) ht2
     have u3 : (upd H2 t2 (.lst (FO r.mn.toNat [V.int z]).flatten)) t2 = some (.lst (FO r.mn.toNat [V.int z]).flatten) := kad
     have s3 := s2.trans n3
     have ep3 := n3 _ _ ep2
     clear n3
     generalize upd H2 t2 (.lst (FO r.mn.toNat [V.int z]).flatten) = H3 at *
     refine ⟨p, t2, _, _, rfl, rfl, ep3, u3, FY (kar (by rw [rep1, CI]; omega)), fun q fq => ?_⟩
     exact fin _ q z _ hz (s3.trans (kaj fq)) (s3.free fq) kad
  ·rintro σ H' ⟨s1, p, v2, v3, fp, ep, rfl⟩
   rw [FJ, hll, Cw] at ep
   exact ⟨_, rfl, k H' p s1 fp ep⟩
theorem kcr {T : TillD} {B : Bask} {n : Nat} {ms : List Nat} {S : Stnd} {Vc : Vch} (e : T.vs[n]? = some Vc) : billM T B (n :: ms) S = (⟨n, (cutM Vc T.ps (kds B) S).1, (cutM Vc T.ps (kds B) S).2⟩ :: (billM T B ms (aftM Vc T.ps (kds B) S)).1, (billM T B ms (aftM Vc T.ps (kds B) S)).2) := by
 conv => lhs; unfold billM
 rw [e]
theorem kcq {T : TillD} {B : Bask} {n : Nat} {ms : List Nat} {S : Stnd} (e : T.vs[n]? = none) : billM T B (n :: ms) S = ([], S) := by
 conv => lhs; unfold billM
 rw [e]
theorem kib {T : TillD} {B : Bask} {ns : List Nat} {S : Stnd} {s : Step} {st : List Step} (h : (billM T B ns S).1 = s :: st) : ∃ (n : Nat) (ms : List Nat) (Vc : Vch), ns = n :: ms ∧ T.vs[n]? = some Vc ∧ s = ⟨n, (cutM Vc T.ps (kds B) S).1, (cutM Vc T.ps (kds B) S).2⟩ ∧ (billM T B ms (aftM Vc T.ps (kds B) S)).1 = st ∧ (billM T B ns S).2 = (billM T B ms (aftM Vc T.ps (kds B) S)).2 := by
 cases ns with
 | nil => cases h
 | cons n ms =>
  cases e : T.vs[n]? with
  | none => rw [kcq e] at h; cases h
  | some Vc =>
   rw [kcr e] at h ⊢
   injection h with h1 h2
   exact ⟨n, ms, Vc, rfl, e, h1.symm, h2, rfl⟩
theorem ki5 {T : TillD} {B : Bask} {ns : List Nat} {S : Stnd} (h : (billM T B ns S).1 = []) : (billM T B ns S).2 = S := by
 cases ns with
 | nil => rfl
 | cons n ms =>
  cases e : T.vs[n]? with
  | none => rw [kcq e]
  | some Vc => rw [kcr e] at h; cases h
noncomputable def kkD (d : D) : Sp := fun vs H Q _ => ∃ (b bl : Addr) (T : TillD) (B : Bask) (order : List Nat) (H0 : Hp), vs = [.ref b, .ref bl] ∧ BaskIs d.qe d.qi H b B ∧ kda T ∧ Wf T.ps B (stnd0 B) ∧ BillIs d H0 H bl (kcI T B order) ∧ ∀ H', Same H H' → Q (.bl true) H'
theorem qE : kas ["_law_basket_here", "_law_bill", "_law_prices_here", "_law_fee", "_law_number", "_law_pieces", "_law_cut"] ["_law_basket_here", "_law_bill"] (kab kaO) := ⟨rfl, rfl, rfl, by decide +kernel, rfl, by decide +kernel, by decide +kernel⟩
theorem kdp (W : WB K mg d base) : FnOk P w K mg base CX0 2 d.YH d.YI ["_law_basket_here", "_law_bill"] (kkD d) := by
 refine FunD.ok W.Qy.F qE (fun vs H Q E h => ?_) (fun cdv A outer s H vs Q E hr h => ?_)
 ·obtain ⟨b, bl, T, B, order, H0, rfl, _⟩ := h
  rfl
 ·obtain ⟨b, bl, T, B, order, H0, rfl, hB, tok, wf0, hBl, kk⟩ := h
  obtain ⟨l, ls, ⟨dxb, fsb, hb, lbl, lbc, lbm⟩, hl, hL⟩ := id hB
  obtain ⟨dx, fs, o, sp, pp, sa, hb1, h2, h3, h4, h5, h6, f1, f2, f3, f4, h7, h8, h9, h10⟩ := hBl
  have Xm := kcN (P := P) (w := w) (base := base) W
  refine ⟨_, kae (kav (i := 2) qE.nd rfl (Or.inl rfl) (kao Xm hr rfl W.qM.m W.qM.F.kp W.qM.b .nil pass0 (kaa (pv 0) kah)))
   (kae (kav (i := 3) qE.nd rfl (Or.inl rfl) (kap (pv 0) rfl))
   (kae (kbQ PassesOwn.never rfl (kbx (kap (pv 1) rfl)) (kcZ rfl (kaK (kau (i := 4) qE.nd rfl (Or.inl rfl)) (kaK (kau (i := 5) qE.nd rfl (Or.inl rfl)) (kaK (kau (i := 6) qE.nd rfl (Or.inl rfl)) kbR))))
   (kae (ps_if (PW.pt (pw_or (kay op_ne (kaQ ka6 (by rfl) W.B.len b_len (kaa (pv 5) kah)) (kaQ ka6 (by rfl) W.B.len b_len (kaa (pv 2) kah)) (kaF _)) (kfn (kfo (kgf op_le op_le kai (pv 6) (pv 3)))))) (kak (kat pe_bl)) (kaA))
   (kae (ps_if (kfo (kbF (kaQ (ki3 rfl) (by rfl) W.B.all b_all (kaa (kbT (N := ["_law_piece", "_law_price_here"]) (CompScope.plain rfl (by decide +kernel) (by decide +kernel) (by decide +kernel) (show (["_law_piece", "_law_price_here"] : List Str).Nodup by decide +kernel)) rfl (kdj rfl W.B.zip (kaa (pv 5) (kaa (pv 2) kah))) (fun _ _ _ _ => kdk (K := K) (n := 2) rfl (kaK (kau (i := 0) (show (["_law_piece", "_law_price_here"] : List Str).Nodup by decide +kernel) rfl (Or.inl rfl)) (kaK (kau (i := 1) (show (["_law_piece", "_law_price_here"] : List Str).Nodup by decide +kernel) rfl (Or.inl rfl)) kbR))) (fun _ _ _ _ => (kiE op_le op_le kai (pv 0) (pv 1)))) kah)))) (kak (kat pe_bl)) (kaA))
   (kae (keS (N := ["_law_price_here", "_law_piece"]) (CompScope.plain rfl (by decide +kernel) (by decide +kernel) (by decide +kernel) (show (["_law_price_here", "_law_piece"] : List Str).Nodup by decide +kernel)) rfl (kdj rfl W.B.zip (kaa (pv 2) (kaa (pv 5) kah))) (fun _ _ _ _ => kdk (K := K) (n := 2) rfl (kaK (kau (i := 0) (show (["_law_price_here", "_law_piece"] : List Str).Nodup by decide +kernel) rfl (Or.inl rfl)) (kaK (kau (i := 1) (show (["_law_price_here", "_law_piece"] : List Str).Nodup by decide +kernel) rfl (Or.inl rfl)) kbR))) (fun _ _ _ _ => (pe_op kd3 (pv 0) (pv 1))) (kau (i := 2) qE.nd rfl (Or.inl rfl)))
   (kak (kav (i := 3) qE.nd rfl (Or.inl rfl) (pe_op kd3 (pv 3) (pv 6))))))))
   (kak (kat (kjj (kbU (kkP hr.units0) (kap (pv 1) rfl) (pv 2) (kaF _)) (kjj (kbU op_eq (kap (pv 1) rfl) (pv 3) (kaF _)) (khp (kbU op_eq (kap (pv 1) rfl) (pe_op kaY (kaQ (kci rfl) (by rfl) W.B.sum b_sum (kaa (pv 2) kah)) (pv 3)) (kaF _))))))))), ?_⟩
  refine ⟨_, rfl, b, B, rfl, hB, wf0.nl, wf0.ok, fun H1 p0 s1 fp0 ep0 => ?_⟩
  refine ⟨_, rfl, b, d.qi, dxb, fsb, _, rfl, s1 _ _ hb, W.qi.cl, W.n_Basket_carriage, lbc, ?_⟩
  generalize eR : billM T B order (stnd0 B) = R at *
  have eS : (kcI T B order).steps = R.1 := by rw [← eR]; rfl
  rw [eS] at h9
  have lsa := h9.len
  refine ⟨_, rfl, bl, d.qf, dx, fs, _, rfl, s1 _ _ hb1, W.qf.cl, W.n_Bill_steps, h3, sp, rfl, ⟨_, SqL.of (s1 _ _ h8)⟩, kbW (xs := sa.map V.ref) (fun i σ H' => Same H H' ∧ ∃ (p : Addr) (S : Stnd) (v4 v5 v6 : Option V), Wf T.ps B S ∧ (billM T B (order.drop i) S).1 = R.1.drop i ∧ (billM T B (order.drop i) S).2 = R.2 ∧ H' p = some (.lst (S.pr.map V.int)) ∧ σ = [some (.ref b), some (.ref bl), some (.ref p), some (.int S.cg), v4, v5, v6])
   ⟨s1, p0, stnd0 B, none, none, none, wf0, by rw [Rh, Rh, eR], by rw [Rh, eR], ep0, rfl⟩ (fun i σ H' _ h => SqL.of (h.1 _ _ h8)) ?_ ?_⟩
  ·rintro i y σ H2 hy ⟨s2, p, S, v4, v5, v6, wf, w1, w2, ep, rfl⟩
   obtain ⟨a, ea, rfl⟩ := kb9 hy
   obtain ⟨s, es, _, lc, _, ha, hlc⟩ := h9.at ea
   have ed : R.1.drop i = s :: R.1.drop (i + 1) := by
    obtain ⟨z1, z2⟩ := FZ.mp es
    rw [Sr z1, z2]
   rw [ed] at w1
   obtain ⟨n, ms, Vc, e1, e2, e3, e4, e5⟩ := kib w1
   have ems : order.drop (i + 1) = ms := by
    have := congrArg List.tail e1
    rw [List.tail_drop] at this
    exact this
   have vo := tok.vs Vc (FV e2)
   have cl := kh5 (V := Vc) (ps := T.ps) (kk := kds B) wf.nn wf.cg.1 vo.so fun m e => (vo.ms.most m e).1
   rw [e5] at w2
   rw [← ems] at e4 w2
   have wfn := wf.after vo
   have ecs : s.cs = (cutM Vc T.ps (kds B) S).1 := by rw [e3]
   have ec : s.c = (cutM Vc T.ps (kds B) S).2 := by rw [e3]
   rw [ecs] at hlc
   rw [ec] at ha
   have l720 := wf.np
   have lpr := wf.lp
   have lcut := cl.1.1
   have emin : min ((cutM Vc T.ps (kds B) S).1.map V.int).length (S.pr.map V.int).length = S.pr.length := by rw [FJ, FJ, lcut, C8]
   have emin' : min (S.pr.map V.int).length ((cutM Vc T.ps (kds B) S).1.map V.int).length = S.pr.length := by rw [FJ, FJ, lcut, C8]
   refine ⟨a, _, rfl, SqT.of (s2 _ _ ha), rfl, _, _, rfl, _, _, rfl, _, _, rfl, rfl, ?_⟩
   refine ⟨_, rfl, lc, _, rfl, .inl (SqL.of (s2 _ _ hlc)), _, rfl, p, _, rfl, .inl (SqL.of ep), rfl, _, rfl, ?_⟩
   rw [show (!decide (V.int ((((cutM Vc T.ps (kds B) S).1.map V.int).length : Nat) : Int) = V.int (((S.pr.map V.int).length : Nat) : Int))) = false by rw [FJ, FJ, lcut]; simp]
   refine iteF ⟨_, rfl, _, _, rfl, rfl, _, rfl, ?_⟩
   rw [show decide ((0 : Int) ≤ (cutM Vc T.ps (kds B) S).2) = true from decide_eq_true cl.2.1]
   refine iteT ⟨_, rfl, _, _, rfl, rfl, _, rfl, ?_⟩
   rw [show decide ((cutM Vc T.ps (kds B) S).2 ≤ S.cg) = true from decide_eq_true cl.2.2]
   refine iteF ⟨_, rfl, _, rfl, lc, p, _, _, rfl, s2 _ _ hlc, ep, kdP (xs := (cutM Vc T.ps (kds B) S).1.map V.int) (ys := S.pr.map V.int) (fun i σ ws H' => Same H2 H' ∧ ws = (FO i true).map V.bl ∧ ∃ v0 v1 : Option V, σ = [v0, v1])
    ⟨Same.refl _, rfl, none, none, rfl⟩ (by rw [emin]; exact FY (kar (by omega))) (fun i σ ws H' hi h => ⟨h.1 _ _ (s2 _ _ hlc), h.1 _ _ ep, by rw [h.2.1]; simp⟩) ?_ ?_⟩
   ·rintro j y1 y2 t σ ws H' hy1 hy2 ⟨s3, rfl, v0, v1, rfl⟩ ht
    obtain ⟨z1, ez1, rfl⟩ := kbY hy1
    obtain ⟨z2, ez2, rfl⟩ := kbY hy2
    have hz := cl.1.2 j z1 z2 ez1 ez2
    refine ⟨t, _, rfl, SqT.of kad, rfl, _, _, rfl, _, _, rfl, rfl, _, rfl, _, _, rfl, rfl, _, rfl, ?_⟩
    rw [show decide ((0 : Int) ≤ z1) = true from decide_eq_true hz.1]
    refine iteT ⟨_, rfl, _, _, rfl, rfl, s3.trans (kaj ht), ?_, _, _, rfl⟩
    show _ ++ [V.bl (decide (z1 ≤ z2))] = _
    rw [show decide (z1 ≤ z2) = true from decide_eq_true hz.2, RQ, FX]
    rfl
   ·rintro σ ws H3 ⟨s3, rfl, v0, v1, rfl⟩ D hD
    rw [emin]
    refine ⟨D, FO S.pr.length true, rfl, SqL.of kad, ?_⟩
    rw [show (FO S.pr.length true).all id = true by simp]
    have n4 := kaj (o := .lst ((FO S.pr.length true).map V.bl)) hD
    have s4 := (s2.trans s3).trans n4
    generalize upd H3 D (.lst ((FO S.pr.length true).map V.bl)) = H4 at *
    have ep4 := (s3.trans n4) _ _ ep
    refine ⟨_, rfl, iteF ⟨_, rfl, _, rfl, p, lc, _, _, rfl, ep4, s4 _ _ hlc, kdP (xs := S.pr.map V.int) (ys := (cutM Vc T.ps (kds B) S).1.map V.int) (fun i σ zs H' => Same H4 H' ∧ zs = ((Cp (· - ·) S.pr (cutM Vc T.ps (kds B) S).1).take i).map V.int ∧ ∃ v0 v1 : Option V, σ = [v0, v1])
     ⟨Same.refl _, rfl, none, none, rfl⟩ (by rw [emin']; exact FY (kar (by omega))) (fun i σ zs H' hi h => ⟨h.1 _ _ ep4, h.1 _ _ (s4 _ _ hlc), by rw [h.2.1, FJ, F2, Ri, lcut]; rw [emin'] at hi; omega⟩) ?_ ?_⟩⟩
    ·rintro j y1 y2 t σ zs H5 hy1 hy2 ⟨s5, rfl, v0, v1, rfl⟩ ht
     obtain ⟨z1, ez1, rfl⟩ := kbY hy1
     obtain ⟨z2, ez2, rfl⟩ := kbY hy2
     refine ⟨t, _, rfl, SqT.of kad, rfl, _, _, rfl, _, _, rfl, rfl, _, rfl, _, rfl, _, _, rfl, rfl, s5.trans (kaj ht), ?_, _, _, rfl⟩
     rw [kbL (r := z1 - z2) (by rw [Rr, ez1, ez2]), FX]
     rfl
    ·rintro σ zs H5 ⟨s5, rfl, v0, v1, rfl⟩ q hq
     rw [emin', Cz (by rw [Ri, lcut]; omega)]
     refine ⟨_, rfl, _, rfl, _, _, rfl, rfl, (s4.trans s5).trans (kaj hq), q, aftM Vc T.ps (kds B) S, _, _, _, wfn, e4, w2, kad, rfl⟩
  ·rintro σ H2 ⟨s2, p, S, v4, v5, v6, wf, w1, w2, ep, rfl⟩
   rw [FJ, lsa, Ss] at w1
   have eE := ki5 w1
   rw [FJ, lsa] at w2
   rw [w2] at eE
   have eP : (kcI T B order).pr = S.pr := by rw [← eE, ← eR]; rfl
   have eC : (kcI T B order).cg = S.cg := by rw [← eE, ← eR]; rfl
   have eT : (kcI T B order).total = S.pr.sum + S.cg := by rw [← eE, ← eR]; rfl
   rw [eP] at h10
   rw [eC] at h5
   rw [eT] at h6
   refine ⟨_, rfl, bl, d.qf, dx, fs, _, rfl, s2 _ _ hb1, W.qf.cl, W.n_Bill_prices, h4, _, rfl, pp, p, _, _, rfl, rfl, SqL.of (s2 _ _ h10), SqL.of ep, ke7 _, ke7 _, ?_⟩
   rw [kei (ke7 _)]
   refine ⟨true, rfl, iteT ⟨_, rfl, bl, d.qf, dx, fs, _, rfl, s2 _ _ hb1, W.qf.cl, W.n_Bill_carriage, h5, _, rfl, rfl, _, rfl, ?_⟩⟩
   rw [show decide (V.int S.cg = V.int S.cg) = true by simp]
   refine iteT ⟨_, rfl, bl, d.qf, dx, fs, _, rfl, s2 _ _ hb1, W.qf.cl, W.n_Bill_total, h6, _, rfl, p, _, rfl, SqL.of ep, _, rfl, _, _, rfl, rfl, rfl, ?_⟩
   show Q (V.bl (decide (V.int (S.pr.sum + S.cg) = V.int (S.pr.sum + S.cg)))) H2
   rw [show decide (V.int (S.pr.sum + S.cg) = V.int (S.pr.sum + S.cg)) = true by simp]
   exact kk H2 s2
theorem kih {α β : Type} {R : α → β → Prop} : ∀ {as : List α} {bs : List β} (k : Nat), P2 R as bs → P2 R (as.take k) (bs.take k)
 | _, _, 0, _ => by rw [RT, RT]; exact .nil
 | _, _, k + 1, .nil => by rw [C1, C1]; exact .nil
 | _, _, k + 1, .cons r t => by rw [Rk, Rk]; exact .cons r (kih k t)
theorem keH {T : TillD} {B : Bask} : ∀ (ns : List Nat) (k : Nat) (S : Stnd), (billM T B (ns.take k) S).1 = (billM T B ns S).1.take k
 | [], k, S => by rw [C1]; show ([] : List Step) = List.take k []; rw [C1]
 | n :: ms, 0, S => by rw [RT, RT]; rfl
 | n :: ms, k + 1, S => by
  rw [Rk]
  cases e : T.vs[n]? with
  | none => rw [kcq e, kcq e, C1]
  | some Vc => rw [kcr e, kcr e, Rk, keH ms k]
noncomputable def totS (S : Stnd) : Int := S.pr.sum + S.cg
theorem kfK {T : TillD} {B : Bask} (tok : kda T) : ∀ (ns : List Nat) (S : Stnd), Wf T.ps B S → totS (billM T B ns S).2 ≤ totS S
 | [], S, _ => Int.le_refl _
 | n :: ms, S, wf => by
  cases e : T.vs[n]? with
  | none => rw [kcq e]; exact Int.le_refl _
  | some Vc =>
   have vo := tok.vs Vc (FV e)
   rw [kcr e]
   have h1 := kfK tok ms _ (wf.after vo)
   have h2 := kjx (V := Vc) (ps := T.ps) (kk := kds B) wf.nn wf.cg.1 vo.so fun m e => (vo.ms.most m e).1
   have h3 := h2.1.sum.2
   have h4 := h2.2.2
   show totS (billM T B ms (aftM Vc T.ps (kds B) S)).2 ≤ totS S
   refine Int.le_trans h1 ?_
   unfold totS
   omega
theorem kfL {T : TillD} {B : Bask} (tok : kda T) : ∀ (ns : List Nat) (j k : Nat) (S : Stnd), j ≤ k → Wf T.ps B S → totS (billM T B (ns.take k) S).2 ≤ totS (billM T B (ns.take j) S).2
 | [], j, k, S, _, _ => by rw [C1, C1]; exact Int.le_refl _
 | n :: ms, 0, k, S, _, wf => kfK tok _ S wf
 | n :: ms, j + 1, 0, S, h, _ => absurd h (by omega)
 | n :: ms, j + 1, k + 1, S, h, wf => by
  rw [Rk, Rk]
  cases e : T.vs[n]? with
  | none => rw [kcq e, kcq e]; exact Int.le_refl _
  | some Vc =>
   rw [kcr e, kcr e]
   exact kfL tok ms j k _ (by omega) (wf.after (tok.vs Vc (FV e)))
theorem qu : kas ["_law_script", "_law_parents_here", "_law_basket_here", "_law_till_here", "_law_hand_here", "_law_turn", "_law_order_here", "_law_bill", "_law_upto", "_law_many", "_law_part"] ["_law_script"] (kab s_law) := ⟨rfl, rfl, rfl, by decide +kernel, rfl, by decide +kernel, by decide +kernel⟩
theorem kkQ (W : WB K mg d base) : FnOk P w K mg base CX0 11 d.f_law d.YJ ["_law_script"] (kff K d.tP_falling_groups) := by
 refine FunD.ok W.d_law.F qu (fun vs H Q E h => ?_) (fun cdv A outer s H vs Q E hr h => ?_)
 ·obtain ⟨a, ns, rfl, _⟩ := h
  rfl
 ·obtain ⟨a, ns, rfl, hS, hn, htb0, k⟩ := h
  have Vm := kd9 (P := P) (w := w) (base := base) W
  have Vn := ket (P := P) (w := w) (base := base) W
  have Vo := kfr (P := P) (w := w) (base := base) W
  have Vp := kfs (P := P) (w := w) (base := base) W
  have Vq := keZ (P := P) (w := w) (base := base) W
  have Zg := khv (P := P) (w := w) (base := base) W
  have Xm := kcN (P := P) (w := w) (base := base) W
  have qP := kdN (P := P) (w := w) (base := base) W
  have Vr := kdp (P := P) (w := w) (base := base) W
  have hr1 : Room 1 _ := hr.mono (by decide)
  have hr2 : Room 2 _ := hr.mono (by decide)
  have hr3 : Room 3 _ := hr.mono (by decide)
  have hr4 : Room 4 _ := hr.mono (by decide)
  have hr7 : Room 7 _ := hr.mono (by decide)
  have hr8 : Room 8 _ := hr.mono (by decide)
  have hr9 : Room 9 _ := hr.mono (by decide)
  refine ⟨_, kae (kav (i := 1) qu.nd rfl (Or.inl rfl) (kao Vm hr3 rfl W.Qo.m W.Qo.F.kp W.Qo.b .nil pass0 (kaa (pv 0) kah)))
   (kae (kav (i := 2) qu.nd rfl (Or.inl rfl) (kao Vn hr4 rfl W.Qp.m W.Qp.F.kp W.Qp.b .nil pass0 (kaa (pv 0) (kaa (kaQ ka6 (by rfl) W.B.len b_len (kaa (pv 1) kah)) kah))))
   (kae (kav (i := 3) qu.nd rfl (Or.inl rfl) (kao Vo hr7 rfl W.Qu.m W.Qu.F.kp W.Qu.b .nil pass0 (kaa (pv 0) (kaa (pv 1) (kaa (pv 2) (kaa kb7 kah))))))
   (kae (kav (i := 4) qu.nd rfl (Or.inl rfl) (kao Vp hr3 rfl W.Qv.m W.Qv.F.kp W.Qv.b .nil pass0 (kaa (pv 0) (kaa (kaQ ka6 (by rfl) W.B.len b_len (kaa (kap (pv 3) rfl) kah)) kah))))
   (kae (kbQ PassesOwn.never rfl (kbX rfl W.B.range (kaa kai kah)) (kau (i := 5) qu.nd rfl (Or.inl rfl))
   (kae (kav (i := 6) qu.nd rfl (Or.inl rfl) (kao Vq hr rfl W.Qx.m W.Qx.F.kp W.Qx.b .nil pass0 (kaa (pv 0) (kaa (pe_op kaY kai (pe_op kca kai (pv 5))) (kaa (pv 3) (kaa (pv 2) (kaa (pv 4) kah)))))))
   (kae (kav (i := 7) qu.nd rfl (Or.inl rfl) (kao Zg hr9 rfl W.qL.m W.qL.F.kp W.qL.b .nil pass0 (kaa (pv 3) (kaa (pv 2) (kaa (pv 4) (kaa (pv 6) kah))))))
   (kae (kav (i := 8) qu.nd rfl (Or.inl rfl) (pe_op kaY (kaQ (kci rfl) (by rfl) W.B.sum b_sum (kaa (kao Xm hr1 rfl W.qM.m W.qM.F.kp W.qM.b .nil pass0 (kaa (pv 2) kah)) kah)) (kap (pv 2) rfl)))
   (kak (kbQ PassesOwn.never rfl (kbX rfl W.B.range (kaa (pe_op kaY (kaQ ka6 (by rfl) W.B.len b_len (kaa (pv 6) kah)) kai) kah)) (kau (i := 9) qu.nd rfl (Or.inl rfl))
   (kak (ps_if (kay kez (kao qP hr8 rfl W.qq.m W.qq.F.kp W.qq.b .nil pass0 (kaa (pv 3) (kaa (pv 2) (kaa (pv 4) (kaa (kcK kde (pv 6) kdW (kcT (pv 9))) kah))))) kbC (kaF _)) (kae (kav (i := 10) qu.nd rfl (Or.inl rfl) (kao Zg hr9 rfl W.qL.m W.qL.F.kp W.qL.b .nil pass0 (kaa (pv 3) (kaa (pv 2) (kaa (pv 4) (kaa (kcK kde (pv 6) kdW (kcT (pv 9))) kah))))))
   (kae (ps_if (PW.pt (pw_or (kay (kkN hr.units0) (kap (pv 10) rfl) (kcK kde (pv 6) kdW (kcT (pv 9))) (kaF _)) (pw_or (kay (kkO hr.units) (kap (pv 10) rfl) (kcK kde (kap (pv 7) rfl) kdW (kcT (pv 9))) (kaF _)) (kfn (kfo (kbF (kao Vr hr2 rfl W.Qy.m W.Qy.F.kp W.Qy.b .nil pass0 (kaa (pv 2) (kaa (pv 10) kah))))))))) (kak (kat pe_bl)) (kaA))
   (kae (ps_if (PW.pt (pw_or (kay op_gt (kap (pv 10) rfl) (pv 8) (kaF _)) (kfn (PW.pt (kb6 (kay op_eq (pv 9) kai (kaF _)) (kbS (kay op_ne (kap (pv 10) rfl) (pv 8) (kaF _)))))))) (kak (kat pe_bl)) (kaA))
   (kak (kav (i := 8) qu.nd rfl (Or.inl rfl) (kap (pv 10) rfl)))))) (kaA)))))))))
   (kak (kat pe_bl)))))), ?_⟩
  refine ⟨_, rfl, a, ns, rfl, hS, fun H1 p ps s1 f1 hp hg hl20 hl0 => ?_⟩
  refine ⟨_, rfl, _, rfl, p, _, rfl, .inl (SqL.of hp), a, ns, ps.length, (by rw [FJ]; rfl), s1.seq hS, hl0, fun H2 b B s2 f2 hb hB12 hBok hBkd hBc hB64 => ?_⟩
  have wf0 := Wf.start hg hl20 hBkd hBok hB12 hBc hB64
  have s02 := s1.trans s2
  refine ⟨_, rfl, _, rfl, _, rfl, a, p, b, ns, ps, B, _, rfl, s02.seq hS, s2 _ _ hp, hl0, hb, hB12, hBok, Tbs.same s02 htb0, fun H3 t vs rs s3 f3 hT tok hv0 => ?_⟩
  have s03 := s02.trans s3
  obtain ⟨dxt, fst, tp, vl, rl, va, ra, ht, t1, t2, t3, t4, htp, hvl, hva, hrl, hra⟩ := id hT
  have lva := hva.len
  have lvs : vs.length ≤ 8 := tok.nv
  refine ⟨_, rfl, _, rfl, t, d.qg, dxt, fst, _, rfl, ht, W.qg.cl, W.n_Till_vouchers, t2, vl, _, rfl, .inl (SqL.of hvl), a, ns, vs.length, (by rw [FJ, lva]; rfl), s03.seq hS, lvs, fun H4 h hand s4 f4 hh hhl => ?_⟩
  have s04 := s03.trans s4
  generalize eT : (⟨ps, vs, rs, _⟩ : TillD) = T at *
  have eps : ps = T.ps := by rw [← eT]
  have evs : vs = T.vs := by rw [← eT]
  subst eps evs
  have hT4 := hT.same s4
  have hb4 := (hb.same s3).same s4
  refine ⟨_, rfl, by decide, by decide, kcn (fun i σ H' => Same H4 H' ∧ ∃ v5 v6 v7 v8 v9 v10 : Option V, σ = [some (.ref a), some (.ref p), some (.ref b), some (.ref t), some (.ref h), v5, v6, v7, v8, v9, v10])
   ⟨Same.refl _, none, none, none, none, none, none, rfl⟩ ?_ ?_⟩
  ·rintro i σ Hi hi ⟨sI, v5, v6, v7, v8, v9, v10, rfl⟩
   have hi3 : i < 2 := hi
   rw [Int.zero_add]
   have s0i := s04.trans sI
   refine ⟨_, rfl, _, rfl, _, _, rfl, rfl, .inl ⟨by decide, by decide⟩, _, _, rfl, rfl, _, rfl, _, rfl, _, rfl, a, t, b, h, ns, 8 + 8 * (i : Int), T, B, hand, rfl, s0i.seq hS, ⟨by omega, by omega⟩, hT4.same sI, tok, hv0, hb4.same sI, wf0, sI _ _ hh, hhl, fun H6 o order s6 fo eo hlt h8 hfn => ?_⟩
   have sI6 := sI.trans s6
   refine ⟨_, rfl, _, rfl, _, rfl, _, rfl, t, b, h, o, T, B, hand, order, rfl, hT4.same sI6, tok, hb4.same sI6, wf0, sI6 _ _ hh, eo, hhl, hlt, by omega, hfn, fun H0 H7 bl z0 z7 hBl => ?_⟩
   have s7 := sI6.trans (z0.trans z7)
   have eo7 := (z0.trans z7) _ _ eo
   refine ⟨_, rfl, b, B, rfl, hb4.same s7, wf0.nl, wf0.ok, fun H8 p8 s8 fp8 ep8 => ?_⟩
   have s78 := s7.trans s8
   obtain ⟨l, ls, ⟨dxb, fsb, hbb, lbl, lbc, lbm⟩, hl, hL⟩ := id (hb4.same s78)
   have eo8 := s8 _ _ eo7
   have hBl8 := hBl.same s8
   have lo : (order.map iV).length = order.length := FJ _
   refine ⟨p8, _, rfl, SqL.of ep8, _, rfl, b, d.qi, dxb, fsb, _, rfl, hbb, W.qi.cl, W.n_Basket_carriage, lbc, _, _, rfl, rfl, ?_⟩
   refine ⟨_, rfl, o, _, rfl, .inl (SqL.of eo8), _, _, rfl, rfl, _, rfl, by omega, by omega, kcn (fun j σ H' => Same H8 H' ∧ ∃ (u : Nat) (v9 v10 : Option V), (u < j ∨ (u = 0 ∧ j = 0)) ∧ σ = [some (.ref a), some (.ref p), some (.ref b), some (.ref t), some (.ref h), some (.int (i : Int)), some (.ref o), some (.ref bl), some (.int (totS (billM T B (order.take u) (stnd0 B)).2)), v9, v10])
    ⟨Same.refl _, 0, v9, v10, .inr ⟨rfl, rfl⟩, rfl⟩ ?_ ?_⟩
   ·rintro j σ Hj hj ⟨sJ, u, v9, v10, hu, rfl⟩
    have hjl : j ≤ order.length := by
     have h0 : (j : Nat) < (((order.map iV).length : Nat) + 1 : Int).toNat := by simpa using hj
     omega
    have s7J := s78.trans sJ
    have eoJ := sJ _ _ eo8
    have hlt' : ∀ n ∈ order.take j, n < T.vs.length := fun n hn => hlt n (Rj hn)
    have h64' : (order.take j).length < 64 := by rw [F2]; omega
    rw [Int.zero_add]
    refine ⟨_, rfl, _, rfl, _, rfl, _, rfl, _, rfl, _, rfl, o, _, rfl, SqL.of eoJ, fun p1 fp1 => ?_⟩
    rw [kfB, ← C0]
    have n1 := kaj (o := .lst ((order.take j).map iV)) fp1
    have e1 : (upd Hj p1 (.lst ((order.take j).map iV))) p1 = some (.lst ((order.take j).map iV)) := kad
    generalize upd Hj p1 (.lst ((order.take j).map iV)) = Hk at *
    have s7k := s7J.trans n1
    refine ⟨t, b, h, p1, T, B, hand, order.take j, rfl, hT4.same s7k, tok, hb4.same s7k, wf0, s7k _ _ hh, e1, hhl, hlt', h64', fun H9 v s9 hf => ?_⟩
    have sJ9 := (sJ.trans n1).trans s9
    have s79 := s7k.trans s9
    cases ef : kcF T B hand (order.take j) with
    | some kz =>
     rw [ef] at hf
     obtain ⟨kp, z⟩ := kz
     obtain ⟨x, rfl, hx⟩ := hf
     refine ⟨rfl, _, rfl, ?_⟩
     exact iteF ⟨sJ9, u, _, _, by omega, rfl⟩
    | none =>
     rw [ef] at hf
     cases hf
     refine ⟨rfl, _, rfl, ?_⟩
     refine iteT ?_
     refine ⟨_, rfl, _, rfl, _, rfl, _, rfl, _, rfl, _, rfl, o, _, rfl, SqL.of (sJ9 _ _ eo8), fun p2 fp2 => ?_⟩
     rw [kfB, ← C0]
     have n2 := kaj (o := .lst ((order.take j).map iV)) fp2
     have e2 : (upd H9 p2 (.lst ((order.take j).map iV))) p2 = some (.lst ((order.take j).map iV)) := kad
     generalize upd H9 p2 (.lst ((order.take j).map iV)) = H10 at *
     have s710 := s79.trans n2
     refine ⟨t, b, h, p2, T, B, hand, order.take j, rfl, hT4.same s710, tok, hb4.same s710, wf0, s710 _ _ hh, e2, hhl, hlt', h64', ef, fun H0' H11 bl2 y0 y11 hBl2 => ?_⟩
     have sJ11 := (sJ9.trans n2).trans (y0.trans y11)
     have s711 := s78.trans sJ11
     obtain ⟨dx2, fs2, o2, sp2, pp2, sa2, g1, g2, g3, g4, g5, g6, _, _, _, _, g7, g8, g9, g10⟩ := id hBl2
     obtain ⟨dx1, fs1, o1, sp1, pp1, sa1, k1, k2, k3, k4, k5, k6, _, _, _, _, k7, k8, k9, k10⟩ := id (hBl8.same sJ11)
     refine ⟨_, rfl, bl2, d.qf, dx2, fs2, _, rfl, g1, W.qf.cl, W.n_Bill_order, g2, _, rfl, _, rfl, _, rfl, o, _, rfl, SqL.of (sJ11 _ _ eo8), fun p3 fp3 => ?_⟩
     rw [kfB, ← C0]
     have n3 := kaj (o := .lst ((order.take j).map iV)) fp3
     have e3 : (upd H11 p3 (.lst ((order.take j).map iV))) p3 = some (.lst ((order.take j).map iV)) := kad
     generalize upd H11 p3 (.lst ((order.take j).map iV)) = H12 at *
     have g7' : H11 o2 = some (.lst ((order.take j).map iV)) := g7
     refine ⟨o2, p3, _, _, rfl, rfl, SqL.of (n3 _ _ g7'), SqL.of e3, kcl _, kcl _, _, rfl, ?_⟩
     rw [kei (kcl _)]
     refine iteF ?_
     have sJ12 := sJ11.trans n3
     refine ⟨_, rfl, bl2, d.qf, dx2, fs2, _, rfl, n3 _ _ g1, W.qf.cl, W.n_Bill_steps, g3, _, rfl, bl, d.qf, dx1, fs1, _, rfl, n3 _ _ k1, W.qf.cl, W.n_Bill_steps, k3, _, rfl, _, rfl, sp1, _, rfl, SqL.of (n3 _ _ k8), fun p4 fp4 => ?_⟩
     rw [kfB, ← C0]
     have n4 := kaj (o := .lst ((sa1.take j).map V.ref)) fp4
     have e4 : (upd H12 p4 (.lst ((sa1.take j).map V.ref))) p4 = some (.lst ((sa1.take j).map V.ref)) := kad
     generalize upd H12 p4 (.lst ((sa1.take j).map V.ref)) = H13 at *
     have n34 := n3.trans n4
     have eSt : (kcI T B (order.take j)).steps = (kcI T B order).steps.take j := keH order j _
     have g9' : P2 (fun a t => StepIs H13 a t) sa2 ((kcI T B order).steps.take j) := by
      rw [← eSt]
      exact g9.mono fun a t ⟨_, l, _, q1, q2⟩ => ⟨l, n34 _ _ q1, n34 _ _ q2⟩
     have k9' : P2 (fun a t => StepIs H13 a t) (sa1.take j) ((kcI T B order).steps.take j) := kih j (k9.mono fun a t ⟨_, l, _, q1, q2⟩ => ⟨l, n34 _ _ q1, n34 _ _ q2⟩)
     have l2' := g9'.len
     have l1' := k9'.len
     refine ⟨sp2, p4, _, _, rfl, rfl, .inl ⟨SqL.of (n34 _ _ g8), SqL.of e4⟩, by rw [FJ, FJ, l1', l2'], fun m x y ex ey => ?_, ?_⟩
     ·obtain ⟨a1, ea1, rfl⟩ := kb9 ex
      obtain ⟨a2, ea2, rfl⟩ := kb9 ey
      obtain ⟨st, es, lx, q1, q2⟩ := g9'.at ea1
      obtain ⟨st', es', ly, q3, q4⟩ := k9'.at ea2
      rw [es] at es'
      cases es'
      refine .tup (SqT.of q1) (SqT.of q3) rfl fun m x y ex ey => ?_
      match m, ex, ey with
      | 0, ex, ey => cases ex; cases ey; exact .int _
      | 1, ex, ey => cases ex; cases ey; exact .flats (SqL.of q2) (SqL.of q4) (ke7 _)
      | 2, ex, ey => cases ex; cases ey; exact .int _
      | m + 3, ex, ey => cases ex
     have s713 := s711.trans n34
     refine ⟨_, rfl, iteF ?_⟩
     refine ⟨_, rfl, _, rfl, b, bl2, T, B, order.take j, H0', rfl, hb4.same s713, tok, wf0, hBl2.same n34, fun H14 s14 => ⟨_, rfl, iteF ?_⟩⟩
     have n14 := n34.trans s14
     have hd := kfL tok order u j (stnd0 B) (by omega) wf0
     have g6' : fs2.lookup ("total" : Str) = some (V.int (totS (billM T B (order.take j) (stnd0 B)).2)) := g6
     refine ⟨_, rfl, bl2, d.qf, dx2, fs2, _, rfl, n14 _ _ g1, W.qf.cl, W.n_Bill_total, g6', _, rfl, _, _, rfl, rfl, _, rfl, ?_⟩
     rw [show decide (totS (billM T B (order.take j) (stnd0 B)).2 > totS (billM T B (order.take u) (stnd0 B)).2) = false from decide_eq_false (by omega)]
     refine iteF ⟨_, rfl, rfl, _, rfl, ?_⟩
     by_cases hj0 : j = 0
     ·subst hj0
      have hu0 : u = 0 := by omega
      subst hu0
      rw [show decide (V.int ((0 : Nat) : Int) = V.int 0) = true from rfl]
      refine iteT ⟨_, rfl, bl2, d.qf, dx2, fs2, _, rfl, n14 _ _ g1, W.qf.cl, W.n_Bill_total, g6', _, rfl, rfl, _, rfl, ?_⟩
      rw [show (!decide (V.int (totS (billM T B (order.take 0) (stnd0 B)).2) = V.int (totS (billM T B (order.take 0) (stnd0 B)).2))) = false by simp]
      exact iteF ⟨_, rfl, bl2, d.qf, dx2, fs2, _, rfl, n14 _ _ g1, W.qf.cl, W.n_Bill_total, g6', sJ11.trans n14, 0, _, _, .inl (by omega), rfl⟩
     ·rw [show decide (V.int (j : Int) = V.int 0) = false from decide_eq_false (by intro z; injection z with z; omega)]
      exact iteF (iteF ⟨_, rfl, bl2, d.qf, dx2, fs2, _, rfl, n14 _ _ g1, W.qf.cl, W.n_Bill_total, g6', sJ11.trans n14, j, _, _, .inl (by omega), rfl⟩)
   ·rintro σ Hj ⟨sJ, u, v9, v10, hu, rfl⟩
    exact ⟨s78.trans sJ, _, _, _, _, _, _, rfl⟩
  ·rintro σ Hi ⟨sI, v5, v6, v7, v8, v9, v10, rfl⟩
   exact k _
end
end Vs
namespace Vs
open PySem L2
theorem ln0 {C : List Value → Prop} (k : C []) : ∀ us : List Value, us.length = 0 → C us := fun us h => by
  cases us with
  | nil => exact k
  | cons a us => cases h
theorem lnS {C : List Value → Prop} {n : Nat} (k : ∀ (a : Value) (us : List Value), us.length = n → C (a :: us)) : ∀ us : List Value, us.length = n + 1 → C us := fun us h => by
  cases us with
  | nil => cases h
  | cons a us => exact k a us (Nat.succ.inj h)
theorem nL1 {C : List Value → Prop} (k : ∀ a0 : Value, C [a0]) : ∀ us : List Value, us.length = 1 → C us := lnS fun a0 => ln0 (k a0)
theorem nL2 {C : List Value → Prop} (k : ∀ a0 a1 : Value, C [a0, a1]) : ∀ us : List Value, us.length = 2 → C us := lnS fun a0 => lnS fun a1 => ln0 (k a0 a1)
theorem nL3 {C : List Value → Prop} (k : ∀ a0 a1 a2 : Value, C [a0, a1, a2]) : ∀ us : List Value, us.length = 3 → C us := lnS fun a0 => lnS fun a1 => lnS fun a2 => ln0 (k a0 a1 a2)
theorem nL4 {C : List Value → Prop} (k : ∀ a0 a1 a2 a3 : Value, C [a0, a1, a2, a3]) : ∀ us : List Value, us.length = 4 → C us := lnS fun a0 => lnS fun a1 => lnS fun a2 => lnS fun a3 => ln0 (k a0 a1 a2 a3)
theorem nL5 {C : List Value → Prop} (k : ∀ a0 a1 a2 a3 a4 : Value, C [a0, a1, a2, a3, a4]) : ∀ us : List Value, us.length = 5 → C us := lnS fun a0 => lnS fun a1 => lnS fun a2 => lnS fun a3 => lnS fun a4 => ln0 (k a0 a1 a2 a3 a4)
theorem nL6 {C : List Value → Prop} (k : ∀ a0 a1 a2 a3 a4 a5 : Value, C [a0, a1, a2, a3, a4, a5]) : ∀ us : List Value, us.length = 6 → C us := lnS fun a0 => lnS fun a1 => lnS fun a2 => lnS fun a3 => lnS fun a4 => lnS fun a5 => ln0 (k a0 a1 a2 a3 a4 a5)
theorem nL7 {C : List Value → Prop} (k : ∀ a0 a1 a2 a3 a4 a5 a6 : Value, C [a0, a1, a2, a3, a4, a5, a6]) : ∀ us : List Value, us.length = 7 → C us := lnS fun a0 => lnS fun a1 => lnS fun a2 => lnS fun a3 => lnS fun a4 => lnS fun a5 => lnS fun a6 => ln0 (k a0 a1 a2 a3 a4 a5 a6)
theorem all_mk {l : PySem.W.OpenLaw} {w : World} {K : FK} {h : Heap} {mg : Str → Option Value} {fa zfp zeb z27 zga zls z8p zlt zfi z2d z1t z5o z2g z25 z2z z8k z2x zbe zf7 zc1 z31 z3s z3w z1p zc3 z3t z8n z7h z3y z56 z66 z7f z3r z7g z7m z8l z8m z77 z7a z69 z2k zn9 zk z3l zl zg zz z22 zr z7u z7s ze z3m z23 za z1h z1m zc z2r z2s zb z1n z1k zv z5q z5s zj z2u z1l zd z1f z19 zx z7t z1y z3p z1j zs z59 zw z5m z54 zt zi : Addr} {zw7 zgr zvw zhj zcx z4q zwh ziu zwy zmh zom zam zxh zo6 zwr zi3 zct z4i zc6 z3j zkb z85 zd8 z4k zcs z4e zf4 z5f zp8 zaz zey z5j zua zbw zw4 zio zva zcl zel z5y zja z6c zht z6s zcc z3c zv9 zdi zha z6j zpq zb5 zo4 z90 zhf z70 zl4 z8a zjk z8e zns z95 zgj z73 zmk z9m zmt za2 zpx zal zq5 zah zmx z97 zm0 z8x zlk z8d zda z4g zzm zsw zo8 zn znn zhc z37 ziv zsx z8s zt9 zm3 z2q zod ze2 z2o zew zke z3x zkj zfu z2f zg7 zq1 z7e zpt zk2 z1z zjn zg0 z5c zd4 z4h zsu zbd zh0 z72 znj z94 zf8 z62 zqc zaj zqt z7r zqp zc7 : Option Addr} {zvm zws zdn zwj zwt zpy zxl zvq zdl zc8 zle zci zdt zff zqv zec zu7 zwb zv1 zfm zh9 zge zcb zuy zi7 zqm zny zij zlc zl5 zmg zhl zo3 zn1 zqf zp2 znw zma zl8 zdj zzk zo2 zmv zgl zj3 zsc ztq zo7 znd ze5 zez zkn zjy zev ze1 zq6 zpd zk0 zkr zg1 zdg zsl zin zms zf3 zqi zqk zpu zc5 : Array (Option Value)} {zvn zhe zj1 zj7 zc0 zj2 zvx zic zj4 zgx zby zgk zdp z44 z4a z4f z1u z4d zwq zi8 zi0 zii zc4 zhu zww znb zn3 zlv zf2 zmo zp0 zao zag zb1 z7d zb3 zxs zm2 znf zng zf0 zmq zvl zh5 zgp zih zc2 zig zck z4p z4v z4j z1o z46 zca z3e z3b z3k z1d z3g zlq z81 z8c z7z z3v z84 zdw z4s z4r z4u z1r z4c zdo z4n z4y z4l zu z47 ze7 z5e z64 z5x z2j z63 zr5 zak zan zav z78 zb6 zfd z6a z5r z50 z26 z5l zub zbt zbv zbs zaa zbu zwc ziw zgz zj8 zbz zhx zvf zd6 zdh ze0 zbi zdf zfl z5i z60 z57 z2b z5p zj0 z71 z6o z6b z35 z6m zit z6x z6l z6v z38 z6y zc9 z3h z3d z3i z1e z3f zus zcv zde zcr zbh zcj zho z6u z6t z6r z30 z6z zqz zax zap zas z7q zb2 zmf z99 z9f z9w z5b z9s zi2 z6h z6d z74 z32 z6p zji z83 z7y z89 z43 z8f zjh z7x z87 z8b z3q z86 zni z92 z9k z9a z61 z8u zgq z6q z6k z6g z39 z6w zmb z9u z8t z9r z5d z93 zo9 za1 z9p z96 z5h z9e zos zau zat zb4 z7l zb0 zq0 zay zaf zar z7p zad zn7 z9o z9d z9g z52 z9b znq za0 z98 za5 z58 z9j zk4 z80 z8g z88 z42 z82 zcn z4m z4w z48 z1q z4o zzo zs0 zrc zro zlu ztm zm5 zm zq zp zh zo zm4 zia z34 z3a z36 z1i z33 zgm zrw z8q z8i z8j z55 z8r zto zmd z2w z2p z2v z1g z2t znk zek z2e z2m z24 z1a z2l zed zkc z3z z3u z41 z1w z40 zkt zeh z2h z29 z2c z1b z28 zeq zpi z76 z79 z7o z3n z7k zp7 zlb z1x z21 z20 zy z1v zjt zfk z65 z67 z5n z2n z5v zcg z45 z49 z4x z1s z4b zrx zbg zbc zbj z8o zbf zhd z6n z6f z6i z2y z75 zo5 z9l z91 z8z z5t z9x zet z5k z5a z4z z2i z53 zpn zaw zac zae z7c zaq zpr z7i z7b z7n z3o z7j zr2 z8h : Value} {zlw z2a zib zs4 zn0 zfg zll zes zog zkx z4t zov z6e z9v z9n za6 : Nat} {zf : Array Value} {za3 : Str} {z9t z9y : Int} {z9q : Bool} {ts : List Addr} (X : K.In h) (G : h.Ns mainGlobals mg) (hfa : mg "law" = some (.ref fa))
  (zyf : FP K mainGlobals "dealt" = some (some (.ref zfp))) (zxc : K.lookup zfp = some ⟨zvn, zw7, .func (FI "dealt" "dealt" (kag kb4) (kaf kb4) (kab kb4) .none zhe zj1 zj7 zgr zc0 zj2), zvm⟩) (zyb : FR K zc0 "dealt" = true) (zx2 : FN K (.ref zfp) = true)
  (zxr : FP K mainGlobals "under" = some (some (.ref zeb))) (zxe : K.lookup zeb = some ⟨zvx, zvw, .func (FI "under" "under" (kag kb0) (kaf kb0) (kab kb0) .none zic zj4 zgx zhj zby zgk), zws⟩) (zym : FR K zby "under" = true) (zx8 : FN K (.ref zeb) = true)
  (zee : FP K mainGlobals "price_of_piece" = some (some (.ref z27))) (zep : K.lookup z27 = some ⟨zdp, zcx, .func (FI "price_of_piece" "price_of_piece" (kag kaL) (kaf kaL) (kab kaL) .none z44 z4a z4f z4q z1u z4d), zdn⟩) (zer : FR K z1u "price_of_piece" = true) (zfr : FN K (.ref z27) = true)
  (zwv : FP K mainGlobals "about" = some (some (.ref zga))) (zy0 : K.lookup zga = some ⟨zwq, zwh, .func (FI "about" "about" (kag kbP) (kaf kbP) (kab kbP) .none zi8 zi0 zii ziu zc4 zhu), zwj⟩) (zx0 : FR K zc4 "about" = true) (zyi : FN K (.ref zga) = true)
  (zyt : FP K mainGlobals "fits" = some (some (.ref zls))) (zzg : K.lookup zls = some ⟨zww, zwy, .func (FI "fits" "fits" (kag kcs) (kaf kcs) (kab kcs) .none znb zn3 zlv zmh zf2 zmo), zwt⟩) (zz0 : FR K zf2 "fits" = true) (zz3 : FN K (.ref zls) = true)
  (ztd : FP K mainGlobals "hindrance" = some (some (.ref z8p))) (zt2 : K.lookup z8p = some ⟨zp0, zom, .func (FI "hindrance" "hindrance" (kag kbo) (kaf kbo) (kab kbo) .none zao zag zb1 zam z7d zb3), zpy⟩) (zte : FR K z7d "hindrance" = true) (zt5 : FN K (.ref z8p) = true)
  (zyz : FP K mainGlobals "cuts" = some (some (.ref zlt))) (zyr : K.lookup zlt = some ⟨zxs, zxh, .func (FI "cuts" "cuts" (kag kct) (kaf kct) (kab kct) .none zm2 znf zng zo6 zf0 zmq), zxl⟩) (zzc : FR K zf0 "cuts" = true) (zyx : FN K (.ref zlt) = true)
  (zya : FP K mainGlobals "after" = some (some (.ref zfi))) (zy7 : K.lookup zfi = some ⟨zvl, zwr, .func (FI "after" "after" (kag kb5) (kaf kb5) (kab kb5) .none zh5 zgp zih zi3 zc2 zig), zvq⟩) (zyj : FR K zc2 "after" = true) (zy9 : FN K (.ref zfi) = true)
  (ze3 : FP K mainGlobals "cuts_of_pieces" = some (some (.ref z2d))) (zfh : K.lookup z2d = some ⟨zck, zct, .func (FI "cuts_of_pieces" "cuts_of_pieces" (kag kaN) (kaf kaN) (kab kaN) .none z4p z4v z4j z4i z1o z46), zdl⟩) (zfa : FR K z1o "cuts_of_pieces" = true) (zg5 : FN K (.ref z2d) = true)
  (zcm : FP K mainGlobals "cut_of_carriage" = some (some (.ref z1t))) (zcp : K.lookup z1t = some ⟨zca, zc6, .func (FI "cut_of_carriage" "cut_of_carriage" (kag kaH) (kaf kaH) (kab kaH) .none z3e z3b z3k z3j z1d z3g), zc8⟩) (zd9 : FR K z1d "cut_of_carriage" = true) (zcz : FN K (.ref z1t) = true)
  (zmi : FP K mainGlobals "wanted_cuts" = some (some (.ref z5o))) (zmp : K.lookup z5o = some ⟨zlq, zkb, .func (FI "wanted_cuts" "wanted_cuts" (kag kaR) (kaf kaR) (kab kaR) .none z81 z8c z7z z85 z3v z84), zle⟩) (zm1 : FR K z3v "wanted_cuts" = true) (zmr : FN K (.ref z5o) = true)
  (zg9 : FP K mainGlobals "parted_by_line" = some (some (.ref z2g))) (zfs : K.lookup z2g = some ⟨zdw, zd8, .func (FI "parted_by_line" "parted_by_line" (kag kaM) (kaf kaM) (kab kaM) .none z4s z4r z4u z4k z1r z4c), zci⟩) (zg8 : FR K z1r "parted_by_line" = true) (zgb : FN K (.ref z2g) = true)
  (zef : FP K mainGlobals "falling_groups" = some (some (.ref z25))) (ze8 : K.lookup z25 = some ⟨zdo, zcs, .func (FI "falling_groups" "falling_groups" (kag kaB) (kaf kaB) (kab kaB) .none z4n z4y z4l z4e zu z47), zdt⟩) (ze4 : FR K zu "falling_groups" = true) (zfx : FN K (.ref z25) = true)
  (zil : FP K mainGlobals "marked_behind" = some (some (.ref z2z))) (zgc : K.lookup z2z = some ⟨ze7, zf4, .func (FI "marked_behind" "marked_behind" (kag kaV) (kaf kaV) (kab kaV) .none z5e z64 z5x z5f z2j z63), zff⟩) (zhz : FR K z2j "marked_behind" = true) (zgd : FN K (.ref z2z) = true)
  (zta : FP K mainGlobals "prices_of" = some (some (.ref z8k))) (zrz : K.lookup z8k = some ⟨zr5, zp8, .func (FI "prices_of" "prices_of" (kag kbj) (kaf kbj) (kab kbj) .none zak zan zav zaz z78 zb6), zqv⟩) (zrv : FR K z78 "prices_of" = true) (zsq : FN K (.ref z8k) = true)
  (zh4 : FP K mainGlobals "sum_of_prices" = some (some (.ref z2x))) (zhv : K.lookup z2x = some ⟨zfd, zey, .func (FI "sum_of_prices" "sum_of_prices" (kag kaU) (kaf kaU) (kab kaU) .none z6a z5r z50 z5j z26 z5l), zec⟩) (zis : FR K z26 "sum_of_prices" = true) (ziz : FN K (.ref z2x) = true)
  (zur : FP K mainGlobals "at_most" = some (some (.ref zbe))) (zve : K.lookup zbe = some ⟨zub, zua, .func (FI "at_most" "at_most" (kag kbA) (kaf kbA) (kab kbA) .none zbt zbv zbs zbw zaa zbu), zu7⟩) (zvh : FR K zaa "at_most" = true) (zut : FN K (.ref zbe) = true)
  (zx6 : FP K mainGlobals "fault" = some (some (.ref zf7))) (zxb : K.lookup zf7 = some ⟨zwc, zw4, .func (FI "fault" "fault" (kag kb3) (kaf kb3) (kab kb3) .none ziw zgz zj8 zio zbz zhx), zwb⟩) (zyd : FR K zbz "fault" = true) (zxo : FN K (.ref zf7) = true)
  (zwg : FP K mainGlobals "way_by" = some (some (.ref zc1))) (zw6 : K.lookup zc1 = some ⟨zvf, zva, .func (FI "way_by" "way_by" (kag kbJ) (kaf kbJ) (kab kbJ) .none zd6 zdh ze0 zcl zbi zdf), zv1⟩) (zw0 : FR K zbi "way_by" = true) (zwn : FN K (.ref zc1) = true)
  (zgn : FP K mainGlobals "word_of_order" = some (some (.ref z31))) (zgv : K.lookup z31 = some ⟨zfl, zel, .func (FI "word_of_order" "word_of_order" (kag kaT) (kaf kaT) (kab kaT) .none z5i z60 z57 z5y z2b z5p), zfm⟩) (zgw : FR K z2b "word_of_order" = true) (zj5 : FN K (.ref z31) = true)
  (zky : FP K mainGlobals "breaks_never" = some (some (.ref z3s))) (zlj : K.lookup z3s = some ⟨zj0, zja, .func (FI "breaks_never" "breaks_never" (kag kaZ) (kaf kaZ) (kab kaZ) .none z71 z6o z6b z6c z35 z6m), zh9⟩) (zku : FR K z35 "breaks_never" = true) (zjq : FN K (.ref z3s) = true)
  (zk8 : FP K mainGlobals "breaks_ahead" = some (some (.ref z3w))) (zkg : K.lookup z3w = some ⟨zit, zht, .func (FI "breaks_ahead" "breaks_ahead" (kag ka0) (kaf ka0) (kab ka0) .none z6x z6l z6v z6s z38 z6y), zge⟩) (zlo : FR K z38 "breaks_ahead" = true) (zlr : FN K (.ref z3w) = true)
  (zcy : FP K mainGlobals "without_company" = some (some (.ref z1p))) (zds : K.lookup z1p = some ⟨zc9, zcc, .func (FI "without_company" "without_company" (kag kaG) (kaf kaG) (kab kaG) .none z3h z3d z3i z3c z1e z3f), zcb⟩) (zd3 : FR K z1e "without_company" = true) (zd5 : FN K (.ref z1p) = true)
  (zvu : FP K mainGlobals "priced" = some (some (.ref zc3))) (zwp : K.lookup zc3 = some ⟨zus, zv9, .func (FI "priced" "priced" (kag kbK) (kaf kbK) (kab kbK) .none zcv zde zcr zdi zbh zcj), zuy⟩) (zw9 : FR K zbh "priced" = true) (zwo : FN K (.ref zc3) = true)
  (zjw : FP K mainGlobals "_law_cell_at" = some (some (.ref z3t))) (zlh : K.lookup z3t = some ⟨zho, zha, .func (FI "_law_cell_at" "_law_cell_at" (kag ka3) (kaf ka3) (kab ka3) .none z6u z6t z6r z6j z30 z6z), zi7⟩) (zjs : FR K z30 "_law_cell_at" = true) (zla : FN K (.ref z3t) = true)
  (zrf : FP K mainGlobals "_law_some" = some (some (.ref z8n))) (zt0 : K.lookup z8n = some ⟨zqz, zpq, .func (FI "_law_some" "_law_some" (kag kbp) (kaf kbp) (kab kbp) .none zax zap zas zb5 z7q zb2), zqm⟩) (zru : FR K z7q "_law_some" = true) (zs6 : FN K (.ref z8n) = true)
  (zpl : FP K mainGlobals "_law_price" = some (some (.ref z7h))) (zqn : K.lookup z7h = some ⟨zmf, zo4, .func (FI "_law_price" "_law_price" (kag kbe) (kaf kbe) (kab kbe) .none z99 z9f z9w z90 z5b z9s), zny⟩) (zqx : FR K z5b "_law_price" = true) (zq4 : FN K (.ref z7h) = true)
  (zkp : FP K mainGlobals "_law_parents" = some (some (.ref z3y))) (zkv : K.lookup z3y = some ⟨zi2, zhf, .func (FI "_law_parents" "_law_parents" (kag ka2) (kaf ka2) (kab ka2) .none z6h z6d z74 z70 z32 z6p), zij⟩) (zjx : FR K z32 "_law_parents" = true) (zjg : FN K (.ref z3y) = true)
  (zmw : FP K mainGlobals "_law_basket" = some (some (.ref z56))) (zno : K.lookup z56 = some ⟨zji, zl4, .func (FI "_law_basket" "_law_basket" (kag ka8) (kaf ka8) (kab ka8) .none z83 z7y z89 z8a z43 z8f), zlc⟩) (zn5 : FR K z43 "_law_basket" = true) (zmc : FN K (.ref z56) = true)
  (zna : FP K mainGlobals "_law_amount" = some (some (.ref z66))) (znp : K.lookup z66 = some ⟨zjh, zjk, .func (FI "_law_amount" "_law_amount" (kag ka9) (kaf ka9) (kab ka9) .none z7x z87 z8b z8e z3q z86), zl5⟩) (zn6 : FR K z3q "_law_amount" = true) (zmy : FN K (.ref z66) = true)
  (zqb : FP K mainGlobals "_law_marks" = some (some (.ref z7f))) (zqe : K.lookup z7f = some ⟨zni, zns, .func (FI "_law_marks" "_law_marks" (kag kbg) (kaf kbg) (kab kbg) .none z92 z9k z9a z95 z61 z8u), zmg⟩) (zph : FR K z61 "_law_marks" = true) (zp9 : FN K (.ref z7f) = true)
  (zl2 : FP K mainGlobals "_law_voucher" = some (some (.ref z3r))) (zks : K.lookup z3r = some ⟨zgq, zgj, .func (FI "_law_voucher" "_law_voucher" (kag ka1) (kaf ka1) (kab ka1) .none z6q z6k z6g z73 z39 z6w), zhl⟩) (zkl : FR K z39 "_law_voucher" = true) (zkf : FN K (.ref z3r) = true)
  (zqr : FP K mainGlobals "_law_rules" = some (some (.ref z7g))) (zq3 : K.lookup z7g = some ⟨zmb, zmk, .func (FI "_law_rules" "_law_rules" (kag kbd) (kaf kbd) (kab kbd) .none z9u z8t z9r z9m z5d z93), zo3⟩) (zq2 : FR K z5d "_law_rules" = true) (zp6 : FN K (.ref z7g) = true)
  (zqq : FP K mainGlobals "_law_worth" = some (some (.ref z7m))) (zr4 : K.lookup z7m = some ⟨zo9, zmt, .func (FI "_law_worth" "_law_worth" (kag kbc) (kaf kbc) (kab kbc) .none za1 z9p z96 za2 z5h z9e), zn1⟩) (zq7 : FR K z5h "_law_worth" = true) (zr1 : FN K (.ref z7m) = true)
  (zth : FP K mainGlobals "_law_till" = some (some (.ref z8l))) (zry : K.lookup z8l = some ⟨zos, zpx, .func (FI "_law_till" "_law_till" (kag kbk) (kaf kbk) (kab kbk) .none zau zat zb4 zal z7l zb0), zqf⟩) (zsm : FR K z7l "_law_till" = true) (zs1 : FN K (.ref z8l) = true)
  (zsr : FP K mainGlobals "_law_hand" = some (some (.ref z8m))) (zrl : K.lookup z8m = some ⟨zq0, zq5, .func (FI "_law_hand" "_law_hand" (kag kbl) (kaf kbl) (kab kbl) .none zay zaf zar zah z7p zad), zp2⟩) (ztk : FR K z7p "_law_hand" = true) (zrh : FN K (.ref z8m) = true)
  (zof : FP K mainGlobals "_law_going" = some (some (.ref z77))) (zqg : K.lookup z77 = some ⟨zn7, zmx, .func (FI "_law_going" "_law_going" (kag kbh) (kaf kbh) (kab kbh) .none z9o z9d z9g z97 z52 z9b), znw⟩) (zoq : FR K z52 "_law_going" = true) (zpm : FN K (.ref z77) = true)
  (zp1 : FP K mainGlobals "_law_order" = some (some (.ref z7a))) (zoy : K.lookup z7a = some ⟨znq, zm0, .func (FI "_law_order" "_law_order" (kag kbf) (kaf kbf) (kab kbf) .none za0 z98 za5 z8x z58 z9j), zma⟩) (zou : FR K z58 "_law_order" = true) (zqs : FN K (.ref z7a) = true)
  (znc : FP K mainGlobals "_law_prices" = some (some (.ref z69))) (zoa : K.lookup z69 = some ⟨zk4, zlk, .func (FI "_law_prices" "_law_prices" (kag ka7) (kaf ka7) (kab ka7) .none z80 z8g z88 z8d z42 z82), zl8⟩) (zmj : FR K z42 "_law_prices" = true) (znt : FN K (.ref z69) = true)
  (zei : FP K mainGlobals "_law_goes_down" = some (some (.ref z2k))) (zfc : K.lookup z2k = some ⟨zcn, zda, .func (FI "_law_goes_down" "_law_goes_down" (kag kaO) (kaf kaO) (kab kaO) .none z4m z4w z48 z4g z1q z4o), zdj⟩) (zej : FR K z1q "_law_goes_down" = true) (zen : FN K (.ref z2k) = true)
  (zxt : FP K mainGlobals "law" = some (some (.ref zn9))) (zzr : K.lookup zn9 = some ⟨zzo, zzm, .func (FI "law" "law" (kag s_law) (kaf s_law) (kab s_law) .none zs0 zrc zro zsw zlu ztm), zzk⟩) (zzu : FR K zlu "law" = true) (zzp : FN K (.ref zn9) = true)
  (zy4 : FP K mainGlobals "Marks" = some (some (.ref zk)))
  (zvk : FT K zk (.type "object") = some true) (zwm : FT K zk (.ref zk) = some true) (zw8 : Cj K (.ref zk) = some (.type "type"))
  (inX : Rl K (.builtin "object.__class__") "__get__" = some (some (.builtin "getset_descriptor.__get__"))) (itX : R3 K (.builtin "object.__class__") = some true)
  (zwa : Ci K zk Str.empty = true) (zvr : Cn K zk = true) (zwf : Cs K zk = true) (zwd : FL K (.ref zk) "__setattr__" = some (some (.builtin "object.__setattr__"))) (zw2 : Co K zk = true) (zvv : FN K (.ref zk) = true) (zvo : FL K (.ref zk) "__class__" = some (some (.builtin "object.__class__")))
  (zow : FL K (.ref zk) "kind" = some none)
  (znz : FL K (.ref zk) "needs" = some none)
  (zot : FL K (.ref zk) "most" = some none)
  (zli : FL K (.ref zk) "member" = some none)
  (zpz : FL K (.ref zk) "once" = some none)
  (zon : FL K (.ref zk) "lone" = some none)
  (zpb : FL K (.ref zk) "__init__" = some (some (.ref z3l))) (zol : Ce K (.ref z3l) = true) (zoj : K.lookup z3l = some ⟨zm5, zo8, .func (FI "__init__" "Marks.__init__" (kag kaq) (kaf kaq) (kab kaq) (.ref zl) zm zq zp zn zh zo), zo2⟩) (zoh : FR K zh "Marks.__init__" = true) (zp4 : FN K (.ref z3l) = true) (z1c : K.lookup zl = some ⟨zm4, znn, .seq #[.none, .int 0 z2a, .none, .bool false, .bool false, .bool false] zlw, zmv⟩)
  (zvg : FP K mainGlobals "Voucher" = some (some (.ref zg)))
  (zuo : FT K zg (.type "object") = some true) (zum : FT K zg (.ref zg) = some true) (zuf : Cj K (.ref zg) = some (.type "type"))
  (zul : Ci K zg Str.empty = true) (zun : Cn K zg = true) (zu6 : Cs K zg = true) (zu4 : FL K (.ref zg) "__setattr__" = some (some (.builtin "object.__setattr__"))) (zuk : Co K zg = true) (zuh : FN K (.ref zg) = true) (zuc : FL K (.ref zg) "__class__" = some (some (.builtin "object.__class__")))
  (zjl : FL K (.ref zg) "__init__" = some (some (.ref zz))) (zko : Ce K (.ref zz) = true) (zl9 : K.lookup zz = some ⟨zia, zhc, .func (FI "__init__" "Voucher.__init__" (kag kaI) (kaf kaI) (kab kaI) (.ref z22) z34 z3a z36 z37 z1i z33), zgl⟩) (zjj : FR K z1i "Voucher.__init__" = true) (zln : FN K (.ref zz) = true) (zbl : K.lookup z22 = some ⟨zgm, ziv, .seq #[.none] zib, zj3⟩)
  (zxg : FP K mainGlobals "Off" = some (some (.ref zr)))
  (zf1 : FT K zr (.type "object") = some true) (zft : FT K zr (.ref zr) = some true) (zex : Cj K (.ref zr) = some (.type "type"))
  (zz7 : Ci K zr Str.empty = true) (zzj : Cn K zr = true) (zze : Cs K zr = true) (zzi : FL K (.ref zr) "__setattr__" = some (some (.builtin "object.__setattr__"))) (zz9 : Co K zr = true) (zzd : FN K (.ref zr) = true) (zyv : FL K (.ref zr) "__class__" = some (some (.builtin "object.__class__")))
  (zoe : FL K (.ref zr) "amount" = some none)
  (zrp : FL K (.ref zr) "marks" = some none)
  (zty : FL K (.ref zr) "__init__" = some (some (.ref z7u))) (ztv : Ce K (.ref z7u) = true) (zue : K.lookup z7u = some ⟨zrw, zsx, .func (FI "__init__" "Off.__init__" (kag kbm) (kaf kbm) (kab kbm) (.ref z7s) z8q z8i z8j z8s z55 z8r), zsc⟩) (zu5 : FR K z55 "Off.__init__" = true) (zu0 : FN K (.ref z7u) = true) (zje : K.lookup z7s = some ⟨zto, zt9, .seq #[.none] zs4, ztq⟩)
  (zu1 : FP K mainGlobals "Share" = some (some (.ref ze)))
  (zb9 : FT K ze (.type "object") = some true) (zbb : FT K ze (.ref ze) = some true) (zba : Cj K (.ref ze) = some (.type "type"))
  (zw1 : Ci K ze Str.empty = true) (zw3 : Cn K ze = true) (zwl : Cs K ze = true) (zvz : FL K (.ref ze) "__setattr__" = some (some (.builtin "object.__setattr__"))) (zw5 : Co K ze = true) (zwe : FN K (.ref ze) = true) (zvp : FL K (.ref ze) "__class__" = some (some (.builtin "object.__class__")))
  (zn8 : FL K (.ref ze) "share" = some none)
  (zh1 : FL K (.ref ze) "by_line" = some none)
  (zo0 : FL K (.ref ze) "marks" = some none)
  (zoo : FL K (.ref ze) "__init__" = some (some (.ref z3m))) (zqo : Ce K (.ref z3m) = true) (zp5 : K.lookup z3m = some ⟨zmd, zm3, .func (FI "__init__" "Share.__init__" (kag kaJ) (kaf kaJ) (kab kaJ) (.ref z23) z2w z2p z2v z2q z1g z2t), zo7⟩) (zoz : FR K z1g "Share.__init__" = true) (zor : FN K (.ref z3m) = true) (zai : K.lookup z23 = some ⟨znk, zod, .seq #[.bool false, .none] zn0, znd⟩)
  (zjc : FP K mainGlobals "Cheapest" = some (some (.ref za)))
  (z5w : FT K za (.type "object") = some true) (z5z : FT K za (.ref za) = some true) (z5g : Cj K (.ref za) = some (.type "type"))
  (zt7 : Ci K za Str.empty = true) (zrs : Cn K za = true) (zsn : Cs K za = true) (zsb : FL K (.ref za) "__setattr__" = some (some (.builtin "object.__setattr__"))) (zs5 : Co K za = true) (zsf : FN K (.ref za) = true) (zsp : FL K (.ref za) "__class__" = some (some (.builtin "object.__class__")))
  (zhk : FL K (.ref za) "many" = some none)
  (zg3 : FL K (.ref za) "marks" = some none)
  (zhy : FL K (.ref za) "__init__" = some (some (.ref z1h))) (ziy : Ce K (.ref z1h) = true) (zi6 : K.lookup z1h = some ⟨zek, ze2, .func (FI "__init__" "Cheapest.__init__" (kag kaC) (kaf kaC) (kab kaC) (.ref z1m) z2e z2m z24 z2o z1a z2l), ze5⟩) (zif : FR K z1a "Cheapest.__init__" = true) (zgg : FN K (.ref z1h) = true) (zb8 : K.lookup z1m = some ⟨zed, zew, .seq #[.none] zfg, zez⟩)
  (zr7 : FP K mainGlobals "Bundle" = some (some (.ref zc)))
  (z9i : FT K zc (.type "object") = some true) (z9h : FT K zc (.ref zc) = some true) (z9z : Cj K (.ref zc) = some (.type "type"))
  (zux : Ci K zc Str.empty = true) (zv6 : Cn K zc = true) (zv0 : Cs K zc = true) (zv8 : FL K (.ref zc) "__setattr__" = some (some (.builtin "object.__setattr__"))) (zvb : Co K zc = true) (zuv : FN K (.ref zc) = true) (zuu : FL K (.ref zc) "__class__" = some (some (.builtin "object.__class__")))
  (zo1 : FL K (.ref zc) "many" = some none)
  (zkw : FL K (.ref zc) "price" = some none)
  (zjf : FL K (.ref zc) "marks" = some none)
  (zmz : FL K (.ref zc) "__init__" = some (some (.ref z2r))) (zob : Ce K (.ref z2r) = true) (zm6 : K.lookup z2r = some ⟨zkc, zke, .func (FI "__init__" "Bundle.__init__" (kag kaS) (kaf kaS) (kab kaS) (.ref z2s) z3z z3u z41 z3x z1w z40), zkn⟩) (znm : FR K z1w "Bundle.__init__" = true) (zm7 : FN K (.ref z2r) = true) (zbx : K.lookup z2s = some ⟨zkt, zkj, .seq #[.none] zll, zjy⟩)
  (zjd : FP K mainGlobals "Carriage" = some (some (.ref zb)))
  (z51 : FT K zb (.type "object") = some true) (z68 : FT K zb (.ref zb) = some true) (z5u : Cj K (.ref zb) = some (.type "type"))
  (zt6 : Ci K zb Str.empty = true) (zt4 : Cn K zb = true) (zs2 : Cs K zb = true) (ztg : FL K (.ref zb) "__setattr__" = some (some (.builtin "object.__setattr__"))) (ztj : Co K zb = true) (zrt : FN K (.ref zb) = true) (ztp : FL K (.ref zb) "__class__" = some (some (.builtin "object.__class__")))
  (zfz : FL K (.ref zb) "marks" = some none)
  (zgu : FL K (.ref zb) "__init__" = some (some (.ref z1n))) (zid : Ce K (.ref z1n) = true) (zhh : K.lookup z1n = some ⟨zeh, zfu, .func (FI "__init__" "Carriage.__init__" (kag kaD) (kaf kaD) (kab kaD) (.ref z1k) z2h z29 z2c z2f z1b z28), zev⟩) (zie : FR K z1b "Carriage.__init__" = true) (zhm : FN K (.ref z1n) = true) (zb7 : K.lookup z1k = some ⟨zeq, zg7, .seq #[.none] zes, ze1⟩)
  (zyq : FP K mainGlobals "Line" = some (some (.ref zv)))
  (zyn : FT K zv (.type "object") = some true) (zxf : FT K zv (.ref zv) = some true) (zx7 : Cj K (.ref zv) = some (.type "type"))
  (zxw : Ci K zv Str.empty = true) (zxm : Cn K zv = true) (zxj : Cs K zv = true) (zyc : FL K (.ref zv) "__setattr__" = some (some (.builtin "object.__setattr__"))) (zwu : Co K zv = true) (zxn : FN K (.ref zv) = true) (zy1 : FL K (.ref zv) "__class__" = some (some (.builtin "object.__class__")))
  (zt8 : FL K (.ref zv) "kind" = some none)
  (zqj : FL K (.ref zv) "price" = some none)
  (ztr : FL K (.ref zv) "many" = some none)
  (zkk : FL K (.ref zv) "special" = some none)
  (zrb : FL K (.ref zv) "__init__" = some (some (.ref z5q))) (zso : Ce K (.ref z5q) = true) (ztt : K.lookup z5q = some ⟨zpi, zq1, .func (FI "__init__" "Line.__init__" (kag kbb) (kaf kbb) (kab kbb) (.ref z5s) z76 z79 z7o z7e z3n z7k), zq6⟩) (zrq : FR K z3n "Line.__init__" = true) (zs7 : FN K (.ref z5q) = true) (zem : K.lookup z5s = some ⟨zp7, zpt, .seq #[.none] zog, zpd⟩)
  (zwi : FP K mainGlobals "Basket" = some (some (.ref zj)))
  (zuq : FT K zj (.type "object") = some true) (zv7 : FT K zj (.ref zj) = some true) (zvj : Cj K (.ref zj) = some (.type "type"))
  (zv4 : Ci K zj Str.empty = true) (zv3 : Cn K zj = true) (zuw : Cs K zj = true) (zv2 : FL K (.ref zj) "__setattr__" = some (some (.builtin "object.__setattr__"))) (zvc : Co K zj = true) (zuz : FN K (.ref zj) = true) (zvi : FL K (.ref zj) "__class__" = some (some (.builtin "object.__class__")))
  (zki : FL K (.ref zj) "lines" = some none)
  (zco : FL K (.ref zj) "carriage" = some none)
  (zh3 : FL K (.ref zj) "member" = some none)
  (zm9 : FL K (.ref zj) "__init__" = some (some (.ref z2u))) (zme : Ce K (.ref z2u) = true) (znx : K.lookup z2u = some ⟨zlb, zk2, .func (FI "__init__" "Basket.__init__" (kag kaE) (kaf kaE) (kab kaE) (.ref z1l) z1x z21 z20 z1z zy z1v), zk0⟩) (zm8 : FR K zy "Basket.__init__" = true) (znr : FN K (.ref z2u) = true) (z8w : K.lookup z1l = some ⟨zjt, zjn, .seq #[.int 0 z4t, .bool false] zkx, zkr⟩)
  (zu3 : FP K mainGlobals "Standing" = some (some (.ref zd)))
  (zsd : FT K zd (.type "object") = some true) (zse : FT K zd (.ref zd) = some true) (ztf : Cj K (.ref zd) = some (.type "type"))
  (zt3 : Ci K zd Str.empty = true) (ztn : Cn K zd = true) (zrr : Cs K zd = true) (ztl : FL K (.ref zd) "__setattr__" = some (some (.builtin "object.__setattr__"))) (zsv : Co K zd = true) (zr9 : FN K (.ref zd) = true) (zrn : FL K (.ref zd) "__class__" = some (some (.builtin "object.__class__")))
  (zd7 : FL K (.ref zd) "owners" = some none)
  (zcw : FL K (.ref zd) "prices" = some none)
  (zbr : FL K (.ref zd) "carriage" = some none)
  (zdc : FL K (.ref zd) "marked" = some none)
  (zj9 : FL K (.ref zd) "__init__" = some (some (.ref z1f))) (ziq : Ce K (.ref z1f) = true) (zh7 : K.lookup z1f = some ⟨zfk, zg0, .func (FI "__init__" "Standing.__init__" (kag kaX) (kaf kaX) (kab kaX) .none z65 z67 z5n z5c z2n z5v), zg1⟩) (zh6 : FR K z2n "Standing.__init__" = true) (zi9 : FN K (.ref z1f) = true)
  (zfv : FL K (.ref zd) "whole" = some (some (.ref z19))) (zf6 : Ce K (.ref z19) = true) (zfe : K.lookup z19 = some ⟨zcg, zd4, .func (FI "whole" "Standing.whole" (kag kaP) (kaf kaP) (kab kaP) .none z45 z49 z4x z4h z1s z4b), zdg⟩) (ze6 : FR K z1s "Standing.whole" = true) (zfj : FN K (.ref z19) = true)
  (zzq : FP K mainGlobals "Way" = some (some (.ref zx)))
  (zzl : FT K zx (.type "object") = some true) (zz4 : FT K zx (.ref zx) = some true) (zz5 : Cj K (.ref zx) = some (.type "type"))
  (zz1 : Ci K zx Str.empty = true) (zz8 : Cn K zx = true) (zzn : Cs K zx = true) (zz2 : FL K (.ref zx) "__setattr__" = some (some (.builtin "object.__setattr__"))) (zz6 : Co K zx = true) (zzf : FN K (.ref zx) = true) (zzh : FL K (.ref zx) "__class__" = some (some (.builtin "object.__class__")))
  (ztu : FL K (.ref zx) "till" = some none)
  (zox : FL K (.ref zx) "basket" = some none)
  (ztw : FL K (.ref zx) "hand" = some none)
  (zu2 : FL K (.ref zx) "used" = some none)
  (zka : FL K (.ref zx) "standing" = some none)
  (zup : FL K (.ref zx) "__init__" = some (some (.ref z7t))) (zud : Ce K (.ref z7t) = true) (zu9 : K.lookup z7t = some ⟨zrx, zsu, .func (FI "__init__" "Way.__init__" (kag kbv) (kaf kbv) (kab kbv) .none zbg zbc zbj zbd z8o zbf), zsl⟩) (zui : FR K z8o "Way.__init__" = true) (ztz : FN K (.ref z7t) = true)
  (zjm : FL K (.ref zx) "word_for" = some (some (.ref z1y))) (zjv : Ce K (.ref z1y) = true) (zkd : K.lookup z1y = some ⟨zhd, zh0, .func (FI "word_for" "Way.word_for" (kag ka4) (kaf ka4) (kab ka4) .none z6n z6f z6i z72 z2y z75), zin⟩) (zlm : FR K z2y "Way.word_for" = true) (zlg : FN K (.ref z1y) = true)
  (zoi : FL K (.ref zx) "behind" = some (some (.ref z3p))) (zqu : Ce K (.ref z3p) = true) (zpo : K.lookup z3p = some ⟨zo5, znj, .func (FI "behind" "Way.behind" (kag kbi) (kaf kbi) (kab kbi) .none z9l z91 z8z z94 z5t z9x), zms⟩) (zqy : FR K z5t "Way.behind" = true) (zq8 : FN K (.ref z3p) = true)
  (zgi : FL K (.ref zx) "is_let_by" = some (some (.ref z1j))) (zhn : Ce K (.ref z1j) = true) (zix : K.lookup z1j = some ⟨zet, zf8, .func (FI "is_let_by" "Way.is_let_by" (kag kaW) (kaf kaW) (kab kaW) .none z5k z5a z4z z62 z2i z53), zf3⟩) (zj6 : FR K z2i "Way.is_let_by" = true) (zhb : FN K (.ref z1j) = true)
  (zzb : FP K mainGlobals "Bill" = some (some (.ref zs)))
  (zy3 : FT K zs (.type "object") = some true) (zyg : FT K zs (.ref zs) = some true) (zye : Cj K (.ref zs) = some (.type "type"))
  (zyp : Ci K zs Str.empty = true) (zwx : Cn K zs = true) (zy2 : Cs K zs = true) (zx9 : FL K (.ref zs) "__setattr__" = some (some (.builtin "object.__setattr__"))) (zxv : Co K zs = true) (zxx : FN K (.ref zs) = true) (zx5 : FL K (.ref zs) "__class__" = some (some (.builtin "object.__class__")))
  (zr6 : FL K (.ref zs) "order" = some none)
  (zpp : FL K (.ref zs) "steps" = some none)
  (znu : FL K (.ref zs) "prices" = some none)
  (zhq : FL K (.ref zs) "carriage" = some none)
  (zp3 : FL K (.ref zs) "total" = some none)
  (zra : FL K (.ref zs) "__init__" = some (some (.ref z59))) (zsg : Ce K (.ref z59) = true) (zsy : K.lookup z59 = some ⟨zpn, zqc, .func (FI "__init__" "Bill.__init__" (kag kbq) (kaf kbq) (kab kbq) .none zaw zac zae zaj z7c zaq), zqi⟩) (ztc : FR K z7c "Bill.__init__" = true) (zrk : FN K (.ref z59) = true)
  (zyw : FP K mainGlobals "Till" = some (some (.ref zw)))
  (zx3 : FT K zw (.type "object") = some true) (zx4 : FT K zw (.ref zw) = some true) (zxi : Cj K (.ref zw) = some (.type "type"))
  (zxz : Ci K zw Str.empty = true) (zxy : Cn K zw = true) (zy5 : Cs K zw = true) (zyo : FL K (.ref zw) "__setattr__" = some (some (.builtin "object.__setattr__"))) (zxa : Co K zw = true) (zxu : FN K (.ref zw) = true) (zyh : FL K (.ref zw) "__class__" = some (some (.builtin "object.__class__")))
  (zjp : FL K (.ref zw) "parents" = some none)
  (zjb : FL K (.ref zw) "vouchers" = some none)
  (zqd : FL K (.ref zw) "rules" = some none)
  (zrg : FL K (.ref zw) "back" = some none)
  (zsk : FL K (.ref zw) "__init__" = some (some (.ref z5m))) (zt1 : Ce K (.ref z5m) = true) (zts : K.lookup z5m = some ⟨zpr, zqt, .func (FI "__init__" "Till.__init__" (kag kba) (kaf kba) (kab kba) (.ref z54) z7i z7b z7n z7r z3o z7j), zqk⟩) (zsh : FR K z3o "Till.__init__" = true) (zs9 : FN K (.ref z5m) = true) (zf5 : K.lookup z54 = some ⟨zr2, zqp, .seq #[.str "again" z6e] zov, zpu⟩)
  (zhi : PySem.W.readsIn K zg (.type "type") = true) (zhp : Rl K (.ref zg) "__getattribute__" = some (some (.builtin "type.__getattribute__"))) (zhw : PySem.W.findCls K (.ref zg) (.type "type") "__init__" = some (.val (.ref zz)))
  (zbp : FT K zr (.ref zb) = some false)
  (zab : FT K ze (.ref zb) = some false)
  (z7w : FT K za (.ref zb) = some false)
  (z8y : FT K zc (.ref zb) = some false)
  (zfb : FT K ze (.ref zr) = some false)
  (zbo : FT K za (.ref zr) = some false)
  (zce : FT K zc (.ref zr) = some false)
  (zbk : FT K zb (.ref zr) = some false)
  (zfy : FT K zr (.ref ze) = some false)
  (za7 : FT K za (.ref ze) = some false)
  (zbn : FT K zc (.ref ze) = some false)
  (za9 : FT K zb (.ref ze) = some false)
  (zbq : FT K zr (.ref za) = some false)
  (za8 : FT K ze (.ref za) = some false)
  (z9c : FT K zc (.ref za) = some false)
  (z7v : FT K zb (.ref za) = some false)
  (zcd : FT K zr (.ref zc) = some false)
  (zbm : FT K ze (.ref zc) = some false)
  (za4 : FT K za (.ref zc) = some false)
  (z8v : FT K zb (.ref zc) = some false)
  (zdy : zu = .ref zt)
  (zcq : K.lookup zt = some ⟨z8h, zc7, .fields zf, zc5⟩)
  (zd1 : z8h = .type "code")
  (zcu : zf[11]? = some (.ref zi))
  (zdr : zf.getD 11 .none = .ref zi)
  (zd2 : zf.getD 18 .none = .str za3 z9v)
  (zdk : zf.getD 7 .none = .int z9t z9n)
  (zd0 : zf.getD 9 .none = .bool z9q)
  (zdb : zf.getD 10 .none = .int z9y za6)
  (zdu : zt ≠ zi)
  (zdz : K.lookup zi = none)
  (zcf : zi ∈ ts)
  (z1 : FP K mainGlobals "range" = some none)
  (z2 : FP K mainGlobals "len" = some none)
  (z3 : FP K mainGlobals "min" = some none)
  (z4 : FP K mainGlobals "max" = some none)
  (z5 : FP K mainGlobals "isinstance" = some none)
  (z6 : FP K mainGlobals "bool" = some none)
  (z7 : FP K mainGlobals "int" = some none)
  (z8 : FP K mainGlobals "list" = some none)
  (z9 : FP K mainGlobals "sum" = some none)
  (z10 : FP K mainGlobals "enumerate" = some none)
  (z11 : FP K mainGlobals "any" = some none)
  (z12 : FP K mainGlobals "all" = some none)
  (z13 : FP K mainGlobals "reversed" = some none)
  (z14 : FP K mainGlobals "zip" = some none)
  (z15 : FP K mainGlobals "abs" = some none)
  (z16 : FP K mainGlobals "sorted" = some none)
  (z17 : FP K mainGlobals "tuple" = some none)
  (z18 : FP K mainGlobals "str" = some none)
  : ∃ (fd : FuncData) (tP c0 : Addr), tP ∈ ts ∧ CodeK K c0 tP ∧ K.lookup tP = none ∧ (∀ (s : Shared) (v : Value), BindsTo s fd ⟨[v], []⟩ [("_law_script", v)]) ∧ ∀ base : Heap, K.In base → base.Ns mainGlobals mg → BltM mg base → FnOk l.prog w K mg base CX0 11 fa fd ["_law_script"] (kff K tP) := by
 have e := hfa.symm.trans (FS X G zxt)
 have hf : zn9 = fa := by
  injection e with e
  injection e with e
  exact e.symm
 subst hf
 have B : TxtB mg := ⟨Cg X G z1, Cg X G z2, Cg X G z3, Cg X G z4, Cg X G z5, Cg X G z6, Cg X G z7, Cg X G z8, Cg X G z9, Cg X G z10, Cg X G z11, Cg X G z12, Cg X G z13, Cg X G z14, Cg X G z15, Cg X G z16, Cg X G z17, Cg X G z18⟩
 have zyl := kaw (x := "dealt") (qual := "dealt") (st := kb4) zxc zyb zx2
 have zyk : Binds K (FI "dealt" "dealt" (kag kb4) (kaf kb4) (kab kb4) .none zhe zj1 zj7 zgr zc0 zj2) ["cut", "weights"] [] := Binds.all (nL2 fun _ _ => rfl)
 have zx1 := kaw (x := "under") (qual := "under") (st := kb0) zxe zym zx8
 have zy8 : Binds K (FI "under" "under" (kag kb0) (kaf kb0) (kab kb0) .none zic zj4 zgx zhj zby zgk) ["parents", "one", "other"] [] := Binds.all (nL3 fun _ _ _ => rfl)
 have zfn := kaw (x := "price_of_piece") (qual := "price_of_piece") (st := kaL) zep zer zfr
 have zfq : Binds K (FI "price_of_piece" "price_of_piece" (kag kaL) (kaf kaL) (kab kaL) .none z44 z4a z4f z4q z1u z4d) ["line", "member"] [] := Binds.all (nL2 fun _ _ => rfl)
 have zxp := kaw (x := "about") (qual := "about") (st := kbP) zy0 zx0 zyi
 have zwz : Binds K (FI "about" "about" (kag kbP) (kaf kbP) (kab kbP) .none zi8 zi0 zii ziu zc4 zhu) ["voucher", "parents", "basket", "standing"] [] := Binds.all (nL4 fun _ _ _ _ => rfl)
 have zza := kaw (x := "fits") (qual := "fits") (st := kcs) zzg zz0 zz3
 have zys : Binds K (FI "fits" "fits" (kag kcs) (kaf kcs) (kab kcs) .none znb zn3 zlv zmh zf2 zmo) ["marks", "parents", "kind", "marked"] [] := Binds.all (nL4 fun _ _ _ _ => rfl)
 have zsz := kaw (x := "hindrance") (qual := "hindrance") (st := kbo) zt2 zte zt5
 have zti : Binds K (FI "hindrance" "hindrance" (kag kbo) (kaf kbo) (kab kbo) .none zao zag zb1 zam z7d zb3) ["voucher", "parents", "basket", "standing"] [] := Binds.all (nL4 fun _ _ _ _ => rfl)
 have zyu := kaw (x := "cuts") (qual := "cuts") (st := kct) zyr zzc zyx
 have zyy : Binds K (FI "cuts" "cuts" (kag kct) (kaf kct) (kab kct) .none zm2 znf zng zo6 zf0 zmq) ["voucher", "parents", "basket", "standing"] [] := Binds.all (nL4 fun _ _ _ _ => rfl)
 have zxd := kaw (x := "after") (qual := "after") (st := kb5) zy7 zyj zy9
 have zxk : Binds K (FI "after" "after" (kag kb5) (kaf kb5) (kab kb5) .none zh5 zgp zih zi3 zc2 zig) ["voucher", "parents", "basket", "standing"] [] := Binds.all (nL4 fun _ _ _ _ => rfl)
 have zg6 := kaw (x := "cuts_of_pieces") (qual := "cuts_of_pieces") (st := kaN) zfh zfa zg5
 have zfw : Binds K (FI "cuts_of_pieces" "cuts_of_pieces" (kag kaN) (kaf kaN) (kab kaN) .none z4p z4v z4j z4i z1o z46) ["voucher", "parents", "basket", "standing"] [] := Binds.all (nL4 fun _ _ _ _ => rfl)
 have zdx := kaw (x := "cut_of_carriage") (qual := "cut_of_carriage") (st := kaH) zcp zd9 zcz
 have zdq : Binds K (FI "cut_of_carriage" "cut_of_carriage" (kag kaH) (kaf kaH) (kab kaH) .none z3e z3b z3k z3j z1d z3g) ["voucher", "standing"] [] := Binds.all (nL2 fun _ _ => rfl)
 have zly := kaw (x := "wanted_cuts") (qual := "wanted_cuts") (st := kaR) zmp zm1 zmr
 have znh : Binds K (FI "wanted_cuts" "wanted_cuts" (kag kaR) (kaf kaR) (kab kaR) .none z81 z8c z7z z85 z3v z84) ["voucher", "standing", "pieces"] [] := Binds.all (nL3 fun _ _ _ => rfl)
 have zg2 := kaw (x := "parted_by_line") (qual := "parted_by_line") (st := kaM) zfs zg8 zgb
 have zeo : Binds K (FI "parted_by_line" "parted_by_line" (kag kaM) (kaf kaM) (kab kaM) .none z4s z4r z4u z4k z1r z4c) ["standing", "pieces"] [] := Binds.all (nL2 fun _ _ => rfl)
 have zea := kaw (x := "falling_groups") (qual := "falling_groups") (st := kaB) ze8 ze4 zfx
 have ze9 : Binds K (FI "falling_groups" "falling_groups" (kag kaB) (kaf kaB) (kab kaB) .none z4n z4y z4l z4e zu z47) ["standing", "pieces", "many"] [] := Binds.all (nL3 fun _ _ _ => rfl)
 have zi5 := kaw (x := "marked_behind") (qual := "marked_behind") (st := kaV) zgc zhz zgd
 have zir : Binds K (FI "marked_behind" "marked_behind" (kag kaV) (kaf kaV) (kab kaV) .none z5e z64 z5x z5f z2j z63) ["voucher", "standing", "piece_cuts"] [] := Binds.all (nL3 fun _ _ _ => rfl)
 have zri := kaw (x := "prices_of") (qual := "prices_of") (st := kbj) zrz zrv zsq
 have zst : Binds K (FI "prices_of" "prices_of" (kag kbj) (kaf kbj) (kab kbj) .none zak zan zav zaz z78 zb6) ["standing", "pieces"] [] := Binds.all (nL2 fun _ _ => rfl)
 have zgf := kaw (x := "sum_of_prices") (qual := "sum_of_prices") (st := kaU) zhv zis ziz
 have zh8 : Binds K (FI "sum_of_prices" "sum_of_prices" (kag kaU) (kaf kaU) (kab kaU) .none z6a z5r z50 z5j z26 z5l) ["standing", "pieces"] [] := Binds.all (nL2 fun _ _ => rfl)
 have zv5 := kaw (x := "at_most") (qual := "at_most") (st := kbA) zve zvh zut
 have zvd : Binds K (FI "at_most" "at_most" (kag kbA) (kaf kbA) (kab kbA) .none zbt zbv zbs zbw zaa zbu) ["most", "number"] [] := Binds.all (nL2 fun _ _ => rfl)
 have zy6 := kaw (x := "fault") (qual := "fault") (st := kb3) zxb zyd zxo
 have zxq : Binds K (FI "fault" "fault" (kag kb3) (kaf kb3) (kab kb3) .none ziw zgz zj8 zio zbz zhx) ["till", "basket", "hand", "order"] [] := Binds.all (nL4 fun _ _ _ _ => rfl)
 have zvs := kaw (x := "way_by") (qual := "way_by") (st := kbJ) zw6 zw0 zwn
 have zvt : Binds K (FI "way_by" "way_by" (kag kbJ) (kaf kbJ) (kab kbJ) .none zd6 zdh ze0 zcl zbi zdf) ["till", "basket", "hand", "order"] [] := Binds.all (nL4 fun _ _ _ _ => rfl)
 have zhg := kaw (x := "word_of_order") (qual := "word_of_order") (st := kaT) zgv zgw zj5
 have zi1 : Binds K (FI "word_of_order" "word_of_order" (kag kaT) (kaf kaT) (kab kaT) .none z5i z60 z57 z5y z2b z5p) ["till", "hand", "used", "number"] [] := Binds.all (nL4 fun _ _ _ _ => rfl)
 have zl3 := kaw (x := "breaks_never") (qual := "breaks_never") (st := kaZ) zlj zku zjq
 have zl1 : Binds K (FI "breaks_never" "breaks_never" (kag kaZ) (kaf kaZ) (kab kaZ) .none z71 z6o z6b z6c z35 z6m) ["rules", "used", "number"] [] := Binds.all (nL3 fun _ _ _ => rfl)
 have zkq := kaw (x := "breaks_ahead") (qual := "breaks_ahead") (st := ka0) zkg zlo zlr
 have zjr : Binds K (FI "breaks_ahead" "breaks_ahead" (kag ka0) (kaf ka0) (kab ka0) .none z6x z6l z6v z6s z38 z6y) ["rules", "used", "number"] [] := Binds.all (nL3 fun _ _ _ => rfl)
 have zdd := kaw (x := "without_company") (qual := "without_company") (st := kaG) zds zd3 zd5
 have zdm : Binds K (FI "without_company" "without_company" (kag kaG) (kaf kaG) (kab kaG) .none z3h z3d z3i z3c z1e z3f) ["rules", "order"] [] := Binds.all (nL2 fun _ _ => rfl)
 have zvy := kaw (x := "priced") (qual := "priced") (st := kbK) zwp zw9 zwo
 have zwk : Binds K (FI "priced" "priced" (kag kbK) (kaf kbK) (kab kbK) .none zcv zde zcr zdi zbh zcj) ["till", "basket", "hand", "order"] [] := Binds.all (nL4 fun _ _ _ _ => rfl)
 have zk7 := kaw (x := "_law_cell_at") (qual := "_law_cell_at") (st := ka3) zlh zjs zla
 have zkm : Binds K (FI "_law_cell_at" "_law_cell_at" (kag ka3) (kaf ka3) (kab ka3) .none z6u z6t z6r z6j z30 z6z) ["_law_script", "_law_k"] [] := Binds.all (nL2 fun _ _ => rfl)
 have ztb := kaw (x := "_law_some") (qual := "_law_some") (st := kbp) zt0 zru zs6
 have zsi : Binds K (FI "_law_some" "_law_some" (kag kbp) (kaf kbp) (kab kbp) .none zax zap zas zb5 z7q zb2) ["_law_script", "_law_k", "_law_salt", "_law_many"] [] := Binds.all (nL4 fun _ _ _ _ => rfl)
 have zr3 := kaw (x := "_law_price") (qual := "_law_price") (st := kbe) zqn zqx zq4
 have zok : Binds K (FI "_law_price" "_law_price" (kag kbe) (kaf kbe) (kab kbe) .none z99 z9f z9w z90 z5b z9s) ["_law_script", "_law_k", "_law_salt"] [] := Binds.all (nL3 fun _ _ _ => rfl)
 have zk9 := kaw (x := "_law_parents") (qual := "_law_parents") (st := ka2) zkv zjx zjg
 have zk5 : Binds K (FI "_law_parents" "_law_parents" (kag ka2) (kaf ka2) (kab ka2) .none z6h z6d z74 z70 z32 z6p) ["_law_script"] [] := Binds.all (nL1 fun _ => rfl)
 have zn4 := kaw (x := "_law_basket") (qual := "_law_basket") (st := ka8) zno zn5 zmc
 have zmu : Binds K (FI "_law_basket" "_law_basket" (kag ka8) (kaf ka8) (kab ka8) .none z83 z7y z89 z8a z43 z8f) ["_law_script", "_law_kinds"] [] := Binds.all (nL2 fun _ _ => rfl)
 have znl := kaw (x := "_law_amount") (qual := "_law_amount") (st := ka9) znp zn6 zmy
 have zml : Binds K (FI "_law_amount" "_law_amount" (kag ka9) (kaf ka9) (kab ka9) .none z7x z87 z8b z8e z3q z86) ["_law_script", "_law_k", "_law_salt", "_law_worth_here"] [] := Binds.all (nL4 fun _ _ _ _ => rfl)
 have zpe := kaw (x := "_law_marks") (qual := "_law_marks") (st := kbg) zqe zph zp9
 have zpv : Binds K (FI "_law_marks" "_law_marks" (kag kbg) (kaf kbg) (kab kbg) .none z92 z9k z9a z95 z61 z8u) ["_law_script", "_law_k", "_law_kinds", "_law_worth_here"] [] := Binds.all (nL4 fun _ _ _ _ => rfl)
 have zlf := kaw (x := "_law_voucher") (qual := "_law_voucher") (st := ka1) zks zkl zkf
 have zkz : Binds K (FI "_law_voucher" "_law_voucher" (kag ka1) (kaf ka1) (kab ka1) .none z6q z6k z6g z73 z39 z6w) ["_law_script", "_law_k", "_law_kinds", "_law_worth_here"] [] := Binds.all (nL4 fun _ _ _ _ => rfl)
 have zqh := kaw (x := "_law_rules") (qual := "_law_rules") (st := kbd) zq3 zq2 zp6
 have zpa : Binds K (FI "_law_rules" "_law_rules" (kag kbd) (kaf kbd) (kab kbd) .none z9u z8t z9r z9m z5d z93) ["_law_script", "_law_many"] [] := Binds.all (nL2 fun _ _ => rfl)
 have zq9 := kaw (x := "_law_worth") (qual := "_law_worth") (st := kbc) zr4 zq7 zr1
 have zqa : Binds K (FI "_law_worth" "_law_worth" (kag kbc) (kaf kbc) (kab kbc) .none za1 z9p z96 za2 z5h z9e) ["_law_basket_here"] [] := Binds.all (nL1 fun _ => rfl)
 have zs3 := kaw (x := "_law_till") (qual := "_law_till") (st := kbk) zry zsm zs1
 have zsj : Binds K (FI "_law_till" "_law_till" (kag kbk) (kaf kbk) (kab kbk) .none zau zat zb4 zal z7l zb0) ["_law_script", "_law_parents_here", "_law_basket_here", "_law_back"] [] := Binds.all (nL4 fun _ _ _ _ => rfl)
 have zrm := kaw (x := "_law_hand") (qual := "_law_hand") (st := kbl) zrl ztk zrh
 have zss : Binds K (FI "_law_hand" "_law_hand" (kag kbl) (kaf kbl) (kab kbl) .none zay zaf zar zah z7p zad) ["_law_script", "_law_many"] [] := Binds.all (nL2 fun _ _ => rfl)
 have zpw := kaw (x := "_law_going") (qual := "_law_going") (st := kbh) zqg zoq zpm
 have zpg : Binds K (FI "_law_going" "_law_going" (kag kbh) (kaf kbh) (kab kbh) .none z9o z9d z9g z97 z52 z9b) ["_law_till_here", "_law_basket_here", "_law_hand_here", "_law_order_here"] [] := Binds.all (nL4 fun _ _ _ _ => rfl)
 have zpc := kaw (x := "_law_order") (qual := "_law_order") (st := kbf) zoy zou zqs
 have zpf : Binds K (FI "_law_order" "_law_order" (kag kbf) (kaf kbf) (kab kbf) .none za0 z98 za5 z8x z58 z9j) ["_law_script", "_law_k", "_law_till_here", "_law_basket_here", "_law_hand_here"] [] := Binds.all (nL5 fun _ _ _ _ _ => rfl)
 have zne := kaw (x := "_law_prices") (qual := "_law_prices") (st := ka7) zoa zmj znt
 have zmm : Binds K (FI "_law_prices" "_law_prices" (kag ka7) (kaf ka7) (kab ka7) .none z80 z8g z88 z8d z42 z82) ["_law_basket_here"] [] := Binds.all (nL1 fun _ => rfl)
 have zg4 := kaw (x := "_law_goes_down") (qual := "_law_goes_down") (st := kaO) zfc zej zen
 have zf9 : Binds K (FI "_law_goes_down" "_law_goes_down" (kag kaO) (kaf kaO) (kab kaO) .none z4m z4w z48 z4g z1q z4o) ["_law_basket_here", "_law_bill"] [] := Binds.all (nL2 fun _ _ => rfl)
 have zzt := kaw (x := "law") (qual := "law") (st := s_law) zzr zzu zzp
 have zzs : Binds K (FI "law" "law" (kag s_law) (kaf s_law) (kab s_law) .none zs0 zrc zro zsw zlu ztm) ["_law_script"] [] := Binds.all (nL1 fun _ => rfl)
 have zps := kaw (x := "__init__") (qual := "Marks.__init__") (st := kaq) zoj zoh zp4
 have zpk : Binds K (FI "__init__" "Marks.__init__" (kag kaq) (kaf kaq) (kab kaq) (.ref zl) zm zq zp zn zh zo) ["self", "kind", "needs", "most", "member", "once", "lone"] [] := fun s us KX hl => by
  have hl' : us.length = 7 := by simpa using hl
  clear hl; revert us; exact nL7 fun _ _ _ _ _ _ _ => BindsTo.of_defaults rfl (KX _ _ z1c) rfl rfl rfl
 have zk3 : Binds K (FI "__init__" "Marks.__init__" (kag kaq) (kaf kaq) (kab kaq) (.ref zl) zm zq zp zn zh zo) ["self", "kind", "needs", "most", "member", "once", "lone"] [.bool false] := fun s us KX hl => by
  have hl' : us.length = 6 := by simpa using hl
  clear hl; revert us; exact nL6 fun _ _ _ _ _ _ => BindsTo.of_defaults rfl (KX _ _ z1c) rfl rfl rfl
 have zjo : Binds K (FI "__init__" "Marks.__init__" (kag kaq) (kaf kaq) (kab kaq) (.ref zl) zm zq zp zn zh zo) ["self", "kind", "needs", "most", "member", "once", "lone"] [.bool false, .bool false] := fun s us KX hl => by
  have hl' : us.length = 5 := by simpa using hl
  clear hl; revert us; exact nL5 fun _ _ _ _ _ => BindsTo.of_defaults rfl (KX _ _ z1c) rfl rfl rfl
 have zld : Binds K (FI "__init__" "Marks.__init__" (kag kaq) (kaf kaq) (kab kaq) (.ref zl) zm zq zp zn zh zo) ["self", "kind", "needs", "most", "member", "once", "lone"] [.bool false, .bool false, .bool false] := fun s us KX hl => by
  have hl' : us.length = 4 := by simpa using hl
  clear hl; revert us; exact nL4 fun _ _ _ _ => BindsTo.of_defaults rfl (KX _ _ z1c) rfl rfl rfl
 have zl7 : Binds K (FI "__init__" "Marks.__init__" (kag kaq) (kaf kaq) (kab kaq) (.ref zl) zm zq zp zn zh zo) ["self", "kind", "needs", "most", "member", "once", "lone"] [.none, .bool false, .bool false, .bool false] := fun s us KX hl => by
  have hl' : us.length = 3 := by simpa using hl
  clear hl; revert us; exact nL3 fun _ _ _ => BindsTo.of_defaults rfl (KX _ _ z1c) rfl rfl rfl
 have zk1 : Binds K (FI "__init__" "Marks.__init__" (kag kaq) (kaf kaq) (kab kaq) (.ref zl) zm zq zp zn zh zo) ["self", "kind", "needs", "most", "member", "once", "lone"] [.int 0 z2a, .none, .bool false, .bool false, .bool false] := fun s us KX hl => by
  have hl' : us.length = 2 := by simpa using hl
  clear hl; revert us; exact nL2 fun _ _ => BindsTo.of_defaults rfl (KX _ _ z1c) rfl rfl rfl
 have zjz : Binds K (FI "__init__" "Marks.__init__" (kag kaq) (kaf kaq) (kab kaq) (.ref zl) zm zq zp zn zh zo) ["self", "kind", "needs", "most", "member", "once", "lone"] [.none, .int 0 z2a, .none, .bool false, .bool false, .bool false] := fun s us KX hl => by
  have hl' : us.length = 1 := by simpa using hl
  clear hl; revert us; exact nL1 fun _ => BindsTo.of_defaults rfl (KX _ _ z1c) rfl rfl rfl
 have zju := kaw (x := "__init__") (qual := "Voucher.__init__") (st := kaI) zl9 zjj zln
 have zl6 : Binds K (FI "__init__" "Voucher.__init__" (kag kaI) (kaf kaI) (kab kaI) (.ref z22) z34 z3a z36 z37 z1i z33) ["self", "marks"] [] := fun s us KX hl => by
  have hl' : us.length = 2 := by simpa using hl
  clear hl; revert us; exact nL2 fun _ _ => BindsTo.of_defaults rfl (KX _ _ zbl) rfl rfl rfl
 have zfo : Binds K (FI "__init__" "Voucher.__init__" (kag kaI) (kaf kaI) (kab kaI) (.ref z22) z34 z3a z36 z37 z1i z33) ["self", "marks"] [.none] := fun s us KX hl => by
  have hl' : us.length = 1 := by simpa using hl
  clear hl; revert us; exact nL1 fun _ => BindsTo.of_defaults rfl (KX _ _ zbl) rfl rfl rfl
 have zu8 := kaw (x := "__init__") (qual := "Off.__init__") (st := kbm) zue zu5 zu0
 have zug : Binds K (FI "__init__" "Off.__init__" (kag kbm) (kaf kbm) (kab kbm) (.ref z7s) z8q z8i z8j z8s z55 z8r) ["self", "amount", "marks"] [] := fun s us KX hl => by
  have hl' : us.length = 3 := by simpa using hl
  clear hl; revert us; exact nL3 fun _ _ _ => BindsTo.of_defaults rfl (KX _ _ zje) rfl rfl rfl
 have zr0 : Binds K (FI "__init__" "Off.__init__" (kag kbm) (kaf kbm) (kab kbm) (.ref z7s) z8q z8i z8j z8s z55 z8r) ["self", "amount", "marks"] [.none] := fun s us KX hl => by
  have hl' : us.length = 2 := by simpa using hl
  clear hl; revert us; exact nL2 fun _ _ => BindsTo.of_defaults rfl (KX _ _ zje) rfl rfl rfl
 have zql := kaw (x := "__init__") (qual := "Share.__init__") (st := kaJ) zp5 zoz zor
 have zqw : Binds K (FI "__init__" "Share.__init__" (kag kaJ) (kaf kaJ) (kab kaJ) (.ref z23) z2w z2p z2v z2q z1g z2t) ["self", "share", "by_line", "marks"] [] := fun s us KX hl => by
  have hl' : us.length = 4 := by simpa using hl
  clear hl; revert us; exact nL4 fun _ _ _ _ => BindsTo.of_defaults rfl (KX _ _ zai) rfl rfl rfl
 have zlp : Binds K (FI "__init__" "Share.__init__" (kag kaJ) (kaf kaJ) (kab kaJ) (.ref z23) z2w z2p z2v z2q z1g z2t) ["self", "share", "by_line", "marks"] [.none] := fun s us KX hl => by
  have hl' : us.length = 3 := by simpa using hl
  clear hl; revert us; exact nL3 fun _ _ _ => BindsTo.of_defaults rfl (KX _ _ zai) rfl rfl rfl
 have zl0 : Binds K (FI "__init__" "Share.__init__" (kag kaJ) (kaf kaJ) (kab kaJ) (.ref z23) z2w z2p z2v z2q z1g z2t) ["self", "share", "by_line", "marks"] [.bool false, .none] := fun s us KX hl => by
  have hl' : us.length = 2 := by simpa using hl
  clear hl; revert us; exact nL2 fun _ _ => BindsTo.of_defaults rfl (KX _ _ zai) rfl rfl rfl
 have zgh := kaw (x := "__init__") (qual := "Cheapest.__init__") (st := kaC) zi6 zif zgg
 have zgy : Binds K (FI "__init__" "Cheapest.__init__" (kag kaC) (kaf kaC) (kab kaC) (.ref z1m) z2e z2m z24 z2o z1a z2l) ["self", "many", "marks"] [] := fun s us KX hl => by
  have hl' : us.length = 3 := by simpa using hl
  clear hl; revert us; exact nL3 fun _ _ _ => BindsTo.of_defaults rfl (KX _ _ zb8) rfl rfl rfl
 have zch : Binds K (FI "__init__" "Cheapest.__init__" (kag kaC) (kaf kaC) (kab kaC) (.ref z1m) z2e z2m z24 z2o z1a z2l) ["self", "many", "marks"] [.none] := fun s us KX hl => by
  have hl' : us.length = 2 := by simpa using hl
  clear hl; revert us; exact nL2 fun _ _ => BindsTo.of_defaults rfl (KX _ _ zb8) rfl rfl rfl
 have zlz := kaw (x := "__init__") (qual := "Bundle.__init__") (st := kaS) zm6 znm zm7
 have zn2 : Binds K (FI "__init__" "Bundle.__init__" (kag kaS) (kaf kaS) (kab kaS) (.ref z2s) z3z z3u z41 z3x z1w z40) ["self", "many", "price", "marks"] [] := fun s us KX hl => by
  have hl' : us.length = 4 := by simpa using hl
  clear hl; revert us; exact nL4 fun _ _ _ _ => BindsTo.of_defaults rfl (KX _ _ zbx) rfl rfl rfl
 have zgo : Binds K (FI "__init__" "Bundle.__init__" (kag kaS) (kaf kaS) (kab kaS) (.ref z2s) z3z z3u z41 z3x z1w z40) ["self", "many", "price", "marks"] [.none] := fun s us KX hl => by
  have hl' : us.length = 3 := by simpa using hl
  clear hl; revert us; exact nL3 fun _ _ _ => BindsTo.of_defaults rfl (KX _ _ zbx) rfl rfl rfl
 have zhs := kaw (x := "__init__") (qual := "Carriage.__init__") (st := kaD) zhh zie zhm
 have zh2 : Binds K (FI "__init__" "Carriage.__init__" (kag kaD) (kaf kaD) (kab kaD) (.ref z1k) z2h z29 z2c z2f z1b z28) ["self", "marks"] [] := fun s us KX hl => by
  have hl' : us.length = 2 := by simpa using hl
  clear hl; revert us; exact nL2 fun _ _ => BindsTo.of_defaults rfl (KX _ _ zb7) rfl rfl rfl
 have zdv : Binds K (FI "__init__" "Carriage.__init__" (kag kaD) (kaf kaD) (kab kaD) (.ref z1k) z2h z29 z2c z2f z1b z28) ["self", "marks"] [.none] := fun s us KX hl => by
  have hl' : us.length = 1 := by simpa using hl
  clear hl; revert us; exact nL1 fun _ => BindsTo.of_defaults rfl (KX _ _ zb7) rfl rfl rfl
 have zrd := kaw (x := "__init__") (qual := "Line.__init__") (st := kbb) ztt zrq zs7
 have zs8 : Binds K (FI "__init__" "Line.__init__" (kag kbb) (kaf kbb) (kab kbb) (.ref z5s) z76 z79 z7o z7e z3n z7k) ["self", "kind", "price", "many", "special"] [] := fun s us KX hl => by
  have hl' : us.length = 5 := by simpa using hl
  clear hl; revert us; exact nL5 fun _ _ _ _ _ => BindsTo.of_defaults rfl (KX _ _ zem) rfl rfl rfl
 have znv : Binds K (FI "__init__" "Line.__init__" (kag kbb) (kaf kbb) (kab kbb) (.ref z5s) z76 z79 z7o z7e z3n z7k) ["self", "kind", "price", "many", "special"] [.none] := fun s us KX hl => by
  have hl' : us.length = 4 := by simpa using hl
  clear hl; revert us; exact nL4 fun _ _ _ _ => BindsTo.of_defaults rfl (KX _ _ zem) rfl rfl rfl
 have zoc := kaw (x := "__init__") (qual := "Basket.__init__") (st := kaE) znx zm8 znr
 have zmn : Binds K (FI "__init__" "Basket.__init__" (kag kaE) (kaf kaE) (kab kaE) (.ref z1l) z1x z21 z20 z1z zy z1v) ["self", "lines", "carriage", "member"] [] := fun s us KX hl => by
  have hl' : us.length = 4 := by simpa using hl
  clear hl; revert us; exact nL4 fun _ _ _ _ => BindsTo.of_defaults rfl (KX _ _ z8w) rfl rfl rfl
 have zhr : Binds K (FI "__init__" "Basket.__init__" (kag kaE) (kaf kaE) (kab kaE) (.ref z1l) z1x z21 z20 z1z zy z1v) ["self", "lines", "carriage", "member"] [.bool false] := fun s us KX hl => by
  have hl' : us.length = 3 := by simpa using hl
  clear hl; revert us; exact nL3 fun _ _ _ => BindsTo.of_defaults rfl (KX _ _ z8w) rfl rfl rfl
 have zgt : Binds K (FI "__init__" "Basket.__init__" (kag kaE) (kaf kaE) (kab kaE) (.ref z1l) z1x z21 z20 z1z zy z1v) ["self", "lines", "carriage", "member"] [.int 0 z4t, .bool false] := fun s us KX hl => by
  have hl' : us.length = 2 := by simpa using hl
  clear hl; revert us; exact nL2 fun _ _ => BindsTo.of_defaults rfl (KX _ _ z8w) rfl rfl rfl
 have zi4 := kaw (x := "__init__") (qual := "Standing.__init__") (st := kaX) zh7 zh6 zi9
 have zik : Binds K (FI "__init__" "Standing.__init__" (kag kaX) (kaf kaX) (kab kaX) .none z65 z67 z5n z5c z2n z5v) ["self", "basket"] [] := Binds.all (nL2 fun _ _ => rfl)
 have zeg := kaw (x := "whole") (qual := "Standing.whole") (st := kaP) zfe ze6 zfj
 have zeu : Binds K (FI "whole" "Standing.whole" (kag kaP) (kaf kaP) (kab kaP) .none z45 z49 z4x z4h z1s z4b) ["self"] [] := Binds.all (nL1 fun _ => rfl)
 have ztx := kaw (x := "__init__") (qual := "Way.__init__") (st := kbv) zu9 zui ztz
 have zuj : Binds K (FI "__init__" "Way.__init__" (kag kbv) (kaf kbv) (kab kbv) .none zbg zbc zbj zbd z8o zbf) ["self", "till", "basket", "hand"] [] := Binds.all (nL4 fun _ _ _ _ => rfl)
 have zkh := kaw (x := "word_for") (qual := "Way.word_for") (st := ka4) zkd zlm zlg
 have zk6 : Binds K (FI "word_for" "Way.word_for" (kag ka4) (kaf ka4) (kab ka4) .none z6n z6f z6i z72 z2y z75) ["self", "number"] [] := Binds.all (nL2 fun _ _ => rfl)
 have zop := kaw (x := "behind") (qual := "Way.behind") (st := kbi) zpo zqy zq8
 have zpj : Binds K (FI "behind" "Way.behind" (kag kbi) (kaf kbi) (kab kbi) .none z9l z91 z8z z94 z5t z9x) ["self", "number"] [] := Binds.all (nL2 fun _ _ => rfl)
 have zim := kaw (x := "is_let_by") (qual := "Way.is_let_by") (st := kaW) zix zj6 zhb
 have zgs : Binds K (FI "is_let_by" "Way.is_let_by" (kag kaW) (kaf kaW) (kab kaW) .none z5k z5a z4z z62 z2i z53) ["self"] [] := Binds.all (nL1 fun _ => rfl)
 have zre := kaw (x := "__init__") (qual := "Bill.__init__") (st := kbq) zsy ztc zrk
 have zrj : Binds K (FI "__init__" "Bill.__init__" (kag kbq) (kaf kbq) (kab kbq) .none zaw zac zae zaj z7c zaq) ["self", "order", "steps", "standing"] [] := Binds.all (nL4 fun _ _ _ _ => rfl)
 have zsa := kaw (x := "__init__") (qual := "Till.__init__") (st := kba) zts zsh zs9
 have zr8 : Binds K (FI "__init__" "Till.__init__" (kag kba) (kaf kba) (kab kba) (.ref z54) z7i z7b z7n z7r z3o z7j) ["self", "parents", "vouchers", "rules", "back"] [] := fun s us KX hl => by
  have hl' : us.length = 5 := by simpa using hl
  clear hl; revert us; exact nL5 fun _ _ _ _ _ => BindsTo.of_defaults rfl (KX _ _ zf5) rfl rfl rfl
 have zlx : Binds K (FI "__init__" "Till.__init__" (kag kba) (kaf kba) (kab kba) (.ref z54) z7i z7b z7n z7r z3o z7j) ["self", "parents", "vouchers", "rules", "back"] [.str "again" z6e] := fun s us KX hl => by
  have hl' : us.length = 4 := by simpa using hl
  clear hl; revert us; exact nL4 fun _ _ _ _ => BindsTo.of_defaults rfl (KX _ _ zf5) rfl rfl rfl
 have W : Wld K mg ⟨(zfp), (FI "dealt" "dealt" (kag kb4) (kaf kb4) (kab kb4) .none zhe zj1 zj7 zgr zc0 zj2), (zeb), (FI "under" "under" (kag kb0) (kaf kb0) (kab kb0) .none zic zj4 zgx zhj zby zgk), (z27), (FI "price_of_piece" "price_of_piece" (kag kaL) (kaf kaL) (kab kaL) .none z44 z4a z4f z4q z1u z4d), (zga), (FI "about" "about" (kag kbP) (kaf kbP) (kab kbP) .none zi8 zi0 zii ziu zc4 zhu), (zls), (FI "fits" "fits" (kag kcs) (kaf kcs) (kab kcs) .none znb zn3 zlv zmh zf2 zmo), (z8p), (FI "hindrance" "hindrance" (kag kbo) (kaf kbo) (kab kbo) .none zao zag zb1 zam z7d zb3), (zlt), (FI "cuts" "cuts" (kag kct) (kaf kct) (kab kct) .none zm2 znf zng zo6 zf0 zmq), (zfi), (FI "after" "after" (kag kb5) (kaf kb5) (kab kb5) .none zh5 zgp zih zi3 zc2 zig), (z2d), (FI "cuts_of_pieces" "cuts_of_pieces" (kag kaN) (kaf kaN) (kab kaN) .none z4p z4v z4j z4i z1o z46), (z1t), (FI "cut_of_carriage" "cut_of_carriage" (kag kaH) (kaf kaH) (kab kaH) .none z3e z3b z3k z3j z1d z3g), (z5o), (FI "wanted_cuts" "wanted_cuts" (kag kaR) (kaf kaR) (kab kaR) .none z81 z8c z7z z85 z3v z84), (z2g), (FI "parted_by_line" "parted_by_line" (kag kaM) (kaf kaM) (kab kaM) .none z4s z4r z4u z4k z1r z4c), (z25), (FI "falling_groups" "falling_groups" (kag kaB) (kaf kaB) (kab kaB) .none z4n z4y z4l z4e zu z47), (z2z), (FI "marked_behind" "marked_behind" (kag kaV) (kaf kaV) (kab kaV) .none z5e z64 z5x z5f z2j z63), (z8k), (FI "prices_of" "prices_of" (kag kbj) (kaf kbj) (kab kbj) .none zak zan zav zaz z78 zb6), (z2x), (FI "sum_of_prices" "sum_of_prices" (kag kaU) (kaf kaU) (kab kaU) .none z6a z5r z50 z5j z26 z5l), (zbe), (FI "at_most" "at_most" (kag kbA) (kaf kbA) (kab kbA) .none zbt zbv zbs zbw zaa zbu), (zf7), (FI "fault" "fault" (kag kb3) (kaf kb3) (kab kb3) .none ziw zgz zj8 zio zbz zhx), (zc1), (FI "way_by" "way_by" (kag kbJ) (kaf kbJ) (kab kbJ) .none zd6 zdh ze0 zcl zbi zdf), (z31), (FI "word_of_order" "word_of_order" (kag kaT) (kaf kaT) (kab kaT) .none z5i z60 z57 z5y z2b z5p), (z3s), (FI "breaks_never" "breaks_never" (kag kaZ) (kaf kaZ) (kab kaZ) .none z71 z6o z6b z6c z35 z6m), (z3w), (FI "breaks_ahead" "breaks_ahead" (kag ka0) (kaf ka0) (kab ka0) .none z6x z6l z6v z6s z38 z6y), (z1p), (FI "without_company" "without_company" (kag kaG) (kaf kaG) (kab kaG) .none z3h z3d z3i z3c z1e z3f), (zc3), (FI "priced" "priced" (kag kbK) (kaf kbK) (kab kbK) .none zcv zde zcr zdi zbh zcj), (z3t), (FI "_law_cell_at" "_law_cell_at" (kag ka3) (kaf ka3) (kab ka3) .none z6u z6t z6r z6j z30 z6z), (z8n), (FI "_law_some" "_law_some" (kag kbp) (kaf kbp) (kab kbp) .none zax zap zas zb5 z7q zb2), (z7h), (FI "_law_price" "_law_price" (kag kbe) (kaf kbe) (kab kbe) .none z99 z9f z9w z90 z5b z9s), (z3y), (FI "_law_parents" "_law_parents" (kag ka2) (kaf ka2) (kab ka2) .none z6h z6d z74 z70 z32 z6p), (z56), (FI "_law_basket" "_law_basket" (kag ka8) (kaf ka8) (kab ka8) .none z83 z7y z89 z8a z43 z8f), (z66), (FI "_law_amount" "_law_amount" (kag ka9) (kaf ka9) (kab ka9) .none z7x z87 z8b z8e z3q z86), (z7f), (FI "_law_marks" "_law_marks" (kag kbg) (kaf kbg) (kab kbg) .none z92 z9k z9a z95 z61 z8u), (z3r), (FI "_law_voucher" "_law_voucher" (kag ka1) (kaf ka1) (kab ka1) .none z6q z6k z6g z73 z39 z6w), (z7g), (FI "_law_rules" "_law_rules" (kag kbd) (kaf kbd) (kab kbd) .none z9u z8t z9r z9m z5d z93), (z7m), (FI "_law_worth" "_law_worth" (kag kbc) (kaf kbc) (kab kbc) .none za1 z9p z96 za2 z5h z9e), (z8l), (FI "_law_till" "_law_till" (kag kbk) (kaf kbk) (kab kbk) .none zau zat zb4 zal z7l zb0), (z8m), (FI "_law_hand" "_law_hand" (kag kbl) (kaf kbl) (kab kbl) .none zay zaf zar zah z7p zad), (z77), (FI "_law_going" "_law_going" (kag kbh) (kaf kbh) (kab kbh) .none z9o z9d z9g z97 z52 z9b), (z7a), (FI "_law_order" "_law_order" (kag kbf) (kaf kbf) (kab kbf) .none za0 z98 za5 z8x z58 z9j), (z69), (FI "_law_prices" "_law_prices" (kag ka7) (kaf ka7) (kab ka7) .none z80 z8g z88 z8d z42 z82), (z2k), (FI "_law_goes_down" "_law_goes_down" (kag kaO) (kaf kaO) (kab kaO) .none z4m z4w z48 z4g z1q z4o), (zn9), (FI "law" "law" (kag s_law) (kaf s_law) (kab s_law) .none zs0 zrc zro zsw zlu ztm), (zk), (z3l), (FI "__init__" "Marks.__init__" (kag kaq) (kaf kaq) (kab kaq) (.ref zl) zm zq zp zn zh zo), (z2a), (zg), (zz), (FI "__init__" "Voucher.__init__" (kag kaI) (kaf kaI) (kab kaI) (.ref z22) z34 z3a z36 z37 z1i z33), (zr), (z7u), (FI "__init__" "Off.__init__" (kag kbm) (kaf kbm) (kab kbm) (.ref z7s) z8q z8i z8j z8s z55 z8r), (ze), (z3m), (FI "__init__" "Share.__init__" (kag kaJ) (kaf kaJ) (kab kaJ) (.ref z23) z2w z2p z2v z2q z1g z2t), (za), (z1h), (FI "__init__" "Cheapest.__init__" (kag kaC) (kaf kaC) (kab kaC) (.ref z1m) z2e z2m z24 z2o z1a z2l), (zc), (z2r), (FI "__init__" "Bundle.__init__" (kag kaS) (kaf kaS) (kab kaS) (.ref z2s) z3z z3u z41 z3x z1w z40), (zb), (z1n), (FI "__init__" "Carriage.__init__" (kag kaD) (kaf kaD) (kab kaD) (.ref z1k) z2h z29 z2c z2f z1b z28), (zv), (z5q), (FI "__init__" "Line.__init__" (kag kbb) (kaf kbb) (kab kbb) (.ref z5s) z76 z79 z7o z7e z3n z7k), (zj), (z2u), (FI "__init__" "Basket.__init__" (kag kaE) (kaf kaE) (kab kaE) (.ref z1l) z1x z21 z20 z1z zy z1v), (z4t), (zd), (z1f), (FI "__init__" "Standing.__init__" (kag kaX) (kaf kaX) (kab kaX) .none z65 z67 z5n z5c z2n z5v), (z19), (FI "whole" "Standing.whole" (kag kaP) (kaf kaP) (kab kaP) .none z45 z49 z4x z4h z1s z4b), (zx), (z7t), (FI "__init__" "Way.__init__" (kag kbv) (kaf kbv) (kab kbv) .none zbg zbc zbj zbd z8o zbf), (z1y), (FI "word_for" "Way.word_for" (kag ka4) (kaf ka4) (kab ka4) .none z6n z6f z6i z72 z2y z75), (z3p), (FI "behind" "Way.behind" (kag kbi) (kaf kbi) (kab kbi) .none z9l z91 z8z z94 z5t z9x), (z1j), (FI "is_let_by" "Way.is_let_by" (kag kaW) (kaf kaW) (kab kaW) .none z5k z5a z4z z62 z2i z53), (zs), (z59), (FI "__init__" "Bill.__init__" (kag kbq) (kaf kbq) (kab kbq) .none zaw zac zae zaj z7c zaq), (zw), (z5m), (FI "__init__" "Till.__init__" (kag kba) (kaf kba) (kab kba) (.ref z54) z7i z7b z7n z7r z3o z7j), (z6e), (zt), (zi)⟩ := ⟨B, ⟨zyl, zyk, FS X G zyf⟩, ⟨zx1, zy8, FS X G zxr⟩, ⟨zfn, zfq, FS X G zee⟩, ⟨zxp, zwz, FS X G zwv⟩, ⟨zza, zys, FS X G zyt⟩, ⟨zsz, zti, FS X G ztd⟩, ⟨zyu, zyy, FS X G zyz⟩, ⟨zxd, zxk, FS X G zya⟩, ⟨zg6, zfw, FS X G ze3⟩, ⟨zdx, zdq, FS X G zcm⟩, ⟨zly, znh, FS X G zmi⟩, ⟨zg2, zeo, FS X G zg9⟩, ⟨zea, ze9, FS X G zef⟩, ⟨zi5, zir, FS X G zil⟩, ⟨zri, zst, FS X G zta⟩, ⟨zgf, zh8, FS X G zh4⟩, ⟨zv5, zvd, FS X G zur⟩, ⟨zy6, zxq, FS X G zx6⟩, ⟨zvs, zvt, FS X G zwg⟩, ⟨zhg, zi1, FS X G zgn⟩, ⟨zl3, zl1, FS X G zky⟩, ⟨zkq, zjr, FS X G zk8⟩, ⟨zdd, zdm, FS X G zcy⟩, ⟨zvy, zwk, FS X G zvu⟩, ⟨zk7, zkm, FS X G zjw⟩, ⟨ztb, zsi, FS X G zrf⟩, ⟨zr3, zok, FS X G zpl⟩, ⟨zk9, zk5, FS X G zkp⟩, ⟨zn4, zmu, FS X G zmw⟩, ⟨znl, zml, FS X G zna⟩, ⟨zpe, zpv, FS X G zqb⟩, ⟨zlf, zkz, FS X G zl2⟩, ⟨zqh, zpa, FS X G zqr⟩, ⟨zq9, zqa, FS X G zqq⟩, ⟨zs3, zsj, FS X G zth⟩, ⟨zrm, zss, FS X G zsr⟩, ⟨zpw, zpg, FS X G zof⟩, ⟨zpc, zpf, FS X G zp1⟩, ⟨zne, zmm, FS X G znc⟩, ⟨zg4, zf9, FS X G zei⟩, ⟨zzt, zzs, FS X G zxt⟩, ⟨⟨zwa, zvr, zwf, zwd⟩, FS X G zy4, ⟨zvo, inX, itX, zvk⟩, zwm, zw8, zw2, zvv⟩, zow, znz, zot, zli, zpz, zon, ⟨zpb, zol, zps, zpk⟩, zk3, zjo, zld, zl7, zk1, zjz, ⟨⟨zul, zun, zu6, zu4⟩, FS X G zvg, ⟨zuc, inX, itX, zuo⟩, zum, zuf, zuk, zuh⟩, ⟨zjl, zko, zju, zl6⟩, zfo, FS X G zxg, ⟨⟨zz7, zzj, zze, zzi⟩, FS X G zxg, ⟨zyv, inX, itX, zf1⟩, zft, zex, zz9, zzd⟩, zoe, zrp, ⟨zty, ztv, zu8, zug⟩, zr0, FS X G zu1, ⟨⟨zw1, zw3, zwl, zvz⟩, FS X G zu1, ⟨zvp, inX, itX, zb9⟩, zbb, zba, zw5, zwe⟩, zn8, zh1, zo0, ⟨zoo, zqo, zql, zqw⟩, zlp, zl0, FS X G zjc, ⟨⟨zt7, zrs, zsn, zsb⟩, FS X G zjc, ⟨zsp, inX, itX, z5w⟩, z5z, z5g, zs5, zsf⟩, zhk, zg3, ⟨zhy, ziy, zgh, zgy⟩, zch, FS X G zr7, ⟨⟨zux, zv6, zv0, zv8⟩, FS X G zr7, ⟨zuu, inX, itX, z9i⟩, z9h, z9z, zvb, zuv⟩, zo1, zkw, zjf, ⟨zmz, zob, zlz, zn2⟩, zgo, FS X G zjd, ⟨⟨zt6, zt4, zs2, ztg⟩, FS X G zjd, ⟨ztp, inX, itX, z51⟩, z68, z5u, ztj, zrt⟩, zfz, ⟨zgu, zid, zhs, zh2⟩, zdv, ⟨⟨zxw, zxm, zxj, zyc⟩, FS X G zyq, ⟨zy1, inX, itX, zyn⟩, zxf, zx7, zwu, zxn⟩, zt8, zqj, ztr, zkk, ⟨zrb, zso, zrd, zs8⟩, znv, ⟨⟨zv4, zv3, zuw, zv2⟩, FS X G zwi, ⟨zvi, inX, itX, zuq⟩, zv7, zvj, zvc, zuz⟩, zki, zco, zh3, ⟨zm9, zme, zoc, zmn⟩, zhr, zgt, ⟨⟨zt3, ztn, zrr, ztl⟩, FS X G zu3, ⟨zrn, inX, itX, zsd⟩, zse, ztf, zsv, zr9⟩, zd7, zcw, zbr, zdc, ⟨zj9, ziq, zi4, zik⟩, ⟨zfv, zf6, zeg, zeu⟩, ⟨⟨zz1, zz8, zzn, zz2⟩, FS X G zzq, ⟨zzh, inX, itX, zzl⟩, zz4, zz5, zz6, zzf⟩, ztu, zox, ztw, zu2, zka, ⟨zup, zud, ztx, zuj⟩, ⟨zjm, zjv, zkh, zk6⟩, ⟨zoi, zqu, zop, zpj⟩, ⟨zgi, zhn, zim, zgs⟩, ⟨⟨zyp, zwx, zy2, zx9⟩, FS X G zzb, ⟨zx5, inX, itX, zy3⟩, zyg, zye, zxv, zxx⟩, zr6, zpp, znu, zhq, zp3, ⟨zra, zsg, zre, zrj⟩, ⟨⟨zxz, zxy, zy5, zyo⟩, FS X G zyw, ⟨zyh, inX, itX, zx3⟩, zx4, zxi, zxa, zxu⟩, zjp, zjb, zqd, zrg, ⟨zsk, zt1, zsa, zr8⟩, zlx, ⟨zhi, zhp, zhw⟩, kbn zbp z51 z5u (kbO zbp zft), kbn zab z51 z5u (kbO zab zbb), kbn z7w z51 z5u (kbO z7w z5z), kbn z8y z51 z5u (kbO z8y z9h), kbn zfb zf1 zex (kbO zfb zbb), kbn zbo zf1 zex (kbO zbo z5z), kbn zce zf1 zex (kbO zce z9h), kbn zbk zf1 zex (kbO zbk z68), kbn zfy zb9 zba (kbO zfy zft), kbn za7 zb9 zba (kbO za7 z5z), kbn zbn zb9 zba (kbO zbn z9h), kbn za9 zb9 zba (kbO za9 z68), kbn zbq z5w z5g (kbO zbq zft), kbn za8 z5w z5g (kbO za8 zbb), kbn z9c z5w z5g (kbO z9c z9h), kbn z7v z5w z5g (kbO z7v z68), kbn zcd z9i z9z (kbO zcd zft), kbn zbm z9i z9z (kbO zbm zbb), kbn za4 z9i z9z (kbO za4 z5z), kbn z8v z9i z9z (kbO z8v z68), zdy, ⟨_, zf, za3, z9v, z9t, z9n, z9q, z9y, za6, zcq, zd1, rfl, zcu, zdr, zd2, zdk, zd0, zdb, zdu⟩⟩
 exact ⟨_, zi, zt, zcf, W.ck_falling_groups, zdz, fun s v => .of_eq rfl, fun base _ _ hB => kkQ ⟨W, hB⟩⟩
end Vs
def PySem.W.Fast.tw7946115946202593600 : Nat := 0
def PySem.W.Fast.tw8941920160917665248 : Nat := 0
def PySem.W.Fast.tw5169896308130722562 : Nat := 0
def PySem.W.Fast.tw4217911248149449538 : Nat := 0
def PySem.W.Fast.tw1466560402886400772 : Nat := 0
def PySem.W.Fast.tw18403884670375399301 : Nat := 0
def PySem.W.Fast.tw18140604741467486406 : Nat := 0
def PySem.W.Fast.tw15293163944607623207 : Nat := 0
def PySem.W.Fast.tw15953838737605807015 : Nat := 0
def PySem.W.Fast.tw11797582308221983752 : Nat := 0
def PySem.W.Fast.tw12456818488201241256 : Nat := 0
def PySem.W.Fast.tw2378092451565095752 : Nat := 0
def PySem.W.Fast.tw10112233206443413384 : Nat := 0
def PySem.W.Fast.tw13590698662160991049 : Nat := 0
def PySem.W.Fast.tw1784949898608501738 : Nat := 0
def PySem.W.Fast.tw8155311469128215628 : Nat := 0
def PySem.W.Fast.tw8113531372869971342 : Nat := 0
def PySem.W.Fast.tw8549312218719631790 : Nat := 0
def PySem.W.Fast.tw1035434867807200014 : Nat := 0
def PySem.W.Fast.tw7060614868619347918 : Nat := 0
def PySem.W.Fast.tw14310293825484059727 : Nat := 0
def PySem.W.Fast.tw8576067733485564431 : Nat := 0
def PySem.W.Fast.tw15364649184219258192 : Nat := 0
def PySem.W.Fast.tw2932441569803607251 : Nat := 0
def PySem.W.Fast.tw2307147015410378451 : Nat := 0
def PySem.W.Fast.tw8831316401133130675 : Nat := 0
def PySem.W.Fast.tw14567219660149855155 : Nat := 0
def PySem.W.Fast.tw16219960328682501493 : Nat := 0
def PySem.W.Fast.tw8953450490576310869 : Nat := 0
def PySem.W.Fast.tw2203864575501037429 : Nat := 0
def PySem.W.Fast.tw9674475756569790614 : Nat := 0
def PySem.W.Fast.tw16113233143296848566 : Nat := 0
def PySem.W.Fast.tw7751883670776672538 : Nat := 0
def PySem.W.Fast.tw17308789194122243452 : Nat := 0
def PySem.W.Fast.tw493103697576449692 : Nat := 0
def PySem.W.Fast.tw10067636811948989372 : Nat := 0
def PySem.W.Fast.tw9754623245594775773 : Nat := 0
def PySem.W.Fast.tw3957404675547148285 : Nat := 0
def PySem.W.Fast.tw10520049743693754110 : Nat := 0
def PySem.W.Fast.tw17510829060002611519 : Nat := 0
def PySem.W.Fast.tw10444133801686719443 : Nat := 0
def PySem.W.Fast.tw16987346919477204550 : Nat := 0
def PySem.W.Fast.tw16747418099486405031 : Nat := 0
def PySem.W.Fast.tw16604834695664678184 : Nat := 0
def PySem.W.Fast.tw5117184185093354942 : Nat := 0
def PySem.W.Fast.tw1907880460914862670 : Nat := 0
def PySem.W.Fast.tw3147334277759306983 : Nat := 0
def PySem.W.Fast.tw9789329462388496044 : Nat := 0
def PySem.W.Fast.tw4669531130138444775 : Nat := 0
def PySem.W.Fast.tw12280060490041773320 : Nat := 0
def PySem.W.Fast.tw10606264516599237937 : Nat := 0
def PySem.W.Fast.tw17666522040127909594 : Nat := 0
def PySem.W.Fast.tw6676564125724014658 : Nat := 0
def PySem.W.Fast.tw8140381244051087163 : Nat := 0
def PySem.W.Fast.tw6333438543445979889 : Nat := 0
def PySem.W.Fast.tw12516185381050178557 : Nat := 0
def PySem.W.Fast.tw17150062968233600150 : Nat := 0
def PySem.W.Fast.tw17318865517181012489 : Nat := 0
def PySem.W.Fast.tw11775247754008374483 : Nat := 0
def PySem.W.Fast.tw13291264036038470741 : Nat := 0
def PySem.W.Fast.tw5195857660403729408 : Nat := 0
def PySem.W.Fast.tw5527765845445470417 : Nat := 0
def PySem.W.Fast.tw18236656103513859213 : Nat := 0
def PySem.W.Fast.tw3302286455015508330 : Nat := 0
def PySem.W.Fast.tw15745464086415843540 : Nat := 0
def PySem.W.Fast.tw1123382281320016044 : Nat := 0
def PySem.W.Fast.tw6143799270809224255 : Nat := 0
def PySem.W.Fast.tw9088559717876974049 : Nat := 0
def PySem.W.Fast.tw13448086172993163124 : Nat := 0
def PySem.W.Fast.tw765163966607320986 : Nat := 0
def PySem.W.Fast.tw7660776150762161863 : Nat := 0
def PySem.W.Fast.tw432842358467942839 : Nat := 0
def PySem.W.Fast.tw6368756619453233353 : Nat := 0
def PySem.W.Fast.tw13918761783020897776 : Nat := 0
def PySem.W.Fast.tw17028805989582302110 : Nat := 0
def PySem.W.Fast.tw7126291363845361482 : Nat := 0
def PySem.W.Fast.tw871732296040869311 : Nat := 0
def PySem.W.Fast.tw3058937506423139843 : Nat := 0
def PySem.W.Fast.tw1954863957576281562 : Nat := 0
def PySem.W.Fast.tw12361390061574389870 : Nat := 0
def PySem.W.Fast.tw12080402178584587668 : Nat := 0
def PySem.W.Fast.tw5033969974375848236 : Nat := 0
open PySem PySem.W PyProof.Rows
set_option maxRecDepth 100000 in
set_option maxHeartbeats 0 in
theorem PySem.Challenge.cw_voucherstack_k26_bills_of_beginnings_holds : PySem.Challenge.rw_voucherstack_k26_bills_of_beginnings.Holds := by
 w_on; o_law; k_head; (case hw => w_witness2)
 k_fill
 refine L2.walkT_of (l := PySem.Challenge.rw_voucherstack_k26_bills_of_beginnings) (k := 11) (x := "_law_script") rfl rfl ⟨rfl, by decide, by decide⟩ (fun w h Y => PySem.W.km_in_of Y) (fun w h Y => PySem.W.km_tabs_of Y) ?F
 case F =>
  intro w mg fa h KX G hmg
  refine' Vs.all_mk KX G hmg ?Am ?AS ?An ?Av ?Af ?Ab ?AR ?Ah ?Jd ?Jl ?Jo ?Jb ?As ?AG ?Aq ?AJ ?Fy ?Fx ?FA ?Fg ?Es ?Ea ?MM ?MY ?Fw ?Fv ?Fi ?A4 ?AH ?AD ?AN ?AL ?Jp ?Jn ?Ja ?U5 ?UC ?US ?UP ?UL ?N3 ?N4 ?NZ ?NQ ?Jr ?U6 ?U8 ?U9 ?Ji ?U7 ?Jj ?Jf ?J8 ?JK ?JN ?J6 ?M8 ?MV ?MN ?M4 ?Jy ?JX ?Na ?JJ ?Dj ?Dz ?Dp ?DE ?Au ?Ay ?A3 ?Ag ?D6 ?Aa ?D9 ?DJ ?Nc ?J9 ?JP ?JM ?Nx ?Nt ?Np ?Nu ?Ng ?NO ?Nj ?Nr ?UI ?UM ?UW ?UR ?D7 ?DU ?DG ?DY ?Vt ?Vu ?Vv ?Vw ?Vx ?Vy ?Vz ?VA ?VB ?VC ?VD ?VE ?VF ?VG ?VH ?VI ?VJ ?VL ?VM ?VN ?VO ?VP ?VQ ?VR ?VS ?VT ?VU ?VV ?VW ?VX ?VY ?VZ ?V0 ?V1 ?V2 ?V3 ?V4 ?V5 ?V6 ?V7 ?V8 ?V9 ?Ua ?Ub ?Uc ?Ud ?Ue ?Ug ?Uh ?Ui ?Uj ?Uk ?Ul ?Um ?Uo ?Uq ?Ur ?Us ?Ut ?Uu ?Uv ?Uw ?Ux ?Uy ?FE ?FF ?FD ?FC ?Ar ?DI ?DK ?D3 ?inX ?itX ?DH ?DP ?DX ?DL ?DT ?D4 ?DO ?ME ?N1 ?Mz ?NK ?Me ?Mh ?Mw ?Mt ?Mf ?MD ?Md ?Mu ?Dl ?E1 ?EK ?E4 ?E7 ?EU ?E9 ?E8 ?E6 ?Dc ?EX ?NN ?Nf ?NC ?ND ?Ni ?Nk ?FH ?Fk ?A8 ?Fj ?Ft ?Fs ?Fn ?A7 ?Fe ?Fh ?A6 ?Mv ?Eg ?EY ?EJ ?EV ?ET ?EN ?EW ?AV ?D8 ?DR ?D5 ?D1 ?DV ?DN ?DM ?DQ ?DZ ?D0 ?Ma ?JC ?N7 ?Mm ?Ms ?Ml ?Mp ?Mg ?MA ?EO ?Ek ?MI ?Eu ?Ep ?MZ ?Ei ?Ed ?MX ?EE ?MR ?JF ?Jh ?JT ?JQ ?JD ?Nd ?Jz ?Jv ?DW ?DC ?DB ?DF ?Do ?Dt ?DA ?Dh ?Dq ?Dy ?De ?N5 ?Nm ?Nl ?NR ?N2 ?NP ?NW ?NS ?N9 ?EM ?M7 ?MS ?MP ?Em ?Eo ?EF ?EC ?MW ?Ey ?MK ?U4 ?JU ?JG ?JB ?J4 ?Nb ?J7 ?Fu ?AE ?AX ?AI ?AF ?Ap ?Ak ?Ax ?Ai ?Ad ?AB ?Ef ?MF ?EG ?NJ ?MJ ?EH ?En ?ML ?M0 ?M6 ?DS ?Dv ?Dm ?Dk ?Dg ?Dx ?Dw ?Du ?Dr ?Df ?DD ?NM ?UF ?J0 ?NV ?NY ?NT ?Mb ?N6 ?NU ?EL ?MT ?M1 ?MU ?M5 ?Ee ?Er ?Ex ?Ew ?Eh ?Ez ?UZ ?UX ?UA ?U0 ?JH ?Jw ?JI ?Jx ?JL ?Je ?Jc ?Jg ?Jt ?Jq ?FG ?Fz ?Fp ?Ff ?Fc ?Fo ?A5 ?FB ?Fm ?Fd ?A9 ?EZ ?Mi ?Da ?E5 ?Nv ?E2 ?E3 ?Dd ?ES ?ER ?NH ?NA ?NL ?Nw ?NG ?MG ?Mr ?Mn ?Mj ?MB ?JE ?JR ?JS ?JA ?JO ?Fb ?AU ?AK ?Ac ?A2 ?Ae ?Al ?AA ?Az ?AO ?AQ ?Mq ?MC ?N8 ?JY ?Mc ?El ?MQ ?Ej ?M9 ?EA ?Fq ?Aj ?AZ ?AM ?A0 ?Ao ?AY ?Aw ?AW ?A1 ?AC ?NB ?JV ?Mx ?Eb ?MO ?Et ?MH ?ED ?Ec ?EB ?JW ?JZ ?J5 ?Nz ?Ju ?Uz ?UK ?M3 ?NI ?Mo ?Nq ?EI ?Jm ?Nh ?Jk ?Ny ?Js ?U2 ?UB ?My ?NF ?UT ?UD ?U3 ?U1 ?UQ ?UH ?UO ?UV ?UU ?UJ ?UE ?UN ?UG ?UY ?z1 ?z2 ?z3 ?z4 ?z5 ?z6 ?z7 ?z8 ?z9 ?z10 ?z11 ?z12 ?z13 ?z14 ?z15 ?z16 ?z17 ?z18
  (case Am => k_is)
  (case AS => k_is)
  (case An => k_is)
  (case Av => k_is)
  (case Af => k_is)
  (case Ab => k_is)
  (case AR => k_is)
  (case Ah => k_is)
  (case Jd => k_is)
  (case Jl => k_is)
  (case Jo => k_is)
  (case Jb => k_is)
  (case As => k_is)
  (case AG => k_is)
  (case Aq => k_is)
  (case AJ => k_is)
  (case Fy => k_is)
  (case Fx => k_is)
  (case FA => k_is)
  (case Fg => k_is)
  (case Es => k_is)
  (case Ea => k_is)
  (case MM => k_is)
  (case MY => k_is)
  (case Fw => k_is)
  (case Fv => k_is)
  (case Fi => k_is)
  (case A4 => k_is)
  (case AH => k_is)
  (case AD => k_is)
  (case AN => k_is)
  (case AL => k_is)
  (case Jp => k_is)
  (case Jn => k_is)
  (case Ja => k_is)
  (case U5 => k_is)
  (case UC => k_is)
  (case US => k_is)
  (case UP => k_is)
  (case UL => k_is)
  (case N3 => k_is)
  (case N4 => k_is)
  (case NZ => k_is)
  (case NQ => k_is)
  (case Jr => k_is)
  (case U6 => k_is)
  (case U8 => k_is)
  (case U9 => k_is)
  (case Ji => k_is)
  (case U7 => k_is)
  (case Jj => k_is)
  (case Jf => k_is)
  (case J8 => k_is)
  (case JK => k_is)
  (case JN => k_is)
  (case J6 => k_is)
  (case M8 => k_is)
  (case MV => k_is)
  (case MN => k_is)
  (case M4 => k_is)
  (case Jy => k_is)
  (case JX => k_is)
  (case Na => k_is)
  (case JJ => k_is)
  (case Dj => k_is)
  (case Dz => k_is)
  (case Dp => k_is)
  (case DE => k_is)
  (case Au => k_is)
  (case Ay => k_is)
  (case A3 => k_is)
  (case Ag => k_is)
  (case D6 => k_is)
  (case Aa => k_is)
  (case D9 => k_is)
  (case DJ => k_is)
  (case Nc => k_is)
  (case J9 => k_is)
  (case JP => k_is)
  (case JM => k_is)
  (case Nx => k_is)
  (case Nt => k_is)
  (case Np => k_is)
  (case Nu => k_is)
  (case Ng => k_is)
  (case NO => k_is)
  (case Nj => k_is)
  (case Nr => k_is)
  (case UI => k_is)
  (case UM => k_is)
  (case UW => k_is)
  (case UR => k_is)
  (case D7 => k_is)
  (case DU => k_is)
  (case DG => k_is)
  (case DY => k_is)
  (case Vt => k_is)
  (case Vu => k_is)
  (case Vv => k_is)
  (case Vw => k_is)
  (case Vx => k_is)
  (case Vy => k_is)
  (case Vz => k_is)
  (case VA => k_is)
  (case VB => k_is)
  (case VC => k_is)
  (case VD => k_is)
  (case VE => k_is)
  (case VF => k_is)
  (case VG => k_is)
  (case VH => k_is)
  (case VI => k_is)
  (case VJ => k_is)
  (case VL => k_is)
  (case VM => k_is)
  (case VN => k_is)
  (case VO => k_is)
  (case VP => k_is)
  (case VQ => k_is)
  (case VR => k_is)
  (case VS => k_is)
  (case VT => k_is)
  (case VU => k_is)
  (case VV => k_is)
  (case VW => k_is)
  (case VX => k_is)
  (case VY => k_is)
  (case VZ => k_is)
  (case V0 => k_is)
  (case V1 => k_is)
  (case V2 => k_is)
  (case V3 => k_is)
  (case V4 => k_is)
  (case V5 => k_is)
  (case V6 => k_is)
  (case V7 => k_is)
  (case V8 => k_is)
  (case V9 => k_is)
  (case Ua => k_is)
  (case Ub => k_is)
  (case Uc => k_is)
  (case Ud => k_is)
  (case Ue => k_is)
  (case Ug => k_is)
  (case Uh => k_is)
  (case Ui => k_is)
  (case Uj => k_is)
  (case Uk => k_is)
  (case Ul => k_is)
  (case Um => k_is)
  (case Uo => k_is)
  (case Uq => k_is)
  (case Ur => k_is)
  (case Us => k_is)
  (case Ut => k_is)
  (case Uu => k_is)
  (case Uv => k_is)
  (case Uw => k_is)
  (case Ux => k_is)
  (case Uy => k_is)
  (case FE => k_is)
  (case FF => k_is)
  (case FD => k_is)
  (case FC => k_is)
  (case Ar => k_is)
  (case DI => k_is)
  (case DK => k_is)
  (case D3 => k_is)
  (case inX => k_is)
  (case itX => k_is)
  (case DH => k_is)
  (case DP => k_is)
  (case DX => k_is)
  (case DL => k_is)
  (case DT => k_is)
  (case D4 => k_is)
  (case DO => k_is)
  (case ME => k_is)
  (case N1 => k_is)
  (case Mz => k_is)
  (case NK => k_is)
  (case Me => k_is)
  (case Mh => k_is)
  (case Mw => k_is)
  (case Mt => k_is)
  (case Mf => k_is)
  (case MD => k_is)
  (case Md => k_is)
  (case Mu => k_is)
  (case Dl => k_is)
  (case E1 => k_is)
  (case EK => k_is)
  (case E4 => k_is)
  (case E7 => k_is)
  (case EU => k_is)
  (case E9 => k_is)
  (case E8 => k_is)
  (case E6 => k_is)
  (case Dc => k_is)
  (case EX => k_is)
  (case NN => k_is)
  (case Nf => k_is)
  (case NC => k_is)
  (case ND => k_is)
  (case Ni => k_is)
  (case Nk => k_is)
  (case FH => k_is)
  (case Fk => k_is)
  (case A8 => k_is)
  (case Fj => k_is)
  (case Ft => k_is)
  (case Fs => k_is)
  (case Fn => k_is)
  (case A7 => k_is)
  (case Fe => k_is)
  (case Fh => k_is)
  (case A6 => k_is)
  (case Mv => k_is)
  (case Eg => k_is)
  (case EY => k_is)
  (case EJ => k_is)
  (case EV => k_is)
  (case ET => k_is)
  (case EN => k_is)
  (case EW => k_is)
  (case AV => k_is)
  (case D8 => k_is)
  (case DR => k_is)
  (case D5 => k_is)
  (case D1 => k_is)
  (case DV => k_is)
  (case DN => k_is)
  (case DM => k_is)
  (case DQ => k_is)
  (case DZ => k_is)
  (case D0 => k_is)
  (case Ma => k_is)
  (case JC => k_is)
  (case N7 => k_is)
  (case Mm => k_is)
  (case Ms => k_is)
  (case Ml => k_is)
  (case Mp => k_is)
  (case Mg => k_is)
  (case MA => k_is)
  (case EO => k_is)
  (case Ek => k_is)
  (case MI => k_is)
  (case Eu => k_is)
  (case Ep => k_is)
  (case MZ => k_is)
  (case Ei => k_is)
  (case Ed => k_is)
  (case MX => k_is)
  (case EE => k_is)
  (case MR => k_is)
  (case JF => k_is)
  (case Jh => k_is)
  (case JT => k_is)
  (case JQ => k_is)
  (case JD => k_is)
  (case Nd => k_is)
  (case Jz => k_is)
  (case Jv => k_is)
  (case DW => k_is)
  (case DC => k_is)
  (case DB => k_is)
  (case DF => k_is)
  (case Do => k_is)
  (case Dt => k_is)
  (case DA => k_is)
  (case Dh => k_is)
  (case Dq => k_is)
  (case Dy => k_is)
  (case De => k_is)
  (case N5 => k_is)
  (case Nm => k_is)
  (case Nl => k_is)
  (case NR => k_is)
  (case N2 => k_is)
  (case NP => k_is)
  (case NW => k_is)
  (case NS => k_is)
  (case N9 => k_is)
  (case EM => k_is)
  (case M7 => k_is)
  (case MS => k_is)
  (case MP => k_is)
  (case Em => k_is)
  (case Eo => k_is)
  (case EF => k_is)
  (case EC => k_is)
  (case MW => k_is)
  (case Ey => k_is)
  (case MK => k_is)
  (case U4 => k_is)
  (case JU => k_is)
  (case JG => k_is)
  (case JB => k_is)
  (case J4 => k_is)
  (case Nb => k_is)
  (case J7 => k_is)
  (case Fu => k_is)
  (case AE => k_is)
  (case AX => k_is)
  (case AI => k_is)
  (case AF => k_is)
  (case Ap => k_is)
  (case Ak => k_is)
  (case Ax => k_is)
  (case Ai => k_is)
  (case Ad => k_is)
  (case AB => k_is)
  (case Ef => k_is)
  (case MF => k_is)
  (case EG => k_is)
  (case NJ => k_is)
  (case MJ => k_is)
  (case EH => k_is)
  (case En => k_is)
  (case ML => k_is)
  (case M0 => k_is)
  (case M6 => k_is)
  (case DS => k_is)
  (case Dv => k_is)
  (case Dm => k_is)
  (case Dk => k_is)
  (case Dg => k_is)
  (case Dx => k_is)
  (case Dw => k_is)
  (case Du => k_is)
  (case Dr => k_is)
  (case Df => k_is)
  (case DD => k_is)
  (case NM => k_is)
  (case UF => k_is)
  (case J0 => k_is)
  (case NV => k_is)
  (case NY => k_is)
  (case NT => k_is)
  (case Mb => k_is)
  (case N6 => k_is)
  (case NU => k_is)
  (case EL => k_is)
  (case MT => k_is)
  (case M1 => k_is)
  (case MU => k_is)
  (case M5 => k_is)
  (case Ee => k_is)
  (case Er => k_is)
  (case Ex => k_is)
  (case Ew => k_is)
  (case Eh => k_is)
  (case Ez => k_is)
  (case UZ => k_is)
  (case UX => k_is)
  (case UA => k_is)
  (case U0 => k_is)
  (case JH => k_is)
  (case Jw => k_is)
  (case JI => k_is)
  (case Jx => k_is)
  (case JL => k_is)
  (case Je => k_is)
  (case Jc => k_is)
  (case Jg => k_is)
  (case Jt => k_is)
  (case Jq => k_is)
  (case FG => k_is)
  (case Fz => k_is)
  (case Fp => k_is)
  (case Ff => k_is)
  (case Fc => k_is)
  (case Fo => k_is)
  (case A5 => k_is)
  (case FB => k_is)
  (case Fm => k_is)
  (case Fd => k_is)
  (case A9 => k_is)
  (case EZ => k_is)
  (case Mi => k_is)
  (case Da => k_is)
  (case E5 => k_is)
  (case Nv => k_is)
  (case E2 => k_is)
  (case E3 => k_is)
  (case Dd => k_is)
  (case ES => k_is)
  (case ER => k_is)
  (case NH => k_is)
  (case NA => k_is)
  (case NL => k_is)
  (case Nw => k_is)
  (case NG => k_is)
  (case MG => k_is)
  (case Mr => k_is)
  (case Mn => k_is)
  (case Mj => k_is)
  (case MB => k_is)
  (case JE => k_is)
  (case JR => k_is)
  (case JS => k_is)
  (case JA => k_is)
  (case JO => k_is)
  (case Fb => k_is)
  (case AU => k_is)
  (case AK => k_is)
  (case Ac => k_is)
  (case A2 => k_is)
  (case Ae => k_is)
  (case Al => k_is)
  (case AA => k_is)
  (case Az => k_is)
  (case AO => k_is)
  (case AQ => k_is)
  (case Mq => k_is)
  (case MC => k_is)
  (case N8 => k_is)
  (case JY => k_is)
  (case Mc => k_is)
  (case El => k_is)
  (case MQ => k_is)
  (case Ej => k_is)
  (case M9 => k_is)
  (case EA => k_is)
  (case Fq => k_is)
  (case Aj => k_is)
  (case AZ => k_is)
  (case AM => k_is)
  (case A0 => k_is)
  (case Ao => k_is)
  (case AY => k_is)
  (case Aw => k_is)
  (case AW => k_is)
  (case A1 => k_is)
  (case AC => k_is)
  (case NB => k_is)
  (case JV => k_is)
  (case Mx => k_is)
  (case Eb => k_is)
  (case MO => k_is)
  (case Et => k_is)
  (case MH => k_is)
  (case ED => k_is)
  (case Ec => k_is)
  (case EB => k_is)
  (case JW => k_is)
  (case JZ => k_is)
  (case J5 => k_is)
  (case Nz => k_is)
  (case Ju => k_is)
  (case Uz => k_is)
  (case UK => k_is)
  (case M3 => k_is)
  (case NI => k_is)
  (case Mo => k_is)
  (case Nq => k_is)
  (case EI => k_is)
  (case Jm => k_is)
  (case Nh => k_is)
  (case Jk => k_is)
  (case Ny => k_is)
  (case Js => k_is)
  (case U2 => k_is)
  (case UB => k_is)
  (case My => k_is)
  (case NF => k_is)
  (case UT => k_is)
  (case UD => k_is)
  (case U3 => first | rfl | decide | k_is)
  (case U1 => k_is)
  (case UQ => first | rfl | decide | k_is)
  (case UH => first | rfl | decide | k_is)
  (case UO => first | rfl | decide | k_is)
  (case UV => first | rfl | decide | k_is)
  (case UU => first | rfl | decide | k_is)
  (case UJ => first | rfl | decide | k_is)
  (case UE => first | rfl | decide | k_is)
  (case UN => first | rfl | decide | k_is)
  (case UG => first | k_is | rfl | decide | decide +kernel)
  (case UY => decide)
  (case z1 => k_is)
  (case z2 => k_is)
  (case z3 => k_is)
  (case z4 => k_is)
  (case z5 => k_is)
  (case z6 => k_is)
  (case z7 => k_is)
  (case z8 => k_is)
  (case z9 => k_is)
  (case z10 => k_is)
  (case z11 => k_is)
  (case z12 => k_is)
  (case z13 => k_is)
  (case z14 => k_is)
  (case z15 => k_is)
  (case z16 => k_is)
  (case z17 => k_is)
  (case z18 => k_is)
