import PyProof.Rows.All
import Wide.All
import OpenK.AllK
import Wide.FinOn
import Lean
import PyProof.EqAt
import PyProof.EqKinds
import PyProof.TupleCall
import PySem.Challenge.RW_voucherstack_k25_line_by_line
set_option Elab.async false
set_option linter.all false
set_option maxRecDepth 100000
open Array renaming length_toList → R3, size_zip → SA, getElem?_eq_getElem → Tb, getElem?_toList → Ts
open Bool renaming false_ne_true → CW, false_eq_true → Rw, and_eq_true → Sf, eq_iff_iff → Sq, false_and → SV, or_eq_true → S8
open List renaming length_map → Cz, replicate → CI, range → CP, mem_of_getElem? → CT, map_append → CU, getElem?_map → CV, getElem?_eq_some_iff → CZ, length_take → C0, map_cons → C1, size_toArray → C3, mem_map → C4, getD_eq_getElem?_getD → C5, mem_cons → C6, length_append → C7, mem_cons_of_mem → C8, map_map → C9, zipWith → Rb, mem_cons_self → Re, flatten_cons → Rf, take_length → Rh, mem_append → Rk, length_replicate → Ro, lookup_cons → Rp, mem_append_right → Rt, length_cons → Rv, sum_cons → Rx, map_congr_left → Ry, take_of_length_le → RB, not_mem_nil → RC, lookup → RE, nodup_cons → RG, sum_append → RH, mem_filter → RI, replicate_succ → RJ, getElem?_eq_getElem → RK, mem_singleton → RL, ext_getElem → RM, take_add_one → RS, range_succ → RT, mem_iff_getElem? → RU, mem_flatten → RV, of_mem_zip → RX, length_drop → RY, any_cons → RZ, append_assoc → R0, pairwise_iff_getElem → R1, getElem?_append_right → R4, nil_append → R5, Pairwise → R6, getElem_map → R7, zipIdx_cons → R8, take_append_drop → R9, replicate_succ' → Sa, getElem?_append_left → Se, find?_cons → Sh, getElem_range → Si, length_zipWith → Sj, getElem?_range → Sk, filter_append → Sl, map_take → Sm, getElem?_set_self → Sn, getElem?_set_ne → So, length → Sv, reverse_cons → Sw, drop_zero → Sx, cons_append → SC, flatten_append → SE, nodup_range → SF, length_filter_le → SG, zip_append → SH, pairwise_cons → SI, Perm → SK, zip_cons_cons → SL, getElem?_zipWith → SM, mem_of_mem_take → SN, mem_replicate → SO, getElem?_eq_none_iff → SQ, filterMap_cons → SS, mem_append_left → SU, append_nil → S0, getElem?_replicate → S2, map_nil → S4, length_singleton → S6, length_dropLast → S7, all_eq_true → S9, nodup_nil → Ta, count_cons → Tc, getElem_set → Td, pairwise_lt_range → Te, getElem?_eq_none → Tf, nodup_append → Tg, pairwise_map → Th, map_drop → Ti, getLastD_eq_getLast? → Tj, drop_of_length_le → Tn, map_set → To, getElem?_take_of_lt → Tr, take_eq_take_iff → Tt, getElem_cons_drop → Tx, sublist_append_left → Tz, getLast?_eq_some_getLast → TC, drop_eq_getElem_cons → TJ, length_eq_zero_iff → TK
open Nat renaming le_refl → CC, le_trans → CN, le_of_lt → CY, lt_of_lt_of_le → Ra, ne_of_lt → Rc, zero_le → Rl, ne_of_gt → RD, lt_irrefl → RN, lt_of_le_of_lt → RP, min_self → RQ, le_succ → Sd, min_eq_left → Sg, le_of_eq → Ss, zero_add → Sz, lt_succ_self → SY
open Option renaming map_some → Sy, getD_none → S5
open PySem.F renaming plainAttrs_list → Ri, slot_list_append → Rz, type_list_append → RA, slot_dict_setdefault → Tu, plainAttrs_dict → Tv, slot_dict_values → Tw, slot_list_extend → TF, type_list_extend → TH
open PySem.W renaming fnOf → Cy, Frag → CA, findIn → CD, keepIn → CF, nsIn → CG, codeIn → CJ, mg_of → CO, mroIn → CQ, kitOne → C2, isFn → Rg, mg_none_of → Rj, plainGet → Rm, typeIn → Rn, hasDictIn → Rq, makesIn → Rr, plainOver → Ru, kia_one → RF, emptyDict → RO, instObj → RW, specialIn → Sb, lookIn → Sr, callWith_K → Su, kla_obj → SB, tabObj → SD, methodObj → SR, plainGet_of → SW, takerIn → SX, takesIn → SZ, methodCall_KW → S1, callWith_K0 → Tp, cellsFrom_some → Tq
namespace L2
open PySem PySem.Spec PyProof.Rows
abbrev Key := Sum Int Str
def keyIs : Key → Value → Bool
 | .inl k, v => Value.isInt k v
 | .inr x, v => Value.isStrOf x v
def keyH (w : World) : Key → Int
 | .inl k => hashInt k
 | .inr x => hashStr w x
theorem kbI : ∀ {k : Key} {v : Value}, keyIs k v = true → (∃ i t, k = Sum.inl i ∧ v = Value.int i t) ∨ (∃ x t, k = Sum.inr x ∧ v = Value.str x t)
 | .inl i, v, h => by
  obtain ⟨t, e⟩ := Value.isInt_shape (k := i) (v := v) h
  exact .inl ⟨i, t, rfl, e⟩
 | .inr x, v, h => by
  obtain ⟨t, e⟩ := Value.isStrOf_shape (x := x) (v := v) h
  exact .inr ⟨x, t, rfl, e⟩
theorem kij (i : Int) (t : Tok) : keyIs (.inl i) (.int i t) = true := by simp [keyIs, Value.isInt]
theorem klr (a b : Int) : decide ((Sum.inl a : Key) = Sum.inl b) = (a == b) := by
 by_cases e : a = b
 ·subst e; simp
 ·have h : ¬ (Sum.inl a : Key) = Sum.inl b := fun q => e (Sum.inl.inj q)
  rw [decide_eq_false h]
  exact (beq_eq_false_iff_ne.mpr e).symm
theorem klo (a b : Str) : decide ((Sum.inr a : Key) = Sum.inr b) = decide (a = b) := by
 by_cases e : a = b
 ·subst e; simp
 ·have h : ¬ (Sum.inr a : Key) = Sum.inr b := fun q => e (Sum.inr.inj q)
  rw [decide_eq_false h, decide_eq_false e]
theorem klq (a : Int) (b : Str) : decide ((Sum.inl a : Key) = Sum.inr b) = false := decide_eq_false (fun q => nomatch q)
theorem klp (a : Str) (b : Int) : decide ((Sum.inr a : Key) = Sum.inl b) = false := decide_eq_false (fun q => nomatch q)
def kc4 (prog : Program) (w : World) : PySem.KeyKind prog w Key where
 is := keyIs
 hash := keyH w
 inj := fun v a b ha hb => by
  rcases kbI ha with ⟨i, t, rfl, rfl⟩ | ⟨x, t, rfl, rfl⟩
  ·rcases kbI hb with ⟨j, u, rfl, e⟩ | ⟨y, u, rfl, e⟩
   ·injection e with e1 _; rw [e1]
   ·exact nomatch e
  ·rcases kbI hb with ⟨j, u, rfl, e⟩ | ⟨y, u, rfl, e⟩
   ·exact nomatch e
   ·injection e with e1 _; rw [e1]
 byValue := fun k v h => by
  rcases kbI h with ⟨i, t, rfl, rfl⟩ | ⟨x, t, rfl, rfl⟩ <;> rfl
 pyHash := fun hv h => by
  rcases kbI hv with ⟨i, t, rfl, rfl⟩ | ⟨x, t, rfl, rfl⟩
  ·exact wpAny_pyHash_int h
  ·exact wpAny_pyHash_str h
 eqBool := fun hu hv h => by
  rcases kbI hu with ⟨i, t, rfl, rfl⟩ | ⟨x, t, rfl, rfl⟩
  ·rcases kbI hv with ⟨j, u, rfl, rfl⟩ | ⟨y, u, rfl, rfl⟩
   ·rw [klr] at h; exact wpAny_eqBool_int h
   ·rw [klq] at h; exact SeqAt.EqAt.int_str i t y u _ _ _ _ h
  ·rcases kbI hv with ⟨j, u, rfl, rfl⟩ | ⟨y, u, rfl, rfl⟩
   ·rw [klp] at h; exact SeqAt.EqAt.str_int x t j u _ _ _ _ h
   ·rw [klo] at h; exact wpAny_eqBool_str h
 «strs» := fun k x t v h => by
  rcases kbI h with ⟨i, u, rfl, e⟩ | ⟨y, u, rfl, e⟩
  ·exact nomatch e
  ·injection e with e1 _
   subst e1
   cases v <;> rfl
theorem kf9 (prog : Program) (w : World) (i : Int) (t : Tok) : (kc4 prog w).is (.inl i) (.int i t) = true := kij i t
end L2
namespace L2
open PySem PySem.Spec PyProof.Rows
inductive V where
 | non | bl (b : Bool) | int (i : Int) | str (x : Str) | byt (b : Array UInt8) | flt (b : UInt64) | ref (a : Addr) | ty (n : String)
 deriving DecidableEq
def RelV : V → Value → Prop
 | .non, u => u = Value.none
 | .bl b, u => u = Value.bool b
 | .int i, u => ∃ t, u = Value.int i t
 | .str x, u => ∃ t, u = Value.str x t
 | .byt b, u => ∃ t, u = Value.bytes b t
 | .flt b, u => ∃ t, u = Value.float b t
 | .ref a, u => u = Value.ref a
 | .ty n, u => u = Value.type n
abbrev Vals : List V → List Value → Prop := Paired RelV
theorem Vals.length {xs : List V} {us : List Value} (r : Vals xs us) : xs.length = us.length := Paired.length r
theorem Vals.get : ∀ {xs : List V} {us : List Value} {i : Nat} {x : V}, Vals xs us → xs[i]? = some x → ∃ u, us[i]? = some u ∧ RelV x u
 | _, _, _, _, .nil, e => by simp at e
 | _, _, 0, _, .cons r _, e => by simp at e; subst e; exact ⟨_, rfl, r⟩
 | _, _, i + 1, x, .cons _ t, e => by
  obtain ⟨u, h1, h2⟩ := Vals.get (i := i) (x := x) t (by simpa using e)
  exact ⟨u, by simpa using h1, h2⟩
theorem Vals.set {x : V} {u : Value} (r : RelV x u) : ∀ {xs : List V} {us : List Value} (i : Nat), Vals xs us → Vals (xs.set i x) (us.set i u)
 | _, _, _, .nil => .nil
 | _, _, 0, .cons _ t => .cons r t
 | _, _, i + 1, .cons q t => .cons q (Vals.set r i t)
theorem Vals.append : ∀ {xs ys : List V} {us ws : List Value}, Vals xs us → Vals ys ws → Vals (xs ++ ys) (us ++ ws)
 | _, _, _, _, .nil, s => s
 | _, _, _, _, .cons r t, s => .cons r (Vals.append t s)
theorem Vals.take : ∀ {xs : List V} {us : List Value} (n : Nat), Vals xs us → Vals (xs.take n) (us.take n)
 | _, _, 0, _ => .nil
 | _, _, _ + 1, .nil => .nil
 | _, _, n + 1, .cons r t => .cons r (Vals.take n t)
theorem Vals.drop : ∀ {xs : List V} {us : List Value} (n : Nat), Vals xs us → Vals (xs.drop n) (us.drop n)
 | _, _, 0, r => r
 | _, _, _ + 1, .nil => .nil
 | _, _, n + 1, .cons _ t => Vals.drop n t
theorem Vals.none_of : ∀ {xs : List V} {us : List Value} {i : Nat}, Vals xs us → xs[i]? = none → us[i]? = none := fun {xs us i} r e => by
 have h1 := r.length
 have h2 : xs.length ≤ i := SQ.mp e
 exact SQ.mpr (by omega)
def RelO : Option V → Option Value → Prop
 | some v, some u => RelV v u
 | none, none => True
 | _, _ => False
def KV {κ : Type} : List (κ × V) → List (κ × Value) → Prop := Paired fun (p : κ × V) (q : κ × Value) => p.1 = q.1 ∧ RelV p.2 q.2
def kV : Key → V
 | .inl i => .int i
 | .inr x => .str x
inductive HO where
 | lst (xs : List V)
 | tup (xs : List V)
 | dK (kvs : List (Key × V)) | dT (kvs : List (List Key × V))
 | set (S : Int → Bool) (n : Nat)
 | ins (C dx : Addr) (fs : List (Str × V))
 | own (x : Addr)
 | xd (fs : List (Str × V))
 | met (f x : Addr)
 | rng (lo hi : Int)
 | frz (o : Obj) (u : HO)
 | tbl (ps : Array Value)
 | ext (φ : Heap → Prop)
abbrev Hp := Addr → Option HO
def upd (H : Hp) (a : Addr) (o : HO) : Hp := fun b => if b = a then some o else H b
theorem kad {H : Hp} {a : Addr} {o : HO} : upd H a o a = some o := by unfold upd; rw [if_pos rfl]
theorem kam {H : Hp} {a b : Addr} {o : HO} (h : b ≠ a) : upd H a o b = H b := by unfold upd; rw [if_neg h]
theorem kj3 {H : Hp} {a : Addr} {o u : HO} : upd (upd H a o) a u = upd H a u := by
 funext b; unfold upd; split <;> rfl
theorem ne_of {H : Hp} {a b : Addr} {o u : HO} (h : H a = some o) (h' : H b = some u) (d : o ≠ u) : a ≠ b := by
 intro e; subst e; rw [h] at h'; exact d (Option.some.inj h')
theorem kal {H : Hp} {a b : Addr} {o : HO} (h : H a = some o) (h' : H b = none) : a ≠ b := by
 intro e; subst e; rw [h] at h'; cases h'
section
variable (P : Program) (w : World)
def ObjOk (H : Hp) (h : Heap) (a : Addr) : HO → Prop
 | .lst xs => xs.length ≤ sizeLine ∧ ∃ (its : List Value) (n : Nat), Vals xs its ∧ h.get? a = some { cls := .type "list", data := .seq its.toArray n }
 | .tup xs => xs.length ≤ sizeLine ∧ ∃ its : List Value, Vals xs its ∧ IsTup h a its.toArray
 | .dK kvs => kvs.length ≤ sizeLine ∧ (a == sysModules) = false ∧ ∃ vs, KV kvs vs ∧ h.DictOf (kc4 P w) a vs
 | .dT kvs => kvs.length ≤ sizeLine ∧ (a == sysModules) = false ∧ ∃ xs : List (List Key × Addr × Value),
   Paired (fun (p : List Key × V) (q : List Key × Addr × Value) => p.1 = q.1 ∧ H q.2.1 = some (.tup (p.1.map kV)) ∧ RelV p.2 q.2.2) kvs xs ∧
   ∃ o es ep, h.get? a = some o ∧ o.ExactDict ∧ o.data = .dict es ep ∧ es.toList = xs.map (entryOfKey (tupleKind (kc4 P w))) ∧ (xs.map (·.1)).Nodup
 | .set S n => h.SetOf (intKind P w) a S n
 | .ins C dx fs => H dx = some (.own a) ∧ fs.length ≤ 1000 ∧ dx ≠ a ∧ h.get? a = some (RW C dx) ∧
   ∃ mA, h.Ns1 dx mA ∧ (∀ f, RelO (fs.lookup f) (mA f)) ∧ PySem.Within mA (fs.map (·.1))
 | .own _ => ∃ o, h.get? a = some o
 | .xd fs => ∃ mA, h.Ns1 a mA ∧ ∀ f, RelO (fs.lookup f) (mA f)
 | .rng lo hi => ∃ t u v, h.get? a = some { cls := .type "range", data := .fields #[.int lo t, .int hi u, .int 1 v] }
 | .frz o u => h.get? a = some o ∧ ObjOk H h a u
 | .tbl ps => h.get? a = some { cls := .none, data := .fields ps }
 | .met f x => h.get? a = some (SR (.ref f) (.ref x))
 | .ext φ => φ h ∧ (∃ o, h.get? a = some o) ∧ ∀ h1 h2 : Heap, φ h1 → (∀ o, h1.get? a = some o → h2.get? a = some o) → φ h2
def HOk (H : Hp) (h : Heap) : Prop := ∀ a o, H a = some o → ObjOk P w H h a o
end
section
variable {P : Program} {w : World} {H H' : Hp} {h h' : Heap} {a : Addr} {o : HO}
theorem ObjOk.lt (x : ObjOk P w H h a o) : a < h.objs.size := by
 cases o with
 | lst xs => obtain ⟨_, _, _, _, e⟩ := x; exact Heap.lt_size e
 | tup xs => obtain ⟨_, _, _, p⟩ := x; exact p.lt
 | dK kvs => obtain ⟨_, _, _, _, o, _, _, e, _⟩ := x; exact Heap.lt_size e
 | dT kvs => obtain ⟨_, _, _, _, o, _, _, e, _⟩ := x; exact Heap.lt_size e
 | set S n => obtain ⟨o, _, _, _, e, _⟩ := x; exact Heap.lt_size e
 | ins C dx fs => obtain ⟨_, _, _, e, _⟩ := x; exact Heap.lt_size e
 | own y => obtain ⟨_, e⟩ := x; exact Heap.lt_size e
 | xd fs => obtain ⟨_, ⟨_, _, _, e, _⟩, _⟩ := x; exact Heap.lt_size e
 | rng lo hi => obtain ⟨_, _, _, e⟩ := x; exact Heap.lt_size e
 | frz ob u => obtain ⟨e, _⟩ := x; exact Heap.lt_size e
 | tbl ps => exact Heap.lt_size (show h.get? a = some _ from x)
 | met f y => exact Heap.lt_size (show h.get? a = some _ from x)
 | ext φ => obtain ⟨_, ⟨_, e⟩, _⟩ := x; exact Heap.lt_size e
theorem Paired.mapP {α β : Type} {F G : α → β → Prop} : ∀ {l₁ : List α} {l₂ : List β}, Paired F l₁ l₂ → (∀ a b, F a b → G a b) → Paired G l₁ l₂
 | _, _, .nil, _ => .nil
 | _, _, .cons r t, f => .cons (f _ _ r) (Paired.mapP t f)
theorem ObjOk.stay (x : ObjOk P w H h a o) (k : ∀ b u, (b = a ∨ H b = some (.own a)) → h.get? b = some u → h'.get? b = some u)
  (ho : ∀ b, H b = some (.own a) → H' b = some (.own a)) (ht : ∀ b xs, H b = some (.tup xs) → H' b = some (.tup xs)) : ObjOk P w H' h' a o := by
 induction o with
 | lst xs => obtain ⟨z, its, n, r, e⟩ := x; exact ⟨z, its, n, r, k _ _ (.inl rfl) e⟩
 | tup xs => obtain ⟨z, its, r, ob, e, c⟩ := x; exact ⟨z, its, r, ob, k _ _ (.inl rfl) e, c⟩
 | dK kvs => obtain ⟨z, y, vs, r, ob, es, ep, e, c⟩ := x; exact ⟨z, y, vs, r, ob, es, ep, k _ _ (.inl rfl) e, c⟩
 | dT kvs =>
  obtain ⟨z, y, xs, r, ob, es, ep, e, c⟩ := x
  exact ⟨z, y, xs, Paired.mapP r fun p q z => ⟨z.1, ht _ _ z.2.1, z.2.2⟩, ob, es, ep, k _ _ (.inl rfl) e, c⟩
 | set S n => obtain ⟨ob, es, ep, t, e, c⟩ := x; exact ⟨ob, es, ep, t, k _ _ (.inl rfl) e, c⟩
 | ins C dx fs =>
  obtain ⟨d, z, ne, e, mA, ⟨od, es, ep, e2, c⟩, r⟩ := x
  exact ⟨ho _ d, z, ne, k _ _ (.inl rfl) e, mA, ⟨od, es, ep, k _ _ (.inr d) e2, c⟩, r⟩
 | own y => obtain ⟨ob, e⟩ := x; exact ⟨ob, k _ _ (.inl rfl) e⟩
 | xd fs => obtain ⟨mA, ⟨od, es, ep, e, c⟩, r⟩ := x; exact ⟨mA, ⟨od, es, ep, k _ _ (.inl rfl) e, c⟩, r⟩
 | rng lo hi => obtain ⟨t, u, v, e⟩ := x; exact ⟨t, u, v, k _ _ (.inl rfl) e⟩
 | frz ob u ih => obtain ⟨e, q⟩ := x; exact ⟨k _ _ (.inl rfl) e, ih q⟩
 | tbl ps =>
  have e : h.get? a = some { cls := .none, data := .fields ps } := x
  show h'.get? a = some { cls := .none, data := .fields ps }
  exact k a _ (.inl rfl) e
 | met f y =>
  have e : h.get? a = some (SR (.ref f) (.ref y)) := x
  show h'.get? a = some (SR (.ref f) (.ref y))
  exact k a _ (.inl rfl) e
 | ext φ => obtain ⟨p, ⟨o, e⟩, st⟩ := x; exact ⟨st _ _ p fun o q => k _ _ (.inl rfl) q, ⟨o, k _ _ (.inl rfl) e⟩, st⟩
theorem HOk.lt (x : HOk P w H h) (e : H a = some o) : a < h.objs.size := (x a o e).lt
theorem HOk.fresh (x : HOk P w H h) (e : h.objs.size ≤ a) : H a = none := by
 cases q : H a with
 | none => rfl
 | some u => exact absurd (Ra (x.lt q) e) (RN _)
theorem HOk.kept (x : HOk P w H h) (k : ∀ b u, h.get? b = some u → h'.get? b = some u) : HOk P w H h' := fun a o e =>
 (x a o e).stay (fun b u _ q => k b u q) (fun _ q => q) fun _ _ q => q
theorem HOk.laid (x : HOk P w H h) (k : ∀ b u, h.get? b = some u → h'.get? b = some u) (hp : h.objs.size ≤ a) (new : ObjOk P w (upd H a o) h' a o) : HOk P w (upd H a o) h' := fun b u e => by
 have hn := x.fresh hp
 by_cases hb : b = a
 ·subst hb; rw [kad] at e; cases e; exact new
 ·rw [kam hb] at e
  exact (x b u e).stay (fun c v _ q => k c v q) (fun c q => by rw [kam (kal q hn)]; exact q) fun c xs q => by rw [kam (kal q hn)]; exact q
end
def Rd (H : Hp) (a : Addr) (u : HO) : Prop := H a = some u ∨ ∃ o, H a = some (.frz o u)
theorem Rd.of {H : Hp} {a : Addr} {u : HO} (h : H a = some u) : Rd H a u := .inl h
theorem Rd.ok {P : Program} {w : World} {H : Hp} {h : Heap} {a : Addr} {u : HO} (r : Rd H a u) (x : HOk P w H h) : ObjOk P w H h a u := by
 rcases r with r | ⟨o, r⟩
 ·exact x a u r
 ·obtain ⟨_, q⟩ := x a _ r
  exact q
def Mut : Option HO → Prop
 | some (.lst _) => True
 | some (.dK _) => True
 | some (.dT _) => True
 | some (.set _ _) => True
 | some (.ins _ _ _) => True
 | some (.ext _) => True
 | _ => False
section
variable {P : Program} {w : World} {H : Hp} {h h' : Heap} {x e : Addr} {o' : HO}
theorem HOk.write (ok : HOk P w H h) (mu : Mut (H x)) (he : e = x ∨ H e = some (.own x)) (k : ∀ b u, b ≠ e → h.get? b = some u → h'.get? b = some u) (heo : ∃ u, h'.get? e = some u)
  (new : ObjOk P w (upd H x o') h' x o') : HOk P w (upd H x o') h' := fun b u q => by
 have nown : ∀ c y, H c = some (.own y) → c ≠ x := fun c y r z => by subst z; rw [r] at mu; exact mu
 have ntup : ∀ c xs, H c = some (.tup xs) → c ≠ x := fun c xs r z => by subst z; rw [r] at mu; exact mu
 by_cases hb : b = x
 ·subst hb; rw [kad] at q; cases q; exact new
 ·rw [kam hb] at q
  by_cases hbe : b = e
  ·have q' : H b = some (.own x) := by
    rcases he with z | z
    ·exact absurd (hbe.trans z) hb
    ·rw [hbe]; exact z
   rw [q] at q'; cases q'
   obtain ⟨v, hv⟩ := heo
   exact ⟨v, by rw [hbe]; exact hv⟩
  ·refine (ok b u q).stay (fun c v hc r => k c v ?_ r) (fun c r => by rw [kam (nown c b r)]; exact r) fun c xs r => by rw [kam (ntup c xs r)]; exact r
   rcases hc with rfl | hc
   ·exact hbe
   ·rintro rfl
    rcases he with z | z
    ·exact nown c b hc z
    ·rw [hc] at z; cases z; exact hb rfl
end
structure Un (fs ex : List Addr) (H H' : Hp) (h h' : Heap) : Prop where
 keep : ∀ b o, h.get? b = some o → H b = none → b ∉ fs → b ∉ ex → h'.get? b = some o
 slot : ∀ b o, h.get? b = some o → H b = none → b ∈ fs → b ∉ ex → ∃ sl, h'.get? b = some { o with slots := sl }
 free : ∀ b o, h.get? b = some o → H b = none → b ∉ ex → H' b = none
 there : ∀ b o, h.get? b = some o → b ∉ ex → ∃ o', h'.get? b = some o'
 tups : ∀ b xs, H b = some (.tup xs) → H' b = some (.tup xs)
 frzs : ∀ b o u, H b = some (.frz o u) → H' b = some (.frz o u)
 tbls : ∀ b ps, H b = some (.tbl ps) → ∃ more, H' b = some (.tbl (ps ++ more))
section
variable {fs fs' ex ex' : List Addr} {H H1 H2 : Hp} {h h1 h2 h' : Heap} {a x e : Addr} {o : HO}
theorem Un.any (u : Un fs ex H H1 h h1) {b : Addr} {ob : Obj} (q : h.get? b = some ob) (n : H b = none) (hx : b ∉ ex) : ∃ sl, h1.get? b = some { ob with slots := sl } := by
 by_cases hb : b ∈ fs
 ·exact u.slot b ob q n hb hx
 ·exact ⟨ob.slots, u.keep b ob q n hb hx⟩
theorem Un.trans (a : Un fs ex H H1 h h1) (b : Un fs ex H1 H2 h1 h2) : Un fs ex H H2 h h2 where
 keep := fun c ob q n hc hx => b.keep c ob (a.keep c ob q n hc hx) (a.free c ob q n hx) hc hx
 slot := fun c ob q n hc hx => by
  obtain ⟨sl, e1⟩ := a.slot c ob q n hc hx
  obtain ⟨sl', e2⟩ := b.slot c _ e1 (a.free c ob q n hx) hc hx
  exact ⟨sl', e2⟩
 free := fun c ob q n hx => by
  obtain ⟨o', e1⟩ := a.there c ob q hx
  exact b.free c o' e1 (a.free c ob q n hx) hx
 there := fun c ob q hx => by
  obtain ⟨o', e1⟩ := a.there c ob q hx
  exact b.there c o' e1 hx
 tups := fun c xs q => b.tups c xs (a.tups c xs q)
 frzs := fun c ob xs q => b.frzs c ob xs (a.frzs c ob xs q)
 tbls := fun c ps q => by
  obtain ⟨m1, e1⟩ := a.tbls c ps q
  obtain ⟨m2, e2⟩ := b.tbls c _ e1
  exact ⟨m1 ++ m2, by rw [e2, Array.append_assoc]⟩
theorem Un.kept (k : ∀ b u, h.get? b = some u → h'.get? b = some u) : Un fs ex H H h h' :=
 ⟨fun b ob q _ _ _ => k b ob q, fun b ob q _ _ _ => ⟨ob.slots, k b ob q⟩, fun _ _ _ n _ => n, fun b ob q _ => ⟨ob, k b ob q⟩, fun _ _ q => q, fun _ _ _ q => q, fun _ ps q => ⟨#[], by rw [q]; simp⟩⟩
theorem Un.refl : Un fs ex H H h h := Un.kept fun _ _ q => q
theorem Un.laid (k : ∀ b u, h.get? b = some u → h'.get? b = some u) (hp : h.objs.size ≤ a) (hn : H a = none) : Un fs ex H (upd H a o) h h' where
 keep := fun b u q _ _ _ => k b u q
 slot := fun b u q _ _ _ => ⟨u.slots, k b u q⟩
 free := fun b u q n _ => by rw [kam (Rc (Ra (Heap.lt_size q) hp))]; exact n
 there := fun b u q _ => ⟨u, k b u q⟩
 tups := fun b xs q => by rw [kam (kal q hn)]; exact q
 frzs := fun b u xs q => by rw [kam (kal q hn)]; exact q
 tbls := fun b ps q => ⟨#[], by rw [kam (kal q hn), q]; simp⟩
theorem Un.write (mu : Mut (H x)) (he : e = x ∨ H e = some (.own x)) (k : ∀ b u, b ≠ e → h.get? b = some u → h'.get? b = some u) (heo : ∃ u, h'.get? e = some u) : Un fs ex H (upd H x o) h h' := by
 have hx : ∀ b, H b = none → b ≠ x := fun b n z => by subst z; rw [n] at mu; exact mu
 have hb : ∀ b, H b = none → b ≠ e := fun b n z => by
  subst z
  rcases he with r | r
  ·exact hx b n r
  ·rw [n] at r; cases r
 have hm : ∀ b u, H b = some u → ¬ Mut (some u) → b ≠ x := fun b u q nm z => by subst z; rw [q] at mu; exact nm mu
 refine ⟨fun b u q n _ _ => k b u (hb b n) q, fun b u q n _ _ => ⟨u.slots, k b u (hb b n) q⟩, fun b u q n _ => by rw [kam (hx b n)]; exact n, fun b u q _ => ?_,
  fun b xs q => by rw [kam (hm b _ q fun z => z)]; exact q, fun b u xs q => by rw [kam (hm b _ q fun z => z)]; exact q, fun b ps q => ⟨#[], by rw [kam (hm b _ q fun z => z), q]; simp⟩⟩
 by_cases hbe : b = e
 ·subst hbe; exact heo
 ·exact ⟨u, k b u hbe q⟩
theorem Un.mono (u : Un fs ex H H1 h h1) (hs : ∀ b ∈ fs, b ∈ fs') (hx : ∀ b ∈ ex, b ∈ ex') : Un fs' ex' H H1 h h1 :=
 ⟨fun b ob q n hb he => u.keep b ob q n (fun z => hb (hs b z)) fun z => he (hx b z), fun _ _ q n _ he => u.any q n fun z => he (hx _ z), fun b ob q n he => u.free b ob q n fun z => he (hx b z), fun b ob q he => u.there b ob q fun z => he (hx b z), u.tups, u.frzs, u.tbls⟩
end
def trk (h : Heap) (H : Hp) : List Addr := (CP h.objs.size).filter fun a => (H a).isSome
def hidT (h : Heap) (H : Hp) : Heap := PySem.W.hideAll h (trk h H)
theorem kip (h : Heap) (H : Hp) : (hidT h H).objs.size = h.objs.size := PySem.W.hideAll_size _ _
theorem kjp {h : Heap} {H : Hp} {b : Addr} {o : Obj} (e : h.get? b = some o) (n : H b = none) : (hidT h H).get? b = some o :=
 PySem.W.hideAll_get _ e fun hm => by
  have q : (H b).isSome = true := (RI.mp hm).2
  rw [n] at q; simp at q
theorem kkG {h : Heap} {H : Hp} {b : Addr} {o : Obj} (e : (hidT h H).get? b = some o) : h.get? b = some o ∧ H b = none := by
 have e' : h.get? b = some o := PySem.W.of_hideAll (trk h H) e
 refine ⟨e', ?_⟩
 cases q : H b with
 | none => rfl
 | some x =>
  have hm : b ∈ trk h H := RI.mpr ⟨List.mem_range.mpr (Heap.lt_size e'), by simp [q]⟩
  have z : (hidT h H).get? b = none := PySem.W.hideAll_none (trk h H) hm
  rw [z] at e; cases e
def kk0 (g h : Heap) (L : Addr) : List (Addr × Obj) := (CP h.objs.size).filterMap fun a => if a = L ∨ (g.get? a).isSome = true then none else (h.get? a).map fun o => (a, o)
def rest (g h : Heap) (L d : Addr) : List (Addr × Obj) := (kk0 g h L).filter fun p => decide (p.1 ≠ d)
end L2
namespace L2
open PySem PySem.Spec PyProof.Rows
structure Mod (K : CA) (mg : Str → Option Value) (base : Heap) : Prop where
 kin : K.In base
 glob : base.Ns mainGlobals mg
 blt : ∃ mb, base.Ns builtinsNs mb ∧ ∀ x : Str, x ≠ "__name__" → mb x = bootBuiltins x
 nolimit : base.NoLimit
structure Cx where
 prog : Program
 w : World
 K : CA
 mg : Str → Option Value
 base : Heap
 A : Around
 N : List Str
 s₀ : Shared
 H₀ : Hp
 env : Env
 outer : List Env
 stack : List Env
 ex : List Addr
 fn : Str → Bool
 calm : Bool
 pn : List (Addr × Obj)
 xe : Value → Shared → Prop
def frs (l : List Env) : List Addr := l.filterMap (·.frame)
abbrev Cx.fs (X : Cx) : List Addr := frs X.outer
def Vis (sc : Scope) (x : Str) : Prop := sc.names.lookup x = some .local ∨ sc.names.lookup x = some .cell ∨ sc.names.lookup x = some .free
def Loc (sc : Scope) (x : Str) : Prop := sc.names.lookup x = some .local ∨ sc.names.lookup x = some .cell
def Look (env : Env) (h : Heap) (m : Str → Option Value) (x : Str) (u : Value) : Prop :=
 (env.kindOf x = some .local ∧ m x = some u) ∨ ((env.kindOf x = some .cell ∨ env.kindOf x = some .free) ∧ ∃ c, env.cells.lookup x = some c ∧ h.IsCell c (some u))
structure Cx.Ok (X : Cx) : Prop where
 mod : Mod X.K X.mg X.base
 kind : X.env.scope.kind = .function
 glob : X.env.globals = mainGlobals
 blt : X.env.builtins = builtinsNs
 above : X.s₀.heap.objs.size ≤ X.env.locals
 inj : ∀ x y c, X.env.cells.lookup x = some c → X.env.cells.lookup y = some c → x = y
 has : ∀ x, (X.env.kindOf x = some .cell ∨ X.env.kindOf x = some .free) → ∃ c, X.env.cells.lookup x = some c
 cab : ∀ x c, X.fn x = true → X.env.cells.lookup x = some c → X.s₀.heap.objs.size ≤ c
 hd : X.calm = true → X.A.handled = none
 frames : X.A.frames = some X.stack
 stk : X.stack = X.outer ∨ (X.stack = X.env :: X.outer ∧ X.env.frame = some X.env.locals)
 exf : ∀ b ∈ X.ex, b ≠ X.env.locals ∧ ∀ x c, X.env.cells.lookup x = some c → c ≠ b
 bs : ∀ b o, X.base.get? b = some o → X.s₀.heap.get? b = some o ∧ X.H₀ b = none
 bsz : X.base.objs.size ≤ X.s₀.heap.objs.size
 noex : ∀ b o, X.base.get? b = some o → b ∉ X.ex
 exfs : ∀ b ∈ X.ex, b ∉ X.fs
 funs : X.s₀.heap.FunFrames X.base X.outer
 frf : ∀ b ∈ X.fs, X.H₀ b = none
structure Inv (X : Cx) (pins : List (Addr × Obj)) (σ : List (Option V)) (H : Hp) (s : Shared) : Prop where
 ok : X.Ok
 os : s.os = X.s₀.os
 bare : AllBare s.gens
 base : Un X.fs X.ex X.H₀ H X.s₀.heap s.heap
 loc : ∃ m, s.heap.Ns X.env.locals m ∧ ∀ (i : Nat) (x : Str) (v : V), X.N[i]? = some x → σ[i]? = some (some v) → Vis X.env.scope x → ∃ u, RelV v u ∧ Look X.env s.heap m x u
 cell : ∀ x c, X.env.cells.lookup x = some c → ∃ v, s.heap.IsCell c v
 free : H X.env.locals = none
 freeC : ∀ x c, X.env.cells.lookup x = some c → H c = none
 pin : ∀ p ∈ X.pn ++ pins, s.heap.get? p.1 = some p.2 ∧ H p.1 = none ∧ p.1 ≠ X.env.locals ∧ p.1 ∉ X.fs ∧ ∀ v, p.2.data ≠ .cell v
 hok : HOk X.prog X.w H s.heap
 len : σ.length = X.N.length
section
variable {X : Cx} {pins : List (Addr × Obj)} {σ : List (Option V)} {H H' : Hp} {s : Shared} {h' : Heap}
theorem Cx.Ok.nofr (ok : X.Ok) {b : Addr} {o : Obj} (e : X.base.get? b = some o) : b ∉ X.fs := fun hb => by
 have := (ok.funs.mem hb).1
 rw [e] at this; cases this
theorem Inv.bs (I : Inv X pins σ H s) : ∀ b o, X.base.get? b = some o → s.heap.get? b = some o ∧ H b = none := fun b o e =>
 ⟨I.base.keep b o (I.ok.bs b o e).1 (I.ok.bs b o e).2 (I.ok.nofr e) (I.ok.noex b o e), I.base.free b o (I.ok.bs b o e).1 (I.ok.bs b o e).2 (I.ok.noex b o e)⟩
theorem Inv.bk (I : Inv X pins σ H s) : ∀ b o, X.base.get? b = some o → s.heap.get? b = some o := fun b o e => (I.bs b o e).1
theorem Inv.mod (I : Inv X pins σ H s) : Mod X.K X.mg X.base := I.ok.mod
theorem Inv.kIn (I : Inv X pins σ H s) : X.K.In s.heap := I.ok.mod.kin.keeps I.bk
theorem Inv.nolimit (I : Inv X pins σ H s) : s.heap.NoLimit := I.ok.mod.nolimit.keeps I.bk
theorem Inv.fr (I : Inv X pins σ H s) : ∃ m, Fr X.base X.env.locals s.heap m :=
 let ⟨m, hn, _⟩ := I.loc
 ⟨m, hn, I.bk, CN I.ok.bsz I.ok.above⟩
theorem Inv.lt (I : Inv X pins σ H s) : X.env.locals < s.heap.objs.size := let ⟨_, hn, _⟩ := I.loc; hn.lt
theorem Inv.sz (I : Inv X pins σ H s) : X.s₀.heap.objs.size ≤ s.heap.objs.size := CN I.ok.above (CY I.lt)
theorem Inv.nofs (I : Inv X pins σ H s) {a : Addr} (h : s.heap.objs.size ≤ a) : a ∉ X.fs := fun hb => by
 obtain ⟨_, o, ho, _⟩ := I.ok.funs.mem hb
 exact absurd (Ra (Heap.lt_size ho) (CN I.sz h)) (RN _)
theorem Inv.cne (I : Inv X pins σ H s) : ∀ x c, X.env.cells.lookup x = some c → c ≠ X.env.locals := fun x c e z => by
 obtain ⟨v, o, ho, hd⟩ := I.cell x c e
 obtain ⟨m, ⟨o', es, ep, ho', hd', _⟩, _⟩ := I.loc
 rw [z, ho'] at ho; cases ho; rw [hd'] at hd; cases hd
theorem Inv.funs (I : Inv X pins σ H s) : s.heap.FunFrames X.base X.outer := by
 have all : ∀ (l : List Env), (∀ b ∈ frs l, b ∈ X.fs) → X.s₀.heap.FunFrames X.base l → s.heap.FunFrames X.base l := by
  intro l
  induction l with
  | nil => intro _ _; trivial
  | cons env r ih =>
   intro hs hl
   obtain ⟨hk, ⟨L, o, hf, hn, ho, hd⟩, hr⟩ := hl
   have hL : L ∈ X.fs := hs L (by unfold frs; rw [SS, hf]; exact Re)
   obtain ⟨sl, e⟩ := I.base.slot L o ho (I.ok.frf L hL) hL fun z => I.ok.exfs L z hL
   exact ⟨hk, ⟨L, _, hf, hn, e, hd⟩, ih (fun b hb => hs b (by unfold frs; rw [SS, hf]; exact C8 _ hb)) hr⟩
 exact all X.outer (fun _ hb => hb) I.ok.funs
theorem Inv.stack (I : Inv X pins σ H s) : s.heap.FunFrames X.base X.stack := by
 rcases I.ok.stk with e | ⟨e, hf⟩
 ·rw [e]; exact I.funs
 ·rw [e]
  obtain ⟨m, hn, _⟩ := I.loc
  refine .cons (by rw [I.ok.kind]; decide) hf hn ?_ I.funs
  exact Heap.get?_none_of_le (CN I.ok.bsz I.ok.above)
theorem Inv.stkSub (I : Inv X pins σ H s) : ∀ b ∈ frs X.stack, b ∈ X.env.locals :: X.fs := fun b hb => by
 rcases I.ok.stk with e | ⟨e, hf⟩
 ·rw [e] at hb; exact C8 _ hb
 ·rw [e] at hb
  unfold frs at hb
  rw [SS, hf] at hb
  exact hb
theorem Inv.stkFree (I : Inv X pins σ H s) : ∀ b ∈ frs X.stack, H b = none := fun b hb => by
 rcases C6.mp (I.stkSub b hb) with e | hb
 ·rw [e]; exact I.free
 ·obtain ⟨_, o, ho, _⟩ := I.ok.funs.mem hb
  exact I.base.free b o ho (I.ok.frf b hb) fun z => I.ok.exfs b z hb
theorem Inv.step {g' : Array GenState} {t' : Nat} {d' : Drawn} {ch : List Addr} (I : Inv X pins σ H s)
  (hch : ∀ b ∈ ch, (b ∈ X.ex ∨ X.s₀.heap.objs.size ≤ b) ∧ b ≠ X.env.locals ∧ (∀ x c, X.env.cells.lookup x = some c → c ≠ b) ∧ ∀ p ∈ X.pn ++ pins, p.1 ≠ b)
  (keep : ∀ b o, b ≠ X.env.locals → b ∉ X.fs → b ∉ ch → s.heap.get? b = some o → H b = none → h'.get? b = some o)
  (slot : ∀ b o, b ≠ X.env.locals → b ∈ X.fs → b ∉ ch → s.heap.get? b = some o → H b = none → ∃ sl, h'.get? b = some { o with slots := sl }) (free : ∀ b o, b ∉ ch → s.heap.get? b = some o → H b = none → H' b = none)
  (there : ∀ b o, b ∉ ch → s.heap.get? b = some o → ∃ o', h'.get? b = some o')
  (tups : ∀ b xs, H b = some (.tup xs) → H' b = some (.tup xs)) (frzs : ∀ b o u, H b = some (.frz o u) → H' b = some (.frz o u)) (tbls : ∀ b ps, H b = some (.tbl ps) → ∃ more, H' b = some (.tbl (ps ++ more)))
  (ns : ∀ m, s.heap.Ns X.env.locals m → h'.Ns X.env.locals m) (hok : HOk X.prog X.w H' h') (hg : AllBare g') :
  Inv X pins σ H' { s with heap := h', gens := g', drawn := d', toks := t' } := by
 have neL : ∀ b o, X.s₀.heap.get? b = some o → b ≠ X.env.locals := fun b o e => Rc (Ra (Heap.lt_size e) I.ok.above)
 have neC : ∀ b o, X.s₀.heap.get? b = some o → b ∉ X.ex → b ∉ ch := fun b o e hx hb => by
  rcases (hch b hb).1 with z | z
  ·exact hx z
  ·exact absurd (Ra (Heap.lt_size e) z) (RN _)
 have cellK : ∀ x c, X.env.cells.lookup x = some c → ∀ v, s.heap.IsCell c v → h'.IsCell c v := fun x c e v ⟨o, ho, hd⟩ => by
  have nch : c ∉ ch := fun z => (hch c z).2.2.1 x c e rfl
  by_cases hc : c ∈ X.fs
  ·obtain ⟨sl, q⟩ := slot c o (I.cne x c e) hc nch ho (I.freeC x c e)
   exact ⟨_, q, hd⟩
  ·exact ⟨o, keep c o (I.cne x c e) hc nch ho (I.freeC x c e), hd⟩
 refine ⟨I.ok, I.os, hg, ⟨fun b o e n hb hx => ?_, fun b o e n hb hx => ?_, fun b o e n hx => ?_, fun b o e hx => ?_, fun b xs e => tups b xs (I.base.tups b xs e), fun b o xs e => frzs b o xs (I.base.frzs b o xs e), fun b ps e => ?_⟩, ?_, fun x c e => ?_, ?_, fun x c e => ?_, fun p hp => ?_, hok, I.len⟩
 ·exact keep b o (neL b o e) hb (neC b o e hx) (I.base.keep b o e n hb hx) (I.base.free b o e n hx)
 ·obtain ⟨sl, e1⟩ := I.base.slot b o e n hb hx
  obtain ⟨sl', e2⟩ := slot b _ (neL b o e) hb (neC b o e hx) e1 (I.base.free b o e n hx)
  exact ⟨sl', e2⟩
 ·obtain ⟨o', e1⟩ := I.base.there b o e hx
  exact free b o' (neC b o e hx) e1 (I.base.free b o e n hx)
 ·obtain ⟨o', e1⟩ := I.base.there b o e hx
  exact there b o' (neC b o e hx) e1
 ·obtain ⟨m1, e1⟩ := I.base.tbls b ps e
  obtain ⟨m2, e2⟩ := tbls b _ e1
  exact ⟨m1 ++ m2, by rw [e2, Array.append_assoc]⟩
 ·obtain ⟨m, hn, hl⟩ := I.loc
  refine ⟨m, ns m hn, fun i x v e1 e2 e3 => ?_⟩
  obtain ⟨u, r, l⟩ := hl i x v e1 e2 e3
  refine ⟨u, r, ?_⟩
  rcases l with l | ⟨k, c, e, z⟩
  ·exact .inl l
  ·exact .inr ⟨k, c, e, cellK x c e _ z⟩
 ·obtain ⟨v, z⟩ := I.cell x c e
  exact ⟨v, cellK x c e v z⟩
 ·obtain ⟨m, ⟨o, _, _, ho, _⟩, _⟩ := I.loc
  exact free _ o (fun z => (hch _ z).2.1 rfl) ho I.free
 ·obtain ⟨v, o, ho, hd⟩ := I.cell x c e
  exact free c o (fun z => (hch c z).2.2.1 x c e rfl) ho (I.freeC x c e)
 ·obtain ⟨e, n, ne, nf, d⟩ := I.pin p hp
  have nch : p.1 ∉ ch := fun z => (hch p.1 z).2.2.2 p hp rfl
  exact ⟨keep p.1 p.2 ne nf nch e n, free p.1 p.2 nch e n, ne, nf, d⟩
theorem Inv.un {t' : Nat} (I : Inv X pins σ H s) (u : Un X.fs [] H H' s.heap h') (hok : HOk X.prog X.w H' h') : Inv X pins σ H' { s with heap := h', toks := t' } := by
 obtain ⟨m, ⟨o, es, ep, ho, r⟩, _⟩ := id I.loc
 obtain ⟨sl, hL⟩ := u.any ho I.free (by simp)
 exact I.step (g' := s.gens) (d' := s.drawn) (ch := []) (fun _ z => nomatch z) (fun b o _ hb _ e n => u.keep b o e n hb (by simp)) (fun b o _ hb _ e n => u.slot b o e n hb (by simp)) (fun b o _ e n => u.free b o e n (by simp)) (fun b o _ e => u.there b o e (by simp)) u.tups u.frzs u.tbls (fun m' hm => by
  obtain ⟨o', es', ep', ho', r'⟩ := hm
  rw [ho] at ho'; cases ho'
  exact ⟨_, es', ep', hL, r'⟩) hok I.bare
theorem Inv.call {g' : Array GenState} {t' : Nat} {d' : Drawn} {ch : List Addr} (I : Inv X pins σ H s) (u : Un (frs X.stack) ch H H' s.heap h') (hok : HOk X.prog X.w H' h') (hg : AllBare g')
  (hch : ∀ b ∈ ch, (b ∈ X.ex ∨ X.s₀.heap.objs.size ≤ b) ∧ b ≠ X.env.locals ∧ (∀ x c, X.env.cells.lookup x = some c → c ≠ b) ∧ ∀ p ∈ X.pn ++ pins, p.1 ≠ b) :
  Inv X pins σ H' { s with heap := h', gens := g', drawn := d', toks := t' } := by
 obtain ⟨m, ⟨o, es, ep, ho, r⟩, _⟩ := id I.loc
 obtain ⟨sl, hL⟩ := u.any ho I.free fun z => (hch _ z).2.1 rfl
 exact I.step (ch := ch) hch (fun b o hL hb hc e n => u.keep b o e n (fun z => (C6.mp (I.stkSub b z)).elim hL hb) hc) (fun b o _ _ hc e n => u.any e n hc) (fun b o hc e n => u.free b o e n hc) (fun b o hc e => u.there b o e hc) u.tups u.frzs u.tbls (fun m' hm => by
  obtain ⟨o', es', ep', ho', r'⟩ := hm
  rw [ho] at ho'; cases ho'
  exact ⟨_, es', ep', hL, r'⟩) hok hg
theorem Inv.turned {t' : Nat} {it : Addr} (I : Inv X pins σ H s) (k : ∀ b o, b ≠ it → s.heap.get? b = some o → h'.get? b = some o) (hn : H it = none) (hL : it ≠ X.env.locals)
  (h1 : it ∈ X.ex ∨ X.s₀.heap.objs.size ≤ it) (h2 : ∀ x c, X.env.cells.lookup x = some c → c ≠ it) (h3 : ∀ p ∈ X.pn ++ pins, p.1 ≠ it) : Inv X pins σ H { s with heap := h', toks := t' } := by
 have nit : ∀ b u, H b = some u → b ≠ it := fun b u e z => by rw [z, hn] at e; cases e
 refine I.step (g' := s.gens) (d' := s.drawn) (ch := [it]) (fun b hb => ?_) (fun b o _ _ hc e _ => k b o (fun z => hc (by simp [z])) e) (fun b o _ _ hc e _ => ⟨o.slots, k b o (fun z => hc (by simp [z])) e⟩) (fun _ _ _ _ n => n)
  (fun b o hc e => ⟨o, k b o (fun z => hc (by simp [z])) e⟩) (fun _ _ e => e) (fun _ _ _ e => e) (fun b ps e => ⟨#[], by rw [e]; simp⟩) (fun m hm => ?_) (fun b u e => ?_) I.bare
 ·have e : b = it := by simpa using hb
  subst e
  exact ⟨h1, hL, h2, h3⟩
 ·obtain ⟨o, es, ep, ho, r⟩ := hm
  exact ⟨o, es, ep, k _ o (Ne.symm hL) ho, r⟩
 ·refine (I.hok b u e).stay (fun c v hc q => k c v ?_ q) (fun _ q => q) fun _ _ q => q
  rcases hc with z | z
  ·rw [z]; exact nit b u e
  ·exact nit c _ z
theorem Inv.tok (I : Inv X pins σ H s) (t : Nat) : Inv X pins σ H { s with toks := t } := I.un (h' := s.heap) (t' := t) Un.refl I.hok
theorem Inv.kept {t' : Nat} (I : Inv X pins σ H s) (k : ∀ b u, s.heap.get? b = some u → h'.get? b = some u) : Inv X pins σ H { s with heap := h', toks := t' } := I.un (Un.kept k) (I.hok.kept k)
theorem Inv.laid {a : Addr} {o : HO} {t' : Nat} (I : Inv X pins σ H s) (k : ∀ b u, s.heap.get? b = some u → h'.get? b = some u) (hp : s.heap.objs.size ≤ a) (new : ObjOk X.prog X.w (upd H a o) h' a o) :
  Inv X pins σ (upd H a o) { s with heap := h', toks := t' } := I.un (Un.laid k hp (I.hok.fresh hp)) (I.hok.laid k hp new)
theorem Inv.write {x e : Addr} {o : HO} {t' : Nat} (I : Inv X pins σ H s) (mu : Mut (H x)) (he : e = x ∨ H e = some (.own x)) (k : ∀ b u, b ≠ e → s.heap.get? b = some u → h'.get? b = some u) (heo : ∃ u, h'.get? e = some u)
  (new : ObjOk X.prog X.w (upd H x o) h' x o) : Inv X pins σ (upd H x o) { s with heap := h', toks := t' } := I.un (Un.write mu he k heo) (I.hok.write mu he k heo new)
theorem Inv.pins_of {pins' : List (Addr × Obj)} (I : Inv X pins σ H s) (h : ∀ p ∈ pins', s.heap.get? p.1 = some p.2 ∧ H p.1 = none ∧ p.1 ≠ X.env.locals ∧ p.1 ∉ X.fs ∧ ∀ v, p.2.data ≠ .cell v) : Inv X pins' σ H s :=
 ⟨I.ok, I.os, I.bare, I.base, I.loc, I.cell, I.free, I.freeC, fun p hp => (Rk.mp hp).elim (fun z => I.pin p (SU _ z)) (h p), I.hok, I.len⟩
theorem kgJ {N : List Str} (hN : N.Nodup) {i j : Nat} {x : Str} (a : N[i]? = some x) (b : N[j]? = some x) : i = j := by
 obtain ⟨h1, e1⟩ := CZ.mp a
 obtain ⟨h2, e2⟩ := CZ.mp b
 exact (List.getElem_inj hN).mp (e1.trans e2.symm)
theorem khz {M : Model} {A : Around} {E : Value → Shared → Prop} {i : Nat} {x : Str} {v : V} {u : Value} {Q : Unit → Shared → Prop} (I : Inv X pins σ H s) (hN : X.N.Nodup) (hi : X.N[i]? = some x) (hx : Loc X.env.scope x) (r : RelV v u)
  (h : ∀ s', Inv X pins (σ.set i (some v)) H s' → (∃ a, Heap.SameBut a s.heap s'.heap ∧ (a = X.env.locals ∨ X.env.cells.lookup x = some a)) → Q () s') (hf : X.fn x = true ∨ X.env.scope.names.lookup x = some .local := by first | exact .inl rfl | exact .inr rfl | assumption) : wpAny M A (storeName X.env x u) Q E s := by
 obtain ⟨m, hn, hl⟩ := id I.loc
 have hcls : (X.env.scope.kind == .class || (X.env.scope.kind == .module && X.env.locals != X.env.globals)) = false := by rw [I.ok.kind]; rfl
 have hiσ : i < σ.length := by rw [I.len]; exact (CZ.mp hi).1
 have cne := I.cne
 have tracked : ∀ {a : Addr} {h' : Heap}, (∃ o, s.heap.get? a = some o ∧ H a = none) → Heap.SameBut a s.heap h' → HOk X.prog X.w H h' := fun {a h'} ha hs b ob e => by
  obtain ⟨_, _, hfree⟩ := ha
  refine (I.hok b ob e).stay (fun c w' hc q => (hs.2 c ?_).trans q) (fun _ q => q) fun _ _ q => q
  rintro rfl
  rcases hc with rfl | hc
  ·rw [hfree] at e; cases e
  ·rw [hfree] at hc; cases hc
 rcases hx with hk | hk
 ·refine wpAny_storeName_local hk hn (fun h' hn' hs => ?_) hcls
  obtain ⟨oL, _, _, hoL, _⟩ := id hn
  refine h _ ⟨I.ok, I.os, I.bare, ⟨fun b o e n hb hx => ?_, fun b o e n hb hx => ?_, I.base.free, fun b o e hx => ?_, I.base.tups, I.base.frzs, I.base.tbls⟩, ⟨_, hn', fun j y v' e1 e2 e3 => ?_⟩, fun y c e => ?_, I.free, I.freeC, fun p hp => ?_, tracked ⟨oL, hoL, I.free⟩ hs, by simpa using I.len⟩ ⟨_, hs, .inl rfl⟩
  ·exact (hs.2 b (Rc (Ra (Heap.lt_size e) I.ok.above))).trans (I.base.keep b o e n hb hx)
  ·obtain ⟨sl, e1⟩ := I.base.slot b o e n hb hx
   exact ⟨sl, (hs.2 b (Rc (Ra (Heap.lt_size e) I.ok.above))).trans e1⟩
  ·obtain ⟨o', e1⟩ := I.base.there b o e hx
   exact ⟨o', (hs.2 b (Rc (Ra (Heap.lt_size e) I.ok.above))).trans e1⟩
  ·by_cases hj : j = i
   ·subst hj
    rw [hi] at e1; cases e1
    rw [Sn hiσ] at e2
    cases e2
    exact ⟨u, r, .inl ⟨hk, by simp⟩⟩
   ·rw [So (Ne.symm hj)] at e2
    obtain ⟨u', r', q⟩ := hl j y v' e1 e2 e3
    refine ⟨u', r', ?_⟩
    rcases q with ⟨k, e⟩ | ⟨k, c, e, z⟩
    ·refine .inl ⟨k, ?_⟩
     have : y ≠ x := fun e => hj (kgJ hN e1 (e ▸ hi))
     simp [this, e]
    ·exact .inr ⟨k, c, e, z.sameBut hs (cne y c e)⟩
  ·obtain ⟨w', z⟩ := I.cell y c e
   exact ⟨w', z.sameBut hs (cne y c e)⟩
  ·obtain ⟨e, n, ne, nf, d⟩ := I.pin p hp
   exact ⟨(hs.2 p.1 ne).trans e, n, ne, nf, d⟩
 ·have hfn : X.fn x = true := by
   rcases hf with z | z
   ·exact z
   ·rw [z] at hk; cases hk
  obtain ⟨c, hc⟩ := I.ok.has x (.inl hk)
  obtain ⟨w', z⟩ := I.cell x c hc
  refine wpAny_storeName_cell I.ok.kind hk hc z (fun h' hc' hs => ?_)
  obtain ⟨oc, hoc, hocd⟩ := id z
  refine h { s with heap := h' } ⟨I.ok, I.os, I.bare, ⟨fun b o e n hb hx => ?_, fun b o e n hb hx => ?_, I.base.free, fun b o e hx => ?_, I.base.tups, I.base.frzs, I.base.tbls⟩, ⟨m, hn.sameBut hs (Ne.symm (cne x c hc)), fun j y v' e1 e2 e3 => ?_⟩, fun y c' e => ?_, I.free, I.freeC, fun p hp => ?_, tracked ⟨oc, hoc, I.freeC x c hc⟩ hs, by simpa using I.len⟩ ⟨c, hs, .inr hc⟩
  ·exact (hs.2 b (Rc (Ra (Heap.lt_size e) (I.ok.cab x c hfn hc)))).trans (I.base.keep b o e n hb hx)
  ·obtain ⟨sl, e1⟩ := I.base.slot b o e n hb hx
   exact ⟨sl, (hs.2 b (Rc (Ra (Heap.lt_size e) (I.ok.cab x c hfn hc)))).trans e1⟩
  ·obtain ⟨o', e1⟩ := I.base.there b o e hx
   exact ⟨o', (hs.2 b (Rc (Ra (Heap.lt_size e) (I.ok.cab x c hfn hc)))).trans e1⟩
  ·by_cases hj : j = i
   ·subst hj
    rw [hi] at e1; cases e1
    rw [Sn hiσ] at e2
    cases e2
    exact ⟨u, r, .inr ⟨.inl hk, c, hc, hc'⟩⟩
   ·rw [So (Ne.symm hj)] at e2
    obtain ⟨u', r', q⟩ := hl j y v' e1 e2 e3
    refine ⟨u', r', ?_⟩
    rcases q with q | ⟨k, c', e, z'⟩
    ·exact .inl q
    ·refine .inr ⟨k, c', e, z'.sameBut hs ?_⟩
     rintro rfl
     exact hj (kgJ hN e1 (I.ok.inj _ _ _ e hc ▸ hi))
  ·by_cases hcc : c' = c
   ·subst hcc; exact ⟨_, hc'⟩
   ·obtain ⟨w2, z2⟩ := I.cell y c' e
    exact ⟨w2, z2.sameBut hs hcc⟩
  ·obtain ⟨e, n, ne, nf, d⟩ := I.pin p hp
   refine ⟨(hs.2 p.1 ?_).trans e, n, ne, nf, d⟩
   intro q
   rw [q, hoc] at e
   have q' : oc = p.2 := Option.some.inj e
   exact d w' (by rw [← q']; exact hocd)
theorem keT {M : Model} {A : Around} {E : Value → Shared → Prop} {i : Nat} {x : Str} {v : V} {u : Value} {Q : Unit → Shared → Prop} (I : Inv X pins σ H s) (hN : X.N.Nodup) (hi : X.N[i]? = some x) (hx : Loc X.env.scope x) (r : RelV v u)
  (h : ∀ s', Inv X pins (σ.set i (some v)) H s' → Q () s') (hf : X.fn x = true ∨ X.env.scope.names.lookup x = some .local := by first | exact .inl rfl | exact .inr rfl | assumption) : wpAny M A (storeName X.env x u) Q E s :=
 khz I hN hi hx r (fun s' I' _ => h s' I') hf
theorem Inv.call' {s' : Shared} {ch : List Addr} (I : Inv X pins σ H s) (ho : s'.os = s.os) (u : Un (frs X.stack) ch H H' s.heap s'.heap) (hok : HOk X.prog X.w H' s'.heap) (hg : AllBare s'.gens)
  (hch : ∀ b ∈ ch, (b ∈ X.ex ∨ X.s₀.heap.objs.size ≤ b) ∧ b ≠ X.env.locals ∧ (∀ x c, X.env.cells.lookup x = some c → c ≠ b) ∧ ∀ p ∈ X.pn ++ pins, p.1 ≠ b) : Inv X pins σ H' s' := by
 obtain ⟨h', g', d', t', o'⟩ := s'
 have e : o' = s.os := ho
 subst e
 exact I.call (g' := g') (t' := t') (d' := d') u hok hg hch
end
abbrev XK := Value → Option Addr → Hp → Prop
abbrev St := List (Option V)
abbrev VK := V → Hp → Prop
abbrev TE := St → Hp → VK → Prop
abbrev TT := St → Hp → (Bool → Hp → Prop) → Prop
abbrev TA := St → Hp → (List V → Hp → Prop) → Prop
structure Ends where
 nx : St → Hp → Prop
 rt : VK
 bk : St → Hp → Prop := fun _ _ => False
 ct : St → Hp → Prop := fun _ _ => False
abbrev TS := Ends → St → Hp → Prop
def EP (X : Cx) (pins : List (Addr × Obj)) (σ : St) (Q : VK) (u : Value) (s' : Shared) : Prop := ∃ v H', Inv X pins σ H' s' ∧ RelV v u ∧ Q v H'
def TP (X : Cx) (pins : List (Addr × Obj)) (σ : St) (Q : Bool → Hp → Prop) (b : Bool) (s' : Shared) : Prop := ∃ H', Inv X pins σ H' s' ∧ Q b H'
def AP (X : Cx) (pins : List (Addr × Obj)) (σ : St) (Q : List V → Hp → Prop) (us : List Value) (s' : Shared) : Prop := ∃ vs H', Inv X pins σ H' s' ∧ Vals vs us ∧ Q vs H'
def SP (X : Cx) (pins : List (Addr × Obj)) (D : Ends) (f : Flow) (s' : Shared) : Prop :=
 match f with
 | .next => ∃ σ' H', Inv X pins σ' H' s' ∧ D.nx σ' H'
 | .brk => ∃ σ' H', Inv X pins σ' H' s' ∧ D.bk σ' H'
 | .cont => ∃ σ' H', Inv X pins σ' H' s' ∧ D.ct σ' H'
 | .ret u => ∃ v σ' H', Inv X pins σ' H' s' ∧ RelV v u ∧ D.rt v H'
def PE (X : Cx) (e : Expr) (t : TE) : Prop :=
 ∀ (pins : List (Addr × Obj)) (s : Shared) (σ : St) (H : Hp) (Q : VK), Inv X pins σ H s → t σ H Q → wpAny (model X.prog X.w) X.A (eval e X.env) (EP X pins σ Q) X.xe s
def PT (X : Cx) (e : Expr) (t : TT) : Prop :=
 ∀ (pins : List (Addr × Obj)) (s : Shared) (σ : St) (H : Hp) (Q : Bool → Hp → Prop), Inv X pins σ H s → t σ H Q → wpAny (model X.prog X.w) X.A (isTrue e X.env (eval e X.env)) (TP X pins σ Q) X.xe s
def PW (X : Cx) (e : Expr) (t : TT) : Prop :=
 ∀ (whole : Sem Value) (pins : List (Addr × Obj)) (s : Shared) (σ : St) (H : Hp) (Q : Bool → Hp → Prop), Inv X pins σ H s → t σ H Q → wpAny (model X.prog X.w) X.A (isTrue e X.env whole) (TP X pins σ Q) X.xe s
theorem PW.pt {X : Cx} {e : Expr} {t : TT} (h : PW X e t) : PT X e t := h _
def PA (X : Cx) (es : List Expr) (t : TA) : Prop :=
 ∀ (pos : Pos) (pins : List (Addr × Obj)) (s : Shared) (σ : St) (H : Hp) (Q : List V → Hp → Prop), Inv X pins σ H s → t σ H Q → wpAny (model X.prog X.w) X.A (spliced (backTo pos (starEach es X.env))) (AP X pins σ Q) X.xe s
def PS (X : Cx) (st : Stmt) (t : TS) : Prop :=
 ∀ (pins : List (Addr × Obj)) (s : Shared) (σ : St) (H : Hp) (D : Ends), Inv X pins σ H s → t D σ H → wpAny (model X.prog X.w) X.A (exec st X.env) (SP X pins D) X.xe s
def PSs (X : Cx) (st : List Stmt) (t : TS) : Prop :=
 ∀ (pins : List (Addr × Obj)) (s : Shared) (σ : St) (H : Hp) (D : Ends), Inv X pins σ H s → t D σ H → wpAny (model X.prog X.w) X.A (execs st X.env) (SP X pins D) X.xe s
theorem thn {α : Type} {t : Sem α} {Q Q' : α → Shared → Prop} {M : Model} {A : Around} {E : Value → Shared → Prop} {s : Shared} (h : wpAny M A t Q E s) (hQ : ∀ a s, Q a s → Q' a s) : wpAny M A t Q' E s := wpAny_mono h hQ fun _ _ x => x
end L2
namespace L2
open PySem PySem.Spec PyProof.Rows
section
variable {X : Cx}
def tVar (i : Nat) : TE := fun σ H Q => ∃ v, σ[i]? = some (some v) ∧ Q v H
def tC (v : V) : TE := fun _ H Q => Q v H
theorem klh {i : Nat} {x : Str} {pos : Pos} (hN : X.N[i]? = some x) (hv : Vis X.env.scope x) (hd : (x == ("__debug__" : Str)) = false := by decide) (hcd : (x == ("__classdict__" : Str)) = false := by decide) : PE X (.Name x pos) (tVar i) := by
 intro pins s σ H Q I h
 obtain ⟨v, e, h⟩ := h
 obtain ⟨m, hn, hl⟩ := I.loc
 obtain ⟨u, r, l⟩ := hl i x v hN e hv
 have fin : EP X pins σ Q u s := ⟨v, H, I, r, h⟩
 rcases l with ⟨hk, hm⟩ | ⟨hk, c, hc, hcell⟩
 ·exact wpAny_Name (wpAny_loadName_local I.ok.kind hk hn hm fin) hd
 ·rcases hk with hk | hk
  ·exact wpAny_Name (wpAny_loadName_cell I.ok.kind hk hc hcell fin) hd
  ·exact wpAny_Name (wpAny_loadName_free I.ok.kind hk hc hcell fin hcd) hd
theorem kai {i j pos} : PE X (.Constant (.int i) j pos) (tC (.int i)) := fun _ _ _ H _ I h => wpAny_Constant_int ⟨.int i, H, I.tok _, ⟨_, rfl⟩, h⟩
theorem pe_bl {b j pos} : PE X (.Constant (.bool b) j pos) (tC (.bl b)) := fun _ _ _ H _ I h => Constant_bool ⟨.bl b, H, I, rfl, h⟩
theorem kbN {j pos} : PE X (.Constant .none j pos) (tC .non) := fun _ _ _ H _ I h => Constant_none ⟨.non, H, I, rfl, h⟩
theorem kce {x j pos} : PE X (.Constant (.str x) j pos) (tC (.str x)) := fun _ _ _ H _ I h => Calls.Constant_str ⟨.str x, H, I.tok _, ⟨_, rfl⟩, h⟩
def Gl (X : Cx) (x : Str) : Prop := X.env.kindOf x = some .globalImplicit
theorem kfe {E : Value → Shared → Prop} {pins : List (Addr × Obj)} {s : Shared} {σ : St} {H : Hp} {x : Str} {u : Value} {pos : Pos} {Q : Value → Shared → Prop} (I : Inv X pins σ H s) (hg : Gl X x) (hm : X.mg x = some u) (h : Q u s)
  (hd : (x == ("__debug__" : Str)) = false := by decide) : wpAny (model X.prog X.w) X.A (eval (.Name x pos) X.env) Q E s :=
 Calls.Name_function_global I.ok.kind hg (Calls.loadGlobal_global (by rw [I.ok.glob]; exact I.mod.glob.keeps I.bk) hm h) hd
theorem kde {E : Value → Shared → Prop} {pins : List (Addr × Obj)} {s : Shared} {σ : St} {H : Hp} {x : Str} {u : Value} {pos : Pos} {Q : Value → Shared → Prop} (I : Inv X pins σ H s) (hg : Gl X x) (hm : X.mg x = none) (hv : bootBuiltins x = some u) (h : Q u s)
  (hn : x ≠ "__name__" := by decide) (hd : (x == ("__debug__" : Str)) = false := by decide) : wpAny (model X.prog X.w) X.A (eval (.Name x pos) X.env) Q E s := by
 obtain ⟨mb, h1, h2⟩ := I.mod.blt
 exact Calls.Name_function_global I.ok.kind hg (Calls.loadGlobal_builtin (by rw [I.ok.glob]; exact I.mod.glob.keeps I.bk) hm (by rw [I.ok.blt]; exact h1.keeps I.bk) ((h2 x hn).trans hv) h) hd
theorem kdr {x : Str} {v : V} {u : Value} {pos : Pos} (hg : Gl X x) (hm : X.mg x = some u) (r : RelV v u) (hd : (x == ("__debug__" : Str)) = false := by decide) : PE X (.Name x pos) (tC v) :=
 fun _ _ _ H _ I h => kfe I hg hm ⟨v, H, I, r, h⟩ hd
theorem ke3 {x : Str} {v : V} {u : Value} {pos : Pos} (hg : Gl X x) (hm : X.mg x = none) (hv : bootBuiltins x = some u) (r : RelV v u) (hn : x ≠ "__name__" := by decide) (hd : (x == ("__debug__" : Str)) = false := by decide) : PE X (.Name x pos) (tC v) :=
 fun _ _ _ H _ I h => kde I hg hm hv ⟨v, H, I, r, h⟩ hn hd
variable {a b : Expr} {ta tb : TE} {pos : Pos}
def tB (t : TE) : TT := fun σ H Q => t σ H fun x H1 => ∃ c, x = .bl c ∧ Q c H1
theorem kbH {e : Expr} {t : TE} (h : PE X e t) (he : ∀ whole, isTrue e X.env whole = (do let v ← whole; standAt e.pos; holding [v] (truthy v)) := by intro _; rfl) : PT X e (tB t) := by
 intro pins s σ H Q I hw
 refine isTrue_plain (thn (h pins s σ H _ I hw) fun v s1 ⟨x, H1, I1, r1, q1⟩ => ?_) (he _)
 obtain ⟨d, rfl, q⟩ := q1
 cases r1
 exact wpAny_truthy_bool ⟨H1, I1, q⟩
variable {tA tB' : TT} {rest : List Expr}
def tAnd (t u : TT) : TT := fun σ H Q => t σ H fun c H1 => if c = true then u σ H1 Q else Q false H1
def tOr (t u : TT) : TT := fun σ H Q => t σ H fun c H1 => if c = true then Q true H1 else u σ H1 Q
def tNot (t : TT) : TT := fun σ H Q => t σ H fun c H1 => Q (!c) H1
theorem kcc (ha : PT X a tA) : PW X (.BoolOp .And [a] pos) tA := by
 intro wh pins s σ H Q I h
 refine isTrue_and (thn (ha pins s σ H Q I h) fun c s1 e => ?_)
 cases c with
 | true => exact isTrue_and_nil e
 | false => exact e
theorem keE (ha : PT X a tA) : PW X (.BoolOp .Or [a] pos) tA := by
 intro wh pins s σ H Q I h
 refine isTrue_or (thn (ha pins s σ H Q I h) fun c s1 e => ?_)
 cases c with
 | false => exact isTrue_or_nil e
 | true => exact e
theorem kch (ha : PT X a tA) (hb : PW X (.BoolOp .And (b :: rest) pos) tB') : PW X (.BoolOp .And (a :: b :: rest) pos) (tAnd tA tB') := by
 intro wh pins s σ H Q I h
 refine isTrue_and (thn (ha pins s σ H _ I h) fun c s1 ⟨H1, I1, q1⟩ => ?_)
 cases c with
 | true => exact hb wh pins s1 σ H1 Q I1 q1
 | false => exact ⟨H1, I1, q1⟩
theorem pw_or (ha : PT X a tA) (hb : PW X (.BoolOp .Or (b :: rest) pos) tB') : PW X (.BoolOp .Or (a :: b :: rest) pos) (tOr tA tB') := by
 intro wh pins s σ H Q I h
 refine isTrue_or (thn (ha pins s σ H _ I h) fun c s1 ⟨H1, I1, q1⟩ => ?_)
 cases c with
 | true => exact ⟨H1, I1, q1⟩
 | false => exact hb wh pins s1 σ H1 Q I1 q1
theorem kdD (ha : PT X a tA) : PT X (.UnaryOp .Not a pos) (tNot tA) := by
 intro pins s σ H Q I h
 exact isTrue_not (ha pins s σ H (fun c H1 => Q (!c) H1) I h)
def tAndV (ta tb : TE) : TE := fun σ H Q => ta σ H fun x H1 => ∃ c, x = .bl c ∧ if c = true then tb σ H1 Q else Q (.bl false) H1
def tOrV (ta tb : TE) : TE := fun σ H Q => ta σ H fun x H1 => ∃ c, x = .bl c ∧ if c = true then Q (.bl true) H1 else tb σ H1 Q
def tNotV (ta : TE) : TE := fun σ H Q => ta σ H fun x H1 => ∃ c, x = .bl c ∧ Q (.bl (!c)) H1
theorem khX {op} {t : TE} (h : PE X a t) : PE X (.BoolOp op [a] pos) t := fun pins s σ H Q I hw => BoolOp_one (h pins s σ H Q I hw)
theorem kjM (ha : PE X a ta) (hb : PE X (.BoolOp .And (b :: rest) pos) tb) : PE X (.BoolOp .And (a :: b :: rest) pos) (tAndV ta tb) := by
 intro pins s σ H Q I h
 refine BoolOp_and (thn (ha pins s σ H _ I h) fun v s1 ⟨x, H1, I1, r1, q1⟩ => ?_)
 obtain ⟨c, rfl, q1⟩ := q1
 cases r1
 refine wpAny_truthy_bool ?_
 cases c with
 | true => exact hb pins s1 σ H1 Q I1 q1
 | false => exact ⟨.bl false, H1, I1, rfl, q1⟩
theorem pe_or (ha : PE X a ta) (hb : PE X (.BoolOp .Or (b :: rest) pos) tb) : PE X (.BoolOp .Or (a :: b :: rest) pos) (tOrV ta tb) := by
 intro pins s σ H Q I h
 refine BoolOp_or (thn (ha pins s σ H _ I h) fun v s1 ⟨x, H1, I1, r1, q1⟩ => ?_)
 obtain ⟨c, rfl, q1⟩ := q1
 cases r1
 refine wpAny_truthy_bool ?_
 cases c with
 | false => exact hb pins s1 σ H1 Q I1 q1
 | true => exact ⟨.bl true, H1, I1, rfl, q1⟩
theorem kli (ha : PE X a ta) : PE X (.UnaryOp .Not a pos) (tNotV ta) := by
 intro pins s σ H Q I h
 refine UnaryOp_ (thn (ha pins s σ H _ I h) fun v s1 ⟨x, H1, I1, r1, q1⟩ => ?_)
 obtain ⟨c, rfl, q1⟩ := q1
 cases r1
 exact not_of (wpAny_truthy_bool ⟨.bl (!c), H1, I1, rfl, q1⟩)
def tIf (t : TT) (ta tb : TE) : TE := fun σ H Q => t σ H fun c H1 => if c = true then ta σ H1 Q else tb σ H1 Q
theorem kgD {c : Expr} (hc : PT X c tA) (ha : PE X a ta) (hb : PE X b tb) : PE X (.IfExp c a b pos) (tIf tA ta tb) := by
 intro pins s σ H Q I h
 refine wpAny_IfExp (thn (hc pins s σ H _ I h) fun d s1 ⟨H1, I1, q1⟩ => ?_)
 cases d with
 | true => exact ha pins s1 σ H1 Q I1 q1
 | false => exact hb pins s1 σ H1 Q I1 q1
end
end L2
namespace L2
open PySem PySem.Spec PyProof.Rows
def SqL (K : CA) (H : Hp) (a : Addr) (xs : List V) : Prop :=
 Rd H a (.lst xs) ∨
  ∃ (o : Obj) (its : Array Value) (n : Nat), K.lookup a = some o ∧ o.cls = .type "list" ∧ o.dict = none ∧ o.data = .seq its n ∧ its.size ≤ sizeLine ∧ Vals xs its.toList
def SqT (K : CA) (H : Hp) (a : Addr) (xs : List V) : Prop :=
 Rd H a (.tup xs) ∨
  ∃ (o : Obj) (its : Array Value) (n : Nat), K.lookup a = some o ∧ o.cls = .type "tuple" ∧ o.data = .seq its n ∧ its.size ≤ sizeLine ∧ Vals xs its.toList
def absV : Value → Option V
 | .none => some .non
 | .bool b => some (.bl b)
 | .int i _ => some (.int i)
 | .str x _ => some (.str x)
 | .bytes b _ => some (.byt b)
 | .float b _ => some (.flt b)
 | .ref a => some (.ref a)
 | .type n => some (.ty n)
 | _ => none
theorem RelV.abs {x : V} {u : Value} (r : RelV x u) : absV u = some x := by
 cases x with
 | non => cases r; rfl
 | bl _ => cases r; rfl
 | int _ => obtain ⟨t, rfl⟩ := r; rfl
 | str _ => obtain ⟨t, rfl⟩ := r; rfl
 | byt _ => obtain ⟨t, rfl⟩ := r; rfl
 | flt _ => obtain ⟨t, rfl⟩ := r; rfl
 | ref _ => cases r; rfl
 | ty _ => cases r; rfl
theorem RelV.inj {x y : V} {u : Value} (r : RelV x u) (q : RelV y u) : x = y := Option.some.inj (r.abs.symm.trans q.abs)
theorem Vals.inj : ∀ {xs ys : List V} {us : List Value}, Vals xs us → Vals ys us → xs = ys
 | _, _, _, .nil, .nil => rfl
 | _, _, _, .cons r t, .cons r' t' => by rw [r.inj r', Vals.inj t t']
section
variable {X : Cx} {pins : List (Addr × Obj)} {σ : St} {H : Hp} {s : Shared} {a : Addr} {xs ys : List V}
theorem SqL.of {K : CA} (h : H a = some (.lst xs)) : SqL K H a xs := .inl (.inl h)
theorem SqT.of {K : CA} (h : H a = some (.tup xs)) : SqT K H a xs := .inl (.inl h)
theorem Inv.list (I : Inv X pins σ H s) (h : SqL X.K H a xs) : ∃ its : List Value, Vals xs its ∧ PlainL s.heap a its.toArray ∧ xs.length ≤ sizeLine := by
 rcases h with h | ⟨o, its, n, hk, hc, hd, hs, hz, r⟩
 ·obtain ⟨z, its, n, r, e⟩ := h.ok I.hok
  exact ⟨its, r, ⟨_, n, e, rfl, rfl, rfl⟩, z⟩
 ·refine ⟨its.toList, r, ⟨o, n, I.kIn a o hk, hc, hd, by simpa using hs⟩, ?_⟩
  have e := r.length
  simp only [R3] at e
  omega
theorem Inv.tuple (I : Inv X pins σ H s) (h : SqT X.K H a xs) : ∃ its : List Value, Vals xs its ∧ IsTup s.heap a its.toArray ∧ xs.length ≤ sizeLine := by
 rcases h with h | ⟨o, its, n, hk, hc, hs, hz, r⟩
 ·obtain ⟨z, its, r, p⟩ := h.ok I.hok
  exact ⟨its, r, p, z⟩
 ·refine ⟨its.toList, r, ⟨o, I.kIn a o hk, hc, n, by simpa using hs⟩, ?_⟩
  have e := r.length
  simp only [R3] at e
  omega
theorem Inv.list_inj (I : Inv X pins σ H s) (h : SqL X.K H a xs) (h' : SqL X.K H a ys) : xs = ys := by
 obtain ⟨its, r, ⟨o, n, e, _, _, d⟩, _⟩ := I.list h
 obtain ⟨its', r', ⟨o', n', e', _, _, d'⟩, _⟩ := I.list h'
 rw [e] at e'; cases e'
 rw [d] at d'
 injection d' with d1 _
 have : its = its' := by simpa using congrArg Array.toList d1
 subst this
 exact r.inj r'
end
abbrev Cx.wish (X : Cx) (E : Value → Shared → Prop) : Cx := { X with xe := E }
abbrev Cx.nox (X : Cx) : Cx := X.wish fun _ _ => False
theorem Cx.Ok.wish {X : Cx} (ok : X.Ok) (E : Value → Shared → Prop) : (X.wish E).Ok :=
 ⟨ok.mod, ok.kind, ok.glob, ok.blt, ok.above, ok.inj, ok.has, ok.cab, ok.hd, ok.frames, ok.stk, ok.exf, ok.bs, ok.bsz, ok.noex, ok.exfs, ok.funs, ok.frf⟩
theorem Cx.Ok.unwish {X : Cx} {E : Value → Shared → Prop} (ok : (X.wish E).Ok) : X.Ok :=
 ⟨ok.mod, ok.kind, ok.glob, ok.blt, ok.above, ok.inj, ok.has, ok.cab, ok.hd, ok.frames, ok.stk, ok.exf, ok.bs, ok.bsz, ok.noex, ok.exfs, ok.funs, ok.frf⟩
section
variable {X : Cx} {pins : List (Addr × Obj)} {σ : St} {H : Hp} {s : Shared} {E : Value → Shared → Prop}
theorem Inv.wish (I : Inv X pins σ H s) (E : Value → Shared → Prop) : Inv (X.wish E) pins σ H s := ⟨I.ok.wish E, I.os, I.bare, I.base, I.loc, I.cell, I.free, I.freeC, I.pin, I.hok, I.len⟩
theorem Inv.unwish (I : Inv (X.wish E) pins σ H s) : Inv X pins σ H s := ⟨I.ok.unwish, I.os, I.bare, I.base, I.loc, I.cell, I.free, I.freeC, I.pin, I.hok, I.len⟩
theorem SP.unwish {D : Ends} {f : Flow} {s' : Shared} (h : SP (X.wish E) pins D f s') : SP X pins D f s' := by
 cases f with
 | next => obtain ⟨σ', H', I, q⟩ := h; exact ⟨σ', H', I.unwish, q⟩
 | brk => obtain ⟨σ', H', I, q⟩ := h; exact ⟨σ', H', I.unwish, q⟩
 | cont => obtain ⟨σ', H', I, q⟩ := h; exact ⟨σ', H', I.unwish, q⟩
 | ret u => obtain ⟨v, σ', H', I, r, q⟩ := h; exact ⟨v, σ', H', I.unwish, r, q⟩
theorem PE.nox {e : Expr} {t : TE} (h : PE X.nox e t) : PE X e t := fun pins s σ H Q I hw =>
 wpAny_mono (h pins s σ H Q (I.wish _) hw) (fun _ _ ⟨v, H', I', r, q⟩ => ⟨v, H', I'.unwish, r, q⟩) fun _ _ z => False.elim z
theorem PT.nox {e : Expr} {t : TT} (h : PT X.nox e t) : PT X e t := fun pins s σ H Q I hw =>
 wpAny_mono (h pins s σ H Q (I.wish _) hw) (fun _ _ ⟨H', I', q⟩ => ⟨H', I'.unwish, q⟩) fun _ _ z => False.elim z
theorem PSs.nox {st : List Stmt} {t : TS} (h : PSs X.nox st t) : PSs X st t := fun pins s σ H D I hw =>
 wpAny_mono (h pins s σ H D (I.wish _) hw) (fun _ _ q => q.unwish) fun _ _ z => False.elim z
end
section
variable {X : Cx} {st : Stmt} {rest : List Stmt} {t u : TS} {e : Expr} {te : TE} {pos : Pos}
def tNext : TS := fun D σ H => D.nx σ H
def tSeq (t u : TS) : TS := fun D σ H => t { D with nx := u D } σ H
theorem kaB : PSs X [] tNext := fun _ _ σ H _ I h => wpAny_execs_nil ⟨σ, H, I, h⟩
theorem kae (h1 : PS X st t) (h2 : PSs X rest u) : PSs X (st :: rest) (tSeq t u) := by
 intro pins s σ H D I h
 refine wpAny_execs_cons (thn (h1 pins s σ H { D with nx := u D } I h) fun f s1 q => ?_)
 cases f with
 | next =>
  obtain ⟨σ', H', I', q⟩ := q
  exact h2 pins s1 σ' H' D I' q
 | ret v => exact q
 | brk => exact q
 | cont => exact q
theorem kaj (h1 : PS X st t) : PSs X [st] t := by
 intro pins s σ H D I h
 refine wpAny_execs_cons (thn (h1 pins s σ H D I h) fun f s1 q => ?_)
 cases f with
 | next => exact wpAny_execs_nil q
 | ret v => exact q
 | brk => exact q
 | cont => exact q
theorem Inv.quiet {pins : List (Addr × Obj)} {σ : St} {H : Hp} {s : Shared} (I : Inv X pins σ H s) : interactive X.env = false := by simp [interactive, I.ok.kind]
def tDrop (te : TE) : TS := fun D σ H => te σ H fun _ H1 => D.nx σ H1
theorem kbC (he : PE X e te) (hs : swapsWith e none pos.line X.env = pure false := by rfl) : PS X (.Expr e pos) (tDrop te) := by
 intro pins s σ H D I h
 exact wpAny_Expr_any (thn (he pins s σ H _ I h) fun v s1 ⟨x, H1, I1, r1, q1⟩ => ⟨σ, H1, I1, q1⟩) I.quiet hs
def tRet (te : TE) : TS := fun D σ H => te σ H D.rt
theorem kat (he : PE X e te) : PS X (.Return (some e) pos) (tRet te) := by
 intro pins s σ H D I h
 exact wpAny_Return_some (thn (he pins s σ H _ I h) fun v s1 ⟨x, H1, I1, r1, q1⟩ => ⟨x, σ, H1, I1, r1, q1⟩)
def tIfS (c : TT) (t u : TS) : TS := fun D σ H => c σ H fun b H1 => if b = true then t D σ H1 else u D σ H1
theorem ps_if {c : Expr} {a b : List Stmt} {tc : TT} (hc : PT X c tc) (ha : PSs X a t) (hb : PSs X b u) : PS X (.If c a b pos) (tIfS tc t u) := by
 intro pins s σ H D I h
 refine wpAny_If (thn (hc pins s σ H _ I h) fun d s1 ⟨H1, I1, q1⟩ => ?_)
 cases d with
 | true => exact ha pins s1 σ H1 D I1 q1
 | false => exact hb pins s1 σ H1 D I1 q1
end
abbrev TG := V → St → Hp → (St → Hp → Prop) → Prop
abbrev TGs := List V → St → Hp → (St → Hp → Prop) → Prop
def PG (X : Cx) (target : Expr) (t : TG) : Prop :=
 ∀ (pins : List (Addr × Obj)) (s : Shared) (σ : St) (H : Hp) (v : V) (u : Value) (Q : St → Hp → Prop), Inv X pins σ H s → RelV v u → t v σ H Q →
  wpAny (model X.prog X.w) X.A (assign target X.env u) (fun _ s' => ∃ σ' H', Inv X pins σ' H' s' ∧ Q σ' H') X.xe s
def PGs (X : Cx) (ts : List Expr) (t : TGs) : Prop :=
 ∀ (pins : List (Addr × Obj)) (s : Shared) (σ : St) (H : Hp) (vs : List V) (us : List Value) (Q : St → Hp → Prop), Inv X pins σ H s → Vals vs us → t vs σ H Q →
  wpAny (model X.prog X.w) X.A (assignInOrder ((assignEach ts X.env).map (·.2)) us) (fun _ s' => ∃ σ' H', Inv X pins σ' H' s' ∧ Q σ' H') X.xe s
abbrev TSet := V → V → V → Hp → (Hp → Prop) → Prop
def PSet (X : Cx) (t : TSet) : Prop :=
 ∀ (pins : List (Addr × Obj)) (s : Shared) (σ : St) (H : Hp) (o i v : V) (ov iv u : Value) (Q : Hp → Prop), Inv X pins σ H s → RelV o ov → RelV i iv → RelV v u → t o i v H Q →
  wpAny (model X.prog X.w) X.A (setItem ov iv u) (fun _ s' => ∃ H', Inv X pins σ H' s' ∧ Q H') X.xe s
abbrev TIp := V → V → Hp → VK → Prop
def PIp (X : Cx) (op : Operator) (t : TIp) : Prop :=
 ∀ (pins : List (Addr × Obj)) (s : Shared) (σ : St) (H : Hp) (x y : V) (v u : Value) (Q : VK), Inv X pins σ H s → RelV x v → RelV y u → t x y H Q →
  wpAny (model X.prog X.w) X.A (inplaceOp op v u) (EP X pins σ Q) X.xe s
section
variable {X : Cx} {pos : Pos}
def gName (i : Nat) : TG := fun v σ H Q => Q (σ.set i (some v)) H
theorem kas {i : Nat} {x : Str} (hN : X.N.Nodup) (hi : X.N[i]? = some x) (hx : Loc X.env.scope x) (hf : X.fn x = true ∨ X.env.scope.names.lookup x = some .local := by first | exact .inl rfl | exact .inr rfl | assumption) : PG X (.Name x pos) (gName i) := by
 intro pins s σ H v u Q I r h
 exact wpAny_assign_Name (keT I hN hi hx r (fun s' I' => ⟨_, H, I', h⟩) hf)
def gNil : TGs := fun vs σ H Q => vs = [] ∧ Q σ H
def gCons (t : TG) (u : TGs) : TGs := fun vs σ H Q => ∃ v r, vs = v :: r ∧ t v σ H fun σ' H' => u r σ' H' Q
theorem kbR : PGs X [] gNil := by
 intro pins s σ H vs us Q I r h
 obtain ⟨e, h⟩ := h
 subst e
 cases r
 exact assignInOrder_nil ⟨σ, H, I, h⟩
theorem kaI {e : Expr} {es : List Expr} {t : TG} {u : TGs} (h1 : PG X e t) (h2 : PGs X es u)
  (hs : (assignEach (e :: es) X.env).map (·.2) = assign e X.env :: (assignEach es X.env).map (·.2) := by rfl) : PGs X (e :: es) (gCons t u) := by
 intro pins s σ H vs us Q I r h
 obtain ⟨v, vr, e1, h⟩ := h
 subst e1
 cases r with
 | cons r rr =>
  rw [hs]
  refine assignInOrder_cons (thn (h1 pins s σ H _ _ _ I r h) fun _ s1 ⟨σ1, H1, I1, q1⟩ => ?_)
  exact h2 pins s1 σ1 H1 _ _ Q I1 rr q1
def gTup (K : CA) (n : Nat) (t : TGs) : TG := fun v σ H Q => ∃ a xs, v = .ref a ∧ SqT K H a xs ∧ xs.length = n ∧ t xs σ H Q
theorem kcR {es : List Expr} {k : Nat} {t : TGs} {n : Nat} (hc : X.calm = true) (h : PGs X es t)
  (hn : (assignEach es X.env).length = n := by rfl) (hst : (assignEach es X.env).findIdx? (·.1) = none := by rfl) : PG X (.Tuple es k pos) (gTup X.K n t) := by
 intro pins s σ H v u Q I r hw
 obtain ⟨a, xs, e1, hq, hl, hw⟩ := hw
 subst e1
 cases r
 obtain ⟨its, rv, ht, hz⟩ := I.tuple hq
 refine assign_Tuple_tuple (I.ok.hd hc) ht (by simp [hn, ← hl, rv.length]) hst fun h' hx => ?_
 have I1 : Inv X pins σ H { s with heap := h' } := I.kept (t' := s.toks) fun b o e => hx b o (Rc (Heap.lt_size e)) e
 exact h pins _ σ H xs _ Q I1 (by simpa using rv) hw
def gSub (to ti : TE) (t : TSet) : TG := fun v σ H Q => to σ H fun o H1 => ti σ H1 fun i H2 => t o i v H2 fun H3 => Q σ H3
theorem kjL {o i : Expr} {to ti : TE} {t : TSet} (ho : PE X o to) (hi : PE X i ti) (hs : PSet X t)
  (ha : ∀ v, assign (.Subscript o i pos) X.env v = (do
   let ov ← holding [v] (eval o X.env)
   let iv ← holding [v, ov] (eval i X.env)
   standAt pos
   holding [v, ov, iv] (setItem ov iv v)
   release [v, ov, iv] []) := by intro _; rfl) : PG X (.Subscript o i pos) (gSub to ti t) := by
 intro pins s σ H v u Q I r h
 rw [ha]
 refine wpAny_bind (wpAny_holding (thn (ho pins s σ H _ I h) fun ov s1 ⟨x, H1, I1, r1, q1⟩ => ?_))
 refine wpAny_bind (wpAny_holding (thn (hi pins s1 σ H1 _ I1 q1) fun iv s2 ⟨y, H2, I2, r2, q2⟩ => ?_))
 refine wpAny_bind (wpAny_standAt (wpAny_bind (wpAny_holding (thn (hs pins s2 σ H2 x y v ov iv u _ I2 r1 r2 r q2) fun _ s3 ⟨H3, I3, q3⟩ => ?_))))
 exact wpAny_release ⟨σ, H3, I3, q3⟩
def tAsg (te : TE) (g : TG) : TS := fun D σ H => te σ H fun x H1 => g x σ H1 D.nx
theorem kjJ {tg e : Expr} {te : TE} {g : TG} (he : PE X e te) (hg : PG X tg g) (hs : swapsWithSole [tg] e pos.line X.env = pure false := by rfl) (hw : swappedStores [tg] e X.env = pure none := by rfl)
  (h1 : (assignEach [tg] X.env).map (·.2) = [assign tg X.env] := by rfl) : PS X (.Assign [tg] e pos) (tAsg te g) := by
 intro pins s σ H D I h
 refine wpAny_Assign_stores (thn (he pins s σ H _ I h) fun v s1 ⟨x, H1, I1, r1, q1⟩ => ?_) hs hw
 rw [h1]
 exact thn (hg pins s1 σ H1 x v _ I1 r1 q1) fun _ s2 q => q
theorem kax {i : Nat} {x : Str} {e : Expr} {te : TE} {pos' : Pos} (hN : X.N.Nodup) (hi : X.N[i]? = some x) (hx : Loc X.env.scope x) (he : PE X e te) (hs : swapsWith e (some (.Name x pos')) pos.line X.env = pure false := by rfl) (hf : X.fn x = true ∨ X.env.scope.names.lookup x = some .local := by first | exact .inl rfl | exact .inr rfl | assumption) :
  PS X (.Assign [.Name x pos'] e pos) (tAsg te (gName i)) := by
 intro pins s σ H D I h
 refine wpAny_Assign_Name (thn (he pins s σ H _ I h) fun v s1 ⟨y, H1, I1, r1, q1⟩ => ?_) hs
 exact keT I1 hN hi hx r1 (fun s2 I2 => ⟨_, H1, I2, q1⟩) hf
def tAug (i : Nat) (te : TE) (ti : TIp) : TS := fun D σ H => ∃ x, σ[i]? = some (some x) ∧ te σ H fun y H1 => ti x y H1 fun z H2 => D.nx (σ.set i (some z)) H2
theorem klg {i : Nat} {x : Str} {e : Expr} {te : TE} {op : Operator} {ti : TIp} {pos' : Pos} (hN : X.N.Nodup) (hi : X.N[i]? = some x) (hx : Loc X.env.scope x) (he : PE X e te) (ho : PIp X op ti) (hf : X.fn x = true ∨ X.env.scope.names.lookup x = some .local := by first | exact .inl rfl | exact .inr rfl | assumption) :
  PS X (.AugAssign (.Name x pos') op e pos) (tAug i te ti) := by
 intro pins s σ H D I h
 obtain ⟨v, e1, h⟩ := h
 obtain ⟨m, hn, hl⟩ := I.loc
 have vis : Vis X.env.scope x := by rcases hx with k | k; exact .inl k; exact .inr (.inl k)
 obtain ⟨u, r, l⟩ := hl i x v hi e1 vis
 refine wpAny_AugAssign_Name ?_
 have go : wpAny (model X.prog X.w) X.A (eval e X.env) (fun w s₂ => wpAny (model X.prog X.w) X.A (inplaceOp op u w) (fun r s₃ => wpAny (model X.prog X.w) X.A (storeName X.env x r) (fun _ => SP X pins D .next) X.xe s₃) X.xe s₂) X.xe s := by
  refine thn (he pins s σ H _ I h) fun w s1 ⟨y, H1, I1, r1, q1⟩ => ?_
  refine thn (ho pins s1 σ H1 v y u w _ I1 r r1 q1) fun z s2 ⟨zv, H2, I2, r2, q2⟩ => ?_
  exact keT I2 hN hi hx r2 (fun s3 I3 => ⟨_, H2, I3, q2⟩) hf
 rcases l with ⟨hk, hm⟩ | ⟨hk, c, hc, hcell⟩
 ·exact wpAny_loadName_local I.ok.kind hk hn hm go
 ·rcases hk with hk | hk
  ·exact wpAny_loadName_cell I.ok.kind hk hc hcell go
  ·rcases hx with k | k
   ·have : X.env.scope.names.lookup x = some .free := hk
    rw [k] at this; cases this
   ·have : X.env.scope.names.lookup x = some .free := hk
    rw [k] at this; cases this
def tAugS (to ti te : TE) (tget : V → V → Hp → VK → Prop) (tip : TIp) (tset : TSet) : TS := fun D σ H => to σ H fun o H1 => ti σ H1 fun i H2 => tget o i H2 fun x H3 => te σ H3 fun y H4 => tip x y H4 fun z H5 => tset o i z H5 fun H6 => D.nx σ H6
def PGet (X : Cx) (t : V → V → Hp → VK → Prop) : Prop :=
 ∀ (pins : List (Addr × Obj)) (s : Shared) (σ : St) (H : Hp) (o i : V) (ov iv : Value) (Q : VK), Inv X pins σ H s → RelV o ov → RelV i iv → t o i H Q →
  wpAny (model X.prog X.w) X.A (getItem ov iv) (EP X pins σ Q) X.xe s
theorem kkz {o i e : Expr} {to ti te : TE} {tget : V → V → Hp → VK → Prop} {tip : TIp} {tset : TSet} {op : Operator} {tpos : Pos} (ho : PE X o to) (hi : PE X i ti) (hg : PGet X tget) (he : PE X e te) (hp : PIp X op tip) (hs : PSet X tset)
  (ha : ∀ ov iv new, augStore i ov iv new = (do holding [new, ov, iv] (setItem ov iv new); release [new, ov, iv] []; pure .next) := by intros; rfl) : PS X (.AugAssign (.Subscript o i tpos) op e pos) (tAugS to ti te tget tip tset) := by
 intro pins s σ H D I h
 refine wpAny_AugAssign_SubscriptAny (thn (ho pins s σ H _ I h) fun ov s1 ⟨x1, H1, I1, r1, q1⟩ => ?_) ha
 refine thn (hi pins s1 σ H1 _ I1 q1) fun iv s2 ⟨x2, H2, I2, r2, q2⟩ => ?_
 refine thn (hg pins s2 σ H2 x1 x2 ov iv _ I2 r1 r2 q2) fun old s3 ⟨x3, H3, I3, r3, q3⟩ => ?_
 refine thn (he pins s3 σ H3 _ I3 q3) fun v s4 ⟨x4, H4, I4, r4, q4⟩ => ?_
 refine thn (hp pins s4 σ H4 x3 x4 old v _ I4 r3 r4 q4) fun new s5 ⟨x5, H5, I5, r5, q5⟩ => ?_
 exact thn (hs pins s5 σ H5 x1 x2 x5 ov iv new _ I5 r1 r2 r5 q5) fun _ s6 ⟨H6, I6, q6⟩ => ⟨σ, H6, I6, q6⟩
def ipI (f : Int → Int → Int) : TIp := fun x y H Q => ∃ i j, x = .int i ∧ y = .int j ∧ Q (.int (f i j)) H
theorem kjU : PIp X .Add (ipI fun i j => i + j) := by
 intro pins s σ H x y v u Q I r1 r2 h
 obtain ⟨i, j, e1, e2, q⟩ := h
 subst e1; subst e2
 obtain ⟨t, rfl⟩ := r1
 obtain ⟨t', rfl⟩ := r2
 exact iadd_int ⟨.int _, H, I.tok _, ⟨_, rfl⟩, q⟩
end
section
variable {X : Cx} {pos : Pos}
def kjG (c : TT) (tb : TS) : TS := fun D σ H => ∃ W : Nat → St → Hp → Prop, (∃ m, W m σ H) ∧ ∀ m σ H, W m σ H →
 c σ H fun b H1 => if b = true then ∃ N : St → Hp → Prop, (∀ σ' H', N σ' H' → ∃ m', m' < m ∧ W m' σ' H') ∧ tb { D with nx := N, ct := N, bk := D.nx } σ H1 else D.nx σ H1
theorem kgy {c : Expr} {body : List Stmt} {tc : TT} {tb : TS} (hp : PassesOwn (model X.prog X.w) X.A X.env X.xe) (hc : PT X c tc) (hb : PSs X body tb) : PS X (.While c body [] pos) (kjG tc tb) := by
 intro pins s σ H D I h
 obtain ⟨W, ⟨m0, w0⟩, turn⟩ := h
 refine wpAny_While (codeAny_whileLoop (fun n s' => ∃ σ' H', Inv X pins σ' H' s' ∧ W n σ' H') ?_ m0 ⟨σ, H, I, w0⟩)
 rintro n s1 ⟨σ1, H1, I1, w1⟩
 refine wpAny_passesOwn hp (thn (hc pins s1 σ1 H1 _ I1 (turn n σ1 H1 w1)) fun b s2 ⟨H2, I2, q2⟩ => ?_)
 cases b with
 | true =>
  obtain ⟨N, hN, q2⟩ := q2
  rw [if_pos rfl]
  refine wpAny_passesOwn hp (thn (hb pins s2 σ1 H2 _ I2 q2) fun f s3 q3 => ?_)
  cases f with
  | next =>
   obtain ⟨σ3, H3, I3, n3⟩ := q3
   obtain ⟨m', hm, w3⟩ := hN σ3 H3 n3
   exact ⟨m', hm, σ3, H3, I3, w3⟩
  | cont =>
   obtain ⟨σ3, H3, I3, n3⟩ := q3
   obtain ⟨m', hm, w3⟩ := hN σ3 H3 n3
   exact ⟨m', hm, σ3, H3, I3, w3⟩
  | brk => exact q3
  | ret v => exact q3
 | false =>
  rw [if_neg CW]
  exact wpAny_execs_nil ⟨σ1, H2, I2, q2⟩
end
structure It where
 go : Nat → Hp → Prop
 yld : Nat → Hp → V → Hp → Prop
 stop : Nat → Hp → Prop
def FpOk (X : Cx) (pins : List (Addr × Obj)) (H : Hp) (b : Addr) : Prop :=
 H b = none ∧ b ≠ X.env.locals ∧ b ∉ X.fs ∧ (b ∈ X.ex ∨ X.s₀.heap.objs.size ≤ b) ∧ (∀ x c, X.env.cells.lookup x = some c → c ≠ b) ∧ ∀ p ∈ X.pn ++ pins, p.1 ≠ b
theorem Inv.fpOk {X : Cx} {pins : List (Addr × Obj)} {σ : St} {H H' : Hp} {s : Shared} {b : Addr} (I : Inv X pins σ H s) (hb : s.heap.objs.size ≤ b) (hn : H' b = none) : FpOk X pins H' b := by
 refine ⟨hn, RD (Ra I.lt hb), I.nofs hb, .inr (CN I.sz hb), fun x c e z => ?_, fun p hp z => ?_⟩
 ·obtain ⟨v, q⟩ := I.cell x c e
  exact absurd (Ra q.lt (by rw [z]; exact hb)) (RN _)
 ·exact absurd (Ra (Heap.lt_size (I.pin p hp).1) (by rw [z]; exact hb)) (RN _)
structure Turn (P : Program) (w : World) (K : CA) (tg : Expr) (J : It) (fp : List Addr) (it : Addr) (tn : Nat → Heap → Prop) : Prop where
 mem : it ∈ fp
 obj : ∀ i h, tn i h → ∀ b ∈ fp, ∃ o, h.get? b = some o ∧ ∀ v, o.data ≠ .cell v
 keep : ∀ i h h', tn i h → (∀ b ∈ fp, ∀ o, h.get? b = some o → h'.get? b = some o) → tn i h'
 item : ∀ (X : Cx), X.prog = P → X.w = w → X.K = K → X.calm = true → ∀ (i : Nat) (pins : List (Addr × Obj)) (s : Shared) (σ : St) (H : Hp) (E : Value → Shared → Prop), Inv X pins σ H s → (∀ b ∈ fp, FpOk X pins H b) → tn i s.heap → J.go i H →
  wpAny (model P w) X.A (pyNext (.ref it)) (fun r s1 => ∃ u, r = some u ∧
   wpAny (model P w) X.A (letOwnedTupleGo tg (.ref it) u) (fun _ s2 => ∃ x H', Inv X pins σ H' s2 ∧ RelV x u ∧ J.yld i H x H' ∧ tn (i + 1) s2.heap ∧ ∀ b ∈ fp, H' b = none) E s1) E s
 done : ∀ (X : Cx), X.prog = P → X.w = w → X.K = K → X.calm = true → ∀ (i : Nat) (pins : List (Addr × Obj)) (s : Shared) (σ : St) (H : Hp) (E : Value → Shared → Prop), Inv X pins σ H s → (∀ b ∈ fp, FpOk X pins H b) → tn i s.heap → J.stop i H →
  wpAny (model P w) X.A (pyNext (.ref it)) (fun r s1 => r = none ∧ Inv X pins σ H s1) E s
 self : ∀ (A : Around) (i : Nat) (s : Shared) (Q : Value → Shared → Prop) (E : Value → Shared → Prop), tn i s.heap → Q (.ref it) s → wpAny (model P w) A (pyIter (.ref it)) Q E s
abbrev TI := St → Hp → (It → Hp → Prop) → Prop
def PIE (X : Cx) (pins : List (Addr × Obj)) (σ : St) (tg : Expr) (R : It → Hp → Prop) (itv : Value) (s2 : Shared) : Prop :=
 ∃ (it : Addr) (fp : List Addr) (tn : Nat → Heap → Prop) (J : It) (H' : Hp), itv = .ref it ∧ Inv X pins σ H' s2 ∧ Turn X.prog X.w X.K tg J fp it tn ∧ tn 0 s2.heap ∧ (∀ b ∈ fp, FpOk X pins H' b) ∧ R J H'
def PI (X : Cx) (tg iter : Expr) (wi : TI) : Prop :=
 ∀ (pins : List (Addr × Obj)) (s : Shared) (σ : St) (H : Hp) (R : It → Hp → Prop), Inv X pins σ H s → wi σ H R →
  wpAny (model X.prog X.w) X.A (eval iter X.env) (fun v s1 => wpAny (model X.prog X.w) X.A (pyIter v) (PIE X pins σ tg R) X.xe s1) X.xe s
theorem go_of {M : Model} {A : Around} {E : Value → Shared → Prop} {s : Shared} {tg : Expr} {it : Addr} {u : Value} {o : Obj} {n : String} {vs : Array Value} {Q : Unit → Shared → Prop} (ho : s.heap.get? it = some o) (hc : o.cls = .type n) (hd : o.data = .fields vs)
    (hn : ["enumerate", "zip", "dict_itemiterator", "dict_reverseitemiterator", "odict_iterator", "itertools.zip_longest", "itertools.pairwise"].contains n = false) (hQ : Q () s) : wpAny M A (letOwnedTupleGo tg (.ref it) u) Q E s := by
  unfold letOwnedTupleGo
  cases tg <;> first
    | exact wpAny_pure hQ
    | (cases u <;> first
        | exact wpAny_pure hQ
        | (refine wpAny_bind (wpAny_load ho ?_)
           rw [hc, hd]
           show wpAny M A (if (["enumerate", "zip", "dict_itemiterator", "dict_reverseitemiterator", "odict_iterator", "itertools.zip_longest", "itertools.pairwise"].contains n && vs[0]? == some (rawInt _)) = true then _ else _) Q E s
           rw [if_neg (by intro h; rw [hn, SV] at h; cases h)]
           exact wpAny_pure hQ))
def Itl (K : CA) (a : Addr) : It :=
 ⟨fun i H => ∃ xs x, SqL K H a xs ∧ xs[i]? = some x, fun i H x H' => H' = H ∧ ∀ xs, SqL K H a xs → xs[i]? = some x, fun i H => ∃ xs, SqL K H a xs ∧ xs.length ≤ i⟩
def Itr (lo : Int) (n : Nat) : It := ⟨fun i _ => i < n, fun i H x H' => H' = H ∧ x = .int (lo + i), fun i _ => n ≤ i⟩
theorem khu {P : Program} {w : World} {K : CA} {tg : Expr} (a it : Addr) : Turn P w K tg (Itl K a) [it] it (fun i h => h.IsListIter it a i) where
 mem := by simp
 obj := fun i h st b hb => by
  have e : b = it := by simpa using hb
  subst e
  obtain ⟨o, e, c, d⟩ := st
  exact ⟨o, e, fun v z => by rw [d] at z; cases z⟩
 keep := fun i h h' st k => st.at fun o e => k it (by simp) o e
 item := by
  intro X hP hw hK hc i pins s σ H E I hf st hg
  subst hP hw hK
  obtain ⟨xs, x, hq, hx⟩ := hg
  obtain ⟨its, rv, p, hz⟩ := I.list hq
  obtain ⟨u, hu, ru⟩ := rv.get hx
  obtain ⟨f0, f1, f2, f3, f4, f5⟩ := hf it (by simp)
  refine wpAny_pyNext_list_item st p.isList (x := u) (by simpa using hu) fun h' st' sb => ?_
  have I1 : Inv X pins σ H { s with heap := h' } := I.turned (t' := s.toks) (fun b o hb e => (sb.2 b hb).trans e) f0 f1 f3 f4 f5
  obtain ⟨o, e, c, d⟩ := id st'
  exact ⟨u, rfl, go_of (s := { s with heap := h' }) e c d (by decide) ⟨x, H, I1, ru, ⟨rfl, fun ys hy => by rw [I.list_inj hy hq]; exact hx⟩, st', fun b hb => (hf b hb).1⟩⟩
 done := by
  intro X hP hw hK hc i pins s σ H E I hf st hg
  subst hP hw hK
  obtain ⟨xs, hq, hx⟩ := hg
  obtain ⟨its, rv, p, hz⟩ := I.list hq
  obtain ⟨f0, f1, f2, f3, f4, f5⟩ := hf it (by simp)
  have hl := rv.length
  exact wpAny_pyNext_list_end (I.ok.hd hc) st p.isList (by simp; omega) fun h' eb => ⟨rfl, I.turned (t' := s.toks) (fun b o hb e => eb b o hb e) f0 f1 f3 f4 f5⟩
 self := fun _ _ _ _ _ st h => wpAny_pyIter_listiter st h
theorem kg5 {P : Program} {w : World} {K : CA} {tg : Expr} (it : Addr) (lo : Int) (n : Nat) : Turn P w K tg (Itr lo n) [it] it (fun i h => IsRangeIter h it (lo + (i : Nat) * 1) ((n : Int) - (i : Nat)) 1) where
 mem := by simp
 obj := fun i h st b hb => by
  have e : b = it := by simpa using hb
  subst e
  exact ⟨_, st, fun v z => by
   have z' : Data.fields _ = Data.cell v := z
   cases z'⟩
 keep := fun i h h' st k => k it (by simp) _ st
 item := by
  intro X hP hw hK hc i pins s σ H E I hf st hg
  subst hP hw hK
  obtain ⟨f0, f1, f2, f3, f4, f5⟩ := hf it (by simp)
  have W := Walks.range (prog := X.prog) (w := X.w) (I.ok.hd hc) it lo 1 n
  refine W.item i s _ _ hg st fun v h' tk hv st' kk => ?_
  obtain ⟨t, rfl⟩ := hv
  have I1 : Inv X pins σ H { s with heap := h', toks := tk } := I.turned (fun b o hb e => kk b o (by simpa using hb) e) f0 f1 f3 f4 f5
  refine ⟨_, rfl, go_of (s := { s with heap := h', toks := tk }) (n := "range_iterator") st' rfl rfl (by decide) ⟨.int (lo + i), H, I1, ⟨t, ?_⟩, ⟨rfl, rfl⟩, st', fun b hb => (hf b hb).1⟩⟩
  rw [Int.mul_one]
 done := by
  intro X hP hw hK hc i pins s σ H E I hf st hg
  subst hP hw hK
  obtain ⟨f0, f1, f2, f3, f4, f5⟩ := hf it (by simp)
  exact wpAny_pyNext_range_end (I.ok.hd hc) st (by have : n ≤ i := hg; omega) fun h' eb => ⟨rfl, I.turned (t' := s.toks) (fun b o hb e => eb b o hb e) f0 f1 f3 f4 f5⟩
 self := fun _ _ _ _ _ st h => wpAny_pyIter_rangeiter st h
end L2
namespace L2
open PySem PySem.Spec PyProof.Rows
section
variable {X : Cx} {tg : Expr}
def iList (K : CA) (tl : TE) : TI := fun σ H R => tl σ H fun x H1 => ∃ a, x = .ref a ∧ (∃ xs, SqL K H1 a xs) ∧ R (Itl K a) H1
theorem kby {l : Expr} {tl : TE} (hl : PE X l tl) : PI X tg l (iList X.K tl) := by
 intro pins s σ H R I h
 refine thn (hl pins s σ H _ I h) fun v s1 ⟨x, H1, I1, r1, q1⟩ => ?_
 obtain ⟨a, e, ⟨xs, hq⟩, q⟩ := q1
 subst e
 cases r1
 obtain ⟨its, rv, p, hz⟩ := I1.list hq
 refine wpAny_pyIter_list p.isList ?_
 refine ⟨s1.heap.objs.size, [s1.heap.objs.size], _, _, H1, rfl, I1.kept (t' := s1.toks) fun b o e => Heap.get?_push_of_some _ e, khu a _, ⟨_, Heap.get?_push_size _ rfl, rfl, rfl⟩, fun b hb => ?_, q⟩
 have e : b = s1.heap.objs.size := by simpa using hb
 subst e
 exact I1.fpOk (CC _) (I1.hok.fresh (CC _))
theorem ki4 {pins : List (Addr × Obj)} {σ : St} {H : Hp} {s : Shared} {R : It → Hp → Prop} {E : Value → Shared → Prop} {lo hi : Int} {t u v : Tok} {tk : Nat} (I : Inv X pins σ H s) (h1 : -(2 ^ 62) ≤ lo) (h2 : lo < 2 ^ 62) (h3 : -(2 ^ 62) ≤ hi) (h4 : hi < 2 ^ 62)
  (q : R (Itr lo (hi - lo).toNat) H) : wpAny (model X.prog X.w) X.A (pyIter (.ref s.heap.objs.size)) (PIE X pins σ tg R) E { s with heap := s.heap.push { cls := .type "range", data := .fields #[.int lo t, .int hi u, .int 1 v] }, toks := tk } := by
 refine wpAny_pyIter_range (IsRange.new ..) (small_one h1 h2 h3 h4) ?_
 have I1 : Inv X pins σ H { s with heap := s.heap.push { cls := .type "range", data := .fields #[.int lo t, .int hi u, .int 1 v] }, toks := tk } := I.kept fun b o e => Heap.get?_push_of_some _ e
 refine ⟨(s.heap.push { cls := .type "range", data := .fields #[.int lo t, .int hi u, .int 1 v] }).objs.size, [(s.heap.push { cls := .type "range", data := .fields #[.int lo t, .int hi u, .int 1 v] }).objs.size], _, _, H, rfl,
  I1.kept (t' := tk) fun b o e => Heap.get?_push_of_some _ e, kg5 _ lo (hi - lo).toNat, ?_, fun b hb => ?_, q⟩
 ·have e1 : lo + ((0 : Nat) : Int) * 1 = lo := by simp
  have e2 : (((hi - lo).toNat : Nat) : Int) - ((0 : Nat) : Int) = Builtin.Range.rangeSize lo hi 1 := by rw [rangeSize_one]; split <;> omega
  show IsRangeIter _ _ (lo + ((0 : Nat) : Int) * 1) ((((hi - lo).toNat : Nat) : Int) - ((0 : Nat) : Int)) 1
  rw [e1, e2]
  exact Heap.get?_push_size _ rfl
 ·have e : b = (s.heap.push { cls := .type "range", data := .fields #[.int lo t, .int hi u, .int 1 v] }).objs.size := by simpa using hb
  subst e
  exact I1.fpOk (CC _) (I1.hok.fresh (CC _))
def iRng1 (ta : TA) : TI := fun σ H R => ta σ H fun vs H1 => ∃ j : Int, vs = [.int j] ∧ -(2 ^ 62) ≤ j ∧ j < 2 ^ 62 ∧ R (Itr 0 j.toNat) H1
theorem kb5 {a : Expr} {ta : TA} {p pos : Pos} (hg : Gl X "range") (hm : X.mg "range" = none) (ha : PA X [a] ta) (hs : starEach [a] X.env = [(false, eval a X.env)] := by rfl) : PI X tg (.Call (.Name "range" p) [a] [] pos) (iRng1 ta) := by
 intro pins s σ H R I h
 refine Call_ (kde I hg hm boot_range (PyProof.Rows.callWith_type1 (thn (ha pos pins s σ H _ I h) fun us s1 ⟨vs, H1, I1, r1, q1⟩ => ?_) hs rfl))
 obtain ⟨j, e, q1, q2, q⟩ := q1
 subst e
 cases r1 with
 | cons r rr =>
  cases rr
  obtain ⟨t, rfl⟩ := r
  exact call_range_1 (ki4 I1 (by omega) (by omega) q1 q2 (by simpa using q))
def tFor (wi : TI) (g : TG) (tb : TS) : TS := fun D σ H => wi σ H fun J H1 => ∃ W : Nat → Nat → St → Hp → Prop, (∃ m, W 0 m σ H1) ∧ ∀ i m σ H, W i m σ H →
 (J.stop i H ∧ D.nx σ H) ∨ (J.go i H ∧ ∃ N : St → Hp → Prop, (∀ σ' H', N σ' H' → ∃ m', m' < m ∧ W (i + 1) m' σ' H') ∧ ∀ x H', J.yld i H x H' → g x σ H' fun σ2 H2 => tb { D with nx := N, ct := N, bk := D.nx } σ2 H2)
def kgA (fp : List Addr) (h : Heap) : List (Addr × Obj) := fp.filterMap fun b => (h.get? b).map fun o => (b, o)
theorem kcP {fp : List Addr} {h : Heap} {b : Addr} {o : Obj} (hb : b ∈ fp) (e : h.get? b = some o) : (b, o) ∈ kgA fp h := List.mem_filterMap.mpr ⟨b, hb, by rw [e]; rfl⟩
theorem kh5 {fp : List Addr} {h : Heap} {p : Addr × Obj} (hp : p ∈ kgA fp h) : p.1 ∈ fp ∧ h.get? p.1 = some p.2 := by
 obtain ⟨b, hb, e⟩ := List.mem_filterMap.mp hp
 cases q : h.get? b with
 | none => rw [q] at e; cases e
 | some o =>
  rw [q] at e
  have e' : (b, o) = p := Option.some.inj e
  subst e'
  exact ⟨hb, q⟩
theorem Inv.pinned {pins : List (Addr × Obj)} {σ : St} {H : Hp} {s : Shared} {fp : List Addr} (I : Inv X pins σ H s) (hf : ∀ b ∈ fp, FpOk X pins H b) (ho : ∀ b ∈ fp, ∃ o, s.heap.get? b = some o ∧ ∀ v, o.data ≠ .cell v) : Inv X (pins ++ kgA fp s.heap) σ H s :=
 I.pins_of fun p hp => (Rk.mp hp).elim (fun z => I.pin p (Rt _ z)) fun z => by
  obtain ⟨hb, e⟩ := kh5 z
  obtain ⟨f0, f1, f2, _⟩ := hf p.1 hb
  obtain ⟨o, e', d⟩ := ho p.1 hb
  rw [e] at e'; cases e'
  exact ⟨e, f0, f1, f2, d⟩
theorem Inv.unpinned {pins pl : List (Addr × Obj)} {σ : St} {H : Hp} {s : Shared} (I : Inv X (pins ++ pl) σ H s) : Inv X pins σ H s := I.pins_of fun p hp => I.pin p (Rt _ (SU _ hp))
theorem kbT {iter : Expr} {body : List Stmt} {wi : TI} {g : TG} {tb : TS} {pos : Pos} (hp : PassesOwn (model X.prog X.w) X.A X.env X.xe) (hc : X.calm = true) (hi : PI X tg iter wi) (hg : PG X tg g) (hb : PSs X body tb)
  (hs : ∀ x, foldedSetIterable iter X.env x = pure x := by intro _; rfl) : PS X (.For tg iter body [] pos) (tFor wi g tb) := by
 intro pins s σ H D I h
 refine wpAny_For (thn (hi pins s σ H _ I h) fun v s1 h1 => thn h1 fun itv s2 h2 => ?_) hs
 obtain ⟨it, fp, tn, J, H2, e, I2, T, st2, f2, W, ⟨m0, w0⟩, turn⟩ := h2
 subst e
 have stat : ∀ {H' : Hp}, (∀ b ∈ fp, H' b = none) → ∀ b ∈ fp, FpOk X pins H' b := fun hn b hb => ⟨hn b hb, (f2 b hb).2⟩
 refine codeAny_forLoop_any (fun n s' => ∃ i σ' H', Inv X pins σ' H' s' ∧ tn i s'.heap ∧ (∀ b ∈ fp, H' b = none) ∧ W i n σ' H') ?_ m0 ⟨0, σ, H2, I2, st2, fun b hb => (f2 b hb).1, w0⟩
 rintro n s3 ⟨i, σ3, H3, I3, st3, fr3, w3⟩
 rcases turn i n σ3 H3 w3 with ⟨stop, qn⟩ | ⟨go, N, hN, step⟩
 ·refine wpAny_passesOwn hp (thn (T.done X rfl rfl rfl hc i pins s3 σ3 H3 X.xe I3 (stat fr3) st3 stop) fun r s4 ⟨hr, I4⟩ => ?_)
  subst hr
  exact wpAny_execs_nil ⟨σ3, H3, I4, qn⟩
 ·refine wpAny_passesOwn hp (thn (T.item X rfl rfl rfl hc i pins s3 σ3 H3 X.xe I3 (stat fr3) st3 go) fun r s4 ⟨u, hr, h4⟩ => ?_)
  subst hr
  refine wpAny_passesOwn hp (thn h4 fun _ s5 ⟨x, H5, I5, r5, y5, st5, fr5⟩ => ?_)
  have I5' := I5.pinned (stat fr5) (T.obj _ _ st5)
  refine wpAny_passesOwn hp (thn (hg _ s5 σ3 H5 x u _ I5' r5 (step x H5 y5)) fun _ s6 ⟨σ6, H6, I6, q6⟩ => ?_)
  refine wpAny_passesOwn hp (thn (hb _ s6 σ6 H6 _ I6 q6) fun f s7 q7 => ?_)
  have again : ∀ {σ7 : St} {H7 : Hp}, Inv X (pins ++ kgA fp s5.heap) σ7 H7 s7 → N σ7 H7 → ∃ m, m < n ∧ ∃ i σ' H', Inv X pins σ' H' s7 ∧ tn i s7.heap ∧ (∀ b ∈ fp, H' b = none) ∧ W i m σ' H' := fun {σ7 H7} I7 n7 => by
   obtain ⟨m', hm, w7⟩ := hN σ7 H7 n7
   refine ⟨m', hm, i + 1, σ7, H7, I7.unpinned, T.keep _ _ _ st5 fun b hb o e => (I7.pin (b, o) (Rt _ (Rt _ (kcP hb e)))).1, fun b hb => ?_, w7⟩
   obtain ⟨o, e, d⟩ := T.obj _ _ st5 b hb
   exact (I7.pin (b, o) (Rt _ (Rt _ (kcP hb e)))).2.1
  cases f with
  | next => obtain ⟨σ7, H7, I7, n7⟩ := q7; exact again I7 n7
  | cont => obtain ⟨σ7, H7, I7, n7⟩ := q7; exact again I7 n7
  | brk => obtain ⟨σ7, H7, I7, q7⟩ := q7; exact ⟨σ7, H7, I7.unpinned, q7⟩
  | ret v => obtain ⟨x7, σ7, H7, I7, r7, q7⟩ := q7; exact ⟨x7, σ7, H7, I7.unpinned, r7, q7⟩
end
theorem kb4 {K : CA} {a : Addr} {xs : List V} {g : TG} {tb : TS} {D : Ends} {σ : St} {H : Hp} (Pv : Nat → St → Hp → Prop) (h0 : Pv 0 σ H) (hl : ∀ i σ H, i ≤ xs.length → Pv i σ H → SqL K H a xs)
  (hs : ∀ i x σ H, xs[i]? = some x → Pv i σ H → g x σ H fun σ2 H2 => tb { D with nx := Pv (i + 1), ct := Pv (i + 1), bk := D.nx } σ2 H2) (hd : ∀ σ H, Pv xs.length σ H → D.nx σ H) :
  ∃ W : Nat → Nat → St → Hp → Prop, (∃ m, W 0 m σ H) ∧ ∀ i m σ H, W i m σ H →
   ((Itl K a).stop i H ∧ D.nx σ H) ∨ ((Itl K a).go i H ∧ ∃ N : St → Hp → Prop, (∀ σ' H', N σ' H' → ∃ m', m' < m ∧ W (i + 1) m' σ' H') ∧ ∀ x H', (Itl K a).yld i H x H' → g x σ H' fun σ2 H2 => tb { D with nx := N, ct := N, bk := D.nx } σ2 H2) := by
 refine ⟨fun i m σ H => m = xs.length - i ∧ i ≤ xs.length ∧ Pv i σ H, ⟨xs.length, by simp, Rl _, h0⟩, ?_⟩
 rintro i m σ H ⟨rfl, hi, p⟩
 have q := hl i σ H hi p
 by_cases hlt : i < xs.length
 ·refine .inr ⟨⟨xs, xs[i], q, by simp [hlt]⟩, Pv (i + 1), fun σ' H' p' => ⟨xs.length - (i + 1), by omega, rfl, hlt, p'⟩, fun x H' y => ?_⟩
  obtain ⟨e, y⟩ := y
  subst e
  exact hs i x σ _ (y xs q) p
 ·have e : i = xs.length := by omega
  subst e
  exact .inl ⟨⟨xs, q, CC _⟩, hd σ H p⟩
theorem kcw {lo : Int} {n : Nat} {g : TG} {tb : TS} {D : Ends} {σ : St} {H : Hp} (Pv : Nat → St → Hp → Prop) (h0 : Pv 0 σ H)
  (hs : ∀ i σ H, i < n → Pv i σ H → g (.int (lo + i)) σ H fun σ2 H2 => tb { D with nx := Pv (i + 1), ct := Pv (i + 1), bk := D.nx } σ2 H2) (hd : ∀ σ H, Pv n σ H → D.nx σ H) :
  ∃ W : Nat → Nat → St → Hp → Prop, (∃ m, W 0 m σ H) ∧ ∀ i m σ H, W i m σ H →
   ((Itr lo n).stop i H ∧ D.nx σ H) ∨ ((Itr lo n).go i H ∧ ∃ N : St → Hp → Prop, (∀ σ' H', N σ' H' → ∃ m', m' < m ∧ W (i + 1) m' σ' H') ∧ ∀ x H', (Itr lo n).yld i H x H' → g x σ H' fun σ2 H2 => tb { D with nx := N, ct := N, bk := D.nx } σ2 H2) := by
 refine ⟨fun i m σ H => m = n - i ∧ i ≤ n ∧ Pv i σ H, ⟨n, by simp, Rl _, h0⟩, ?_⟩
 rintro i m σ H ⟨rfl, hi, p⟩
 by_cases hlt : i < n
 ·refine .inr ⟨hlt, Pv (i + 1), fun σ' H' p' => ⟨n - (i + 1), by omega, rfl, hlt, p'⟩, fun x H' y => ?_⟩
  obtain ⟨e, y⟩ := y
  subst e y
  exact hs i σ _ hlt p
 ·have e : i = n := by omega
  subst e
  exact .inl ⟨CC _, hd σ H p⟩
theorem kgp {c : TT} {tb : TS} {D : Ends} {σ : St} {H : Hp} (Pv : St → Hp → Prop) (μ : St → Hp → Nat) (h0 : Pv σ H)
  (hs : ∀ σ H, Pv σ H → c σ H fun b H1 => if b = true then tb { D with nx := fun σ' H' => Pv σ' H' ∧ μ σ' H' < μ σ H, ct := fun σ' H' => Pv σ' H' ∧ μ σ' H' < μ σ H, bk := D.nx } σ H1 else D.nx σ H1)
  (mono : ∀ σ H Q Q', (∀ b H1, Q b H1 → Q' b H1) → c σ H Q → c σ H Q') : kjG c tb D σ H := by
 refine ⟨fun m σ H => m = μ σ H ∧ Pv σ H, ⟨_, rfl, h0⟩, ?_⟩
 rintro m σ H ⟨rfl, p⟩
 refine mono σ H _ _ (fun b H1 q => ?_) (hs σ H p)
 cases b with
 | true => exact ⟨_, fun σ' H' ⟨p', l⟩ => ⟨_, l, rfl, p'⟩, q⟩
 | false => exact q
end L2
namespace L2
open PySem PySem.Spec PyProof.Rows
abbrev R2 := V → V → Hp → VK → Prop
def OpR (X : Cx) (f : Value → Value → Sem Value) (r : R2) : Prop :=
 ∀ (pins : List (Addr × Obj)) (s : Shared) (σ : St) (H : Hp) (x y : V) (v u : Value) (Q : VK), Inv X pins σ H s → RelV x v → RelV y u → r x y H Q →
  wpAny (model X.prog X.w) X.A (f v u) (EP X pins σ Q) X.xe s
def UnR (X : Cx) (f : Value → Sem Value) (r : V → Hp → VK → Prop) : Prop :=
 ∀ (pins : List (Addr × Obj)) (s : Shared) (σ : St) (H : Hp) (x : V) (v : Value) (Q : VK), Inv X pins σ H s → RelV x v → r x H Q →
  wpAny (model X.prog X.w) X.A (f v) (EP X pins σ Q) X.xe s
def CallR (X : Cx) (f : Value) (r : List V → Hp → VK → Prop) : Prop :=
 ∀ (pins : List (Addr × Obj)) (s : Shared) (σ : St) (H : Hp) (xs : List V) (us : List Value) (Q : VK), Inv X pins σ H s → Vals xs us → r xs H Q →
  wpAny (model X.prog X.w) X.A (call f us) (EP X pins σ Q) X.xe s
def tOp (r : R2) (ta tb : TE) : TE := fun σ H Q => ta σ H fun x H1 => tb σ H1 fun y H2 => r x y H2 Q
def tUn (r : V → Hp → VK → Prop) (ta : TE) : TE := fun σ H Q => ta σ H fun x H1 => r x H1 Q
def rI (C : Int → Int → Prop) (g : Int → Int → V) : R2 := fun x y H Q => ∃ i j, x = .int i ∧ y = .int j ∧ C i j ∧ Q (g i j) H
def rI0 (g : Int → Int → V) : R2 := fun x y H Q => ∃ i j, x = .int i ∧ y = .int j ∧ Q (g i j) H
def rU (g : Int → V) : V → Hp → VK → Prop := fun x H Q => ∃ i, x = .int i ∧ Q (g i) H
section
variable {X : Cx} {a b c : Expr} {ta tb tc : TE} {pos : Pos}
theorem binT (ha : PE X a ta) (hb : PE X b tb) {pins : List (Addr × Obj)} {s : Shared} {σ : St} {H : Hp} {R : V → V → Hp → Prop} (I : Inv X pins σ H s)
  (h : ta σ H fun x H1 => tb σ H1 fun y H2 => R x y H2) {Q : Value → Shared → Prop} {f : Value → Value → Sem Value}
  (hf : ∀ v u s2 x y H2, Inv X pins σ H2 s2 → RelV x v → RelV y u → R x y H2 → wpAny (model X.prog X.w) X.A (f v u) Q X.xe s2) :
  wpAny (model X.prog X.w) X.A (eval a X.env) (fun v s₁ => wpAny (model X.prog X.w) X.A (eval b X.env) (fun u s₂ => wpAny (model X.prog X.w) X.A (f v u) Q X.xe s₂) X.xe s₁) X.xe s := by
 refine thn (ha pins s σ H _ I h) fun v s1 ⟨x, H1, I1, r1, q1⟩ => ?_
 refine thn (hb pins s1 σ H1 _ I1 q1) fun u s2 ⟨y, H2, I2, r2, q2⟩ => ?_
 exact hf v u s2 x y H2 I2 r1 r2 q2
theorem pe_op {op : Operator} {r : R2} (ho : OpR X (binaryOp op) r) (ha : PE X a ta) (hb : PE X b tb) : PE X (.BinOp a op b pos) (tOp r ta tb) := by
 intro pins s σ H Q I h
 exact wpAny_BinOp (binT ha hb I h fun v u s2 x y H2 I2 rx ry q => ho pins s2 σ H2 x y v u Q I2 rx ry q)
theorem pe_un {op : UnaryOp} {r : V → Hp → VK → Prop} (ho : UnR X (unaryOp op) r) (ha : PE X a ta) : PE X (.UnaryOp op a pos) (tUn r ta) := by
 intro pins s σ H Q I h
 exact UnaryOp_ (thn (ha pins s σ H _ I h) fun v s1 ⟨x, H1, I1, r1, q1⟩ => ho pins s1 σ H1 x v Q I1 r1 q1)
theorem opI {f : Value → Value → Sem Value} {C : Int → Int → Prop} {g : Int → Int → Int}
  (rule : ∀ (i j : Int) (t u : Tok) (s : Shared) (Q : Value → Shared → Prop) (E : Value → Shared → Prop), C i j → Q (.int (g i j) s.toks) { s with toks := s.toks + 1 } → wpAny (model X.prog X.w) X.A (f (.int i t) (.int j u)) Q E s) :
  OpR X f (rI C fun i j => .int (g i j)) := by
 intro pins s σ H x y v u Q I rx ry h
 obtain ⟨i, j, rfl, rfl, hc, q⟩ := h
 obtain ⟨t, rfl⟩ := rx
 obtain ⟨t', rfl⟩ := ry
 exact rule i j t t' s _ _ hc ⟨.int (g i j), H, I.tok _, ⟨_, rfl⟩, q⟩
theorem opI0 {f : Value → Value → Sem Value} {g : Int → Int → Int}
  (rule : ∀ (i j : Int) (t u : Tok) (s : Shared) (Q : Value → Shared → Prop) (E : Value → Shared → Prop), Q (.int (g i j) s.toks) { s with toks := s.toks + 1 } → wpAny (model X.prog X.w) X.A (f (.int i t) (.int j u)) Q E s) :
  OpR X f (rI0 fun i j => .int (g i j)) := by
 intro pins s σ H x y v u Q I rx ry h
 obtain ⟨i, j, rfl, rfl, q⟩ := h
 obtain ⟨t, rfl⟩ := rx
 obtain ⟨t', rfl⟩ := ry
 exact rule i j t t' s _ _ ⟨.int (g i j), H, I.tok _, ⟨_, rfl⟩, q⟩
theorem opB0 {f : Value → Value → Sem Value} {g : Int → Int → Bool}
  (rule : ∀ (i j : Int) (t u : Tok) (s : Shared) (Q : Value → Shared → Prop) (E : Value → Shared → Prop), Q (.bool (g i j)) s → wpAny (model X.prog X.w) X.A (f (.int i t) (.int j u)) Q E s) :
  OpR X f (rI0 fun i j => .bl (g i j)) := by
 intro pins s σ H x y v u Q I rx ry h
 obtain ⟨i, j, rfl, rfl, q⟩ := h
 obtain ⟨t, rfl⟩ := rx
 obtain ⟨t', rfl⟩ := ry
 exact rule i j t t' s _ _ ⟨.bl (g i j), H, I, rfl, q⟩
def CDiv (i j : Int) : Prop := 0 < j ∧ j < 1073741824
def CMul (i j : Int) : Prop := (-(2 ^ 64) < i ∧ i < 2 ^ 64) ∨ (-(2 ^ 64) < j ∧ j < 2 ^ 64)
theorem CMul.ok {i j : Int} (h : CMul i j) : IntMulOk i j := by
 rcases h with ⟨h1, h2⟩ | ⟨h1, h2⟩
 ·exact .of_left (intBits_le_64 h1 h2)
 ·exact .of_right (intBits_le_64 h1 h2)
theorem ka1 : OpR X (binaryOp .Add) (rI0 fun i j => .int (i + j)) := opI0 fun _ _ _ _ _ _ _ q => add_int q
theorem kfy : OpR X (binaryOp .Sub) (rI0 fun i j => .int (i - j)) := opI0 fun _ _ _ _ _ _ _ q => sub_int q
theorem kcf : OpR X (binaryOp .Mult) (rI CMul fun i j => .int (i * j)) := opI fun _ _ _ _ _ _ _ hc q => mul_int q hc.ok
theorem kd9 : OpR X (binaryOp .FloorDiv) (rI CDiv fun i j => .int (i / j)) := opI fun i j _ _ _ _ _ hc q => by
 have h1 : (0 : Int) < j := hc.1
 have h2 : j < 1073741824 := hc.2
 exact floordiv_int (by omega) (by rw [Int.fdiv_eq_ediv_of_nonneg i (by omega)]; exact q) (.inl (PyProof.noPylong_small (by omega)))
theorem kd8 : OpR X (binaryOp .Mod) (rI (fun _ j => 0 < j) fun i j => .int (i % j)) := opI fun i j _ _ _ _ _ hc q => by
 have h1 : (0 : Int) < j := hc
 exact mod_int' (by omega) (by rw [Int.fmod_eq_emod_of_nonneg i (by omega)]; exact q)
theorem unI {f : Value → Sem Value} {g : Int → Int}
  (rule : ∀ (i : Int) (t : Tok) (s : Shared) (Q : Value → Shared → Prop) (E : Value → Shared → Prop), Q (.int (g i) s.toks) { s with toks := s.toks + 1 } → wpAny (model X.prog X.w) X.A (f (.int i t)) Q E s) :
  UnR X f (rU fun i => .int (g i)) := by
 intro pins s σ H x v Q I rx h
 obtain ⟨i, rfl, q⟩ := h
 obtain ⟨t, rfl⟩ := rx
 exact rule i t s _ _ ⟨.int (g i), H, I.tok _, ⟨_, rfl⟩, q⟩
theorem kjF : UnR X (unaryOp .USub) (rU fun i => .int (-i)) := unI fun _ _ _ _ _ q => neg_int q
end
def scal : V → V → Bool
 | .non, .non => true | .non, .int _ => true | .int _, .non => true | .non, .bl _ => true | .bl _, .non => true | .non, .str _ => true | .str _, .non => true
 | .int _, .int _ => true | .bl _, .bl _ => true | .str _, .str _ => true | .byt _, .byt _ => true
 | .int _, .str _ => true | .str _, .int _ => true | .bl _, .str _ => true | .str _, .bl _ => true
 | _, _ => false
def rEq : R2 := fun x y H Q => scal x y = true ∧ Q (.bl (decide (x = y))) H
def rNe : R2 := fun x y H Q => scal x y = true ∧ Q (.bl (!decide (x = y))) H
theorem kiC {i j : Int} : decide (V.int i = V.int j) = (i == j) := by
 rw [Sq]
 simp
theorem kjX {i j : Bool} : decide (V.bl i = V.bl j) = (i == j) := by
 rw [Sq]
 simp
theorem kiB {i j : Str} : decide (V.str i = V.str j) = (i == j) := by
 rw [Sq]
 simp
theorem kiD {i j : Array UInt8} : decide (V.byt i = V.byt j) = (i.toList == j.toList) := by
 rw [Sq]
 cases i
 cases j
 simp
section
variable {X : Cx} {a b c : Expr} {ta tb tc : TE} {pos : Pos}
theorem kbA {pins : List (Addr × Obj)} {σ : St} {H : Hp} {s : Shared} {Q : VK} {k k' : Bool} (I : Inv X pins σ H s) (q : Q (.bl k) H) (e : k = k') : EP X pins σ Q (.bool k') s := by
 subst e
 exact ⟨.bl k, H, I, rfl, q⟩
theorem op_eq : OpR X (compareOp .Eq) rEq := by
 intro pins s σ H x y v u Q I rx ry h
 obtain ⟨hs, q⟩ := h
 cases x with
 | non =>
  cases rx
  cases y with
  | non => cases ry; exact PySem.EqNone.eq_none_none (kbA I q (by simp))
  | bl j => cases ry; exact PySem.EqNone.eq_none_bool (kbA I q (by simp))
  | int j => obtain ⟨t', rfl⟩ := ry; exact PySem.EqNone.eq_none_int (kbA I q (by simp))
  | str j => obtain ⟨t', rfl⟩ := ry; exact PySem.EqNone.eq_none_str (kbA I q (by simp))
  | _ => exact absurd (show false = true from hs) CW
 | bl i =>
  cases rx
  cases y with
  | non => cases ry; exact PySem.EqNone.eq_bool_none (kbA I q (by simp))
  | bl j => cases ry; exact eq_bool (kbA I q kjX)
  | str j => obtain ⟨t', rfl⟩ := ry; exact PySem.EqMixed.eq_bool_str (kbA I q (by simp))
  | _ => exact absurd (show false = true from hs) CW
 | int i =>
  obtain ⟨t, rfl⟩ := rx
  cases y with
  | non => cases ry; exact PySem.EqNone.eq_int_none (kbA I q (by simp))
  | int j => obtain ⟨t', rfl⟩ := ry; exact eq_int (kbA I q kiC)
  | str j => obtain ⟨t', rfl⟩ := ry; exact PySem.EqMixed.eq_int_str (kbA I q (by simp))
  | _ => exact absurd (show false = true from hs) CW
 | str i =>
  obtain ⟨t, rfl⟩ := rx
  cases y with
  | non => cases ry; exact PySem.EqNone.eq_str_none (kbA I q (by simp))
  | bl j => cases ry; exact PySem.EqMixed.eq_str_bool (kbA I q (by simp))
  | int j => obtain ⟨t', rfl⟩ := ry; exact PySem.EqMixed.eq_str_int (kbA I q (by simp))
  | str j => obtain ⟨t', rfl⟩ := ry; exact eq_str (kbA I q kiB)
  | _ => exact absurd (show false = true from hs) CW
 | byt i =>
  obtain ⟨t, rfl⟩ := rx
  cases y with
  | byt j => obtain ⟨t', rfl⟩ := ry; exact PySem.W.eq_bytes (kbA I q kiD)
  | _ => exact absurd (show false = true from hs) CW
 | _ => cases y <;> exact absurd (show false = true from hs) CW
theorem op_ne : OpR X (compareOp .NotEq) rNe := by
 intro pins s σ H x y v u Q I rx ry h
 obtain ⟨hs, q⟩ := h
 cases x with
 | non =>
  cases rx
  cases y with
  | non => cases ry; exact PySem.EqNone.ne_none_none (kbA I q (by simp))
  | bl j => cases ry; exact PySem.EqNone.ne_none_bool (kbA I q (by simp))
  | int j => obtain ⟨t', rfl⟩ := ry; exact PySem.EqNone.ne_none_int (kbA I q (by simp))
  | str j => obtain ⟨t', rfl⟩ := ry; exact PySem.EqNone.ne_none_str (kbA I q (by simp))
  | _ => exact absurd (show false = true from hs) CW
 | bl i =>
  cases rx
  cases y with
  | non => cases ry; exact PySem.EqNone.ne_bool_none (kbA I q (by simp))
  | bl j => cases ry; exact ne_bool (kbA I q (congrArg not kjX))
  | str j => obtain ⟨t', rfl⟩ := ry; exact PySem.EqMixed.ne_bool_str (kbA I q (by simp))
  | _ => exact absurd (show false = true from hs) CW
 | int i =>
  obtain ⟨t, rfl⟩ := rx
  cases y with
  | non => cases ry; exact PySem.EqNone.ne_int_none (kbA I q (by simp))
  | int j => obtain ⟨t', rfl⟩ := ry; exact ne_int (kbA I q (congrArg not kiC))
  | str j => obtain ⟨t', rfl⟩ := ry; exact PySem.EqMixed.ne_int_str (kbA I q (by simp))
  | _ => exact absurd (show false = true from hs) CW
 | str i =>
  obtain ⟨t, rfl⟩ := rx
  cases y with
  | non => cases ry; exact PySem.EqNone.ne_str_none (kbA I q (by simp))
  | bl j => cases ry; exact PySem.EqMixed.ne_str_bool (kbA I q (by simp))
  | int j => obtain ⟨t', rfl⟩ := ry; exact PySem.EqMixed.ne_str_int (kbA I q (by simp))
  | str j => obtain ⟨t', rfl⟩ := ry; exact ne_str (kbA I q (congrArg not kiB))
  | _ => exact absurd (show false = true from hs) CW
 | byt i =>
  obtain ⟨t, rfl⟩ := rx
  cases y with
  | byt j => obtain ⟨t', rfl⟩ := ry; exact PySem.W.ne_bytes (kbA I q (congrArg not kiD))
  | _ => exact absurd (show false = true from hs) CW
 | _ => cases y <;> exact absurd (show false = true from hs) CW
theorem op_lt : OpR X (compareOp .Lt) (rI0 fun i j => .bl (decide (i < j))) := opB0 fun _ _ _ _ _ _ _ q => lt_int q
theorem op_gt : OpR X (compareOp .Gt) (rI0 fun i j => .bl (decide (j < i))) := opB0 fun _ _ _ _ _ _ _ q => gt_int q
theorem kfA : OpR X (compareOp .Is) (fun x y H Q => y = .non ∧ Q (.bl (decide (x = .non))) H) := by
 intro pins s σ H x y v u Q I rx ry h
 obtain ⟨rfl, q⟩ := h
 cases ry
 refine is_none_gen (kbA I q ?_)
 cases x <;> first
  | (cases rx; rfl)
  | (obtain ⟨t, rfl⟩ := rx; rfl)
theorem kcF : OpR X (compareOp .IsNot) (fun x y H Q => y = .non ∧ Q (.bl (!decide (x = .non))) H) := by
 intro pins s σ H x y v u Q I rx ry h
 obtain ⟨rfl, q⟩ := h
 cases ry
 refine isnot_none_gen (kbA I q ?_)
 cases x <;> first
  | (cases rx; rfl)
  | (obtain ⟨t, rfl⟩ := rx; rfl)
theorem OpR.or {f : Value → Value → Sem Value} {r r' : R2} (h : OpR X f r) (h' : OpR X f r') : OpR X f (fun x y H Q => r x y H Q ∨ r' x y H Q) := by
 intro pins s σ H x y v u Q I rx ry q
 rcases q with q | q
 ·exact h pins s σ H x y v u Q I rx ry q
 ·exact h' pins s σ H x y v u Q I rx ry q
theorem kaN (b : Expr) {op : CmpOp} (h : op ≠ .In := by decide) (h2 : op ≠ .NotIn := by decide) : behindInMarks op b = false := by
 have e1 : (op == CmpOp.In) = false := by cases op <;> first | rfl | exact absurd rfl h
 have e2 : (op == CmpOp.NotIn) = false := by cases op <;> first | rfl | exact absurd rfl h2
 cases b <;> simp [behindInMarks, e1, e2]
theorem kci {op : CmpOp} {r : R2} (ho : OpR X (compareOp op) r) (ha : PE X a ta) (hb : PE X b tb) (hm : behindInMarks op b = false) : PE X (.Compare a [op] [b] pos) (tOp r ta tb) := by
 intro pins s σ H Q I h
 exact wpAny_Compare1 (binT ha hb I h fun v u s2 x y H2 I2 rx ry q => ho pins s2 σ H2 x y v u Q I2 rx ry q) hm
def tTest (t : TE) : TT := fun σ H Q => t σ H fun x H' => ∃ k, x = .bl k ∧ Q k H'
theorem kaA {op : CmpOp} {r : R2} (ho : OpR X (compareOp op) r) (ha : PE X a ta) (hb : PE X b tb) (hm : behindInMarks op b = false) : PT X (.Compare a [op] [b] pos) (tTest (tOp r ta tb)) := by
 intro pins s σ H Q I h
 refine wpAny_isTrue_Compare1 (thn (ha pins s σ H _ I h) fun v s1 ⟨x, H1, I1, r1, q1⟩ => thn (hb pins s1 σ H1 _ I1 q1) fun u s2 ⟨y, H2, I2, r2, q2⟩ =>
  thn (ho pins s2 σ H2 x y v u _ I2 r1 r2 q2) fun c s3 ⟨z, H3, I3, r3, k, e, q3⟩ => ?_) hm
 subst e
 cases r3
 exact wpAny_truthy_bool ⟨H3, I3, q3⟩
def kk4 (r r' : R2) (ta tb tc : TE) : TE := fun σ H Q => ta σ H fun x H1 => tb σ H1 fun y H2 => r x y H2 fun z H3 => ∃ k, z = .bl k ∧
 (if k = true then tc σ H3 fun w' H4 => r' y w' H4 Q else Q (.bl false) H3)
theorem ki5 {op op' : CmpOp} {r r' : R2} (ho : OpR X (compareOp op) r) (ho' : OpR X (compareOp op') r') (ha : PE X a ta) (hb : PE X b tb) (hc : PE X c tc)
  (hm : lastMarks [op, op'] [b, c] = false := by with_unfolding_all rfl) : PT X (.Compare a [op, op'] [b, c] pos) (tTest (kk4 r r' ta tb tc)) := by
 intro pins s σ H Q I h
 refine isTrue_chain (thn (ha pins s σ H _ I h) fun v s1 ⟨x, H1, I1, r1, q1⟩ => test_link (thn (hb pins s1 σ H1 _ I1 q1) fun u s2 ⟨y, H2, I2, r2, q2⟩ =>
  thn (ho pins s2 σ H2 x y v u _ I2 r1 r2 q2) fun d s3 ⟨z, H3, I3, r3, k, e, q3⟩ => ?_)) hm
 subst e
 cases r3
 refine wpAny_truthy_bool ?_
 cases k with
 | false =>
  obtain ⟨k', e', q'⟩ := q3
  cases e'
  exact ite_ff ⟨H3, I3, q'⟩
 | true =>
  refine ite_tt (test_last (thn (hc pins s3 σ H3 _ I3 q3) fun w' s4 ⟨z', H4, I4, r4, q4⟩ => thn (ho' pins s4 σ H4 y z' u w' _ I4 r2 r4 q4) fun d' s5 ⟨z2, H5, I5, r5, k2, e2, q5⟩ => ?_))
  subst e2
  cases r5
  exact wpAny_truthy_bool ⟨H5, I5, q5⟩
theorem keK : (sizeLine : Nat) < 2 ^ 63 := by rw [sizeLine_eq]; decide
theorem vals1 {x : V} {us : List Value} (r : Vals [x] us) : ∃ u, us = [u] ∧ RelV x u := by
 cases r with
 | cons r1 r2 => cases r2; exact ⟨_, rfl, r1⟩
theorem vals2 {x y : V} {us : List Value} (r : Vals [x, y] us) : ∃ u w', us = [u, w'] ∧ RelV x u ∧ RelV y w' := by
 cases r with
 | cons r1 r2 =>
  cases r2 with
  | cons r3 r4 => cases r4; exact ⟨_, _, rfl, r1, r3⟩
theorem kiH (hc : X.calm = true) : CallR X (.builtin "max") (fun xs H Q => ∃ i j, xs = [.int i, .int j] ∧ Q (.int (if j > i then j else i)) H) := by
 intro pins s σ H xs us Q I r h
 obtain ⟨i, j, rfl, q⟩ := h
 obtain ⟨u, w', rfl, ⟨t, rfl⟩, ⟨t', rfl⟩⟩ := vals2 r
 refine max_two_ints (I.ok.hd hc) fun h' tk k => ⟨_, H, I.kept k, ?_, q⟩
 by_cases hj : j > i
 ·rw [if_pos hj, if_pos hj]; exact ⟨_, rfl⟩
 ·rw [if_neg hj, if_neg hj]; exact ⟨_, rfl⟩
theorem ken (hc : X.calm = true) : CallR X (.builtin "min") (fun xs H Q => ∃ i j, xs = [.int i, .int j] ∧ Q (.int (if j < i then j else i)) H) := by
 intro pins s σ H xs us Q I r h
 obtain ⟨i, j, rfl, q⟩ := h
 obtain ⟨u, w', rfl, ⟨t, rfl⟩, ⟨t', rfl⟩⟩ := vals2 r
 refine min_two_ints (I.ok.hd hc) fun h' tk k => ⟨_, H, I.kept k, ?_, q⟩
 by_cases hj : j < i
 ·rw [if_pos hj, if_pos hj]; exact ⟨_, rfl⟩
 ·rw [if_neg hj, if_neg hj]; exact ⟨_, rfl⟩
theorem kfP : CallR X (.type "int") (fun xs H Q => (∃ i, xs = [.int i] ∧ Q (.int i) H) ∨ ∃ k, xs = [.bl k] ∧ Q (.int (if k then 1 else 0)) H) := by
 intro pins s σ H xs us Q I r h
 rcases h with ⟨i, rfl, q⟩ | ⟨k, rfl, q⟩
 ·obtain ⟨u, rfl, t, rfl⟩ := vals1 r
  exact call_int_int ⟨.int i, H, I, ⟨_, rfl⟩, q⟩
 ·obtain ⟨u, rfl, r1⟩ := vals1 r
  cases r1
  exact call_int_bool ⟨.int (if k then 1 else 0), H, I.tok _, ⟨_, rfl⟩, q⟩
end
end L2
namespace L2
open PySem PySem.Spec PyProof.Rows
structure ObjM (h : Heap) (x dx C : Addr) (mA : Str → Option Value) : Prop where
 obj : h.get? x = some (RW C dx)
 ns : h.Ns1 dx mA
 ne : dx ≠ x
theorem kie {h : Heap} {dx : Addr} {mA : Str → Option Value} (n : h.Ns1 dx mA) : ∃ od, h.get? dx = some od ∧ ∀ name, Sr name od = some (mA name) := by
 obtain ⟨o, es, ep, ho, hd, hk, _, hm⟩ := n
 refine ⟨o, ho, fun name => ?_⟩
 have e := hm name
 unfold nsFind findBy at e
 rw [← Array.find?_toList] at e
 unfold Sr
 rw [hd]
 dsimp only
 split
 ·rename_i y q
  rw [q] at e
  exact congrArg some e
 ·rename_i q
  rw [q] at e
  have a : es.toList.any (·.refKey) = false := by
   rw [List.any_eq_false]
   intro y hy
   obtain ⟨z, t, hkey⟩ := hk y (Array.mem_toList_iff.mp hy)
   simp [DictEntry.refKey, hkey]
  have a' : ¬ es.toList.any (·.refKey) = true := by rw [a]; exact CW
  rw [if_neg a']
  exact congrArg some e
theorem ObjM.look {h : Heap} {x dx C : Addr} {mA : Str → Option Value} (I : ObjM h x dx C mA) : ∃ od, PySem.W.InstAt h x (RW C dx) C (some od) ∧ ∀ name, Sr name od = some (mA name) :=
 let ⟨od, ho, hl⟩ := kie I.ns
 ⟨od, ⟨I.obj, rfl, rfl, ho⟩, hl⟩
section
variable {prog : Program} {w : World} {A : Around} {E : Value → Shared → Prop} {s : Shared} {K : CA} {x dx C f : Addr} {mA : Str → Option Value} {name : Str} {v : Value}
theorem get_map {expr : Bool} {Q : Value → Shared → Prop} (X : K.In s.heap) (I : ObjM s.heap x dx C mA) (hg : Rm K C name = true) (hh : Rq K C = true)
  (ha : CD K (.ref C) name = some none) (hv : mA name = some v) (hv' : PySem.W.handedIn v = true) (h : Q v { s with toks := s.toks + 1 }) :
  wpAny (model prog w) A (getAttr (.ref x) name expr) Q E s := by
 obtain ⟨od, J, hl⟩ := I.look
 exact PySem.W.get_value X J (SW hg).1 (PySem.W.findObj_own hh ha rfl (by rw [hl, hv])) hv' h
theorem kjs {pl : Sem Bool} {Q : Value × List Value → Shared → Prop} (X : K.In s.heap) (I : ObjM s.heap x dx C mA) (hg : Rm K C name = true)
  (hf : CD K (.ref C) name = some (some (.ref f))) (ht : Rg K (.ref f) = true) (hv : mA name = none) (h : Q (.ref f, [.ref x]) s) :
  wpAny (model prog w) A (getMethod (.ref x) name pl) Q E s := by
 obtain ⟨od, J, hl⟩ := I.look
 exact PySem.W.method_fn X J (SW hg).1 (SW hg).2 hf (beq_iff_eq.mp ht) (by show (Sr name od).map (·.isSome) = some false; rw [hl, hv]; rfl) h
theorem kkr {ns : List Str} {Q : Unit → Shared → Prop} (X : K.In s.heap) (I : ObjM s.heap x dx C mA)
  (hs : CD K (.ref C) "__setattr__" = some (some (.builtin "object.__setattr__"))) (hp : Ru K C = true) (ht : SX K C name = some none) (hh : Rq K C = true)
  (hw : PySem.Within mA ns) (hsz : ns.length ≤ sizeLine)
  (h : ∀ h', ObjM h' x dx C (fun y => if y = name then some v else mA y) → Heap.SameBut dx s.heap h' → Q () { s with heap := h', toks := s.toks + 2 }) :
  wpAny (model prog w) A (setAttr (.ref x) name v) Q E s := by
 obtain ⟨od, J, hl⟩ := I.look
 refine PySem.W.set_plain X J hs (PySem.W.osa_open (s := { s with toks := s.toks + 1 }) (r := none) X J hp ht fun b => ?_)
 obtain ⟨cd, hc, hd'⟩ := PySem.W.any_some hh
 have hx : s.heap.get? x = some ⟨.ref C, some dx, .plain, #[]⟩ := I.obj
 refine wpAny_bind (wpAny_pure (wpAny_bind (wpAny_bind (wpAny_loadPart hx (wpAny_bind (PySem.W.Looks.here (s := { s with toks := s.toks + 1 }) (PySem.W.looks_clsIn X hc) ?_))))))
 rw [hd']
 refine wpAny_pure (a := some dx) (wpAny_bind (wpAny_pure (wpAny_bind ?_)))
 refine wpAny_nsSet1 (s := { s with toks := s.toks + 1 }) I.ns fun h' hn2 hs2 => ?_
 obtain ⟨oD, esD, epD, hoD, hdD, hcD⟩ := hn2.count (PySem.Within.cons name v hw)
 refine wpAny_bind (wpAny_lookBehind hoD (by rw [hdD]; exact pastItsLine_dict (CN hcD (by rw [Rv]; omega))) ?_)
 exact wpAny_pure (h _ ⟨(hs2.2 _ (Ne.symm I.ne)).trans I.obj, hn2, I.ne⟩ hs2)
theorem kjj {R : Result → Shared → Prop} {vs : List Value} {kw : List (Str × Value)} (X : K.In s.heap) (hm : Rr K C = true)
  (hi : CD K (.ref C) "__init__" = some (some (.ref f))) (hf : Rn K (.ref f) = some (.type "function"))
  (h : codeAny (model prog w) (A.under (.builtin "type.__call__" ⟨.ref C :: vs, kw⟩)) (.call (.ref f) ⟨.ref (s.heap.objs.size + 1) :: vs, kw⟩) (PySem.W.InitBack (s.heap.objs.size + 1) R)
   { s with heap := (s.heap.push RO).push (RW C s.heap.objs.size) }) :
  codeAny (model prog w) A (.call (.ref C) ⟨vs, kw⟩) R s := by
 obtain ⟨hh, g, d, t, os⟩ := s
 exact PySem.W.make_core (PySem.W.makes_of X hm) (PySem.W.looks_findIn X hi) (fun self => PySem.W.bind_fn X self hf) (.inl rfl) h
end
def putF (f : Str) (v : V) : List (Str × V) → List (Str × V)
 | [] => [(f, v)]
 | (g, x) :: r => if g = f then (g, v) :: r else (g, x) :: putF f v r
theorem kac (f g : Str) (v : V) : ∀ fs : List (Str × V), (putF f v fs).lookup g = if g = f then some v else fs.lookup g
 | [] => by
  show RE g [(f, v)] = _
  by_cases h : g = f
  ·have hb : (g == f) = true := beq_iff_eq.mpr h
   simp only [RE, hb, if_pos h]
  ·have hb : (g == f) = false := beq_eq_false_iff_ne.mpr h
   simp only [RE, hb, if_neg h]
 | (k, x) :: r => by
  have ih := kac f g v r
  rw [show putF f v ((k, x) :: r) = (if k = f then (k, v) :: r else (k, x) :: putF f v r) from rfl]
  by_cases hk : k = f
  ·rw [if_pos hk]
   by_cases h : g = k
   ·have hb : (g == k) = true := beq_iff_eq.mpr h
    simp only [RE, hb, if_pos (h.trans hk)]
   ·have hb : (g == k) = false := beq_eq_false_iff_ne.mpr h
    simp only [RE, hb, if_neg (fun e : g = f => h (e.trans hk.symm))]
  ·rw [if_neg hk]
   by_cases h : g = k
   ·have hb : (g == k) = true := beq_iff_eq.mpr h
    simp only [RE, hb, if_neg (fun e : g = f => hk (h.symm.trans e))]
   ·have hb : (g == k) = false := beq_eq_false_iff_ne.mpr h
    simp only [RE, hb]
    exact ih
theorem kei (f : Str) (v : V) : ∀ fs : List (Str × V), f ∈ (putF f v fs).map (·.1) ∧ ∀ g, g ∈ fs.map (·.1) → g ∈ (putF f v fs).map (·.1)
 | [] => ⟨by simp [putF], fun g h => by simp at h⟩
 | (k, x) :: r => by
  obtain ⟨i1, i2⟩ := kei f v r
  rw [show putF f v ((k, x) :: r) = (if k = f then (k, v) :: r else (k, x) :: putF f v r) from rfl]
  by_cases hk : k = f
  ·rw [if_pos hk]
   subst hk
   exact ⟨by simp, fun g h => by simpa using h⟩
  ·rw [if_neg hk]
   refine ⟨?_, fun g h => ?_⟩
   ·rw [C1]
    exact C8 _ i1
   ·rw [C1] at h ⊢
    rcases C6.mp h with e | e
    ·exact C6.mpr (.inl e)
    ·exact C8 _ (i2 g e)
theorem keh (f : Str) (v : V) : ∀ fs : List (Str × V), (putF f v fs).length ≤ fs.length + 1
 | [] => by simp [putF]
 | (k, x) :: r => by
  have ih := keh f v r
  rw [show putF f v ((k, x) :: r) = (if k = f then (k, v) :: r else (k, x) :: putF f v r) from rfl]
  by_cases hk : k = f
  ·rw [if_pos hk, Rv, Rv]; omega
  ·rw [if_neg hk, Rv, Rv]; omega
theorem RelO.some_of {v : V} {o : Option Value} (r : RelO (some v) o) : ∃ u, o = some u ∧ RelV v u := by
 cases o with
 | none => exact (show False from r).elim
 | some u => exact ⟨u, rfl, r⟩
theorem RelO.none_of {o : Option Value} (r : RelO none o) : o = none := by
 cases o with
 | none => rfl
 | some u => exact (show False from r).elim
theorem kiq {v : V} {u : Value} (r : RelV v u) : PySem.W.handedIn u = true := by
 cases v with
 | non => cases (show u = Value.none from r); rfl
 | bl b => cases (show u = Value.bool b from r); rfl
 | int i => obtain ⟨t, e⟩ := (show ∃ t, u = Value.int i t from r); cases e; rfl
 | str x => obtain ⟨t, e⟩ := (show ∃ t, u = Value.str x t from r); cases e; rfl
 | byt b => obtain ⟨t, e⟩ := (show ∃ t, u = Value.bytes b t from r); cases e; rfl
 | flt b => obtain ⟨t, e⟩ := (show ∃ t, u = Value.float b t from r); cases e; rfl
 | ref a => cases (show u = Value.ref a from r); rfl
 | ty n => cases (show u = Value.type n from r); rfl
section
variable {P : Program} {w : World} {H H' : Hp} {h h' : Heap} {a C dx : Addr} {fs fs' : List (Str × V)}
theorem kff (hok : HOk P w H h) (e : H a = some (.ins C dx fs)) : ∃ mA, ObjM h a dx C mA ∧ (∀ f, RelO (fs.lookup f) (mA f)) ∧ PySem.Within mA (fs.map (·.1)) ∧ fs.length ≤ 1000 ∧ H dx = some (.own a) := by
 obtain ⟨d, z, ne, ob, mA, n, r, q⟩ := (show ObjOk P w H h a (.ins C dx fs) from hok a _ e)
 exact ⟨mA, ⟨ob, n, ne⟩, r, q, z, d⟩
end
structure Cls (K : CA) (C : Addr) : Prop where
 pg : Rm K C Str.empty = true
 hd : Rq K C = true
 po : Ru K C = true
 sa : CD K (.ref C) "__setattr__" = some (some (.builtin "object.__setattr__"))
theorem Cls.get {K : CA} {C : Addr} (c : Cls K C) (f : Str) : Rm K C f = true := c.pg
def NoAttr (K : CA) (C : Addr) (f : Str) : Prop := CD K (.ref C) f = some none
theorem NoAttr.taker {K : CA} {C : Addr} {f : Str} (n : NoAttr K C f) : SX K C f = some none := by
 unfold SX
 rw [show CD K (.ref C) f = some none from n]
 rfl
structure Meth (K : CA) (C : Addr) (m : Str) (f : Addr) : Prop where
 at_ : CD K (.ref C) m = some (some (.ref f))
 fn : Rg K (.ref f) = true
 kp : CF K (.ref f) = true
section
variable {X : Cx} {pins : List (Addr × Obj)} {σ : St} {H : Hp} {s : Shared} {a C dx : Addr} {fs : List (Str × V)} {f : Str} {v : V} {A : Around} {E : Value → Shared → Prop}
theorem khm {b : Bool} {Q : Value → Shared → Prop} (I : Inv X pins σ H s) (e : H a = some (.ins C dx fs)) (c : Cls X.K C) (n : NoAttr X.K C f) (l : fs.lookup f = some v)
  (h : ∀ u s', Inv X pins σ H s' → RelV v u → Q u s') : wpAny (model X.prog X.w) A (getAttr (.ref a) f b) Q E s := by
 obtain ⟨mA, O, r, _, _, _⟩ := kff I.hok e
 obtain ⟨u, hu, ru⟩ := RelO.some_of (v := v) (o := mA f) (by rw [← l]; exact r f)
 exact get_map I.kIn O (c.get f) c.hd n hu (kiq ru) (h u _ (I.tok _) ru)
theorem keM {m : Str} {g : Addr} {pl : Sem Bool} {Q : Value × List Value → Shared → Prop} (I : Inv X pins σ H s) (e : H a = some (.ins C dx fs)) (c : Cls X.K C) (k : Meth X.K C m g) (l : fs.lookup m = none)
  (h : Q (.ref g, [.ref a]) s) : wpAny (model X.prog X.w) A (getMethod (.ref a) m pl) Q E s := by
 obtain ⟨mA, O, r, _, _, _⟩ := kff I.hok e
 have hn : mA m = none := RelO.none_of (by rw [← l]; exact r m)
 exact kjs I.kIn O (c.get m) k.at_ k.fn hn h
theorem khb {y : V} {u : Value} {Q : Unit → Shared → Prop} (I : Inv X pins σ H s) (e : H a = some (.ins C dx fs)) (c : Cls X.K C) (n : NoAttr X.K C f) (hl : fs.length < 1000) (ry : RelV y u)
  (h : ∀ s', Inv X pins σ (upd H a (.ins C dx (putF f y fs))) s' → Q () s') : wpAny (model X.prog X.w) A (setAttr (.ref a) f u) Q E s := by
 obtain ⟨mA, O, r, wi, _, ho⟩ := kff I.hok e
 have hz : (fs.map (·.1)).length ≤ sizeLine := by rw [Cz, sizeLine_eq]; omega
 refine kkr I.kIn O c.sa c.po n.taker c.hd wi hz fun h' O' sb => h _ ?_
 have hd : ∃ o, h'.get? dx = some o := let ⟨o, _, _, e', _⟩ := O'.ns; ⟨o, e'⟩
 refine I.write (x := a) (e := dx) (by rw [e]; exact True.intro) (.inr ho) (fun b q hb z => (sb.2 b hb).trans z) hd ?_
 refine ⟨by rw [kam O.ne]; exact ho, ?_, O.ne, O'.obj, _, O'.ns, fun g => ?_, fun g hg => ?_⟩
 ·have := keh f y fs; omega
 ·show RelO ((putF f y fs).lookup g) (if g = f then some u else mA g)
  rw [kac]
  by_cases q : g = f
  ·rw [if_pos q, if_pos q]; exact ry
  ·rw [if_neg q, if_neg q]; exact r g
 ·by_cases q : g = f
  ·rw [q]; exact (kei f y fs).1
  ·refine (kei f y fs).2 g (wi g fun z => hg ?_)
   show (if g = f then some u else mA g) = none
   rw [if_neg q]; exact z
theorem Inv.made (I : Inv X pins σ H s) : Inv X pins σ (upd (upd H s.heap.objs.size (.own (s.heap.objs.size + 1))) (s.heap.objs.size + 1) (.ins C s.heap.objs.size []))
  { s with heap := (s.heap.push RO).push (RW C s.heap.objs.size) } := by
 have e1 : (s.heap.push RO).get? s.heap.objs.size = some RO := Heap.get?_push_size s.heap rfl
 have e2 : ((s.heap.push RO).push (RW C s.heap.objs.size)).get? (s.heap.objs.size + 1) = some (RW C s.heap.objs.size) := by
  have := Heap.get?_push_size (s.heap.push RO) (o := RW C s.heap.objs.size) rfl
  rwa [Heap.size_push] at this
 have e3 : (s.heap.push RO).Ns s.heap.objs.size (fun _ => none) := ⟨RO, #[], _, e1, rfl, (fun e he => absurd he (by simp)), fun _ => rfl⟩
 have I1 := I.laid (a := s.heap.objs.size) (o := .own (s.heap.objs.size + 1)) (h' := s.heap.push RO) (t' := s.toks) (fun b u q => Heap.get?_push_of_some _ q) (CC _) ⟨_, e1⟩
 refine I1.laid (a := s.heap.objs.size + 1) (o := .ins C s.heap.objs.size []) (t' := s.toks) (fun b u q => Heap.get?_push_of_some _ q) (Ss (Heap.size_push _ _)) ?_
 have ne : s.heap.objs.size ≠ s.heap.objs.size + 1 := Rc (SY _)
 refine ⟨by rw [kam ne, kad], Rl _, ne, e2, fun _ => none, (Heap.Ns1.of_empty e3).at fun o q => Heap.get?_push_of_some _ q, fun _ => True.intro, fun y hy => absurd rfl hy⟩
theorem kkY {prog : Program} {w : World} {env : Env} {e : Expr} {f : Str} {pos : Pos} {s : Shared} {Q : Value → Shared → Prop} (hb : attributeBase e f env (eval e env) = eval e env)
  (h : wpAny (model prog w) A (eval e env) (fun o s₁ => wpAny (model prog w) A (getAttr o f true) Q E s₁) E s) : wpAny (model prog w) A (eval (.Attribute e f pos) env) Q E s :=
 Attribute_any_ h (by rw [arm_eval_Attribute, hb])
end
def tFld (K : CA) (ta : TE) (f : Str) : TE := fun σ H Q => ta σ H fun x H1 => ∃ a C dx fs v, x = .ref a ∧ H1 a = some (.ins C dx fs) ∧ Cls K C ∧ NoAttr K C f ∧ fs.lookup f = some v ∧ Q v H1
def sFld (K : CA) (ta tv : TE) (f : Str) : TS := fun D σ H => tv σ H fun y H1 => ta σ H1 fun x H2 => ∃ a C dx fs, x = .ref a ∧ H2 a = some (.ins C dx fs) ∧ Cls K C ∧ NoAttr K C f ∧ fs.length < 1000 ∧
 D.nx σ (upd H2 a (.ins C dx (putF f y fs)))
section
variable {X : Cx} {o e value : Expr} {f : Str} {pos pos' tpos : Pos} {ta tv : TE}
theorem kap (he : PE X e ta) (hb : attributeBase e f X.env (eval e X.env) = eval e X.env) : PE X (.Attribute e f pos) (tFld X.K ta f) := by
 intro pins s σ H Q I h
 refine kkY hb (thn (he pins s σ H _ I h) fun u s1 ⟨x, H1, I1, rx, a, C, dx, fs, v, ex, ea, c, n, l, q⟩ => ?_)
 subst ex
 obtain rfl : u = Value.ref a := rx
 exact khm I1 ea c n l fun u' s2 I2 ru => ⟨v, H1, I2, ru, q⟩
theorem kba (ha : PE X o ta) (hv : PE X value tv) (hs : swapsWith value (some (.Attribute o f pos')) pos.line X.env = pure false) : PS X (.Assign [.Attribute o f pos'] value pos) (sFld X.K ta tv f) := by
 intro pins s σ H D I h
 refine plainObj_wpAny_Assign_Attribute (thn (hv pins s σ H _ I h) fun u s1 ⟨y, H1, I1, ry, q⟩ => thn (ha pins s1 σ H1 _ I1 q) fun ov s2 ⟨x, H2, I2, rx, a, C, dx, fs, ex, ea, c, n, l, q2⟩ => ?_) hs
 subst ex
 obtain rfl : ov = Value.ref a := rx
 exact khb I2 ea c n l ry fun s3 I3 => ⟨σ, _, I3, q2⟩
end
section
variable {X : Cx} {pins : List (Addr × Obj)} {σ : St} {H : Hp} {s : Shared} {A : Around} {E : Value → Shared → Prop} {Q : Value → Shared → Prop} {c : Value} {b : Bool}
inductive TyOf (K : CA) (H : Hp) : V → Value → Prop where
 | non : TyOf K H .non (.type "NoneType")
 | bl (x : Bool) : TyOf K H (.bl x) (.type "bool")
 | int (i : Int) : TyOf K H (.int i) (.type "int")
 | str (x : Str) : TyOf K H (.str x) (.type "str")
 | flt (x : UInt64) : TyOf K H (.flt x) (.type "float")
 | lst {a : Addr} {xs : List V} (e : H a = some (.lst xs)) : TyOf K H (.ref a) (.type "list")
 | frz {a : Addr} {o : Obj} {xs : List V} (e : H a = some (.frz o (.lst xs))) : TyOf K H (.ref a) (.type "list")
 | tup {a : Addr} {xs : List V} (e : H a = some (.tup xs)) : TyOf K H (.ref a) (.type "tuple")
 | dK {a : Addr} {kvs : List (Key × V)} (e : H a = some (.dK kvs)) : TyOf K H (.ref a) (.type "dict")
 | dT {a : Addr} {kvs : List (List Key × V)} (e : H a = some (.dT kvs)) : TyOf K H (.ref a) (.type "dict")
 | ins {a C dx : Addr} {fs : List (Str × V)} (e : H a = some (.ins C dx fs)) (cl : Cls K C) (ha : CD K (.ref C) "__class__" = some (some (.builtin "object.__class__")))
   (hn : Sb K (.builtin "object.__class__") "__get__" = some (some (.builtin "getset_descriptor.__get__"))) (htk : SZ K (.builtin "object.__class__") = some true)
   (hm : CQ K C (.type "object") = some true) : TyOf K H (.ref a) (.ref C)
theorem kil {x : V} {u t : Value} (I : Inv X pins σ H s) (rx : RelV x u) (ty : TyOf X.K H x t) (e : C2 X.K t c = some b) (h : ∀ tk, Q (.bool b) { s with toks := tk }) :
  wpAny (model X.prog X.w) A (call (.builtin "isinstance") [u, c]) Q E s := by
 cases ty with
 | non => cases (show u = Value.none from rx); exact RF PySem.W.kitx_none I.kIn True.intro e (fun z => nomatch z) h
 | bl y => cases (show u = Value.bool y from rx); exact RF PySem.W.kitx_bool I.kIn True.intro e (fun z => nomatch z) h
 | int i => obtain ⟨t, q⟩ := (show ∃ t, u = Value.int i t from rx); cases q; exact RF PySem.W.kitx_int I.kIn True.intro e (fun z => nomatch z) h
 | str y => obtain ⟨t, q⟩ := (show ∃ t, u = Value.str y t from rx); cases q; exact RF PySem.W.kitx_str I.kIn True.intro e (fun z => nomatch z) h
 | flt y => obtain ⟨t, q⟩ := (show ∃ t, u = Value.float y t from rx); cases q; exact RF PySem.W.kitx_float I.kIn True.intro e (fun z => nomatch z) h
 | @lst a xs ea =>
  cases (show u = Value.ref a from rx)
  obtain ⟨_, _, n, _, h1⟩ := (show ObjOk X.prog X.w H s.heap a (.lst xs) from I.hok a _ ea)
  exact RF PySem.W.kitx_list I.kIn ⟨_, h1, rfl⟩ e (fun z => nomatch z) h
 | @frz a ob xs ea =>
  cases (show u = Value.ref a from rx)
  obtain ⟨_, _, _, n, _, h1⟩ := (show ObjOk X.prog X.w H s.heap a (.frz ob (.lst xs)) from I.hok a _ ea)
  exact RF PySem.W.kitx_list I.kIn ⟨_, h1, rfl⟩ e (fun z => nomatch z) h
 | @tup a xs ea =>
  cases (show u = Value.ref a from rx)
  obtain ⟨_, _, _, p⟩ := (show ObjOk X.prog X.w H s.heap a (.tup xs) from I.hok a _ ea)
  obtain ⟨o, h1, h2, _⟩ := p
  exact RF PySem.W.kitx_tuple I.kIn ⟨o, h1, h2⟩ e (fun z => nomatch z) h
 | @dK a kvs ea =>
  cases (show u = Value.ref a from rx)
  obtain ⟨_, _, vs, _, p⟩ := (show ObjOk X.prog X.w H s.heap a (.dK kvs) from I.hok a _ ea)
  obtain ⟨o, es, ep, h1, h2, _⟩ := p
  exact RF PySem.W.kitx_dict I.kIn ⟨o, h1, h2.1⟩ e (fun z => nomatch z) h
 | @dT a kvs ea =>
  cases (show u = Value.ref a from rx)
  obtain ⟨_, _, xs, _, o, es, ep, h1, h2, _⟩ := (show ObjOk X.prog X.w H s.heap a (.dT kvs) from I.hok a _ ea)
  exact RF PySem.W.kitx_dict I.kIn ⟨o, h1, h2.1⟩ e (fun z => nomatch z) h
 | @ins a C dx fs ea cl ha hn htk hm =>
  cases (show u = Value.ref a from rx)
  obtain ⟨mA, O, _⟩ := kff I.hok ea
  obtain ⟨od, J, _⟩ := O.look
  exact RF (PySem.W.kitx_own (cl.get _) cl.hd ha hn htk hm) I.kIn J e (fun z => nomatch z) h
end
end L2
namespace L2
open PySem PySem.Spec PyProof.Rows
structure Room (k : Nat) (A : Around) : Prop where
 hd : A.handled = none
 dp : A.depth + 3 * k + 5 < recursionLimit
 un : A.units + 16 * k + 200 < cLine
theorem Room.mono {j k : Nat} {A : Around} (r : Room k A) (h : j ≤ k) : Room j A := ⟨r.hd, by have := r.dp; omega, by have := r.un; omega⟩
theorem Room.deeper {k : Nat} {A : Around} (r : Room (k + 1) A) (env : Env) : Room k (A.deeper env) :=
 ⟨r.hd, by have := r.dp; show A.depth + 1 + 3 * k + 5 < _; omega, by have := r.un; show A.units + 3 + 16 * k + 200 < _; omega⟩
theorem Room.in1 {k : Nat} {A : Around} (r : Room (k + 1) A) : Room k A.in1 :=
 ⟨r.hd, by have := r.dp; show A.depth + 3 * k + 5 < _; omega, by have := r.un; show A.units + 1 + 16 * k + 200 < _; omega⟩
theorem khk {A : Around} {C : Addr} {us : List Value} {kw : List (Str × Value)} : (A.under (.builtin "type.__call__" ⟨.ref C :: us, kw⟩)).depth = A.depth + 1 := by
 first | rfl | simp [Around.under, Code.weight, Code.isCreation, Code.isGuard, Code.isCaller, Code.frames, Code.isFrame, guardIds]
theorem khj {A : Around} {C : Addr} {us : List Value} {kw : List (Str × Value)} : (A.under (.builtin "type.__call__" ⟨.ref C :: us, kw⟩)).units = A.units + 1 := by
 first | rfl | simp [Around.under, Code.cUnits, Code.frames, Code.isFrame]
theorem Room.make {k : Nat} {A : Around} (r : Room (k + 1) A) (C : Addr) (us : List Value) (kw : List (Str × Value)) : Room k (A.under (.builtin "type.__call__" ⟨.ref C :: us, kw⟩)) :=
 ⟨r.hd, by have := r.dp; rw [khk]; omega, by have := r.un; rw [khj]; omega⟩
theorem Room.depth {k : Nat} {A : Around} (r : Room k A) : A.depth < recursionLimit := by have := r.dp; omega
theorem Room.units {k : Nat} {A : Around} (r : Room k A) : A.units + 64 < cLine := by have := r.un; omega
def tNil : TA := fun _ H Q => Q [] H
def tCons (ta : TE) (tr : TA) : TA := fun σ H Q => ta σ H fun x H1 => tr σ H1 fun xs H2 => Q (x :: xs) H2
section
variable {X : Cx} {e : Expr} {es : List Expr} {te : TE} {t : TA} {pos : Pos}
theorem kah : PA X [] tNil := fun _ _ _ _ H Q I h => Calls.spliced_nil ⟨[], H, I, .nil, h⟩
theorem kaa (ha : PE X e te) (hr : PA X es t) (hs : starEach (e :: es) X.env = (false, eval e X.env) :: starEach es X.env := by rfl) : PA X (e :: es) (tCons te t) := by
 intro pos pins s σ H Q I h
 rw [hs]
 show wpAny _ _ (spliced ((false, eval e X.env) :: backTo pos (starEach es X.env))) _ _ s
 refine Calls.spliced_cons (thn (ha pins s σ H _ I h) fun u s1 ⟨x, H1, I1, r1, q1⟩ => ?_)
 exact thn (hr pos pins s1 σ H1 _ I1 q1) fun us s2 ⟨xs, H2, I2, r2, q2⟩ => ⟨x :: xs, H2, I2, .cons r1 r2, q2⟩
def tTup (t : TA) : TE := fun σ H Q => t σ H fun xs H1 => xs.length ≤ sizeLine ∧ ∀ p, H1 p = none → Q (.ref p) (upd H1 p (.tup xs))
def tLst (t : TA) : TE := fun σ H Q => t σ H fun xs H1 => xs.length ≤ sizeLine ∧ ∀ p, H1 p = none → Q (.ref p) (upd H1 p (.lst xs))
theorem kcS {x1} (h : PA X es t) : PE X (.Tuple es x1 pos) (tTup t) := by
 intro pins s σ H Q I hq
 refine wpAny_Tuple_spliced (thn (h pos pins s σ H _ I hq) fun us s1 ⟨xs, H1, I1, r, z, q⟩ => ⟨by rw [← r.length]; exact z, ?_⟩)
 have hf : H1 s1.heap.objs.size = none := I1.hok.fresh (CC _)
 refine ⟨.ref s1.heap.objs.size, upd H1 s1.heap.objs.size (.tup xs), I1.laid (t' := s1.toks) (fun b u e => Heap.get?_push_of_some _ e) (CC _) ?_, rfl, q _ hf⟩
 exact ⟨z, us, r, ⟨_, Heap.get?_push_size _ rfl, rfl, _, rfl⟩⟩
theorem kbG (h : PA X es t) : PE X (.List es pos) (tLst t) := by
 intro pins s σ H Q I hq
 refine wpAny_List_spliced (thn (h pos pins s σ H _ I hq) fun us s1 ⟨xs, H1, I1, r, z, q⟩ => ⟨by rw [← r.length]; exact z, ?_⟩)
 have hf : H1 s1.heap.objs.size = none := I1.hok.fresh (CC _)
 refine ⟨.ref s1.heap.objs.size, upd H1 s1.heap.objs.size (.lst xs), I1.laid (t' := s1.toks) (fun b u e => Heap.get?_push_of_some _ e) (CC _) ?_, rfl, q _ hf⟩
 exact ⟨z, us, 0, r, Heap.get?_push_size _ rfl⟩
end
abbrev Sp := List V → Hp → VK → XK → Prop
abbrev CXT := List Env → Hp → Shared → XK → Value → Shared → Prop
structure Env0 (P : Program) (w : World) (K : CA) (mg : Str → Option Value) (base : Heap) (A : Around) (outer : List Env) (s : Shared) (H : Hp) : Prop where
 frames : A.frames = some outer
 mod : Mod K mg base
 bs : ∀ b o, base.get? b = some o → s.heap.get? b = some o ∧ H b = none
 bsz : base.objs.size ≤ s.heap.objs.size
 funs : s.heap.FunFrames base outer
 frf : ∀ b ∈ frs outer, H b = none
 hok : HOk P w H s.heap
 bare : AllBare s.gens
def CE (outer : List Env) (P : Program) (w : World) (H : Hp) (s : Shared) (Q : VK) (u : Value) (s' : Shared) : Prop :=
 ∃ v H', s'.os = s.os ∧ AllBare s'.gens ∧ Un (frs outer) [] H H' s.heap s'.heap ∧ HOk P w H' s'.heap ∧ RelV v u ∧ Q v H'
def CR (CX : CXT) (outer : List Env) (P : Program) (w : World) (H : Hp) (s : Shared) (Q : VK) (E : XK) (r : Result) (s' : Shared) : Prop :=
 match r with
 | .ok (.ret u) => CE outer P w H s Q u s'
 | .ok _ => False
 | .error e => CX outer H s E e s'
structure FnOk (P : Program) (w : World) (K : CA) (mg : Str → Option Value) (base : Heap) (CX : CXT) (k : Nat) (f : Addr) (fd : FuncData) (ps : List Str) (sp : Sp) : Prop where
 len : ∀ vs H Q E, sp vs H Q E → vs.length = ps.length
 run : ∀ (A : Around) (outer : List Env) (s : Shared) (H : Hp) (args : Args) (us : List Value) (vs : List V) (Q : VK) (E : XK), Room k A → Env0 P w K mg base A outer s H → BindsTo s fd args (ps.zip us) → Vals vs us → sp vs H Q E →
  codeAny (model P w) A (.call (.ref f) args) (CR CX outer P w H s Q E) s
theorem FnOk.mono {P : Program} {w : World} {K : CA} {mg : Str → Option Value} {base : Heap} {CX : CXT} {j k : Nat} {f : Addr} {fd : FuncData} {ps : List Str} {sp : Sp} (F : FnOk P w K mg base CX j f fd ps sp) (h : j ≤ k) :
  FnOk P w K mg base CX k f fd ps sp := ⟨F.len, fun A outer s H args us vs Q E hr => F.run A outer s H args us vs Q E (hr.mono h)⟩
theorem FnOk.imp {P : Program} {w : World} {K : CA} {mg : Str → Option Value} {base : Heap} {CX : CXT} {k : Nat} {f : Addr} {fd : FuncData} {ps : List Str} {sp sp' : Sp} (F : FnOk P w K mg base CX k f fd ps sp)
  (h : ∀ vs H Q E, sp' vs H Q E → sp vs H Q E) : FnOk P w K mg base CX k f fd ps sp' :=
 ⟨fun vs H Q E q => F.len vs H Q E (h _ _ _ _ q), fun A outer s H args us vs Q E hr he hb hv hs => F.run A outer s H args us vs Q E hr he hb hv (h _ _ _ _ hs)⟩
theorem Env0.make {P : Program} {w : World} {K : CA} {mg : Str → Option Value} {base : Heap} {A : Around} {outer : List Env} {s : Shared} {H : Hp} (e : Env0 P w K mg base A outer s H) (C : Addr) (us : List Value) (kw : List (Str × Value)) :
  Env0 P w K mg base (A.under (.builtin "type.__call__" ⟨.ref C :: us, kw⟩)) outer s H := ⟨by first | exact e.frames | (simpa [Around.under, Code.envs, Code.isFrame, pushEnvs] using e.frames), e.mod, e.bs, e.bsz, e.funs, e.frf, e.hok, e.bare⟩
theorem Env0.in1 {P : Program} {w : World} {K : CA} {mg : Str → Option Value} {base : Heap} {A : Around} {outer : List Env} {s : Shared} {H : Hp} (e : Env0 P w K mg base A outer s H) :
  Env0 P w K mg base A.in1 outer s H := ⟨e.frames, e.mod, e.bs, e.bsz, e.funs, e.frf, e.hok, e.bare⟩
section
variable {X : Cx} {pins : List (Addr × Obj)} {σ : St} {H : Hp} {s s' : Shared}
theorem Inv.env0 (I : Inv X pins σ H s) : Env0 X.prog X.w X.K X.mg X.base X.A X.stack s H :=
 ⟨I.ok.frames, I.ok.mod, I.bs, CN I.ok.bsz I.sz, I.stack, I.stkFree, I.hok, I.bare⟩
theorem Inv.after {Q : VK} {u : Value} (I : Inv X pins σ H s) (h : CE X.stack X.prog X.w H s Q u s') : EP X pins σ Q u s' := by
 obtain ⟨v, H', os, bare, un, hok, r, q⟩ := h
 obtain ⟨hh, g, d, t, os'⟩ := s'
 obtain rfl : os' = s.os := os
 exact ⟨v, H', I.call (h' := hh) (g' := g) (d' := d) (t' := t) (ch := []) un hok bare (fun b z => absurd z (by simp)), r, q⟩
end
def tCall (sp : Sp) (dvs : List V) (E : XK) (t : TA) : TE := fun σ H Q => t σ H fun vs H1 => sp (vs ++ dvs) H1 Q E
def tMeth (C : Addr) (m : Str) (sp : Sp) (dvs : List V) (E : XK) (ta : TE) (t : TA) : TE := fun σ H Q => ta σ H fun x H1 => ∃ a dx fs, x = .ref a ∧ H1 a = some (.ins C dx fs) ∧ fs.lookup m = none ∧
 t σ H1 fun vs H2 => sp (x :: (vs ++ dvs)) H2 Q E
def tMake (C : Addr) (sp : Sp) (dvs : List V) (E : XK) (t : TA) : TE := fun σ H Q => t σ H fun vs H1 => ∀ x dx, H1 x = none → H1 dx = none → dx ≠ x →
 sp (.ref x :: (vs ++ dvs)) (upd (upd H1 dx (.own x)) x (.ins C dx [])) (fun v H2 => v = .non ∧ Q (.ref x) H2) E
def Binds (K : CA) (fd : FuncData) (ps : List Str) (ds : List Value) : Prop :=
 ∀ (s : Shared) (us : List Value), K.In s.heap → (us ++ ds).length = ps.length → BindsTo s fd ⟨us, []⟩ (ps.zip (us ++ ds))
theorem Binds.all {K : CA} {fd : FuncData} {ps : List Str} (h : ∀ us : List Value, us.length = ps.length → bindArgs fd ⟨us, []⟩ = pure (ps.zip us)) : Binds K fd ps [] := fun s us _ hl => by
 rw [S0] at hl ⊢
 exact .of_eq (h us hl)
def kdj (CX : CXT) (X : Cx) (E : XK) : Prop := ∀ (pins : List (Addr × Obj)) (σ : St) (H : Hp) (s : Shared) (e : Value) (s' : Shared), Inv X pins σ H s → CX X.stack H s E e s' → X.xe e s'
section
variable {X : Cx} {CX : CXT} {k : Nat} {f C : Addr} {fd : FuncData} {ps : List Str} {sp : Sp} {dvs : List V} {ds : List Value} {E : XK} {x m : Str} {p pos apos : Pos} {e o : Expr} {es : List Expr} {ta : TE} {t : TA}
theorem kgx {pins : List (Addr × Obj)} {σ : St} {H : Hp} {s : Shared} {Q : VK} {us : List Value} {vs : List V} (F : FnOk X.prog X.w X.K X.mg X.base CX k f fd ps sp) (hr : Room k X.A) (hb : Binds X.K fd ps ds) (hd : Vals dvs ds) (hx : kdj CX X E)
  (I : Inv X pins σ H s) (r : Vals vs us) (h : sp (vs ++ dvs) H Q E) : wpAny (model X.prog X.w) X.A (call (.ref f) us) (EP X pins σ Q) X.xe s := by
 have r2 : Vals (vs ++ dvs) (us ++ ds) := r.append hd
 have hl : (us ++ ds).length = ps.length := by rw [← r2.length]; exact F.len _ _ _ _ h
 refine wpAny_call (codeAny_mono (F.run X.A X.stack s H ⟨us, []⟩ (us ++ ds) (vs ++ dvs) Q E hr I.env0 (hb s us I.kIn hl) r2 h) fun r s' hq => ?_)
 cases r with
 | error e => exact hx pins σ H s e s' I hq
 | ok fl =>
  cases fl with
  | ret u => exact I.after hq
  | next => exact False.elim hq
  | brk => exact False.elim hq
  | cont => exact False.elim hq
theorem kan (F : FnOk X.prog X.w X.K X.mg X.base CX k f fd ps sp) (hr : Room k X.A) (hg : Gl X x) (hm : X.mg x = some (.ref f)) (hk : CF X.K (.ref f) = true) (hb : Binds X.K fd ps ds) (hd : Vals dvs ds) (hx : kdj CX X E)
  (ha : PA X (e :: es) t) (hdb : (x == ("__debug__" : Str)) = false := by decide) (he : starEach (e :: es) X.env = (false, eval e X.env) :: starEach es X.env := by rfl) (hpl : (backTo pos (starEach es X.env)).any (·.1) = false := by rfl) :
  PE X (.Call (.Name x p) (e :: es) [] pos) (tCall sp dvs E t) := by
 intro pins s σ H Q I h
 refine wpAny_Call_Name_kw (kfe I hg hm ?_ hdb)
 refine Su (h₀ := X.base) I.ok.mod.kin hk (thn (ha pos pins s σ H _ I h) fun us s1 ⟨vs, H1, I1, r, q⟩ => ⟨I1.kIn, ?_⟩) he hpl
 exact kgx F hr hb hd hx I1 r q
theorem ke2 {pl : Sem Bool} (he : PE X o ta) (c : Cls X.K C) (hm : Meth X.K C m f) (F : FnOk X.prog X.w X.K X.mg X.base CX k f fd ps sp) (hr : Room k X.A) (hb : Binds X.K fd ps ds) (hd : Vals dvs ds) (hx : kdj CX X E) (ha : PA X (e :: es) t)
  (hst : starEach (e :: es) X.env = (false, eval e X.env) :: starEach es X.env := by rfl) (hpl : (backTo pos (starEach es X.env)).any (·.1) = false := by rfl)
  (ht : eval (.Call (.Attribute o m apos) (e :: es) [] pos) X.env = (do
   let ov ← eval o X.env
   standAt apos.atName
   let (f, first) ← holding [ov] (getMethod ov m pl)
   callWith pos f first (backTo pos (starEach (e :: es) X.env)) (backToKw pos (keywordEach [] X.env))) := by rfl) :
  PE X (.Call (.Attribute o m apos) (e :: es) [] pos) (tMeth C m sp dvs E ta t) := by
 intro pins s σ H Q I h
 refine S1 (pl := pl) (thn (he pins s σ H _ I h) fun u s1 ⟨x, H1, I1, rx, a, dx, fs, ex, ea, l, q⟩ => ?_) ht
 subst ex
 obtain rfl : u = Value.ref a := rx
 refine keM I1 ea c hm l ?_
 refine Su (first := [.ref a]) (h₀ := X.base) I.ok.mod.kin hm.kp (thn (ha pos pins s1 σ H1 _ I1 q) fun us s2 ⟨vs, H2, I2, r, q2⟩ => ⟨I2.kIn, ?_⟩) hst hpl
 exact kgx (us := .ref a :: us) (vs := .ref a :: vs) F hr hb hd hx I2 (.cons rfl r) q2
theorem kgC {pl : Sem Bool} (he : PE X o ta) (c : Cls X.K C) (hm : Meth X.K C m f) (F : FnOk X.prog X.w X.K X.mg X.base CX k f fd ps sp) (hr : Room k X.A) (hb : Binds X.K fd ps ds) (hd : Vals dvs ds) (hx : kdj CX X E)
  (ht : eval (.Call (.Attribute o m apos) [] [] pos) X.env = (do
   let ov ← eval o X.env
   standAt apos.atName
   let (f, first) ← holding [ov] (getMethod ov m pl)
   callWith pos f first (backTo pos (starEach [] X.env)) (backToKw pos (keywordEach [] X.env))) := by rfl) :
  PE X (.Call (.Attribute o m apos) [] [] pos) (tMeth C m sp dvs E ta tNil) := by
 intro pins s σ H Q I h
 refine S1 (pl := pl) (thn (he pins s σ H _ I h) fun u s1 ⟨x, H1, I1, rx, a, dx, fs, ex, ea, l, q⟩ => ?_) ht
 subst ex
 obtain rfl : u = Value.ref a := rx
 refine keM I1 ea c hm l ?_
 exact Tp (first := [.ref a]) I1.kIn hm.kp (kgx (us := [.ref a]) (vs := [.ref a]) F hr hb hd hx I1 (.cons rfl .nil) q)
structure Mk (K : CA) (C f : Addr) : Prop where
 makes : Rr K C = true
 init : CD K (.ref C) "__init__" = some (some (.ref f))
 fn : Rg K (.ref f) = true
 kp : CF K (.ref C) = true
theorem kgw {pins : List (Addr × Obj)} {σ : St} {H : Hp} {s : Shared} {Q : VK} {us : List Value} {vs : List V} (M : Mk X.K C f) (F : FnOk X.prog X.w X.K X.mg X.base CX k f fd ps sp) (hr : Room (k + 1) X.A) (hb : Binds X.K fd ps ds) (hd : Vals dvs ds)
  (hx : kdj CX X E) (I : Inv X pins σ H s) (r : Vals vs us)
  (h : ∀ x dx, H x = none → H dx = none → dx ≠ x → sp (.ref x :: (vs ++ dvs)) (upd (upd H dx (.own x)) x (.ins C dx [])) (fun v H2 => v = .non ∧ Q (.ref x) H2) E) :
  wpAny (model X.prog X.w) X.A (call (.ref C) us) (EP X pins σ Q) X.xe s := by
 have hq := h (s.heap.objs.size + 1) s.heap.objs.size (I.hok.fresh (Sd _)) (I.hok.fresh (CC _)) (Rc (SY _))
 have I2 := Inv.made (C := C) I
 have r2 : Vals (V.ref (s.heap.objs.size + 1) :: (vs ++ dvs)) (Value.ref (s.heap.objs.size + 1) :: (us ++ ds)) := .cons rfl (r.append hd)
 have hl : (Value.ref (s.heap.objs.size + 1) :: us ++ ds).length = ps.length := by
  have e := r2.length
  rw [F.len _ _ _ _ hq] at e
  exact e.symm
 refine wpAny_call (kjj (f := f) I.kIn M.makes M.init (beq_iff_eq.mp M.fn) (codeAny_mono (F.run _ X.stack _ _ ⟨Value.ref (s.heap.objs.size + 1) :: us, []⟩ (Value.ref (s.heap.objs.size + 1) :: (us ++ ds)) _ _ E (hr.make C us [])
  (I2.env0.make C us []) (hb _ (Value.ref (s.heap.objs.size + 1) :: us) I2.kIn hl) r2 hq) fun r s' hq' => ?_))
 cases r with
 | error e => exact hx pins σ _ _ e s' I2 hq'
 | ok fl =>
  cases fl with
  | ret u =>
   obtain ⟨v, H', I3, rv, ev, q3⟩ := I2.after hq'
   subst ev
   exact ⟨rv, ⟨V.ref (s.heap.objs.size + 1), H', I3, rfl, q3⟩⟩
  | next => exact False.elim hq'
  | brk => exact False.elim hq'
  | cont => exact False.elim hq'
theorem kbS (M : Mk X.K C f) (F : FnOk X.prog X.w X.K X.mg X.base CX k f fd ps sp) (hr : Room (k + 1) X.A) (hg : Gl X x) (hm : X.mg x = some (.ref C)) (hb : Binds X.K fd ps ds) (hd : Vals dvs ds) (hx : kdj CX X E)
  (ha : PA X (e :: es) t) (hdb : (x == ("__debug__" : Str)) = false := by decide) (he : starEach (e :: es) X.env = (false, eval e X.env) :: starEach es X.env := by rfl) (hpl : (backTo pos (starEach es X.env)).any (·.1) = false := by rfl) :
  PE X (.Call (.Name x p) (e :: es) [] pos) (tMake C sp dvs E t) := by
 intro pins s σ H Q I h
 refine wpAny_Call_Name_kw (kfe I hg hm ?_ hdb)
 refine Su (h₀ := X.base) I.ok.mod.kin M.kp (thn (ha pos pins s σ H _ I h) fun us s1 ⟨vs, H1, I1, r, q⟩ => ⟨I1.kIn, ?_⟩) he hpl
 exact kgw M F hr hb hd hx I1 r q
theorem ki8 (M : Mk X.K C f) (F : FnOk X.prog X.w X.K X.mg X.base CX k f fd ps sp) (hr : Room (k + 1) X.A) (hg : Gl X x) (hm : X.mg x = some (.ref C)) (hb : Binds X.K fd ps ds) (hd : Vals dvs ds) (hx : kdj CX X E)
  (hdb : (x == ("__debug__" : Str)) = false := by decide) : PE X (.Call (.Name x p) [] [] pos) (tMake C sp dvs E tNil) := by
 intro pins s σ H Q I h
 refine wpAny_Call_Name_kw (kfe I hg hm ?_ hdb)
 exact Tp I.kIn M.kp (kgw (us := []) M F hr hb hd hx I .nil h)
end
section
variable {X : Cx} {CX : CXT} {k : Nat} {f C : Addr} {fd : FuncData} {ps ks : List Str} {sp : Sp} {E : XK} {x m : Str} {p pos apos kpos : Pos} {e o : Expr} {es : List Expr} {kws : List Keyword} {te ta : TE} {t tk : TA} {nm : Option Str}
variable {g : List Value → List Value → List Value} {gV : List V → List V → List V}
end
structure kaq (N P : List Str) (sc : Scope) : Prop where
 kind : sc.kind = .function
 co : sc.isCoroutine = false
 gen : sc.isGenerator = false
 nd : N.Nodup
 pre : N.take P.length = P
 par : ∀ x ∈ P, sc.names.lookup x = some .local ∨ sc.names.lookup x = some .cell
 nofree : ∀ y ∈ sc.names, y.2 ≠ .free
theorem kfS {kindOf : Str → Option NameKind} {x : Str} : ∀ {binds : List (Str × Value)} {m : Str → Option Value}, (∀ v, (x, v) ∉ binds) → bindL kindOf binds m x = m x
 | [], _, _ => rfl
 | (n, v) :: r, m, h => by
  unfold bindL
  rw [kfS fun w hw => h w (C8 _ hw)]
  split
  ·have : x ≠ n := by rintro rfl; exact h v Re
   simp [this]
  ·rfl
theorem kfU {kindOf : Str → Option NameKind} {x : Str} : ∀ {binds : List (Str × Value)} {m : Str → Option Value}, (∀ v, (x, v) ∉ binds) → bindC kindOf binds m x = m x
 | [], _, _ => rfl
 | (n, v) :: r, m, h => by
  unfold bindC
  rw [kfU fun w hw => h w (C8 _ hw)]
  split
  ·rfl
  ·have : x ≠ n := by rintro rfl; exact h v Re
   simp [this]
theorem kfT {kindOf : Str → Option NameKind} {x : Str} {v : Value} : ∀ {P : List Str} {vs : List Value} {i : Nat} {m : Str → Option Value}, P.Nodup → P[i]? = some x → vs[i]? = some v → kindOf x = some .local →
  bindL kindOf (P.zip vs) m x = some v
 | [], _, _, _, _, h, _, _ => by simp at h
 | _ :: _, [], _, _, _, _, h, _ => by simp at h
 | p :: P, w :: vs, 0, m, nd, h1, h2, hk => by
  simp at h1 h2; subst h1; subst h2
  show bindL kindOf ((p, w) :: P.zip vs) m p = _
  unfold bindL
  rw [kfS fun v hv => (RG.mp nd).1 (RX hv).1, if_pos hk]
  simp
 | p :: P, w :: vs, i + 1, m, nd, h1, h2, hk => by
  show bindL kindOf ((p, w) :: P.zip vs) m x = _
  unfold bindL
  exact kfT (i := i) (RG.mp nd).2 (by simpa using h1) (by simpa using h2) hk
theorem kfV {kindOf : Str → Option NameKind} {x : Str} {v : Value} : ∀ {P : List Str} {vs : List Value} {i : Nat} {m : Str → Option Value}, P.Nodup → P[i]? = some x → vs[i]? = some v → kindOf x ≠ some .local →
  bindC kindOf (P.zip vs) m x = some v
 | [], _, _, _, _, h, _, _ => by simp at h
 | _ :: _, [], _, _, _, _, h, _ => by simp at h
 | p :: P, w :: vs, 0, m, nd, h1, h2, hk => by
  simp at h1 h2; subst h1; subst h2
  show bindC kindOf ((p, w) :: P.zip vs) m p = _
  unfold bindC
  rw [kfU fun v hv => (RG.mp nd).1 (RX hv).1, if_neg hk]
  simp
 | p :: P, w :: vs, i + 1, m, nd, h1, h2, hk => by
  show bindC kindOf ((p, w) :: P.zip vs) m x = _
  unfold bindC
  exact kfV (i := i) (RG.mp nd).2 (by simpa using h1) (by simpa using h2) hk
def start (N : List Str) (vs : List V) : St := vs.map some ++ CI (N.length - vs.length) none
def cxOf (CX : CXT) (P : Program) (w : World) (K : CA) (mg : Str → Option Value) (base : Heap) (N : List Str) (qual : Str) (scope : Scope) (f : Addr) (cd : Value) (A : Around) (outer : List Env) (s : Shared) (H : Hp) (E : XK) : Cx where
 prog := P
 w := w
 K := K
 mg := mg
 base := base
 A := A.deeper (envOfC qual scope s.heap.objs.size f cd)
 N := N
 s₀ := s
 H₀ := H
 env := envOfC qual scope s.heap.objs.size f cd
 outer := outer
 stack := envOfC qual scope s.heap.objs.size f cd :: outer
 ex := []
 calm := true
 fn := fun _ => true
 pn := []
 xe := fun e s' => wpAny (model P w) (A.deeper (envOfC qual scope s.heap.objs.size f cd)) (leaving (envOfC qual scope s.heap.objs.size f cd) e) (fun _ s'' => CX outer H s E e s'') (fun e' s'' => CX outer H s E e' s'') s'
theorem kdX {sc : Scope} {n : Nat} {x : Str} (h : sc.names.lookup x = some .cell) : ∃ c, (cellsFrom n sc.names []).lookup x = some c := by
 have q := Tq sc.names n [] (.inl h)
 exact Option.isSome_iff_exists.mp q
theorem kim {CX : CXT} {P : Program} {w : World} {K : CA} {mg : Str → Option Value} {base : Heap} {N ps : List Str} {qual : Str} {scope : Scope} {f : Addr} {cd : Value} {A : Around} {outer : List Env} {s s1 : Shared} {H : Hp} {E : XK} {us : List Value} {vs : List V}
  (S : kaq N ps scope) (hd : A.handled = none) (e0 : Env0 P w K mg base A outer s H) (hl : vs.length = ps.length) (r : Vals vs us)
  (x : InCallC s s.heap.objs.size (bindL (envOfC qual scope s.heap.objs.size f cd).kindOf (ps.zip us) fun _ => none) (cellsFrom (s.heap.objs.size + 1) scope.names []) (bindC (envOfC qual scope s.heap.objs.size f cd).kindOf (ps.zip us) fun _ => none) s1) :
  Inv (cxOf CX P w K mg base N qual scope f cd A outer s H E) [] (start N vs) H s1 := by
 have hpl : ps.length ≤ N.length := by have := congrArg Sv S.pre; rw [C0] at this; omega
 obtain ⟨h1, tk, rfl, hk⟩ := x.done
 have noA : ∀ b : Addr, b ∉ (cxOf CX P w K mg base N qual scope f cd A outer s H E).ex := fun b z => absurd (show b ∈ ([] : List Addr) from z) (by simp)
 refine ⟨⟨e0.mod, S.kind, rfl, rfl, CC _, fun y z c h1 h2 => ?_, fun y hy => ?_, fun y c _ h => ?_, fun _ => hd, Around.frames_deeper e0.frames, .inr ⟨rfl, rfl⟩, fun b z => absurd z (noA b), e0.bs, e0.bsz, fun b _ _ => noA b, fun b z => absurd z (noA b), e0.funs, e0.frf⟩,
  rfl, e0.bare, Un.kept hk, ⟨_, x.toInCall.ns, fun i y v h1 h2 h3 => ?_⟩, fun y c h => ⟨_, x.cell y c h⟩, e0.hok.fresh (CC _), fun y c h => ?_, fun p hp => absurd (show p ∈ ([] : List (Addr × Obj)) from hp) (by simp), e0.hok.kept hk, ?_⟩
 ·exact name_of_addr x.apart (PySem.mem_of_lookup h1) (PySem.mem_of_lookup h2)
 ·have hy : scope.names.lookup y = some .cell ∨ scope.names.lookup y = some .free := hy
  rcases hy with hy | hy
  ·exact kdX hy
  ·exact absurd rfl (S.nofree _ (PySem.mem_of_lookup hy))
 ·exact CY (x.above y c (PySem.mem_of_lookup h))
 ·have hi : i < vs.length := by
   unfold start at h2
   by_cases hi : i < vs.length
   ·exact hi
   ·rw [R4 (by simpa using hi)] at h2
    rw [S2] at h2
    split at h2 <;> cases h2
  have ha : vs[i]? = some v := by
   unfold start at h2
   rw [Se (by simpa using hi), CV] at h2
   cases e : vs[i]? with
   | none => rw [e] at h2; cases h2
   | some a => rw [e] at h2; cases h2; rfl
  obtain ⟨u, hu, rv⟩ := r.get ha
  have hp : ps[i]? = some y := by
   rw [← S.pre, Tr (by omega)]; exact h1
  have ndP : ps.Nodup := by rw [← S.pre]; exact S.nd.sublist (List.take_sublist _ _)
  refine ⟨u, rv, ?_⟩
  rcases S.par y (CT hp) with k | k
  ·exact .inl ⟨k, kfT ndP hp hu k⟩
  ·obtain ⟨c, e⟩ := kdX (n := s.heap.objs.size + 1) k
   refine .inr ⟨.inl k, c, e, ?_⟩
   have q := x.cell y c e
   rw [kfV ndP hp hu (by show scope.names.lookup y ≠ _; rw [k]; decide)] at q
   exact q
 ·exact e0.hok.fresh (CY (x.above y c (PySem.mem_of_lookup h)))
 ·unfold start
  show _ = N.length
  rw [C7, Cz, Ro]
  omega
theorem fn_of {CX : CXT} {P : Program} {w : World} {K : CA} {mg : Str → Option Value} {base : Heap} {k : Nat} {f : Addr} {name qual : Str} {params : Arguments} {body : List Stmt} {scope : Scope} {dV kV doc pm cdv ct oc : Value} {an od : Option Addr}
  {osl : Array (Option Value)} {N ps : List Str} {sp : Sp} (lk : K.lookup f = some ⟨oc, od, .func (Cy name qual params body scope dV kV doc pm an cdv ct), osl⟩) (hcd : CJ K cdv qual = true) (S : kaq N ps scope)
  (len : ∀ vs H Q E, sp vs H Q E → vs.length = ps.length)
  (hbody : ∀ (A : Around) (outer : List Env) (s : Shared) (H : Hp) (vs : List V) (Q : VK) (E : XK), Room k (A.deeper (envOfC qual scope s.heap.objs.size f cdv)) → sp vs H Q E →
   ∃ t, PSs (cxOf CX P w K mg base N qual scope f cdv A outer s H E) body t ∧ t { nx := fun _ H' => Q .non H', rt := Q } (start N vs) H) :
  FnOk P w K mg base CX (k + 1) f (Cy name qual params body scope dV kV doc pm an cdv ct) ps sp := by
 refine ⟨len, fun A outer s H args us vs Q E hr e0 hb r hsp => ?_⟩
 have hl := len _ _ _ _ hsp
 have KX : K.In s.heap := e0.mod.kin.keeps fun b o e => (e0.bs b o e).1
 have lim : s.heap.NoLimit := e0.mod.nolimit.keeps fun b o e => (e0.bs b o e).1
 have hkind : ∀ y ∈ ps.zip us, scope.names.lookup y.1 = some .local ∨ (scope.names.lookup y.1 = some .cell ∧ ((cellsFrom (s.heap.objs.size + 1) scope.names []).lookup y.1).isSome = true) := fun ⟨n, v⟩ hy => by
  rcases S.par n (RX hy).1 with q | q
  ·exact .inl q
  ·exact .inr ⟨q, Tq _ _ _ (.inl q)⟩
 refine codeAny_call_function hr.depth (KX _ _ lk) rfl S.co S.gen rfl (PySem.W.codeRec_of KX hcd) (hb _ _ _ _ ?_)
 refine wpAny_newFunctionEnv_cells S.kind hkind fun env he s1 x => ?_
 subst he
 refine ⟨lim.keeps x.toInCall.keep, codeAny_func ?_⟩
 obtain ⟨t, ht, hq⟩ := hbody A outer s H vs Q E (hr.deeper _) hsp
 have I : Inv (cxOf CX P w K mg base N qual scope f cdv A outer s H E) [] (start N vs) H s1 := kim S hr.hd e0 hl r x
 refine wpAny_mono (ht [] s1 (start N vs) H _ I hq) (fun fl s' hs => ?_) fun e s' hs => hs
 have fin : ∀ {σ' : St} {H' : Hp} {v : V} {u : Value}, Inv (cxOf CX P w K mg base N qual scope f cdv A outer s H E) [] σ' H' s' → RelV v u → Q v H' → CE outer P w H s Q u s' :=
  fun {σ' H' v u} J rv q => ⟨v, H', J.os, J.bare, J.base, J.hok, rv, q⟩
 cases fl with
 | ret u =>
  obtain ⟨v, σ', H', J, rv, q⟩ := hs
  exact fin J rv q
 | next =>
  obtain ⟨σ', H', J, q⟩ := hs
  exact fin (v := V.non) (u := Value.none) J rfl q
 | brk =>
  obtain ⟨_, _, _, q⟩ := hs
  exact False.elim q
 | cont =>
  obtain ⟨_, _, _, q⟩ := hs
  exact False.elim q
end L2
namespace L2
open PySem PySem.Spec PyProof.Rows
section
variable {X : Cx} {x : Str} {p pos : Pos} {e : Expr} {es : List Expr} {t : TA} {id T : String} {r : List V → Hp → VK → Prop}
def tCB (r : List V → Hp → VK → Prop) (t : TA) : TE := fun σ H Q => t σ H fun vs H1 => r vs H1 Q
theorem kaE (hc : CallR X (.builtin id) r) (hg : Gl X x) (hm : X.mg x = none) (hv : bootBuiltins x = some (.builtin id)) (ha : PA X (e :: es) t) (hn : x ≠ "__name__" := by decide) (hdb : (x == ("__debug__" : Str)) = false := by decide)
  (he : starEach (e :: es) X.env = (false, eval e X.env) :: starEach es X.env := by rfl) (hpl : (backTo pos (starEach es X.env)).any (·.1) = false := by rfl) : PE X (.Call (.Name x p) (e :: es) [] pos) (tCB r t) := by
 intro pins s σ H Q I h
 refine wpAny_Call_Name_kw (kde I hg hm hv ?_ hn hdb)
 exact PyProof.Rows.callWith_builtin1 (thn (ha pos pins s σ H _ I h) fun us s1 ⟨vs, H1, I1, r1, q1⟩ => hc pins s1 σ H1 vs us Q I1 r1 q1) he hpl
theorem kbM (hc : CallR X (.type T) r) (hg : Gl X x) (hm : X.mg x = none) (hv : bootBuiltins x = some (.type T)) (ha : PA X (e :: es) t) (hn : x ≠ "__name__" := by decide) (hdb : (x == ("__debug__" : Str)) = false := by decide)
  (he : starEach (e :: es) X.env = (false, eval e X.env) :: starEach es X.env := by rfl) (hpl : (backTo pos (starEach es X.env)).any (·.1) = false := by rfl) : PE X (.Call (.Name x p) (e :: es) [] pos) (tCB r t) := by
 intro pins s σ H Q I h
 refine wpAny_Call_Name_kw (kde I hg hm hv ?_ hn hdb)
 exact PyProof.Rows.callWith_type1 (thn (ha pos pins s σ H _ I h) fun us s1 ⟨vs, H1, I1, r1, q1⟩ => hc pins s1 σ H1 vs us Q I1 r1 q1) he hpl
end
end L2
namespace HT
open PySem PyProof.Rows
section
open PySem.SeqAt
open PySem.AutoSeq1 (wpAny_loadPart')
open PySem.MeetsSeq PySem.MeetsSeq2 PySem.MeetsSeq3
end
section
variable {prog : Program} {w : World} {A : Around} {E : Value → Shared → Prop} {s : Shared}
def sIx (n d : Nat) : Option Int → Nat
 | none => d
 | some v => if v < 0 then (v + (n : Int)).toNat else min v.toNat n
theorem sIx_none (n d : Nat) : sIx n d none = d := rfl
theorem sIx_nat (n d k : Nat) : sIx n d (some (k : Int)) = min k n := by
 show (if (k : Int) < 0 then ((k : Int) + (n : Int)).toNat else min (k : Int).toNat n) = min k n
 rw [if_neg (by omega), Int.toNat_natCast]
end
end HT
namespace L2
open PySem PySem.Spec PyProof.Rows
abbrev TO := St → Hp → (Option Int → Hp → Prop) → Prop
def PO (X : Cx) (e : Option Expr) (t : TO) : Prop :=
 ∀ (pins : List (Addr × Obj)) (s : Shared) (σ : St) (H : Hp) (Q : Option Int → Hp → Prop), Inv X pins σ H s → t σ H Q →
  wpAny (model X.prog X.w) X.A (evalPart e X.env) (fun u s' => ∃ o H', Inv X pins σ H' s' ∧ IsPart u o ∧ Q o H') X.xe s
def kj6 : TO := fun _ H Q => Q none H
def tPart (t : TE) : TO := fun σ H Q => t σ H fun x H1 => ∃ i, x = .int i ∧ Q (some i) H1
theorem intsAre_of {ns : List Int} : ∀ {us : List Value}, Vals (ns.map V.int) us → IntsAre us ns := by
 induction ns with
 | nil => intro us r; rw [S4] at r; cases r; exact .nil
 | cons n ns ih =>
  intro us r
  rw [C1] at r
  cases r with
  | cons r1 r2 =>
   obtain ⟨t, e⟩ := r1
   subst e
   exact .cons n t (ih r2)
section
variable {X : Cx} {e : Expr} {te : TE} {lo hi : Option Expr} {tl th : TO} {pos p2 : Pos}
theorem kkB : PO X none kj6 := by
 intro pins s σ H Q I h
 rw [evalPart_none]
 exact wpAny_pure ⟨none, H, I, .none, h⟩
theorem kf5 (h : PE X e te) : PO X (some e) (tPart te) := by
 intro pins s σ H Q I hw
 rw [evalPart_some]
 refine thn (h pins s σ H _ I hw) fun u s1 ⟨x, H1, I1, r1, q1⟩ => ?_
 obtain ⟨i, rfl, q⟩ := q1
 obtain ⟨t, rfl⟩ := r1
 exact ⟨some i, H1, I1, .int i t, q⟩
def SlR (X : Cx) (r : V → Option Int → Option Int → Hp → VK → Prop) : Prop :=
 ∀ (pins : List (Addr × Obj)) (s : Shared) (σ : St) (H : Hp) (x : V) (v vl vu : Value) (lo hi : Option Int) (sl : Addr) (Q : VK), Inv X pins σ H s → RelV x v → s.heap.IsSliceOf sl vl vu .none → IsPart vl lo → IsPart vu hi → r x lo hi H Q →
  ∃ T id, typeLookup (.type T) "__getitem__" = pure (some (.builtin id)) ∧ s.TypeIs v T ∧ wpAny (model X.prog X.w) X.A (getItem v (.ref sl)) (EP X pins σ Q) X.xe s
theorem SlR.or {r r' : V → Option Int → Option Int → Hp → VK → Prop} (h : SlR X r) (h' : SlR X r') : SlR X (fun x lo hi H Q => r x lo hi H Q ∨ r' x lo hi H Q) := by
 intro pins s σ H x v vl vu lo hi sl Q I rx hs pl pu q
 rcases q with q | q
 ·exact h pins s σ H x v vl vu lo hi sl Q I rx hs pl pu q
 ·exact h' pins s σ H x v vl vu lo hi sl Q I rx hs pl pu q
def tSl (r : V → Option Int → Option Int → Hp → VK → Prop) (te : TE) (tl th : TO) : TE := fun σ H Q => te σ H fun x H1 => tl σ H1 fun l H2 => th σ H2 fun u H3 => r x l u H3 Q
theorem kgB {r : V → Option Int → Option Int → Hp → VK → Prop} (hr : SlR X r) (he : PE X e te) (hl : PO X lo tl) (hu : PO X hi th) : PE X (.Subscript e (.Slice lo hi none p2) pos) (tSl r te tl th) := by
 intro pins s σ H Q I h
 refine Subscript_ (thn (he pins s σ H _ I h) fun v s1 ⟨x, H1, I1, r1, q1⟩ => ?_)
 refine wpAny_Slice (thn (hl pins s1 σ H1 _ I1 q1) fun vl s2 ⟨l, H2, I2, pl, q2⟩ => thn (hu pins s2 σ H2 _ I2 q2) fun vu s3 ⟨u, H3, I3, pu, q3⟩ => ?_)
 rw [evalPart_none]
 refine wpAny_pure ?_
 have I4 : Inv X pins σ H3 { s3 with heap := s3.heap.push { cls := .type "slice", data := .fields #[vl, vu, .none] } } := I3.kept (t' := s3.toks) fun b ob q => Heap.get?_push_of_some _ q
 obtain ⟨T, id, hT, ht, hg⟩ := hr pins { s3 with heap := s3.heap.push { cls := .type "slice", data := .fields #[vl, vu, .none] } } σ H3 x v vl vu l u s3.heap.objs.size Q I4 r1 (Heap.IsSliceOf.new ..) pl pu q3
 show wpAny (model X.prog X.w) X.A (subscriptTail e (.Slice lo hi none p2) v (.ref s3.heap.objs.size)) (EP X pins σ Q) X.xe { s3 with heap := s3.heap.push { cls := .type "slice", data := .fields #[vl, vu, .none] } }
 exact tail_any (ops := [.ref s3.heap.objs.size, v]) ht hT hg (by with_unfolding_all rfl)
def cutV (xs : List V) (lo hi : Option Int) : List V := (xs.drop (HT.sIx xs.length 0 lo)).take (HT.sIx xs.length xs.length hi - HT.sIx xs.length 0 lo)
theorem kgk (xs : List V) (lo hi : Option Int) : (cutV xs lo hi).length ≤ xs.length := by
 unfold cutV
 rw [C0, RY]
 omega
end
end L2
namespace L2
open PySem PySem.Spec PyProof.Rows
def ixN (n : Nat) (i : Int) : Option Nat := if 0 ≤ i then (if i < n then some i.toNat else none) else if -(n : Int) ≤ i then some (i + n).toNat else none
def atI {α : Type} (xs : List α) (i : Int) : Option α := (ixN xs.length i).bind fun j => xs[j]?
theorem kik {n : Nat} {i : Int} {j : Nat} (h : ixN n i = some j) : seqIndex? i n = some j ∧ j < n ∧ -(n : Int) ≤ i ∧ i < n := by
 unfold ixN at h
 by_cases h0 : 0 ≤ i
 ·rw [if_pos h0] at h
  by_cases h1 : i < n
  ·rw [if_pos h1] at h
   have e : i.toNat = j := Option.some.inj h
   exact ⟨by rw [seqIndex_of h0 h1, e], by omega, by omega, h1⟩
  ·rw [if_neg h1] at h; cases h
 ·rw [if_neg h0] at h
  by_cases h1 : -(n : Int) ≤ i
  ·rw [if_pos h1] at h
   have e : (i + n).toNat = j := Option.some.inj h
   exact ⟨by rw [seqIndex_neg (by omega) h1, e], by omega, h1, by omega⟩
  ·rw [if_neg h1] at h; cases h
theorem kgo {α : Type} {xs : List α} {i : Int} {v : α} (h : atI xs i = some v) : ∃ j, seqIndex? i xs.length = some j ∧ xs[j]? = some v ∧ j < xs.length ∧ -(xs.length : Int) ≤ i ∧ i < xs.length := by
 unfold atI at h
 cases e : ixN xs.length i with
 | none => rw [e] at h; cases h
 | some j =>
  rw [e] at h
  obtain ⟨h1, h2, h3, h4⟩ := kik e
  exact ⟨j, h1, h, h2, h3, h4⟩
theorem kbK {α : Type} {xs : List α} {j : Nat} {v : α} (h : xs[j]? = some v) : atI xs (j : Int) = some v := by
 have hj : j < xs.length := (CZ.mp h).1
 have e : ixN xs.length (j : Int) = some j := by
  unfold ixN
  rw [if_pos (by omega), if_pos (by omega)]; simp
 unfold atI; rw [e]; exact h
def kk1 (b : Expr) : Prop := ∀ o i, subscripted b false o i = operate [o, i] (getItem o i)
def IxR (X : Cx) (r : R2) : Prop :=
 ∀ (value slice : Expr) (pins : List (Addr × Obj)) (s : Shared) (σ : St) (H : Hp) (x y : V) (v u : Value) (Q : VK), Inv X pins σ H s → RelV x v → RelV y u → r x y H Q →
  subscripted slice false v u = operate [v, u] (getItem v u) → wpAny (model X.prog X.w) X.A (subscriptTail value slice v u) (EP X pins σ Q) X.xe s
def MtR (X : Cx) (id : String) (r : V → List V → Hp → VK → Prop) : Prop :=
 ∀ (pins : List (Addr × Obj)) (s : Shared) (σ : St) (H : Hp) (x : V) (xs : List V) (v : Value) (us : List Value) (Q : VK), Inv X pins σ H s → RelV x v → Vals xs us → r x xs H Q →
  wpAny (model X.prog X.w) X.A (call (.builtin id) (v :: us)) (EP X pins σ Q) X.xe s
section
variable {X : Cx} {a b : Expr} {ta tb : TE} {pos : Pos}
theorem IxR.or {r r' : R2} (h : IxR X r) (h' : IxR X r') : IxR X (fun x y H Q => r x y H Q ∨ r' x y H Q) := by
 intro value slice pins s σ H x y v u Q I rx ry q hs
 rcases q with q | q
 ·exact h value slice pins s σ H x y v u Q I rx ry q hs
 ·exact h' value slice pins s σ H x y v u Q I rx ry q hs
theorem MtR.or {id : String} {r r' : V → List V → Hp → VK → Prop} (h : MtR X id r) (h' : MtR X id r') : MtR X id (fun x xs H Q => r x xs H Q ∨ r' x xs H Q) := by
 intro pins s σ H x xs v us Q I rx rs q
 rcases q with q | q
 ·exact h pins s σ H x xs v us Q I rx rs q
 ·exact h' pins s σ H x xs v us Q I rx rs q
theorem pe_ix {r : R2} (hr : IxR X r) (ha : PE X a ta) (hb : PE X b tb) (hs : kk1 b) : PE X (.Subscript a b pos) (tOp r ta tb) := by
 intro pins s σ H Q I h
 exact Subscript_ (binT ha hb I h fun v u s2 x y H2 I2 rx ry q => hr a b pins s2 σ H2 x y v u Q I2 rx ry q (hs _ _))
def rIxL (K : CA) : R2 := fun x y H Q => ∃ p xs i v, x = .ref p ∧ y = .int i ∧ SqL K H p xs ∧ atI xs i = some v ∧ Q v H
def rIxT (K : CA) : R2 := fun x y H Q => ∃ p xs i v, x = .ref p ∧ y = .int i ∧ SqT K H p xs ∧ atI xs i = some v ∧ Q v H
theorem kbx : IxR X (rIxL X.K) := by
 intro value slice pins s σ H x y v u Q I rx ry h hs
 obtain ⟨p, xs, i, z, rfl, rfl, hq, he, q⟩ := h
 cases rx
 obtain ⟨t, rfl⟩ := ry
 obtain ⟨its, r, pl, hz⟩ := I.list hq
 obtain ⟨j, h1, h2, h3, h4, h5⟩ := kgo he
 obtain ⟨w, ew, rw'⟩ := r.get h2
 have hl := r.length
 have hn := keK
 have fin : EP X pins σ Q w s := ⟨z, H, I, rw', q⟩
 by_cases h0 : 0 ≤ i
 ·have hj : i.toNat = j := by
   rw [seqIndex_of h0 h5] at h1
   exact Option.some.inj h1
  exact item_listR pl.isList h0 (by omega) (by rw [hj]; simpa using ew) fin hs
 ·have hj : (i + (its.toArray.size : Int)).toNat = j := by
   rw [seqIndex_neg (by omega) h4] at h1
   rw [C3, ← hl]
   exact Option.some.inj h1
  exact subscriptTail_builtinR (x := w) pl.isList.typeIs slot_list_getitem.lookup
   (wpAny_getItem_list_neg (Q := fun r s' => r = w ∧ EP X pins σ Q r s') pl.isList (by omega) (by rw [C3] <;> omega) (by omega) (by rw [hj]; simpa using ew) ⟨rfl, fin⟩) hs
theorem kgQ : IxR X (rIxT X.K) := by
 intro value slice pins s σ H x y v u Q I rx ry h hs
 obtain ⟨p, xs, i, z, rfl, rfl, hq, he, q⟩ := h
 cases rx
 obtain ⟨t, rfl⟩ := ry
 obtain ⟨its, r, pl, hz⟩ := I.tuple hq
 obtain ⟨j, h1, h2, h3, h4, h5⟩ := kgo he
 obtain ⟨w, ew, rw'⟩ := r.get h2
 have hl := r.length
 have hn := keK
 have fin : EP X pins σ Q w s := ⟨z, H, I, rw', q⟩
 exact subscriptTail_builtinR (x := w) pl.typeIs slot_tuple_getitem.lookup
  (getItem_tuple (j := j) (Q := fun r s' => r = w ∧ EP X pins σ Q r s') pl (by omega) (by omega) (by rw [C3, ← hl]; exact h1) (by simpa using ew) ⟨rfl, fin⟩) hs
theorem khi (its : List Value) (n j : Nat) (u : Value) : Obj.mapSeq (·.setIfInBounds j u) { cls := .type "list", data := .seq its.toArray n } = { cls := .type "list", data := .seq (its.set j u).toArray n } := by
 simp [Obj.mapSeq]
theorem Inv.lst {pins : List (Addr × Obj)} {σ : St} {H : Hp} {s : Shared} {p : Addr} {xs : List V} (I : Inv X pins σ H s) (h : H p = some (.lst xs)) :
  ∃ (its : List Value) (n : Nat), Vals xs its ∧ s.heap.get? p = some { cls := .type "list", data := .seq its.toArray n } ∧ xs.length ≤ sizeLine := by
 obtain ⟨z, its, n, r, e⟩ := I.hok p _ h
 exact ⟨its, n, r, e, z⟩
theorem Inv.lstUpd {pins : List (Addr × Obj)} {σ : St} {H : Hp} {s : Shared} {p : Addr} {xs ys : List V} {its its' : List Value} {n n' : Nat} {f : Obj → Obj} (I : Inv X pins σ H s) (h : H p = some (.lst xs))
  (ho : s.heap.get? p = some { cls := .type "list", data := .seq its.toArray n }) (hf : f { cls := .type "list", data := .seq its.toArray n } = { cls := .type "list", data := .seq its'.toArray n' }) (r : Vals ys its') (hz : ys.length ≤ sizeLine) (t : Nat) :
  Inv X pins σ (upd H p (.lst ys)) { s with heap := s.heap.update p f, toks := t } := by
 have e : (s.heap.update p f).get? p = some { cls := .type "list", data := .seq its'.toArray n' } := by
  rw [Heap.get?_update_self f ho (by rw [hf] <;> rfl), hf]
 refine I.write (x := p) (e := p) (by rw [h]; trivial) (.inl rfl) (fun b u hb q => (Heap.get?_update_other _ _ (Ne.symm hb)).trans q) ⟨_, e⟩ ?_
 exact ⟨hz, its', n', r, e⟩
def rSetL : V → V → V → Hp → (Hp → Prop) → Prop := fun o i v H Q => ∃ p xs k j, o = .ref p ∧ i = .int k ∧ H p = some (.lst xs) ∧ ixN xs.length k = some j ∧ Q (upd H p (.lst (xs.set j v)))
theorem set_list : PSet X rSetL := by
 intro pins s σ H o i v ov iv u Q I ro ri rv h
 obtain ⟨p, xs, k, j, rfl, rfl, hp, hj, q⟩ := h
 cases ro
 obtain ⟨t, rfl⟩ := ri
 obtain ⟨its, n, r, ho, hz⟩ := I.lst hp
 obtain ⟨h1, h2, h3, h4⟩ := kik hj
 have hl := r.length
 have hn := keK
 have I' : Inv X pins σ (upd H p (.lst (xs.set j v))) { s with heap := s.heap.update p (Obj.mapSeq (·.setIfInBounds j u)) } :=
  I.lstUpd hp ho (khi its n j u) (r.set rv j) (by rw [List.length_set]; exact hz) s.toks
 by_cases h0 : 0 ≤ k
 ·have hk : k.toNat = j := by
   rw [seqIndex_of h0 h4] at h1
   exact Option.some.inj h1
  exact PySem.W.ki_setAt ho h0 (by omega) (by rw [C3, ← hl]; exact h4) (by rw [hk]; exact ⟨_, I', q⟩)
 ·have hk : (k + (its.toArray.size : Int)).toNat = j := by
   rw [seqIndex_neg (by omega) h3] at h1
   rw [C3, ← hl]
   exact Option.some.inj h1
  exact PySem.W.ki_setBack ho (by omega) (by rw [C3, ← hl]; exact h3) (by omega) (by rw [hk]; exact ⟨_, I', q⟩)
theorem kfo (lo hi : Option Int) (n : Nat) : (sliceBounds lo hi none n).1 = ((HT.sIx n 0 lo : Nat) : Int) ∧ (sliceBounds lo hi none n).2.1 = ((HT.sIx n n hi : Nat) : Int) ∧ (sliceBounds lo hi none n).2.2 = 1 := by
 refine ⟨?_, ?_, rfl⟩
 ·cases lo with
  | none => simp [sliceBounds, HT.sIx]
  | some i =>
   simp only [sliceBounds, HT.sIx, S5, show (1 : Int) > 0 by decide, if_true]
   by_cases h : i < 0
   ·simp only [h, if_true] <;> omega
   ·simp only [h, if_false] <;> omega
 ·cases hi with
  | none => simp [sliceBounds, HT.sIx]
  | some i =>
   simp only [sliceBounds, HT.sIx, S5, show (1 : Int) > 0 by decide, if_true]
   by_cases h : i < 0
   ·simp only [h, if_true] <;> omega
   ·simp only [h, if_false] <;> omega
theorem keV (its : List Value) (lo hi : Option Int) : slicePick its.toArray lo hi none = ((its.drop (HT.sIx its.length 0 lo)).take (HT.sIx its.length its.length hi - HT.sIx its.length 0 lo)).toArray := by
 obtain ⟨h1, h2, h3⟩ := kfo lo hi its.toArray.size
 unfold slicePick
 rw [h1, h2, h3]
 simp only [sliceRange_one, pick_run, C3] <;> rfl
def rSlL (K : CA) : V → Option Int → Option Int → Hp → VK → Prop := fun x lo hi H Q => ∃ a xs, x = .ref a ∧ SqL K H a xs ∧ ∀ p, H p = none → Q (.ref p) (upd H p (.lst (cutV xs lo hi)))
theorem khL : SlR X (rSlL X.K) := by
 intro pins s σ H x v vl vu lo hi sl Q I rx hs pl pu h
 obtain ⟨a, xs, rfl, hx, q⟩ := h
 cases rx
 obtain ⟨its, r, ht, hz⟩ := I.list hx
 have hlen := r.length
 refine ⟨"list", _, slot_list_getitem.lookup, ht.isList.typeIs, ?_⟩
 refine wpAny_getItem_list_slice ht.isList hs pl pu .none (by simp) ?_ (by rw [C3] <;> omega)
 rw [keV, ← hlen]
 refine ⟨.ref s.heap.objs.size, _, I.laid (t' := s.toks) (o := .lst (cutV xs lo hi)) (fun b ob q => Heap.get?_push_of_some _ q) (CC _) ?_, rfl, q _ (I.hok.fresh (CC _))⟩
 exact ⟨CN (kgk xs lo hi) hz, _, 0, (r.drop (HT.sIx xs.length 0 lo)).take (HT.sIx xs.length xs.length hi - HT.sIx xs.length 0 lo), Heap.get?_push_size _ rfl⟩
def flatV : V → Bool
 | .non => true
 | .bl _ => true
 | .int _ => true
 | .str _ => true
 | _ => false
def eqV : V → V → Bool
 | .non, .non => true
 | .bl a, .bl b => a == b
 | .bl a, .int b => (if a then 1 else 0) == b
 | .int a, .bl b => a == (if b then 1 else 0)
 | .int a, .int b => a == b
 | .str a, .str b => a == b
 | _, _ => false
theorem klv {A : Around} {s : Shared} {y x : V} {u v : Value} (ry : RelV y u) (rx : RelV x v) (fy : flatV y = true) (fx : flatV x = true) : SeqAt.EqAt A s u v (eqV y x) := by
 cases y with
 | non =>
  cases ry
  cases x with
  | non => cases rx; exact SeqAt.EqAt.same _
  | bl b => cases rx; exact SeqAt.EqAt.none_bool b
  | int b => obtain ⟨t, rfl⟩ := rx; exact SeqAt.EqAt.none_int b t
  | str b => obtain ⟨t, rfl⟩ := rx; exact SeqAt.EqAt.none_str b t
  | _ => exact absurd (show false = true from fx) CW
 | bl a =>
  cases ry
  cases x with
  | non => cases rx; exact SeqAt.EqAt.bool_none a
  | bl b => cases rx; exact SeqAt.EqAt.bool_bool a b
  | int b => obtain ⟨t, rfl⟩ := rx; exact SeqAt.EqAt.bool_int a b t
  | str b => obtain ⟨t, rfl⟩ := rx; exact SeqAt.EqAt.bool_str a b t
  | _ => exact absurd (show false = true from fx) CW
 | int a =>
  obtain ⟨t', rfl⟩ := ry
  cases x with
  | non => cases rx; exact SeqAt.EqAt.int_none a t'
  | bl b => cases rx; exact SeqAt.EqAt.int_bool a t' b
  | int b => obtain ⟨t, rfl⟩ := rx; exact SeqAt.EqAt.int_int a t' b t
  | str b => obtain ⟨t, rfl⟩ := rx; exact SeqAt.EqAt.int_str a t' b t
  | _ => exact absurd (show false = true from fx) CW
 | str a =>
  obtain ⟨t', rfl⟩ := ry
  cases x with
  | non => cases rx; exact SeqAt.EqAt.str_none a t'
  | bl b => cases rx; exact SeqAt.EqAt.str_bool a t' b
  | int b => obtain ⟨t, rfl⟩ := rx; exact SeqAt.EqAt.str_int a t' b t
  | str b => obtain ⟨t, rfl⟩ := rx; exact SeqAt.EqAt.str_str a t' b t
  | _ => exact absurd (show false = true from fx) CW
 | _ => exact absurd (show false = true from fy) CW
def eqU (x : V) (u : Value) : Bool := match u with
 | .none => eqV .non x
 | .bool b => eqV (.bl b) x
 | .int i _ => eqV (.int i) x
 | .str z _ => eqV (.str z) x
 | _ => false
theorem kjW {x y : V} {u : Value} (r : RelV y u) (f : flatV y = true) : eqU x u = eqV y x := by
 cases y with
 | non => cases r; rfl
 | bl b => cases r; rfl
 | int i => obtain ⟨t, rfl⟩ := r; rfl
 | str z => obtain ⟨t, rfl⟩ := r; rfl
 | _ => exact absurd (show false = true from f) CW
theorem keq {x : V} : ∀ {xs : List V} {us : List Value}, Vals xs us → xs.all flatV = true → us.any (eqU x) = xs.any fun y => eqV y x
 | _, _, .nil, _ => rfl
 | y :: xs, u :: us, .cons r t, f => by
  rw [List.all_cons, Sf] at f
  rw [RZ, RZ, kjW r f.1, keq t f.2]
theorem kdc {A : Around} {s : Shared} {x : V} {v : Value} (rx : RelV x v) (fx : flatV x = true) : ∀ {xs : List V} {us : List Value}, Vals xs us → xs.all flatV = true → ∀ u ∈ us, SeqAt.EqAt A s u v (eqU x u)
 | _, _, .nil, _ => fun u hu => by cases hu
 | y :: xs, u :: us, .cons r t, f => fun u' hu => by
  rw [List.all_cons, Sf] at f
  rcases C6.mp hu with rfl | hu
  ·rw [kjW r f.1]; exact klv r rx f.1 fx
  ·exact kdc rx fx t f.2 u' hu
def inV (x : V) (xs : List V) : Bool := xs.any fun y => eqV y x
def rIn (K : CA) (neg : Bool) : R2 := fun x y H Q => ∃ p xs, y = .ref p ∧ (SqL K H p xs ∨ SqT K H p xs) ∧ flatV x = true ∧ xs.all flatV = true ∧ Q (.bl (if neg then !inV x xs else inV x xs)) H
theorem kcG : OpR X (compareOp .In) (rIn X.K false) := by
 intro pins s σ H x y v u Q I rx ry h
 obtain ⟨p, xs, rfl, hq, fx, fs, q⟩ := h
 cases ry
 rcases hq with hq | hq
 ·obtain ⟨its, r, pl, hz⟩ := I.list hq
  refine SeqAt.in_listAt (eqU x) pl.isList (fun w hw => kdc rx fx r fs w (by simpa using hw)) ⟨.bl _, H, I, rfl, ?_⟩
  rw [show its.toArray.any (eqU x) = its.any (eqU x) by simp, keq r fs]
  exact q
 ·obtain ⟨its, r, pl, hz⟩ := I.tuple hq
  refine SeqAt.in_tupleAt (eqU x) pl (fun w hw => kdc rx fx r fs w (by simpa using hw)) ⟨.bl _, H, I, rfl, ?_⟩
  rw [show its.toArray.any (eqU x) = its.any (eqU x) by simp, keq r fs]
  exact q
theorem kfz : OpR X (compareOp .NotIn) (rIn X.K true) := by
 intro pins s σ H x y v u Q I rx ry h
 obtain ⟨p, xs, rfl, hq, fx, fs, q⟩ := h
 cases ry
 rcases hq with hq | hq
 ·obtain ⟨its, r, pl, hz⟩ := I.list hq
  refine SeqAt.notIn_listAt (eqU x) pl.isList (fun w hw => kdc rx fx r fs w (by simpa using hw)) ⟨.bl _, H, I, rfl, ?_⟩
  rw [show its.toArray.any (eqU x) = its.any (eqU x) by simp, keq r fs]
  exact q
 ·obtain ⟨its, r, pl, hz⟩ := I.tuple hq
  refine SeqAt.notIn_tupleAt (eqU x) pl (fun w hw => kdc rx fx r fs w (by simpa using hw)) ⟨.bl _, H, I, rfl, ?_⟩
  rw [show its.toArray.any (eqU x) = its.any (eqU x) by simp, keq r fs]
  exact q
theorem ka2 : CallR X (.builtin "len") (fun xs H Q => ∃ p ys, xs = [.ref p] ∧ (SqL X.K H p ys ∨ SqT X.K H p ys) ∧ Q (.int ys.length) H) := by
 intro pins s σ H xs us Q I r h
 obtain ⟨p, ys, rfl, hq, q⟩ := h
 obtain ⟨u, rfl, rx⟩ := vals1 r
 cases rx
 have hn := keK
 rcases hq with hq | hq
 ·obtain ⟨its, r', pl, hz⟩ := I.list hq
  have hlen := r'.length
  exact Calls.call_len_list pl.isList (by simp only [C3] <;> omega) ⟨.int ys.length, H, I.tok _, ⟨s.toks + 1, by rw [C3, hlen]⟩, q⟩
 ·obtain ⟨its, r', pl, hz⟩ := I.tuple hq
  have hlen := r'.length
  exact len_tuple pl (by simp only [C3] <;> omega) ⟨.int ys.length, H, I.tok _, ⟨s.toks + 1, by rw [C3, hlen]⟩, q⟩
theorem CallR.or {f : Value} {r r' : List V → Hp → VK → Prop} (h : CallR X f r) (h' : CallR X f r') : CallR X f (fun xs H Q => r xs H Q ∨ r' xs H Q) := by
 intro pins s σ H xs us Q I rs q
 rcases q with q | q
 ·exact h pins s σ H xs us Q I rs q
 ·exact h' pins s σ H xs us Q I rs q
theorem kbB : CallR X (.type "list") (fun xs H Q => ∃ p ys, xs = [.ref p] ∧ (SqL X.K H p ys ∨ SqT X.K H p ys) ∧ ∀ l, H l = none → Q (.ref l) (upd H l (.lst ys))) := by
 intro pins s σ H xs us Q I r h
 obtain ⟨p, ys, rfl, hq, q⟩ := h
 obtain ⟨u, rfl, rx⟩ := vals1 r
 cases rx
 have fin : ∀ (its : List Value), Vals ys its → ys.length ≤ sizeLine → ∀ (h' : Heap) (c' : Nat), (∀ b o', s.heap.get? b = some o' → h'.get? b = some o') →
   h'.get? s.heap.objs.size = some { cls := .type "list", dict := none, data := .seq its.toArray c', slots := #[] } → EP X pins σ Q (.ref s.heap.objs.size) { s with heap := h' } := fun its r' hz h' c' kp e =>
  ⟨.ref s.heap.objs.size, _, I.laid (t' := s.toks) kp (CC _) (show ObjOk X.prog X.w _ h' _ (.lst ys) from ⟨hz, its, c', r', e⟩), rfl, q _ (I.hok.fresh (CC _))⟩
 rcases hq with hq | hq
 ·obtain ⟨its, r', pl, hz⟩ := I.list hq
  have hlen := r'.length
  obtain ⟨o, ho, hc, n, hd⟩ := pl.isList
  exact call_list_seq p (.inl rfl) ho hc hd (fun h' c' kp e => fin its r' hz h' c' kp e) (by simp only [C3] <;> omega)
 ·obtain ⟨its, r', pl, hz⟩ := I.tuple hq
  have hlen := r'.length
  obtain ⟨o, ho, hc, n, hd⟩ := pl
  exact call_list_seq p (.inr rfl) ho hc hd (fun h' c' kp e => fin its r' hz h' c' kp e) (by simp only [C3] <;> omega)
def tyV (K : CA) (T : String) (x : V) (H : Hp) : Prop := match x with
 | .str _ => T = "str"
 | .int _ => T = "int"
 | .ref p => (T = "list" ∧ ∃ xs, SqL K H p xs) ∨ (T = "tuple" ∧ ∃ o, K.lookup p = some o ∧ o.cls = .type "tuple" ∧ o.dict = none) ∨
   (T = "dict" ∧ ((∃ kvs, H p = some (.dK kvs)) ∨ ∃ kvs, H p = some (.dT kvs))) ∨ (T = "set" ∧ ∃ S n, H p = some (.set S n))
 | _ => False
theorem khs {pins : List (Addr × Obj)} {σ : St} {H : Hp} {s : Shared} {T : String} {x : V} {v : Value} (I : Inv X pins σ H s) (r : RelV x v) (ty : tyV X.K T x H) :
  s.TypeIs v T ∧ ∀ a, v = .ref a → ∃ ob, s.heap.get? a = some ob ∧ ob.dict = none := by
 cases x with
 | str z =>
  obtain ⟨t, rfl⟩ := r
  cases (show T = "str" from ty)
  exact ⟨typeIs_str s z t, fun _ e => nomatch e⟩
 | int i =>
  obtain ⟨t, rfl⟩ := r
  cases (show T = "int" from ty)
  exact ⟨typeIs_int s i t, fun _ e => nomatch e⟩
 | ref p =>
  cases r
  rcases ty with ⟨rfl, xs, hq⟩ | ⟨rfl, o, hk, hc, hd⟩ | ⟨rfl, hk⟩ | ⟨rfl, S, n, hk⟩
  ·obtain ⟨its, _, pl, _⟩ := I.list hq
   refine ⟨pl.isList.typeIs, fun a e => ?_⟩
   cases e
   obtain ⟨o, n, e, c, hd, _⟩ := pl
   exact ⟨o, e, hd⟩
  ·refine ⟨⟨o, I.kIn p o hk, hc⟩, fun a e => ?_⟩
   cases e
   exact ⟨o, I.kIn _ o hk, hd⟩
  ·have z : ∃ o, s.heap.get? p = some o ∧ o.ExactDict := by
    rcases hk with ⟨kvs, hk⟩ | ⟨kvs, hk⟩
    ·obtain ⟨_, _, _, _, o, _, _, e, ex, _⟩ := I.hok p _ hk
     exact ⟨o, e, ex⟩
    ·obtain ⟨_, _, _, _, o, _, _, e, ex, _⟩ := I.hok p _ hk
     exact ⟨o, e, ex⟩
   obtain ⟨o, e, ex⟩ := z
   refine ⟨⟨o, e, ex.1⟩, fun a e2 => ?_⟩
   cases e2
   exact ⟨o, e, ex.2.1⟩
  ·obtain ⟨o, _, _, _, e, ex, _⟩ := I.hok p _ hk
   refine ⟨⟨o, e, ex.1⟩, fun a e2 => ?_⟩
   cases e2
   exact ⟨o, e, ex.2.1⟩
 | _ => exact False.elim ty
def tBM0 (K : CA) (T : String) (r : V → List V → Hp → VK → Prop) (to : TE) : TE := fun σ H Q => to σ H fun x H1 => tyV K T x H1 ∧ r x [] H1 Q
def tBM (K : CA) (T : String) (r : V → List V → Hp → VK → Prop) (to : TE) (t : TA) : TE := fun σ H Q => to σ H fun x H1 => tyV K T x H1 ∧ t σ H1 fun xs H2 => r x xs H2 Q
variable {o e : Expr} {es : List Expr} {to : TE} {t : TA} {name : Str} {apos cpos : Pos} {T id : String} {r : V → List V → Hp → VK → Prop}
theorem klk (pa : PlainAttrs T) (slot : Slot T name id) (hty : typeOf (.builtin id) = pure (.type "method_descriptor")) (hm : MtR X id r) (ho : PE X o to)
  (hbase : attributeBase o name X.env (eval o X.env) = eval o X.env := by rfl) (hline : (apos.endLine == cpos.line) = true := by rfl) : PE X (.Call (.Attribute o name apos) [] [] cpos) (tBM0 X.K T r to) := by
 intro pins s σ H Q I h
 refine wpAny_Call_method0_late hbase hline (thn (ho pins s σ H _ I h) fun v s1 ⟨x, H1, I1, r1, ty, q1⟩ => ?_)
 obtain ⟨h1, h2⟩ := khs I1 r1 ty
 exact ⟨T, id, pa, slot, hty, h1, h2, Calls.callWith_builtin rfl (PySem.evalArgs_none (hm pins s1 σ H1 x [] v [] Q I1 r1 .nil q1))⟩
theorem pe_bm (pa : PlainAttrs T) (slot : Slot T name id) (hty : typeOf (.builtin id) = pure (.type "method_descriptor")) (hm : MtR X id r) (ho : PE X o to) (ha : PA X (e :: es) t)
  (hbase : attributeBase o name X.env (eval o X.env) = eval o X.env := by rfl)
  (hfew : ((backTo cpos (starEach (e :: es) X.env)).all (fun x => !x.1) && (backToKw cpos (keywordEach [] X.env)).all (fun x => x.1.isSome)
   && decide ((e :: es).length + ([] : List Keyword).length + (if ([] : List Keyword).isEmpty then 0 else 1) < 30)) = true := by rfl)
  (hline : (apos.endLine == cpos.line) = true := by rfl) (hs : starEach (e :: es) X.env = (false, eval e X.env) :: starEach es X.env := by rfl) (hplain : (backTo cpos (starEach es X.env)).any (·.1) = false := by rfl) :
  PE X (.Call (.Attribute o name apos) (e :: es) [] cpos) (tBM X.K T r to t) := by
 intro pins s σ H Q I h
 refine wpAny_Call_method_late hbase hfew hline rfl (thn (ho pins s σ H _ I h) fun v s1 ⟨x, H1, I1, r1, ty, q1⟩ => ?_)
 obtain ⟨h1, h2⟩ := khs I1 r1 ty
 refine ⟨T, id, pa, slot, hty, h1, h2, ?_⟩
 have hA := ha cpos pins s1 σ H1 _ I1 q1
 rw [hs] at hA ⊢
 refine Calls.callWith_builtin (by show (false || (backTo cpos (starEach es X.env)).any (·.1)) = false; rw [hplain] <;> rfl) (Calls.evalArgs_plain ?_)
 exact thn hA fun us s2 ⟨vs, H2, I2, r2, q2⟩ => hm pins s2 σ H2 x vs v us Q I2 r1 r2 q2
end
end L2
namespace L2
open PySem PySem.Spec PyProof.Rows
def MtM (X : Cx) (id : String) (r : V → List V → Hp → VK → Prop) : Prop :=
 ∀ (pins : List (Addr × Obj)) (s : Shared) (σ : St) (H : Hp) (x : V) (xs : List V) (v : Value) (us : List Value) (Q : VK), Inv X pins σ H s → RelV x v → Vals xs us → r x xs H Q →
  wpAny (model X.prog X.w) X.A (call (.builtin id) (v :: us)) (EP X pins σ Q) X.xe s
theorem Vals.one : ∀ {x : V} {us : List Value}, Vals [x] us → ∃ u, us = [u] ∧ RelV x u
 | _, _, .cons r .nil => ⟨_, rfl, r⟩
theorem Vals.two : ∀ {x y : V} {us : List Value}, Vals [x, y] us → ∃ u v, us = [u, v] ∧ RelV x u ∧ RelV y v
 | _, _, _, .cons r (.cons q .nil) => ⟨_, _, rfl, r, q⟩
theorem Vals.zero : ∀ {us : List Value}, Vals [] us → us = []
 | _, .nil => rfl
theorem Vals.dropLast {xs : List V} {us : List Value} (h : Vals xs us) : Vals xs.dropLast us.dropLast := by
 induction h with
 | nil => exact .nil
 | cons r t ih =>
  cases t with
  | nil => exact .nil
  | cons q t' => exact .cons r ih
theorem Vals.eraseIdx : ∀ {xs : List V} {us : List Value} (i : Nat), Vals xs us → Vals (xs.eraseIdx i) (us.eraseIdx i)
 | _, _, _, .nil => .nil
 | _, _, 0, .cons _ t => t
 | _, _, i + 1, .cons r t => .cons r (Vals.eraseIdx i t)
theorem Vals.reverse {xs : List V} {us : List Value} (h : Vals xs us) : Vals xs.reverse us.reverse := by
 induction h with
 | nil => exact .nil
 | cons r t ih => rw [Sw, Sw]; exact Vals.append ih (.cons r .nil)
theorem Vals.rep {xs : List V} {us : List Value} (h : Vals xs us) : ∀ k : Nat, Vals (CI k xs).flatten (CI k us).flatten
 | 0 => .nil
 | k + 1 => by
  rw [RJ, RJ, Rf, Rf]
  exact Vals.append h (Vals.rep h k)
theorem kho {α : Type} (l : List α) : l.eraseIdx (l.length - 1) = l.dropLast := by
 induction l with
 | nil => rfl
 | cons a r ih =>
  cases r with
  | nil => rfl
  | cons b r =>
   have e : (a :: b :: r).length - 1 = ((b :: r).length - 1) + 1 := by
    have h1 : (a :: b :: r).length = r.length + 2 := rfl
    have h2 : (b :: r).length = r.length + 1 := rfl
    omega
   rw [e, List.eraseIdx_cons_succ, ih]
   all_goals rfl
theorem foldl_rep (its : List Value) : ∀ (k : Nat) (acc : List Value),
  List.foldl (fun x1 x2 => x1 ++ x2) acc.toArray (CI k its.toArray) = (acc ++ (CI k its).flatten).toArray
 | 0, acc => by simp
 | k + 1, acc => by
  have e : acc.toArray ++ its.toArray = (acc ++ its).toArray := by simp
  have e2 : (acc ++ its) ++ (CI k its).flatten = acc ++ (CI (k + 1) its).flatten := by
   rw [RJ, Rf, R0]
  rw [← e2, ← foldl_rep its k (acc ++ its), ← e, RJ, List.foldl_cons]
section
variable {X : Cx} {pins : List (Addr × Obj)} {σ : St} {H : Hp} {s : Shared} {l b : Addr} {xs ys zs : List V}
theorem Inv.lset {its its' : List Value} {n : Nat} {f : Array Value → Array Value} {t' : Nat} (I : Inv X pins σ H s) (hH : H l = some (.lst xs))
  (e : s.heap.get? l = some { cls := .type "list", data := .seq its.toArray n }) (hf : f its.toArray = its'.toArray) (hv : Vals ys its') (hz : ys.length ≤ sizeLine) :
  Inv X pins σ (upd H l (.lst ys)) { s with heap := s.heap.update l (Obj.mapSeq f), toks := t' } := by
 have q := PySem.IsL.update e f
 rw [hf] at q
 refine I.write (x := l) (e := l) (by rw [hH]; exact trivial) (.inl rfl) (fun b' u hb hu => (Heap.get?_update_other s.heap (Obj.mapSeq f) (Ne.symm hb)).trans hu) ⟨_, q⟩ ?_
 exact ⟨hz, its', _, hv, q⟩
theorem Inv.lnew {its : List Value} {t' : Nat} (I : Inv X pins σ H s) (hv : Vals ys its) (hz : ys.length ≤ sizeLine) :
  Inv X pins σ (upd H s.heap.objs.size (.lst ys)) { s with heap := s.heap.push { cls := .type "list", data := .seq its.toArray }, toks := t' } :=
 I.laid (fun _ _ q => Heap.get?_push_of_some _ q) (CC _) ⟨hz, its, 0, hv, Heap.get?_push_size _ rfl⟩
theorem Inv.fresh (I : Inv X pins σ H s) : H s.heap.objs.size = none := I.hok.fresh (CC _)
theorem Inv.lstM (I : Inv X pins σ H s) (hH : H l = some (.lst xs)) : xs.length ≤ sizeLine ∧ ∃ (its : List Value) (n : Nat), Vals xs its ∧ xs.length = its.length ∧ s.heap.get? l = some { cls := .type "list", data := .seq its.toArray n } := by
 obtain ⟨z, its, n, r, e⟩ := I.hok l _ hH
 exact ⟨z, its, n, r, r.length, e⟩
theorem kgI {n : Nat} (h : n ≤ sizeLine) : Builtin.List.listTooLong n = false := by
 unfold Builtin.List.listTooLong
 exact decide_eq_false (by omega)
end
section
variable {X : Cx}
def khQ : V → List V → Hp → VK → Prop := fun x vs H Q => ∃ l xs y, x = .ref l ∧ vs = [y] ∧ H l = some (.lst xs) ∧ xs.length < sizeLine ∧ Q .non (upd H l (.lst (xs ++ [y])))
theorem kbE : MtM X "list.append" khQ := by
 intro pins s σ H x vs v us Q I rx rv h
 obtain ⟨l, xs, y, rfl, rfl, hH, hz, q⟩ := h
 cases rx
 obtain ⟨u, rfl, ru⟩ := rv.one
 obtain ⟨z, its, n, r, hl, e⟩ := I.lstM hH
 refine call_meets F.slot_list_append ⟨_, e, rfl⟩ F.entry_list_append (F.args_list_append_2 _ _) (PySem.list_append l its.toArray n u (by rw [C3]; omega)) ⟨e, ?_⟩
 refine ⟨.non, _, I.lset (its' := its ++ [u]) hH e (by simp) (r.append (.cons ru .nil)) ?_, rfl, q⟩
 rw [C7, S6]
 omega
def kky : V → List V → Hp → VK → Prop := fun x vs H Q => ∃ l b xs zs, x = .ref l ∧ vs = [.ref b] ∧ H l = some (.lst xs) ∧ H b = some (.lst zs) ∧ xs.length + zs.length ≤ sizeLine ∧ Q .non (upd H l (.lst (xs ++ zs)))
theorem kfI : MtM X "list.extend" kky := by
 intro pins s σ H x vs v us Q I rx rv h
 obtain ⟨l, b, xs, zs, rfl, rfl, hH, hB, hz, q⟩ := h
 cases rx
 obtain ⟨u, rfl, ru⟩ := rv.one
 cases ru
 obtain ⟨z, its, n, r, hl, e⟩ := I.lstM hH
 obtain ⟨z2, its2, n2, r2, hl2, e2⟩ := I.lstM hB
 have hsz : its.toArray.size + its2.toArray.size ≤ sizeLine := by rw [C3, C3]; omega
 have hlong : ¬ (!its.toArray.isEmpty && Builtin.List.listTooLong (its.toArray.size + its2.toArray.size)) = true := by
  rw [kgI hsz, Bool.and_false]
  exact CW
 refine call_meets F.slot_list_extend ⟨_, e, rfl⟩ F.entry_list_extend (F.args_list_extend_2 _ _)
  (AutoSeq1.list_extend_list_list_0 l its.toArray n b its2.toArray n2 hlong (by rw [C3]; omega) (by omega)) ⟨e, e2, ?_⟩
 refine ⟨.non, _, I.lset (its' := its ++ its2) hH e (by simp) (r.append r2) ?_, rfl, q⟩
 rw [C7]
 omega
def rPop : V → List V → Hp → VK → Prop := fun x vs H Q => ∃ l xs y, x = .ref l ∧ vs = [] ∧ H l = some (.lst xs) ∧ xs[xs.length - 1]? = some y ∧ Q y (upd H l (.lst xs.dropLast))
theorem klm : MtM X "list.pop" rPop := by
 intro pins s σ H x vs v us Q I rx rv h
 obtain ⟨l, xs, y, rfl, rfl, hH, hy, q⟩ := h
 cases rx
 have hus := rv.zero
 subst hus
 obtain ⟨z, its, n, r, hl, e⟩ := I.lstM hH
 obtain ⟨u, hu, ru⟩ := r.get hy
 have hy' : its.toArray[its.toArray.size - 1]? = some u := by
  show its.toArray[its.length - 1]? = some u
  rw [← Ts, ← hl]
  exact hu
 refine call_meets F.slot_list_pop ⟨_, e, rfl⟩ F.entry_list_pop (F.args_list_pop_1 _) (MeetsSeq.list_pop_last l its.toArray n u hy' (by rw [C3]; omega)) ⟨e, ?_⟩
 refine ⟨y, _, I.lset (its' := its.dropLast) hH e ?_ r.dropLast ?_, ru, q⟩
 ·show its.toArray.eraseIdxIfInBounds (its.toArray.size - 1) = its.dropLast.toArray
  rw [C3, List.eraseIdxIfInBounds_toArray, kho]
 ·rw [S7]
  omega
def rCat : R2 := fun x y H Q => ∃ l b xs zs, x = .ref l ∧ y = .ref b ∧ H l = some (.lst xs) ∧ H b = some (.lst zs) ∧ xs.length + zs.length ≤ sizeLine ∧ ∀ p, H p = none → Q (.ref p) (upd H p (.lst (xs ++ zs)))
theorem kh2 : OpR X (binaryOp .Add) rCat := by
 intro pins s σ H x y v u Q I rx ry h
 obtain ⟨l, b, xs, zs, rfl, rfl, hH, hB, hz, q⟩ := h
 cases rx
 cases ry
 obtain ⟨z, its, n, r, hl, e⟩ := I.lstM hH
 obtain ⟨z2, its2, n2, r2, hl2, e2⟩ := I.lstM hB
 refine PySem.P.add_list e e2 ?_ (by rw [C3, C3]; omega)
 have ea : its.toArray ++ its2.toArray = (its ++ its2).toArray := by simp
 rw [ea]
 exact ⟨.ref _, _, I.lnew (t' := s.toks) (r.append r2) (by rw [C7]; omega), rfl, q _ I.fresh⟩
def rRep : R2 := fun x y H Q => ∃ l k xs, x = .ref l ∧ y = .int k ∧ H l = some (.lst xs) ∧ -(2 ^ 63) ≤ k ∧ k < 2 ^ 63 ∧ xs.length * k.toNat ≤ sizeLine ∧
 ∀ p, H p = none → Q (.ref p) (upd H p (.lst (CI k.toNat xs).flatten))
theorem len_rep {α : Type} (xs : List α) (k : Nat) : (CI k xs).flatten.length = k * xs.length := by
 induction k with
 | zero => simp
 | succ k ih => rw [RJ, Rf, C7, ih, Nat.succ_mul, Nat.add_comm]
theorem kjO : OpR X (binaryOp .Mult) rRep := by
 intro pins s σ H x y v u Q I rx ry h
 obtain ⟨l, k, xs, rfl, rfl, hH, h1, h2, hz, q⟩ := h
 cases rx
 obtain ⟨t, rfl⟩ := ry
 obtain ⟨z, its, n, r, hl, e⟩ := I.lstM hH
 have hlen : its.toArray.size * k.toNat ≤ sizeLine := by rw [C3, ← hl]; exact hz
 have hcap : ¬ its.toArray.size * k.toNat > (2 ^ 63 - 1) / 8 := by
  have : (sizeLine : Nat) ≤ (2 ^ 63 - 1) / 8 := by decide
  omega
 have hfit : ¬ (!Builtin.List.listFitsIndex k) = true := by
  rw [fitsIndex_both h1 h2]
  exact CW
 have hlong : ¬ Builtin.List.listTooLong (its.toArray.size * k.toNat) = true := by
  rw [kgI hlen]
  exact CW
 have hnew : List.foldl (fun x1 x2 => x1 ++ x2) #[] (CI (if its.toArray.isEmpty = true then 0 else k.toNat) its.toArray) = (CI k.toNat its).flatten.toArray := by
  have f0 : ∀ m : Nat, List.foldl (fun x1 x2 => x1 ++ x2) #[] (CI m its.toArray) = (CI m its).flatten.toArray := fun m => by
   have := foldl_rep its m []
   rw [R5] at this
   exact this
  rw [f0]
  cases its with
  | nil => simp
  | cons a r' => rw [if_neg (by simp)]
 refine wpAny_binaryOp_repeat_ref (T := "list") (U := "int") (by decide) ⟨_, e, rfl⟩ (fun s' => typeIs_int s' k t) noFill_list_mul F.fills_int_mul F.slot_int_rmul repeat_list F.slot_int_index.lookup
  (call_meets F.slot_int_rmul (typeIs_int s k t) F.entry_int_rmul (F.args_int_rmul_2 _ _) (int___rmul___int_list k t l its.toArray n)
   ⟨e, rfl, ⟨_, e, rfl⟩, call_meets F.slot_list_mul ⟨_, e, rfl⟩ F.entry_list_mul (F.args_list_mul_2 _ _) (AutoListH.list___mul___list_int_3 l its.toArray n k t hfit hcap hlong) ⟨e, ?_⟩⟩)
 rw [hnew]
 exact ⟨.ref _, _, I.lnew (t' := s.toks) (r.rep k.toNat) (by rw [len_rep, Nat.mul_comm]; exact hz), rfl, q _ I.fresh⟩
end
section
variable {prog : Program} {w : World} {A : Around} {E : Value → Shared → Prop} {s : Shared}
set_option maxRecDepth 100000 in
end
section
variable {X : Cx}
end
end L2
namespace Att
open PySem PySem.W PySem.Calls PyProof.Rows
theorem kej {P : Params} {h : Heap} : ∀ (ns : List Int) (vs : List Value), WellAll P h vs (ns.map WData.int) → IntsAre vs ns := by
 intro ns
 induction ns with
 | nil =>
  intro vs w
  rw [S4] at w
  cases w
  exact .nil
 | cons n ns ih =>
  intro vs w
  rw [C1] at w
  cases w with
  | cons a b =>
   cases a
   exact .cons _ _ (ih _ b)
theorem khN {l : OpenLaw} {n : Nat} (hn : l.most = some n) {P : Params} {h : Heap} {args : List WData} {vals : List Value}
  (hpre : l.row.toRowW.claim.pre args = true) (hwl : WellAll P h vals args) :
  ∃ a vs ns, vals = [Value.ref a] ∧ args = [WData.list (ns.map WData.int)] ∧ h.get? a = some { cls := .type "list", data := .seq vs.toArray } ∧ IntsAre vs ns ∧ ns.length ≤ n := by
 have hsh : WShape.hasAll [] args [.list .int] = true := (pre_splitW hpre).1
 have hc : l.pre.holds [] { args := args } = true := (pre_splitW hpre).2
 obtain ⟨d, r, rfl, h1, h2⟩ := hasAllW_cons hsh
 obtain rfl := hasAllW_nil h2
 obtain ⟨xs, rfl, h3⟩ := hasW_list h1
 obtain ⟨ns, rfl⟩ := items_int h3
 have hlen : ns.length ≤ n := by
  unfold OpenLaw.pre at hc
  have h4 : (WTm.not (.lt (.lit (.int (n : Int))) (.len (.arg 0)))).holds [] { args := [.list (ns.map .int)] } = true := by
   have h4 := (holds_andW hc).1
   rw [hn] at h4
   exact h4
  have h5 := condW_of h4 (w_not (w_lt w_lit (w_len_list (w_arg rfl))))
  rw [Cz] at h5
  refine Nat.le_of_not_lt fun q => ?_
  have q' : (n : Int) < ((ns.length : Nat) : Int) := by omega
  first
   | (rw [decide_eq_true q'] at h5; exact absurd h5 (by decide))
   | (simp at h5; omega)
 cases hwl with
 | cons w1 w2 =>
  cases w2
  cases w1 with
  | list ho hall => exact ⟨_, _, ns, rfl, rfl, ho, kej ns _ hall, hlen⟩
theorem khV (l : OpenLaw) (args : List WData) : l.row.toRowW.claim.post args (.bool true) args = true :=
 postW_of (r := l.row.toRowW) (X := (true == true))
  (show WShape.has [] (.bool true) .bool = true by first | rfl | decide | simp [WShape.has, WShape.arms, WShape.armsAll])
  (show (WTm.eq .res (.lit (.bool true))).value [] { args := args, res := some (.bool true), after := args } = some (.bool (true == true)) from w_eq_bool (w_res rfl) w_lit) rfl
theorem attach_call {l : OpenLaw} {n : Nat} {q : Program} {loose : List Str} {XP : (Str → Option Value) → Heap → Prop} {YP : World → Heap → Prop} {d : DefRec}
  (hn : l.most = some n) (hdf : d.params.defaults = [])
  (call : ∀ (w : World) (s₀ s₁ : Shared) (mg mb : Str → Option Value) (fa : Addr) (o : Obj) (pm cd doc : Value) (a : Addr) (vs : List Value) (ns : List Int),
   Ground q loose [] XP w s₀ mg mb s₁.heap → YP w s₁.heap →
   s₁.heap.get? fa = some o → o.data = .func (docDef d.name d.params d.body d.scope pm cd doc) → s₁.heap.CodeRec cd d.name → mg d.name = some (.ref fa) →
   s₁.heap.get? a = some { cls := .type "list", data := .seq vs.toArray } → IntsAre vs ns → ns.length ≤ n → s₁.gens = #[] →
   codeAny (model l.prog w) callerA (.call (.ref fa) ⟨[.ref a], []⟩) (fun r s' => r = .ok (.ret (.bool true)) ∧ OldK s₁.heap s'.heap ∧ s'.os = s₁.os ∧ AllBare s'.gens) s₁) :
  WalkO q loose XP YP l.row.toRowW d [] (fun f vs => PySem.call f vs) := by
 intro w s₀ s₁ mg mb G Y fa o pm cd doc dV kV ho hd hcd hD hmg hg args vals as hpre hlay hrd hwl hlo
 obtain rfl : dV = .none := Dflts.none hD hdf
 obtain rfl : kV = .none := Dflts.noKw hD
 obtain ⟨a, vs, ns, rfl, rfl, hobj, hints, hlen⟩ := khN hn hpre hwl
 refine enter_call (codeAny_mono (call w s₀ s₁ mg mb fa o pm cd doc a vs ns G Y ho (fd_plain hd) hcd hmg hobj hints hlen hg) fun r s' hq => ?_)
 obtain ⟨rfl, h2, h3, h4⟩ := hq
 exact ⟨.inl ⟨.bool true, .bool true, [], rfl, fun _ => rfl, .bool true, khV l _, fun _ => ⟨R6.nil, fun _ hm => (nomatch hm)⟩⟩, h2, h3, h4⟩
section
variable {prog : Program} {w : World} {A : Around} {E : Value → Shared → Prop} {s : Shared} {K : Frag}
end
end Att
namespace L2
open PySem PySem.Spec PyProof.Rows
theorem kfk : ∀ {vs : List Value} {ns : List Int}, IntsAre vs ns → Vals (ns.map V.int) vs
 | _, _, .nil => .nil
 | _, _, .cons n t h => .cons ⟨t, rfl⟩ (kfk h)
end L2
namespace L2
open PySem PySem.Spec PyProof.Rows
end L2
namespace L2
open PySem PySem.Spec PyProof.Rows
def inClass (s : Stmt) (j : Nat) : Stmt := match s with
 | .ClassDef _ _ _ body _ _ _ _ _ _ _ => body.getD j (.Pass ⟨0, 0, 0, 0⟩)
 | _ => .Pass ⟨0, 0, 0, 0⟩
def kag (s : Stmt) : Arguments := match s with
 | .FunctionDef _ a _ _ _ _ _ _ _ _ => a
 | _ => { posonlyargs := [], args := [], vararg := none, kwonlyargs := [], kw_defaults := [], kwarg := none, defaults := [] }
def kaf (s : Stmt) : List Stmt := match s with
 | .FunctionDef _ _ b _ _ _ _ _ _ _ => b
 | _ => []
def kab (s : Stmt) : Scope := match s with
 | .FunctionDef _ _ _ _ _ _ sc _ _ _ => sc
 | _ => { kind := .function, names := [], isGenerator := false, isCoroutine := false }
abbrev CX0 : CXT := fun _ _ _ _ _ _ => False
abbrev E0 : XK := fun _ _ _ => False
theorem pass0 {X : Cx} : kdj CX0 X E0 := fun _ _ _ _ _ _ _ h => h.elim
structure Fun (K : CA) (x qual : Str) (st : Stmt) (f : Addr) (fd : FuncData) : Prop where
 ex : ∃ (oc : Value) (od : Option Addr) (kV doc pm : Value) (an : Option Addr) (cdv ct : Value) (osl : Array (Option Value)),
  fd = Cy x qual (kag st) (kaf st) (kab st) .none kV doc pm an cdv ct ∧ K.lookup f = some ⟨oc, od, .func fd, osl⟩ ∧ CJ K cdv qual = true
 kp : CF K (.ref f) = true
section
variable {P : Program} {w : World} {K : CA} {mg : Str → Option Value} {base : Heap}
theorem Fun.ok {x qual : Str} {st : Stmt} {f : Addr} {fd : FuncData} {N ps : List Str} {k : Nat} {sp : Sp} (F : Fun K x qual st f fd) (S : kaq N ps (kab st)) (len : ∀ vs H Q E, sp vs H Q E → vs.length = ps.length)
  (hbody : ∀ (cdv : Value) (A : Around) (outer : List Env) (s : Shared) (H : Hp) (vs : List V) (Q : VK) (E : XK), Room k (A.deeper (envOfC qual (kab st) s.heap.objs.size f cdv)) → sp vs H Q E →
   ∃ t, PSs (cxOf CX0 P w K mg base N qual (kab st) f cdv A outer s H E).nox (kaf st) t ∧ t { nx := fun _ H' => Q .non H', rt := Q } (start N vs) H) : FnOk P w K mg base CX0 (k + 1) f fd ps sp := by
 obtain ⟨oc, od, kV, doc, pm, an, cdv, ct, osl, rfl, lk, hcd⟩ := F.ex
 refine fn_of lk hcd S len fun A outer s H vs Q E hr hsp => ?_
 obtain ⟨t, h, q⟩ := hbody cdv A outer s H vs Q E hr hsp
 exact ⟨t, h.nox, q⟩
theorem Fun.binds {x qual : Str} {st : Stmt} {f : Addr} {fd : FuncData} {ps : List Str} (F : Fun K x qual st f fd)
  (h : ∀ (kV doc pm : Value) (an : Option Addr) (cdv ct : Value) (us : List Value), us.length = ps.length → bindArgs (Cy x qual (kag st) (kaf st) (kab st) .none kV doc pm an cdv ct) ⟨us, []⟩ = pure (ps.zip us)) : Binds K fd ps [] := by
 obtain ⟨oc, od, kV, doc, pm, an, cdv, ct, osl, rfl, lk, hcd⟩ := F.ex
 exact .all (h kV doc pm an cdv ct)
end
theorem kau {n : Nat} (h : n ≤ 1000) : n < sizeLine := RP h (by decide)
section
variable {X : Cx}
theorem pv (i : Nat) {x : Str} {pos : Pos} (hN : X.N[i]? = some x := by rfl) (hv : Vis X.env.scope x := by first | exact Or.inl rfl | exact Or.inr (Or.inl rfl) | exact Or.inr (Or.inr rfl)) (hd : (x == ("__debug__" : Str)) = false := by decide)
  (hcd : (x == ("__classdict__" : Str)) = false := by decide) : PE X (.Name x pos) (tVar i) := klh hN hv hd hcd
end
theorem iteF {A B : Prop} (h : B) : if false = true then A else B := by
 rw [if_neg CW]
 exact h
theorem iteT {A B : Prop} (h : A) : if true = true then A else B := by
 rw [if_pos rfl]
 exact h
theorem ite2 {c A B : Prop} [Decidable c] (h1 : c → A) (h2 : ¬ c → B) : if c then A else B := by
 by_cases h : c
 ·rw [if_pos h]
  exact h1 h
 ·rw [if_neg h]
  exact h2 h
end L2
set_option maxHeartbeats 4000000
namespace L3
end L3
namespace L2
open PySem PySem.Spec PyProof.Rows
section
variable {X : Cx}
theorem log2_small {n : Nat} (h : n < 2 ^ 200) : n.log2 < 9000 := by
 by_cases h0 : n = 0
 ·subst h0
  decide
 ·have h1 : n.log2 < 200 := (Nat.log2_lt h0).mpr h
  omega
def CDivB (_ j : Int) : Prop := 0 < j ∧ j < 2 ^ 199
theorem kjd : OpR X (binaryOp .FloorDiv) (rI CDivB fun i j => .int (i / j)) := opI fun i j _ _ _ _ _ hc q => by
 have h1 : (0 : Int) < j := hc.1
 have h2 : j < 2 ^ 199 := hc.2
 have h3 : j.natAbs < 2 ^ 200 := by omega
 exact floordiv_int (by omega) (by rw [Int.fdiv_eq_ediv_of_nonneg i (by omega)]; exact q) (.inl (PyProof.noPylong_of_log2 (log2_small h3)))
theorem kct (hc : X.calm = true) : CallR X (.builtin "sum") (fun xs H Q => ∃ (p : Addr) (ns : List Int), xs = [.ref p] ∧ SqL X.K H p (ns.map V.int) ∧ Q (.int ns.sum) H) := by
 intro pins s σ H xs us Q I r h
 obtain ⟨p, ns, rfl, hq, q⟩ := h
 obtain ⟨u, rfl, rx⟩ := vals1 r
 cases rx
 obtain ⟨its, r', pl, hz⟩ := I.list hq
 have hi : IntsAre its ns := intsAre_of r'
 have ha := hi.allInts
 obtain ⟨zs, hx⟩ := ha.items
 have hl := pl.isList
 rw [hx] at hl
 refine sum_intListG (I.ok.hd hc) hl fun h' tk t' hk => ⟨.int ns.sum, H, I.kept hk, ⟨t', ?_⟩, q⟩
 have e2 : preSum (numAt zs) zs.size = (numsOf (intItems zs).toList).sum := by
  rw [nums_intItems, preSum_eq, RB (by simp)]
 have e3 : numsOf its.toArray.toList = ns := hi.numsOf
 rw [e2, ← hx, e3]
theorem kjv : ∀ {x : V}, flatV x = true → eqV x x = true
 | .non, _ => rfl
 | .bl b, _ => by simp [eqV]
 | .int i, _ => by simp [eqV]
 | .str z, _ => by simp [eqV]
def cV : V → Value
 | .ty n => .type n
 | .ref a => .ref a
 | _ => .none
theorem kbJ : CallR X (.builtin "isinstance") (fun xs H Q => ∃ x c t b, xs = [x, c] ∧ ((∃ n, c = .ty n) ∨ ∃ a, c = .ref a) ∧ TyOf X.K H x t ∧ C2 X.K t (cV c) = some b ∧ Q (.bl b) H) := by
 intro pins s σ H xs us Q I r h
 obtain ⟨x, c, t, b, rfl, hc, ty, e, q⟩ := h
 obtain ⟨u, w', rfl, r1, r2⟩ := vals2 r
 have ew : w' = cV c := by
  rcases hc with ⟨n, rfl⟩ | ⟨a, rfl⟩
  ·exact r2
  ·exact r2
 subst ew
 exact kil I r1 ty e fun tk => ⟨.bl b, H, I.tok tk, rfl, q⟩
theorem b_isi : bootBuiltins "isinstance" = some (.builtin "isinstance") := by decide +kernel
theorem b_int : bootBuiltins "int" = some (.type "int") := by decide +kernel
theorem klB : bootBuiltins "bool" = some (.type "bool") := by decide +kernel
theorem kcx : bootBuiltins "list" = some (.type "list") := by decide +kernel
theorem b_sum : bootBuiltins "sum" = some (.builtin "sum") := by decide +kernel
theorem b_min : bootBuiltins "min" = some (.builtin "min") := by decide +kernel
theorem b_max : bootBuiltins "max" = some (.builtin "max") := by decide +kernel
theorem b_len : bootBuiltins "len" = some (.builtin "len") := by decide +kernel
theorem kcs (K : CA) (t : Value) : C2 K t t = some true := by
 unfold C2
 rw [if_pos (by simp)]
theorem kfK (K : CA) : C2 K (.type "int") (.type "bool") = some false := by
 have e : (Value.type "int" == Value.type "bool") = false := by decide +kernel
 unfold C2 PySem.W.kitCls PySem.W.subIn
 rw [e, if_neg CW]
 show (if PySem.W.kitMeta "bool" = true then _ else _) = _
 rw [if_pos (by decide +kernel)]
 show (fastBuiltinMro "int").map (·.contains (Value.type "bool")) = some false
 decide +kernel
def tCut (t : TS) : TS := fun D σ H => ∃ P : St → Hp → Prop, t { D with nx := P } σ H ∧ ∀ σ' H', P σ' H' → D.nx σ' H'
theorem kcQ {st : Stmt} {t : TS} (h : PS X st t) : PS X st (tCut t) := by
 intro pins s σ H D I hw
 obtain ⟨P, h1, h2⟩ := hw
 refine thn (h pins s σ H { D with nx := P } I h1) fun f s' q => ?_
 cases f with
 | next =>
  obtain ⟨σ', H', I', q'⟩ := q
  exact ⟨σ', H', I', h2 σ' H' q'⟩
 | brk => exact q
 | cont => exact q
 | ret u => exact q
def tCutE (t : TE) : TE := fun σ H Q => ∃ P : V → Hp → Prop, t σ H P ∧ ∀ v H', P v H' → Q v H'
theorem klj {e : Expr} {t : TE} (h : PE X e t) : PE X e (tCutE t) := by
 intro pins s σ H Q I hw
 obtain ⟨P, h1, h2⟩ := hw
 exact thn (h pins s σ H P I h1) fun u s' ⟨v, H', I', r, q⟩ => ⟨v, H', I', r, h2 v H' q⟩
def Its (lo st : Int) (n : Nat) : It := ⟨fun i _ => i < n, fun i H x H' => H' = H ∧ x = .int (lo + i * st), fun i _ => n ≤ i⟩
theorem kht {P : Program} {w : World} {K : CA} {tg : Expr} (it : Addr) (lo st : Int) (n : Nat) : Turn P w K tg (Its lo st n) [it] it (fun i h => IsRangeIter h it (lo + (i : Nat) * st) ((n : Int) - (i : Nat)) st) where
 mem := by simp
 obj := fun i h st b hb => by
  have e : b = it := by simpa using hb
  subst e
  exact ⟨_, st, fun v z => by
   have z' : Data.fields _ = Data.cell v := z
   cases z'⟩
 keep := fun i h h' st k => k it (by simp) _ st
 item := by
  intro X hP hw hK hc i pins s σ H E I hf st' hg
  subst hP hw hK
  obtain ⟨f0, f1, f2, f3, f4, f5⟩ := hf it (by simp)
  have W := Walks.range (prog := X.prog) (w := X.w) (I.ok.hd hc) it lo st n
  refine W.item i s _ _ hg st' fun v h' tk hv st'' kk => ?_
  obtain ⟨t, rfl⟩ := hv
  have I1 : Inv X pins σ H { s with heap := h', toks := tk } := I.turned (fun b o hb e => kk b o (by simpa using hb) e) f0 f1 f3 f4 f5
  exact ⟨_, rfl, go_of (s := { s with heap := h', toks := tk }) (n := "range_iterator") st'' rfl rfl (by decide) ⟨.int (lo + i * st), H, I1, ⟨t, rfl⟩, ⟨rfl, rfl⟩, st'', fun b hb => (hf b hb).1⟩⟩
 done := by
  intro X hP hw hK hc i pins s σ H E I hf st hg
  subst hP hw hK
  obtain ⟨f0, f1, f2, f3, f4, f5⟩ := hf it (by simp)
  exact wpAny_pyNext_range_end (I.ok.hd hc) st (by have : n ≤ i := hg; omega) fun h' eb => ⟨rfl, I.turned (t' := s.toks) (fun b o hb e => eb b o hb e) f0 f1 f3 f4 f5⟩
 self := fun _ _ _ _ _ st h => wpAny_pyIter_rangeiter st h
theorem kfp {a b c : Int} (hc : 0 < c) (ha : -(2 ^ 31) ≤ a ∧ a < 2 ^ 31) (hb : -(2 ^ 31) ≤ b ∧ b < 2 ^ 31) : 0 ≤ Builtin.Range.rangeSize a b c ∧ Builtin.Range.rangeSize a b c < 2 ^ 33 := by
 unfold Builtin.Range.rangeSize
 rw [if_pos hc]
 split
 ·have h1 : 0 ≤ (b - a - 1) / c := Int.ediv_nonneg (by omega) (by omega)
  have h2 : (b - a - 1) / c ≤ b - a - 1 := Int.ediv_le_self _ (by omega)
  omega
 ·omega
theorem kha {a b c : Int} (hc : 0 < c) (hc2 : c < 2 ^ 30) (ha : -(2 ^ 31) ≤ a ∧ a < 2 ^ 31) (hb : -(2 ^ 31) ≤ b ∧ b < 2 ^ 31) : Builtin.Range.small a b c = true := by
 have h := kfp hc ha hb
 unfold Builtin.Range.small
 generalize Builtin.Range.rangeSize a b c = n at h
 simp only [Builtin.Range.rangeFitsLong, Sf, S8, decide_eq_true_eq, beq_iff_eq, show c > 0 from hc, if_true]
 omega
end
theorem kly (xs : List V) (k : Nat) : cutV xs none (some (k : Int)) = xs.take k := by
 unfold cutV
 rw [HT.sIx_none, HT.sIx_nat, Sx, Nat.sub_zero, Tt]
 omega
end L2
namespace L2
open PySem PySem.Spec PyProof.Rows
theorem Inv.adopt {X : Cx} {pins : List (Addr × Obj)} {σ : St} {H : Hp} {s : Shared} {a : Addr} {o : HO} (I : Inv X pins σ H s) (f : FpOk X pins H a) (h0 : X.s₀.heap.objs.size ≤ a) (new : ObjOk X.prog X.w (upd H a o) s.heap a o) : Inv X pins σ (upd H a o) s := by
 obtain ⟨hn, hL, _, _, hC, hp⟩ := f
 have nt : ∀ b u, H b = some u → b ≠ a := fun b u e => kal e hn
 refine ⟨I.ok, I.os, I.bare, ⟨I.base.keep, I.base.slot, fun b ob e n hx => ?_, I.base.there, fun b xs e => ?_, fun b ob u e => ?_, fun b ps e => ?_⟩, I.loc, I.cell, ?_, fun x c e => ?_, fun p hp' => ?_, fun b u e => ?_, I.len⟩
 ·rw [kam (Rc (Ra (Heap.lt_size e) h0))]
  exact I.base.free b ob e n hx
 ·have q := I.base.tups b xs e
  rw [kam (nt _ _ q)]
  exact q
 ·have q := I.base.frzs b ob u e
  rw [kam (nt _ _ q)]
  exact q
 ·obtain ⟨m, q⟩ := I.base.tbls b ps e
  exact ⟨m, by rw [kam (nt _ _ q)]; exact q⟩
 ·rw [kam (Ne.symm hL)]
  exact I.free
 ·rw [kam (hC x c e)]
  exact I.freeC x c e
 ·obtain ⟨e, n, r⟩ := I.pin p hp'
  exact ⟨e, by rw [kam (hp p hp')]; exact n, r⟩
 ·by_cases hb : b = a
  ·subst hb
   rw [kad] at e
   cases e
   exact new
  ·rw [kam hb] at e
   exact (I.hok b u e).stay (fun c v _ q => q) (fun c q => by rw [kam (nt _ _ q)]; exact q) fun c xs q => by rw [kam (nt _ _ q)]; exact q
def capσ (cap : List (Option Nat)) (σ : St) : St := cap.map fun o => match o with
 | some i => (σ[i]?).getD none
 | none => none
def closL (cells : List (Str × Addr)) (names : List (Str × NameKind)) : List (Str × Addr) → List (Str × Addr) := fun acc => names.foldl (fun acc p => if p.2 == .free then (p.1, (cells.lookup p.1).getD 0) :: acc else acc) acc
theorem kek {α β : Type} {f : α → β → Sem (ForInStep β)} {g : β → α → β} : ∀ (l : List α) (b : β), (∀ x ∈ l, ∀ b, f x b = pure (.yield (g b x))) → forIn l b f = pure (l.foldl g b)
 | [], b, _ => by rw [List.forIn_nil]; rfl
 | x :: l, b, h => by
  rw [List.forIn_cons, h x Re]
  show forIn l (g b x) f = _
  rw [kek l (g b x) fun y hy => h y (C8 _ hy)]
  rfl
theorem kfh {scope : Scope} {env : Env} (h : ∀ x ∈ scope.names, x.2 = .free → ∃ c, env.cells.lookup x.1 = some c) : closureFor scope env = pure (closL env.cells scope.names []) := by
 unfold closureFor
 dsimp only
 rw [kek (g := fun acc p => if p.2 == .free then (p.1, (env.cells.lookup p.1).getD 0) :: acc else acc) scope.names [] fun x hx b => ?_]
 ·rfl
 ·obtain ⟨n, k⟩ := x
  by_cases hk : k = .free
  ·subst hk
   obtain ⟨c, ec⟩ := h _ hx rfl
   have ec' : env.cells.lookup n = some c := ec
   have e1 : cellOf env n = pure c := by unfold cellOf; rw [ec']
   simp only [beq_self_eq_true, if_true, e1, ec', Option.getD_some]
   rfl
  ·have : (k == NameKind.free) = false := by simpa using hk
   simp only [this, Rw, if_false]
theorem keP (cells : List (Str × Addr)) (p : Str × NameKind) (r : List (Str × NameKind)) (acc : List (Str × Addr)) : closL cells (p :: r) acc = closL cells r (if p.2 == .free then (p.1, (cells.lookup p.1).getD 0) :: acc else acc) := rfl
theorem kdW {cells : List (Str × Addr)} {x : Str} {c : Addr} : ∀ (names : List (Str × NameKind)) (acc : List (Str × Addr)), (closL cells names acc).lookup x = some c → (((x, NameKind.free) ∈ names ∧ c = (cells.lookup x).getD 0) ∨ acc.lookup x = some c)
 | [], acc, h => .inr h
 | (n, k) :: r, acc, h => by
  rw [keP] at h
  rcases kdW r _ h with ⟨h1, h2⟩ | h1
  ·exact .inl ⟨C8 _ h1, h2⟩
  ·by_cases hk : k = .free
   ·subst hk
    simp only [beq_self_eq_true, if_true] at h1
    rw [Rp] at h1
    by_cases hx : x = n
    ·subst hx
     simp only [beq_self_eq_true] at h1
     exact .inl ⟨Re, (Option.some.inj h1).symm⟩
    ·have hb : (x == n) = false := beq_eq_false_iff_ne.mpr hx
     rw [hb] at h1
     exact .inr h1
   ·have : (k == NameKind.free) = false := by simpa using hk
    simp only [this, Rw, if_false] at h1
    exact .inr h1
theorem kcO {cells : List (Str × Addr)} {x : Str} : ∀ (names : List (Str × NameKind)) (acc : List (Str × Addr)), ((x, NameKind.free) ∈ names ∨ ∃ c, acc.lookup x = some c) → ∃ c, (closL cells names acc).lookup x = some c
 | [], acc, h => by
  rcases h with h | h
  ·cases h
  ·exact h
 | (n, k) :: r, acc, h => by
  rw [keP]
  refine kcO r _ ?_
  by_cases hm : (x, NameKind.free) ∈ r
  ·exact .inl hm
  ·refine .inr ?_
   rcases h with h | ⟨c, h⟩
   ·rcases C6.mp h with e | h
    ·cases e
     simp [Rp]
    ·exact absurd h hm
   ·split
    ·rw [Rp]
     by_cases hx : x = n
     ·subst hx
      simp
     ·have hb : (x == n) = false := beq_eq_false_iff_ne.mpr hx
      rw [hb]
      exact ⟨c, h⟩
    ·exact ⟨c, h⟩
theorem kcz : ∀ (names : List (Str × NameKind)) (n : Nat) (acc acc' : List (Str × Addr)), cellsFrom n names (acc ++ acc') = cellsFrom n names acc ++ acc'
 | [], _, _, _ => rfl
 | (m, k) :: r, n, acc, acc' => by
  unfold cellsFrom
  split
  ·exact kcz r (n + 1) ((m, n) :: acc) acc'
  ·exact kcz r n acc acc'
theorem kcm (names : List (Str × NameKind)) (n : Nat) (acc : List (Str × Addr)) (x : Str) : (cellsFrom n names acc).lookup x = ((cellsFrom n names []).lookup x).or (acc.lookup x) := by
 rw [← List.lookup_append, ← kcz, R5]
theorem kcy {x : Str} : ∀ (names : List (Str × NameKind)) (n : Nat) (acc : List (Str × Addr)), (x, NameKind.cell) ∉ names → (cellsFrom n names acc).lookup x = acc.lookup x
 | [], _, _, _ => rfl
 | (m, k) :: r, n, acc, h => by
  unfold cellsFrom
  by_cases hk : k = .cell
  ·subst hk
   simp only [beq_self_eq_true, if_true]
   rw [kcy r _ _ fun z => h (C8 _ z), Rp]
   have hx : x ≠ m := fun e => h (by rw [e]; exact Re)
   have hb : (x == m) = false := beq_eq_false_iff_ne.mpr hx
   rw [hb]
  ·have : (k == NameKind.cell) = false := by simpa using hk
   simp only [this, Rw, if_false]
   exact kcy r _ _ fun z => h (C8 _ z)
def relN (names ns : List (Str × NameKind)) : List (Str × NameKind) := names.map fun (n, k) => if (k == .free && ns.lookup n == some .cell) then (n, .cell) else (n, k)
theorem kc7 {scope : Scope} {env : Env} (hk : env.scope.kind = .function) : (relabel scope env).names = relN scope.names env.scope.names := by
 unfold relabel relN
 have e : (ScopeKind.function == ScopeKind.function) = true := by decide
 simp only [hk, e, Bool.and_true]
 rfl
theorem kcZ {ns : List (Str × NameKind)} {x : Str} : ∀ (names : List (Str × NameKind)), (relN names ns).lookup x = (names.lookup x).map fun k => if (k == .free && ns.lookup x == some .cell) then .cell else k
 | [] => rfl
 | (n, k) :: r => by
  have ih := kcZ (ns := ns) (x := x) r
  show RE x ((if (k == .free && ns.lookup n == some .cell) = true then (n, NameKind.cell) else (n, k)) :: relN r ns) = _
  by_cases hx : x = n
  ·subst hx
   by_cases hc : (k == .free && ns.lookup x == some .cell) = true
   ·rw [if_pos hc]
    simp only [Rp, beq_self_eq_true, Sy]
    rw [if_pos hc]
   ·rw [if_neg hc]
    simp only [Rp, beq_self_eq_true, Sy]
    rw [if_neg hc]
  ·have hb : (x == n) = false := beq_eq_false_iff_ne.mpr hx
   by_cases hc : (k == .free && ns.lookup n == some .cell) = true
   ·rw [if_pos hc]
    simp only [Rp, hb]
    exact ih
   ·rw [if_neg hc]
    simp only [Rp, hb]
    exact ih
theorem kku {names ns : List (Str × NameKind)} {x : Str} (h : (relN names ns).lookup x = some .cell ∨ (relN names ns).lookup x = some .free) : names.lookup x = some .cell ∨ names.lookup x = some .free := by
 rw [kcZ] at h
 cases e : names.lookup x with
 | none => rw [e] at h; simp at h
 | some k =>
  rw [e] at h
  cases k <;> simp_all
theorem khP {names ns : List (Str × NameKind)} {x : Str} (h : names.lookup x = some .free) : (relN names ns).lookup x = some .cell ∨ (relN names ns).lookup x = some .free := by
 rw [kcZ, h]
 by_cases hc : ns.lookup x == some .cell
 ·left; simp [hc]
 ·right; simp [hc]
structure CompScope (X : Cx) (scope : Scope) (N : List Str) (cap : List (Option Nat)) : Prop where
 kind : scope.kind = .function
 names : ∀ x ∈ scope.names, x.2 = .local → scope.names.lookup x.1 = some .local
 free : ∀ x ∈ scope.names, x.2 = .free → X.env.scope.names.lookup x.1 = some .cell ∨ X.env.scope.names.lookup x.1 = some .free
 nd : N.Nodup
 len : cap.length = N.length
 cap : ∀ (j i : Nat) (x : Str), cap[j]? = some (some i) → N[j]? = some x → X.N[i]? = some x ∧ scope.names.lookup x = some .free ∧ (x, NameKind.cell) ∉ scope.names
def kdG (X : Cx) (scope : Scope) (C : Addr) : List (Str × Addr) := cellsFrom (C + 1) scope.names (closL X.env.cells scope.names [])
def cxC (X : Cx) (scope : Scope) (N : List Str) (fp : List Addr) (s : Shared) (H : Hp) (C : Addr) : Cx :=
 { X with N := N, s₀ := s, H₀ := H, env := compEnvC scope (kdG X scope C) C X.env, outer := X.stack, ex := fp, fn := fun x => scope.names.lookup x == some .cell, pn := [], xe := fun _ _ => False }
theorem kfc {M : Model} {A : Around} {E : Value → Shared → Prop} {s : Shared} {scope : Scope} {globals : Addr} {cl : List (Str × Addr)} {qual : Str} {func : Option Addr} {code : Value} {outer : Env} {builtins : Addr} {Q : Env → Shared → Prop}
  (hQ : Q (newEnv scope s.heap.objs.size globals (cellsFrom (s.heap.objs.size + 1) scope.names cl) qual func code (some outer) builtins) { s with heap := pushCells (s.heap.push { cls := .type "dict", data := .dict #[] }) scope.names }) :
  wpAny M A (newFunctionEnv scope globals cl [] qual func code (some outer) builtins) Q E s := by
 simp only [newFunctionEnv, Option.isSome_some, if_true]
 refine wpAny_bind (wpAny_alloc ?_)
 refine wpAny_bind (wpAny_layCells _ (fun name kind cells => by cases hkc : kind == NameKind.cell <;> simp [hkc]) _ _ _ _ ?_)
 rw [show ({ s with heap := s.heap.push { cls := .type "dict", data := .dict #[] } } : Shared).heap.objs.size = s.heap.objs.size + 1 from Heap.size_push ..]
 exact wpAny_bind (wpAny_pure (wpAny_pure hQ))
section
variable {X : Cx} {scope : Scope} {N : List Str} {cap : List (Option Nat)} {pins : List (Addr × Obj)} {σ : St} {H : Hp} {s : Shared}
theorem khA (I : Inv X pins σ H s) {b : Addr} (hb : b ∈ frs X.stack) : b < s.heap.objs.size := by
 obtain ⟨_, o, ho, _⟩ := I.stack.mem hb
 exact Heap.lt_size ho
theorem kcN (S : CompScope X scope N cap) (I : Inv X pins σ H s) : closureFor scope X.env = pure (closL X.env.cells scope.names []) :=
 kfh fun x hx hf => I.ok.has x.1 (S.free x hx hf)
theorem kcn {C : Addr} {x : Str} {c : Addr} (S : CompScope X scope N cap) (I : Inv X pins σ H s) (h : (kdG X scope C).lookup x = some c) : (cellsFrom (C + 1) scope.names []).lookup x = some c ∨ X.env.cells.lookup x = some c := by
 unfold kdG at h
 rw [kcm] at h
 cases e : (cellsFrom (C + 1) scope.names []).lookup x with
 | some c' =>
  rw [e] at h
  exact .inl h
 | none =>
  rw [e] at h
  have h' : (closL X.env.cells scope.names []).lookup x = some c := h
  rcases kdW _ _ h' with ⟨h1, h2⟩ | h1
  ·obtain ⟨c', ec⟩ := I.ok.has x (S.free _ h1 rfl)
   rw [ec] at h2
   rw [h2]
   exact .inr ec
  ·cases h1
theorem kjn {fp : List Addr} {C D : Addr} {o : Obj} {s4 : Shared} {m : Str → Option Value} (S : CompScope X scope N cap) (I : Inv X pins σ H s) (f : ∀ b ∈ fp, FpOk X pins H b) (hfp : ∀ b ∈ fp, b < s.heap.objs.size)
  (hk : ∀ b u, s.heap.get? b = some u → s4.heap.get? b = some u) (hns : s4.heap.Ns C m) (hC : s.heap.objs.size ≤ C) (hD : s.heap.objs.size ≤ D) (hDC : D ≠ C) (eD : s4.heap.get? D = some o) (hcell : ∀ v, o.data ≠ .cell v)
  (hnew : CellsOk s4.heap (C + 1) (cellsFrom (C + 1) scope.names [])) (hos : s4.os = s.os) (hg : s4.gens = s.gens) : Inv (cxC X scope N fp s H C) [(D, o)] (capσ cap σ) H s4 := by
 have stkne : ∀ b ∈ fp, b ∉ frs X.stack := fun b hb hz => by
  obtain ⟨_, h1, h2, _⟩ := f b hb
  rcases C6.mp (I.stkSub b hz) with e | e
  ·exact h1 e
  ·exact h2 e
 have nw : ∀ {x : Str} {c : Addr}, (cellsFrom (C + 1) scope.names []).lookup x = some c → s4.heap.IsCell c none ∧ Nat.lt C c := fun {x c} h => hnew.empty x c (PySem.mem_of_lookup h)
 have od : ∀ {x : Str} {c : Addr}, X.env.cells.lookup x = some c → c < s.heap.objs.size := fun {x c} h => let ⟨_, q⟩ := I.cell x c h; q.lt
 refine ⟨⟨I.ok.mod, S.kind, I.ok.glob, I.ok.blt, hC, fun x y c h1 h2 => ?_, fun x h => ?_, fun x c h1 h2 => ?_, I.ok.hd, I.ok.frames, .inl rfl, fun b hb => ⟨?_, fun x c e => ?_⟩, I.bs, CN I.ok.bsz I.sz, fun b ob e hb => ?_, stkne, I.stack, I.stkFree⟩,
  hos, by rw [hg]; exact I.bare, Un.kept hk, ⟨m, hns, fun j x v e1 e2 e3 => ?_⟩, fun x c e => ?_, I.hok.fresh hC, fun x c e => ?_, fun p hp => ?_, I.hok.kept hk, ?_⟩
 ·rcases kcn S I h1 with q1 | q1 <;> rcases kcn S I h2 with q2 | q2
  ·exact name_of_addr hnew.apart (PySem.mem_of_lookup q1) (PySem.mem_of_lookup q2)
  ·exact absurd (RP hC (nw q1).2) (Nat.not_lt_of_lt (od q2))
  ·exact absurd (RP hC (nw q2).2) (Nat.not_lt_of_lt (od q1))
  ·exact I.ok.inj x y c q1 q2
 ·have h' : (relabel scope X.env).names.lookup x = some .cell ∨ (relabel scope X.env).names.lookup x = some .free := h
  rw [kc7 I.ok.kind] at h'
  show ∃ c, (cellsFrom (C + 1) scope.names (closL X.env.cells scope.names [])).lookup x = some c
  rw [kcm]
  rcases kku h' with q | q
  ·obtain ⟨c, e⟩ := kdX (n := C + 1) q
   exact ⟨c, by rw [e]; rfl⟩
  ·obtain ⟨c, e⟩ := kcO (cells := X.env.cells) scope.names [] (.inl (PySem.mem_of_lookup q))
   cases e2 : (cellsFrom (C + 1) scope.names []).lookup x with
   | some c' => exact ⟨c', rfl⟩
   | none => exact ⟨c, e⟩
 ·have h1' : (scope.names.lookup x == some .cell) = true := h1
  have q : scope.names.lookup x = some .cell := by simpa using h1'
  obtain ⟨c', e⟩ := kdX (n := C + 1) q
  have h2' : (cellsFrom (C + 1) scope.names (closL X.env.cells scope.names [])).lookup x = some c := h2
  rw [kcm, e] at h2'
  have h3 : c' = c := Option.some.inj h2'
  rw [← h3]
  exact CY (RP hC (nw e).2)
 ·exact Rc (Ra (hfp b hb) hC)
 ·rcases kcn S I e with q | q
  ·exact RD (Nat.lt_trans (Ra (hfp b hb) hC) (nw q).2)
  ·exact (f b hb).2.2.2.2.1 x c q
 ·obtain ⟨_, _, _, h4, _⟩ := f b hb
  rcases h4 with h4 | h4
  ·exact I.ok.noex b ob e h4
  ·exact absurd (Ra (Heap.lt_size e) (CN I.ok.bsz h4)) (RN _)
 ·
  have e2' : (cap.map fun o => match o with | some i => (σ[i]?).getD none | none => none)[j]? = some (some v) := e2
  rw [CV] at e2'
  cases ec : cap[j]? with
  | none => rw [ec] at e2'; cases e2'
  | some oi =>
   rw [ec] at e2'
   cases oi with
   | none => cases e2'
   | some i =>
    have e4 : (σ[i]?).getD none = some v := Option.some.inj e2'
    have e5 : σ[i]? = some (some v) := by
     cases q : σ[i]? with
     | none => rw [q] at e4; cases e4
     | some w => rw [q] at e4; exact congrArg some e4
    obtain ⟨h1, hf, hnc⟩ := S.cap j i x ec e1
    have hm := PySem.mem_of_lookup hf
    have h2 := S.free _ hm rfl
    obtain ⟨mo, _, hl⟩ := I.loc
    obtain ⟨u, ru, lk⟩ := hl i x v h1 e5 (.inr h2)
    have h3 : (relabel scope X.env).names.lookup x = some .cell ∨ (relabel scope X.env).names.lookup x = some .free := by
     rw [kc7 I.ok.kind]
     exact khP hf
    refine ⟨u, ru, .inr ⟨h3, ?_⟩⟩
    rcases lk with ⟨k1, _⟩ | ⟨_, c, ec', z⟩
    ·have k1' : X.env.scope.names.lookup x = some .local := k1
     rcases h2 with h2 | h2 <;> rw [h2] at k1' <;> cases k1'
    ·obtain ⟨c', ec2⟩ := kcO (cells := X.env.cells) scope.names [] (.inl hm)
     have ec3 : (kdG X scope C).lookup x = some c' := by
      unfold kdG
      rw [kcy _ _ _ hnc]
      exact ec2
     rcases kdW _ _ ec2 with ⟨_, q2⟩ | q2
     ·rw [ec'] at q2
      have q3 : c' = c := q2
      subst q3
      obtain ⟨oc, ho, hd⟩ := z
      exact ⟨c', ec3, oc, hk _ _ ho, hd⟩
     ·cases q2
 ·rcases kcn S I e with q | q
  ·exact ⟨none, (nw q).1⟩
  ·obtain ⟨v, oc, ho, hd⟩ := I.cell x c q
   exact ⟨v, oc, hk _ _ ho, hd⟩
 ·rcases kcn S I e with q | q
  ·exact I.hok.fresh (CN hC (CY (nw q).2))
  ·exact I.freeC x c q
 ·have e : p = (D, o) := by simpa [cxC] using hp
  subst e
  exact ⟨eD, I.hok.fresh hD, hDC, fun hz => absurd (khA I hz) (Nat.not_lt.mpr hD), hcell⟩
 ·show (cap.map _).length = N.length
  rw [Cz, S.len]
theorem comp_back {fp : List Addr} {C : Addr} {σ' : St} {H' : Hp} {s' : Shared} (I : Inv X pins σ H s) (f : ∀ b ∈ fp, FpOk X pins H b) (J : Inv (cxC X scope N fp s H C) [] σ' H' s') : Inv X pins σ H' s' :=
 I.call' (ch := fp) J.os J.base J.hok J.bare fun b hb => let ⟨_, h1, _, h3, h4, h5⟩ := f b hb; ⟨h3, h1, h4, h5⟩
end
def PIf (X : Cx) (ifs : List Expr) (t : TT) : Prop := ∀ (pins : List (Addr × Obj)) (s : Shared) (σ : St) (H : Hp) (Q : Bool → Hp → Prop), Inv X pins σ H s → t σ H Q →
 wpAny (model X.prog X.w) X.A (forIn ifs true fun c r => if r = true then do let ok ← isTrue c X.env (eval c X.env); pure (ForInStep.yield ok) else pure (ForInStep.yield r)) (TP X pins σ Q) X.xe s
def tYes : TT := fun _ H Q => Q true H
theorem khW {X : Cx} : PIf X [] tYes := fun _ _ _ H _ I h => wpAny_tests_nil ⟨H, I, h⟩
theorem kkC {X : Cx} {c : Expr} {t : TT} (h : PT X c t) : PIf X [c] t := fun pins s σ H Q I hw => wpAny_tests_one (h pins s σ H Q I hw)
theorem kfO {prog : Program} {w : World} {A : Around} {R : Result → Shared → Prop} {s : Shared} {elt target iter : Expr} {ifs : List Expr} {scope : Scope} {pos : Pos} {it acc : Value} {env : Env} (I : Nat → Shared → Prop)
  (turn : ∀ n s, I n s → wpAny (model prog w) A (pyNext it) (fun r s₁ => match r with
   | none => R (.ok .next) s₁
   | some v => wpAny (model prog w) A (letOwnedTupleGo target it v) (fun _ s₁' => wpAny (model prog w) A (assign target env v) (fun _ s₂ =>
     wpAny (model prog w) A (forIn ifs true fun c r => if r = true then do let ok ← isTrue c env (eval c env); pure (ForInStep.yield ok) else pure (ForInStep.yield r)) (fun ok s₂' =>
      if ok = true then wpAny (model prog w) A (eval elt env) (fun x s₃ =>
       wpAny (model prog w) A (call (.builtin "list.append") [acc, x]) (fun _ s₄ => ∃ m, m < n ∧ I m s₄) (fun _ _ => False) s₃) (fun _ _ => False) s₂'
      else ∃ m, m < n ∧ I m s₂') (fun _ _ => False) s₂) (fun _ _ => False) s₁') (fun _ _ => False) s₁) (fun _ _ => False) s)
  (n : Nat) (h : I n s) : codeAny (model prog w) A (.compLoop (.ListComp elt [⟨target, iter, ifs, 0⟩] scope pos) 0 it acc env) R s := by
 refine codeAny_loop rfl I (fun n s hI => ?_) n h
 show wpAny _ _ ((compTurn (.ListComp elt [⟨target, iter, ifs, 0⟩] scope pos) 0 it acc env).onRaise (fun x => do noteFrame x env; theTreesLotGoes x)) _ _ s
 refine wpAny_noted ?_
 rw [compTurn_list]
 refine wpAny_bind (wpAny_standAt (wpAny_bind (wpAny_mono (turn n s hI) (fun r s₁ h₁ => ?_) fun _ _ h' => h'.elim)))
 cases r with
 | none => exact wpAny_pure h₁
 | some v =>
  refine wpAny_bind (wpAny_mono h₁ (fun _ s₁' h₁' => ?_) fun _ _ h' => h'.elim)
  refine wpAny_bind (wpAny_mono h₁' (fun _ s₂ h₂ => wpAny_bind (wpAny_mono h₂ (fun ok s₂' h₂' => ?_) fun _ _ h' => h'.elim)) fun _ _ h' => h'.elim)
  cases ok with
  | false => exact wpAny_pure ⟨rfl, h₂'⟩
  | true =>
   exact wpAny_bind (wpAny_bind (wpAny_mono h₂' (fun x s₃ h₃ => wpAny_bind (wpAny_mono h₃ (fun _ s₄ h₄ => wpAny_pure (wpAny_pure ⟨rfl, h₄⟩)) fun _ _ h' => h'.elim)) fun _ _ h' => h'.elim))
def kk3 (wi : TI) (cap : List (Option Nat)) (g : TG) (tt : TT) (te : TE) : TE := fun σ H Q => wi σ H fun J H1 => ∃ W : Nat → Nat → St → List V → Hp → Prop, (∃ m, W 0 m (capσ cap σ) [] H1) ∧ ∀ i m σ' ys H', W i m σ' ys H' →
 (J.stop i H' ∧ ∀ D, H' D = none → Q (.ref D) (upd H' D (.lst ys))) ∨ (J.go i H' ∧ ys.length < sizeLine ∧ ∃ (N : St → V → Hp → Prop) (N0 : St → Hp → Prop), (∀ σ2 y H4, N σ2 y H4 → ∃ m', m' < m ∧ W (i + 1) m' σ2 (ys ++ [y]) H4) ∧ (∀ σ2 H4, N0 σ2 H4 → ∃ m', m' < m ∧ W (i + 1) m' σ2 ys H4) ∧
  ∀ x H2, J.yld i H' x H2 → g x σ' H2 fun σ2 H3 => tt σ2 H3 fun b H4 => if b = true then te σ2 H4 (N σ2) else N0 σ2 H4)
def tComp (wi : TI) (cap : List (Option Nat)) (g : TG) (te : TE) : TE := fun σ H Q => wi σ H fun J H1 => ∃ W : Nat → Nat → St → List V → Hp → Prop, (∃ m, W 0 m (capσ cap σ) [] H1) ∧ ∀ i m σ' ys H', W i m σ' ys H' →
 (J.stop i H' ∧ ∀ D, H' D = none → Q (.ref D) (upd H' D (.lst ys))) ∨ (J.go i H' ∧ ys.length < sizeLine ∧ ∃ N : St → V → Hp → Prop, (∀ σ2 y H4, N σ2 y H4 → ∃ m', m' < m ∧ W (i + 1) m' σ2 (ys ++ [y]) H4) ∧
  ∀ x H2, J.yld i H' x H2 → g x σ' H2 fun σ2 H3 => te σ2 H3 (N σ2))
section
variable {X : Cx} {scope : Scope} {N : List Str} {cap : List (Option Nat)} {pins : List (Addr × Obj)} {σ : St} {H2 : Hp} {s2 : Shared} {tg elt iter : Expr} {ifs : List Expr} {pos : Pos} {g : TG} {tt : TT} {te : TE}
theorem kdA {fp : List Addr} {it : Addr} {tn : Nat → Heap → Prop} {J : It} {Q : VK} {RR : Value → Addr → Result → Shared → Prop} {E : Value → Shared → Prop} (S : CompScope X scope N cap) (hc : X.calm = true)
  (hg : ∀ fp s H C, PG (cxC X scope N fp s H C) tg g) (ht : ∀ fp s H C, PIf (cxC X scope N fp s H C) ifs tt) (he : ∀ fp s H C, PE (cxC X scope N fp s H C) elt te)
  (I2 : Inv X pins σ H2 s2) (T : Turn X.prog X.w X.K tg J fp it tn) (st2 : tn 0 s2.heap) (f2 : ∀ b ∈ fp, FpOk X pins H2 b)
  (W : Nat → Nat → St → List V → Hp → Prop) {m0 : Nat} (w0 : W 0 m0 (capσ cap σ) [] H2)
  (turn : ∀ i m σ' ys H', W i m σ' ys H' → (J.stop i H' ∧ ∀ D, H' D = none → Q (.ref D) (upd H' D (.lst ys))) ∨ (J.go i H' ∧ ys.length < sizeLine ∧ ∃ (N : St → V → Hp → Prop) (N0 : St → Hp → Prop), (∀ σ2 y H4, N σ2 y H4 → ∃ m', m' < m ∧ W (i + 1) m' σ2 (ys ++ [y]) H4) ∧ (∀ σ2 H4, N0 σ2 H4 → ∃ m', m' < m ∧ W (i + 1) m' σ2 ys H4) ∧
   ∀ x H2, J.yld i H' x H2 → g x σ' H2 fun σ2 H3 => tt σ2 H3 fun b H4 => if b = true then te σ2 H4 (N σ2) else N0 σ2 H4))
  (hRR : ∀ (D C : Addr) (H' : Hp) (s' : Shared) (m : Str → Option Value), Inv X pins σ H' s' → FpOk X pins H' C → C ≠ D → s'.heap.Ns C m → Q (.ref D) H' → RR (.ref D) C (.ok .next) s') :
  wpAny (model X.prog X.w) X.A (newList []) (fun acc s₃ => wpAny (model X.prog X.w) X.A (newFunctionEnv scope X.env.globals (closL X.env.cells scope.names []) [] X.env.qual none .none (some X.env)) (fun cenv s₄ =>
   codeAny (model X.prog X.w) X.A (.compStart (.ListComp elt [⟨tg, iter, ifs, 0⟩] scope pos) 0 (.ref it) acc { cenv with scope := relabel scope X.env }) (RR acc cenv.locals) s₄) E s₃) E s2 := by
 refine wpAny_newObj_type (kfc ?_)
 dsimp only
 generalize hP : s2.heap.push { cls := .type "list", dict := none, data := .seq ([] : List Value).toArray } = P
 have hnew : CellsOk (pushCells (P.push { cls := .type "dict", data := .dict #[] }) scope.names) (P.objs.size + 1) (cellsFrom (P.objs.size + 1) scope.names []) := by
  have q := cellsFrom_ok scope.names (P.push { cls := .type "dict", data := .dict #[] }) (P.objs.size + 1) [] ⟨fun _ _ hm => (nomatch hm), R6.nil⟩ (by rw [Heap.size_push]; exact CC _)
  rwa [Heap.size_push] at q
 have hns₁ : (pushCells (P.push { cls := .type "dict", data := .dict #[] }) scope.names).Ns P.objs.size (fun _ => none) := (Heap.Ns.new P (.type "dict")).keeps (pushCells_keeps _ _)
 have keep₁ : ∀ b o, P.get? b = some o → (pushCells (P.push { cls := .type "dict", data := .dict #[] }) scope.names).get? b = some o := fun b o e => pushCells_keeps _ _ b o (Heap.get?_push_of_some _ e)
 generalize pushCells (P.push { cls := .type "dict", data := .dict #[] }) scope.names = h₁ at hnew hns₁ keep₁ ⊢
 have hC : P.objs.size = s2.heap.objs.size + 1 := by rw [← hP, Heap.size_push]
 have hDC : s2.heap.objs.size ≠ P.objs.size := by rw [hC]; exact Rc (SY _)
 have hCle : s2.heap.objs.size ≤ P.objs.size := by rw [hC]; exact Sd _
 have hDle : s2.heap.objs.size ≤ s2.heap.objs.size := CC _
 have old : ∀ b o, s2.heap.get? b = some o → h₁.get? b = some o := fun b o e => keep₁ b o (hP ▸ Heap.get?_push_of_some _ e)
 have hacc : h₁.get? s2.heap.objs.size = some { cls := .type "list", data := .seq ([] : List Value).toArray } := keep₁ _ _ (hP ▸ Heap.get?_push_size _ rfl)
 have hfp : ∀ b ∈ fp, b < s2.heap.objs.size := fun b hb => let ⟨_, e, _⟩ := T.obj 0 _ st2 b hb; Heap.lt_size e
 generalize hDd : s2.heap.objs.size = D at hacc hDC hDle ⊢
 rw [hDd] at hCle hC
 generalize P.objs.size = C at hnew hns₁ hC hDC hCle ⊢
 have dne : ∀ b ∈ fp, D ≠ b := fun b hb => RD (hDd ▸ hfp b hb)
 have cne : ∀ b ∈ fp, b ≠ C := fun b hb => Rc (Ra (hDd ▸ hfp b hb) hCle)
 have stkne : ∀ b ∈ fp, b ∉ frs X.stack := fun b hb hz => by
  obtain ⟨_, h1, h2, _⟩ := f2 b hb
  rcases C6.mp (I2.stkSub b hz) with e | e
  ·exact h1 e
  ·exact h2 e
 have dfs : D ∉ frs X.stack := fun hz => absurd (khA I2 hz) (by rw [hDd]; exact RN _)
 have dcell : ∀ x c, (kdG X scope C).lookup x = some c → c ≠ D := fun x c e z => by
  rcases kcn S I2 e with e | e
  ·have q : Nat.lt C c := (hnew.empty x c (PySem.mem_of_lookup e)).2
   rw [z] at q
   exact absurd (RP hCle q) (RN _)
  ·obtain ⟨v, q⟩ := I2.cell x c e
   have := q.lt
   rw [z, hDd] at this
   exact absurd this (RN _)
 have bcell : ∀ b ∈ fp, ∀ x c, (kdG X scope C).lookup x = some c → c ≠ b := fun b hb x c e => by
  rcases kcn S I2 e with e | e
  ·have q : Nat.lt C c := (hnew.empty x c (PySem.mem_of_lookup e)).2
   exact RD (Nat.lt_trans (Ra (hDd ▸ hfp b hb) hCle) q)
  ·exact (f2 b hb).2.2.2.2.1 x c e
 have stat : ∀ {o : Obj} {H' : Hp}, (∀ b ∈ fp, H' b = none) → ∀ b ∈ fp, FpOk (cxC X scope N fp s2 H2 C) [(D, o)] H' b := fun {o H'} hn b hb =>
  ⟨hn b hb, cne b hb, stkne b hb, .inl hb, bcell b hb, fun p hp => by
   have e : p = (D, o) := by simpa [cxC] using hp
   subst e
   exact dne b hb⟩
 have loop : ∀ s₃ : Shared, s₃ = { s2 with heap := h₁ } →
   codeAny (model X.prog X.w) X.A (.compLoop (.ListComp elt [⟨tg, iter, ifs, 0⟩] scope pos) 0 (.ref it) (.ref D) (compEnvC scope (kdG X scope C) C X.env)) (RR (.ref D) C) s₃ := by
  rintro s₃ rfl
  have I3 : Inv (cxC X scope N fp s2 H2 C) [(D, _)] (capσ cap σ) H2 { s2 with heap := h₁ } :=
   kjn S I2 f2 hfp old hns₁ (by rw [hDd]; exact hCle) (by rw [hDd]; exact CC _) hDC hacc (fun v z => by cases z) hnew rfl rfl
  refine kfO (fun n s' => ∃ i σ' ys H' its k, Inv (cxC X scope N fp s2 H2 C) [] σ' H' s' ∧ tn i s'.heap ∧ (∀ b ∈ fp, H' b = none) ∧ H' D = none ∧ s'.heap.get? D = some { cls := .type "list", data := .seq (its : List Value).toArray k } ∧ Vals ys its ∧ ys.length ≤ sizeLine ∧ W i n σ' ys H') ?_ m0
   ⟨0, _, [], H2, [], _, I3.pins_of (fun p hp => nomatch hp), T.keep _ _ _ st2 (fun b hb o e => old b o e), fun b hb => (f2 b hb).1, I2.hok.fresh (by rw [hDd]; exact CC _), hacc, .nil, Rl _, w0⟩
  rintro n s3 ⟨i, σ3, ys, H3, its, k, J3, st3, fr3, hD3, e3, r3, z3, w3⟩
  have J3' : Inv (cxC X scope N fp s2 H2 C) [(D, { cls := .type "list", data := .seq its.toArray k })] σ3 H3 s3 := J3.pins_of fun p hp => by
   have e : p = (D, { cls := .type "list", data := .seq its.toArray k }) := by simpa using hp
   subst e
   exact ⟨e3, hD3, hDC, dfs, fun v z => by cases z⟩
  rcases turn i n σ3 ys H3 w3 with ⟨stop, qn⟩ | ⟨go, hlt, N', N0', hN, hN0, step⟩
  ·refine thn (T.done (cxC X scope N fp s2 H2 C) rfl rfl rfl hc i _ s3 σ3 H3 (fun _ _ => False) J3' (stat fr3) st3 stop) fun r s4 ⟨hr, I4⟩ => ?_
   subst hr
   have e4 := (I4.pin (D, { cls := .type "list", data := .seq its.toArray k }) (by simp [cxC])).1
   have B : Inv X pins σ H3 s4 := comp_back I2 f2 (I4.pins_of fun p hp => nomatch hp)
   obtain ⟨m, hm, _⟩ := I4.loc
   have fD : FpOk X pins H3 D := I2.fpOk (by rw [hDd]; exact CC _) hD3
   have B' : Inv X pins σ (upd H3 D (.lst ys)) s4 := B.adopt fD (by rw [← hDd]; exact I2.sz) ⟨z3, its, k, r3, e4⟩
   refine hRR D C _ s4 m B' (I2.fpOk (by rw [hDd]; exact hCle) ?_) hDC.symm hm (qn D hD3)
   rw [kam hDC.symm]
   exact I4.free
  ·refine thn (T.item (cxC X scope N fp s2 H2 C) rfl rfl rfl hc i _ s3 σ3 H3 (fun _ _ => False) J3' (stat fr3) st3 go) fun r s4 ⟨u, hr, h4⟩ => ?_
   subst hr
   refine thn h4 fun _ s5 ⟨x, H5, I5, r5, y5, st5, fr5⟩ => ?_
   have I5' := I5.pinned (stat fr5) (T.obj _ _ st5)
   refine thn (hg fp s2 H2 C _ s5 σ3 H5 x u _ I5' r5 (step x H5 y5)) fun _ s6 ⟨σ6, H6, I6, q6⟩ => ?_
   refine thn (ht fp s2 H2 C _ s6 σ6 H6 _ I6 q6) fun ok s6' ⟨H6', I6', q6'⟩ => ?_
   cases ok with
   | false =>
    have q6' : N0' σ6 H6' := by simpa using q6'
    obtain ⟨m', hm', w7⟩ := hN0 σ6 H6' q6'
    have p7 := I6'.pin (D, { cls := .type "list", data := .seq its.toArray k }) (by simp [cxC])
    have e7 : s6'.heap.get? D = some { cls := .type "list", data := .seq its.toArray k } := p7.1
    have pf : ∀ b ∈ fp, ∀ o, s5.heap.get? b = some o → s6'.heap.get? b = some o ∧ H6' b = none := fun b hb o e =>
     let z := I6'.pin (b, o) (Rt _ (Rt _ (kcP hb e)))
     ⟨z.1, z.2.1⟩
    refine ⟨m', hm', i + 1, σ6, ys, H6', its, _, I6'.pins_of (fun p hp => nomatch hp), T.keep _ _ _ st5 (fun b hb o e => (pf b hb o e).1), fun b hb => ?_, p7.2.1, e7, r3, z3, w7⟩
    obtain ⟨o, e, _⟩ := T.obj _ _ st5 b hb
    exact (pf b hb o e).2
   | true =>
   have q6' : te σ6 H6' (N' σ6) := by simpa using q6'
   refine thn (he fp s2 H2 C _ s6' σ6 H6' _ I6' q6') fun v s7 ⟨y, H7, I7, r7, q7⟩ => ?_
   obtain ⟨m', hm', w7⟩ := hN σ6 y H7 q7
   have p7 := I7.pin (D, { cls := .type "list", data := .seq its.toArray k }) (by simp [cxC])
   have e7 : s7.heap.get? D = some { cls := .type "list", data := .seq its.toArray k } := p7.1
   have hl7 := r3.length
   refine call_meets F.slot_list_append ⟨_, e7, rfl⟩ F.entry_list_append (F.args_list_append_2 _ _) (PySem.list_append D its.toArray k v (by rw [C3]; omega)) ⟨e7, ?_⟩
   have q8 := PySem.IsL.update e7 (·.push v)
   have ex8 : its.toArray.push v = (its ++ [v]).toArray := by simp
   rw [ex8] at q8
   have pf : ∀ b ∈ fp, ∀ o, s5.heap.get? b = some o → s7.heap.get? b = some o ∧ H7 b = none := fun b hb o e =>
    let z := I7.pin (b, o) (Rt _ (Rt _ (kcP hb e)))
    ⟨z.1, z.2.1⟩
   have I7' : Inv (cxC X scope N fp s2 H2 C) [] σ6 H7 s7 := I7.pins_of fun p hp => nomatch hp
   refine ⟨m', hm', i + 1, σ6, ys ++ [y], H7, its ++ [v], _, I7'.turned (it := D) (fun b o hb e => (Heap.get?_update_other _ _ (Ne.symm hb)).trans e) p7.2.1 hDC (.inr (by show s2.heap.objs.size ≤ D; rw [hDd]; exact CC _)) dcell (fun p hp => nomatch hp),
    T.keep _ _ _ st5 (fun b hb o e => (Heap.get?_update_other _ _ (dne b hb)).trans (pf b hb o e).1), fun b hb => ?_, p7.2.1, q8, r3.append (.cons r7 .nil), by rw [C7, S6]; omega, w7⟩
   obtain ⟨o, e, _⟩ := T.obj _ _ st5 b hb
   exact (pf b hb o e).2
 have st1 : tn 0 h₁ := T.keep _ _ _ st2 (fun b hb o e => old b o e)
 exact codeAny_compStart_list (loop _ rfl) (T.self X.A 0 _ _ _ st1 (loop _ rfl))
theorem kja {wi : TI} (S : CompScope X scope N cap) (hc : X.calm = true) (hi : PI X tg iter wi) (hg : ∀ fp s H C, PG (cxC X scope N fp s H C) tg g) (ht : ∀ fp s H C, PIf (cxC X scope N fp s H C) ifs tt) (he : ∀ fp s H C, PE (cxC X scope N fp s H C) elt te)
  (hs : ∀ x, foldedSetIterable iter X.env x = pure x := by intro _; rfl) : PE X (.ListComp elt [⟨tg, iter, ifs, 0⟩] scope pos) (kk3 wi cap g tt te) := by
 intro pins s σ H Q I h
 rw [eval_ListComp]
 refine wpAny_comprehension_free (use := none) rfl hs (kcN S I) S.kind S.names (thn (hi pins s σ H _ I h) fun v s1 h1 => thn h1 fun itv s2 h2 => ?_)
 obtain ⟨it, fp, tn, J, H2, e, I2, T, st2, f2, W, ⟨m0, w0⟩, turn⟩ := h2
 subst e
 refine kdA (RR := fun acc C => compPost (model X.prog X.w) X.A X.xe none (EP X pins σ Q) acc C) S hc hg ht he I2 T st2 f2 W w0 turn fun D C H' s' m B fC hCD hm q => ?_
 obtain ⟨c0, c1, c2, c3, c4, c5⟩ := fC
 exact ⟨m, hm, fun h' hs' => ⟨.ref D, H', B.turned (t' := s'.toks) (fun b o hb e => (hs'.2 b hb).trans e) c0 c1 c3 c4 c5, rfl, q⟩⟩
theorem kfN {J : It} {Q : VK} {W : Nat → Nat → St → List V → Hp → Prop} (h : ∀ i m σ' ys H', W i m σ' ys H' → (J.stop i H' ∧ ∀ D, H' D = none → Q (.ref D) (upd H' D (.lst ys))) ∨ (J.go i H' ∧ ys.length < sizeLine ∧ ∃ N : St → V → Hp → Prop, (∀ σ2 y H4, N σ2 y H4 → ∃ m', m' < m ∧ W (i + 1) m' σ2 (ys ++ [y]) H4) ∧
   ∀ x H2, J.yld i H' x H2 → g x σ' H2 fun σ2 H3 => te σ2 H3 (N σ2))) : ∀ i m σ' ys H', W i m σ' ys H' → (J.stop i H' ∧ ∀ D, H' D = none → Q (.ref D) (upd H' D (.lst ys))) ∨ (J.go i H' ∧ ys.length < sizeLine ∧ ∃ (N : St → V → Hp → Prop) (N0 : St → Hp → Prop), (∀ σ2 y H4, N σ2 y H4 → ∃ m', m' < m ∧ W (i + 1) m' σ2 (ys ++ [y]) H4) ∧ (∀ σ2 H4, N0 σ2 H4 → ∃ m', m' < m ∧ W (i + 1) m' σ2 ys H4) ∧
   ∀ x H2, J.yld i H' x H2 → g x σ' H2 fun σ2 H3 => tYes σ2 H3 fun b H4 => if b = true then te σ2 H4 (N σ2) else N0 σ2 H4) := by
 intro i m σ' ys H' w
 rcases h i m σ' ys H' w with h | ⟨go, hl, N, hN, st⟩
 ·exact .inl h
 ·refine .inr ⟨go, hl, N, fun _ _ => False, hN, (fun _ _ z => z.elim), fun x H2 y => ?_⟩
  have e : (fun (σ2 : St) (H3 : Hp) => tYes σ2 H3 fun b H4 => if b = true then te σ2 H4 (N σ2) else False) = fun σ2 H3 => te σ2 H3 (N σ2) := by
   funext σ2 H3
   show (if true = true then te σ2 H3 (N σ2) else False) = te σ2 H3 (N σ2)
   rw [if_pos rfl]
  rw [e]
  exact st x H2 y
theorem kbO {wi : TI} (S : CompScope X scope N cap) (hc : X.calm = true) (hi : PI X tg iter wi) (hg : ∀ fp s H C, PG (cxC X scope N fp s H C) tg g) (he : ∀ fp s H C, PE (cxC X scope N fp s H C) elt te)
  (hs : ∀ x, foldedSetIterable iter X.env x = pure x := by intro _; rfl) : PE X (.ListComp elt [⟨tg, iter, [], 0⟩] scope pos) (tComp wi cap g te) := by
 intro pins s σ H Q I h
 rw [eval_ListComp]
 refine wpAny_comprehension_free (use := none) rfl hs (kcN S I) S.kind S.names (thn (hi pins s σ H _ I h) fun v s1 h1 => thn h1 fun itv s2 h2 => ?_)
 obtain ⟨it, fp, tn, J, H2, e, I2, T, st2, f2, W, ⟨m0, w0⟩, turn⟩ := h2
 subst e
 refine kdA (RR := fun acc C => compPost (model X.prog X.w) X.A X.xe none (EP X pins σ Q) acc C) S hc hg (fun _ _ _ _ => khW) he I2 T st2 f2 W w0 (kfN turn) fun D C H' s' m B fC hCD hm q => ?_
 obtain ⟨c0, c1, c2, c3, c4, c5⟩ := fC
 exact ⟨m, hm, fun h' hs' => ⟨.ref D, H', B.turned (t' := s'.toks) (fun b o hb e => (hs'.2 b hb).trans e) c0 c1 c3 c4 c5, rfl, q⟩⟩
theorem ke0 {wi : TI} {i : Nat} {y : Str} {py spos : Pos} (S : CompScope X scope N cap) (hc : X.calm = true) (hi : PI X tg iter wi) (hg : ∀ fp s H C, PG (cxC X scope N fp s H C) tg g) (he : ∀ fp s H C, PE (cxC X scope N fp s H C) elt te)
  (hA : PG X (.Name y py) (gName i)) (hsw : swapsWith (.ListComp elt [⟨tg, iter, [], 0⟩] scope pos) (some (.Name y py)) spos.line X.env = pure true := by rfl)
  (hs : ∀ x, foldedSetIterable iter X.env x = pure x := by intro _; rfl) : PS X (.Assign [.Name y py] (.ListComp elt [⟨tg, iter, [], 0⟩] scope pos) spos) (tAsg (tComp wi cap g te) (gName i)) := by
 intro pins s σ H D I h
 rw [exec_Assign_Name_used _ _ _ _ hsw]
 refine wpAny_bind (wpAny_standAt (wpAny_bind ?_))
 show wpAny _ X.A (do let _ ← comprehension (.ListComp elt [⟨tg, iter, [], 0⟩] scope pos) scope X.env _ (newList []) false (eval iter X.env) (some (assign (.Name y py) X.env))) _ _ s
 refine wpAny_bind (wpAny_mono (wpAny_comprehension_free (use := some (assign (.Name y py) X.env)) (Q := fun _ s' => SP X pins D .next s') rfl hs (kcN S I) S.kind S.names
  (thn (hi pins s σ H _ I h) fun v s1 h1 => thn h1 fun itv s2 h2 => ?_)) (fun _ s' hq => wpAny_pure (wpAny_pure hq)) fun _ _ e => e)
 obtain ⟨it, fp, tn, J, H2, e, I2, T, st2, f2, W, ⟨m0, w0⟩, turn⟩ := h2
 subst e
 refine kdA (Q := fun v H' => gName i v σ H' D.nx) (RR := fun acc C => compPost (model X.prog X.w) X.A X.xe (some (assign (.Name y py) X.env)) (fun _ s' => SP X pins D .next s') acc C) S hc hg (fun _ _ _ _ => khW) he I2 T st2 f2 W w0 (kfN (Q := fun v H' => gName i v σ H' D.nx) turn) fun D' C H' s' m B fC hCD hm q => ?_
 obtain ⟨c0, c1, c2, c3, c4, c5⟩ := fC
 obtain ⟨oC, es, ep, eC, dC, kC⟩ := hm
 have B' : Inv X (pins ++ [(C, oC)]) σ H' s' := B.pins_of fun p hp => by
  rcases Rk.mp hp with hp | hp
  ·exact B.pin p (Rt _ hp)
  ·have e : p = (C, oC) := by simpa using hp
   subst e
   exact ⟨eC, c0, c1, c2, fun v z => by rw [dC] at z; cases z⟩
 refine thn (hA _ s' σ H' (.ref D') (.ref D') _ B' rfl q) fun _ s'' ⟨σ2, H3, I3, q3⟩ => ?_
 obtain ⟨e3, n3, _⟩ := I3.pin (C, oC) (Rt _ (Rt _ (by simp)))
 exact ⟨m, ⟨oC, es, ep, e3, dC, kC⟩, fun h' hs' => ⟨σ2, H3, I3.unpinned.turned (t' := s''.toks) (fun b o hb e => (hs'.2 b hb).trans e) n3 c1 c3 c4 c5, q3⟩⟩
end
section
variable {g : TG} {te : TE} {σ : St} {H : Hp} {R : List V → Hp → Addr → Prop}
theorem kbF {K : CA} {a : Addr} {xs : List V} (Pv : Nat → St → List V → Hp → Prop) (h0 : Pv 0 σ [] H) (hz : xs.length ≤ sizeLine) (hl : ∀ i σ ys H, i ≤ xs.length → Pv i σ ys H → SqL K H a xs ∧ ys.length = i)
  (hs : ∀ i x σ ys H, xs[i]? = some x → Pv i σ ys H → g x σ H fun σ2 H2 => te σ2 H2 fun y H3 => Pv (i + 1) σ2 (ys ++ [y]) H3) (hd : ∀ σ ys H, Pv xs.length σ ys H → ∀ D, H D = none → R ys H D) :
  ∃ W : Nat → Nat → St → List V → Hp → Prop, (∃ m, W 0 m σ [] H) ∧ ∀ i m σ' ys H', W i m σ' ys H' →
   ((Itl K a).stop i H' ∧ ∀ D, H' D = none → R ys H' D) ∨ ((Itl K a).go i H' ∧ ys.length < sizeLine ∧ ∃ N : St → V → Hp → Prop, (∀ σ2 y H4, N σ2 y H4 → ∃ m', m' < m ∧ W (i + 1) m' σ2 (ys ++ [y]) H4) ∧
    ∀ x H2, (Itl K a).yld i H' x H2 → g x σ' H2 fun σ2 H3 => te σ2 H3 (N σ2)) := by
 refine ⟨fun i m σ ys H => m = xs.length - i ∧ i ≤ xs.length ∧ Pv i σ ys H, ⟨xs.length, by simp, Rl _, h0⟩, ?_⟩
 rintro i m σ ys H ⟨rfl, hi, p⟩
 obtain ⟨q, el⟩ := hl i σ ys H hi p
 by_cases hlt : i < xs.length
 ·refine .inr ⟨⟨xs, xs[i], q, by simp [hlt]⟩, by omega, fun σ2 y H3 => Pv (i + 1) σ2 (ys ++ [y]) H3, fun σ' y H' p' => ⟨xs.length - (i + 1), by omega, rfl, hlt, p'⟩, fun x H' yl => ?_⟩
  obtain ⟨e, yl⟩ := yl
  subst e
  exact hs i x σ ys _ (yl xs q) p
 ·have e : i = xs.length := by omega
  subst e
  exact .inl ⟨⟨xs, q, CC _⟩, hd σ ys H p⟩
theorem keO {lo : Int} {n : Nat} (Pv : Nat → St → List V → Hp → Prop) (h0 : Pv 0 σ [] H) (hz : n ≤ sizeLine) (hl : ∀ i σ ys H, i ≤ n → Pv i σ ys H → ys.length = i)
  (hs : ∀ i σ ys H, i < n → Pv i σ ys H → g (.int (lo + i)) σ H fun σ2 H2 => te σ2 H2 fun y H3 => Pv (i + 1) σ2 (ys ++ [y]) H3) (hd : ∀ σ ys H, Pv n σ ys H → ∀ D, H D = none → R ys H D) :
  ∃ W : Nat → Nat → St → List V → Hp → Prop, (∃ m, W 0 m σ [] H) ∧ ∀ i m σ' ys H', W i m σ' ys H' →
   ((Itr lo n).stop i H' ∧ ∀ D, H' D = none → R ys H' D) ∨ ((Itr lo n).go i H' ∧ ys.length < sizeLine ∧ ∃ N : St → V → Hp → Prop, (∀ σ2 y H4, N σ2 y H4 → ∃ m', m' < m ∧ W (i + 1) m' σ2 (ys ++ [y]) H4) ∧
    ∀ x H2, (Itr lo n).yld i H' x H2 → g x σ' H2 fun σ2 H3 => te σ2 H3 (N σ2)) := by
 refine ⟨fun i m σ ys H => m = n - i ∧ i ≤ n ∧ Pv i σ ys H, ⟨n, by simp, Rl _, h0⟩, ?_⟩
 rintro i m σ ys H ⟨rfl, hi, p⟩
 have el := hl i σ ys H hi p
 by_cases hlt : i < n
 ·refine .inr ⟨hlt, by omega, fun σ2 y H3 => Pv (i + 1) σ2 (ys ++ [y]) H3, fun σ' y H' p' => ⟨n - (i + 1), by omega, rfl, hlt, p'⟩, fun x H' yl => ?_⟩
  obtain ⟨e, yl⟩ := yl
  subst e yl
  exact hs i σ ys _ hlt p
 ·have e : i = n := by omega
  subst e
  exact .inl ⟨CC _, hd σ ys H p⟩
end
theorem CompScope.plain {X : Cx} {scope : Scope} {N : List Str} (kind : scope.kind = .function) (names : ∀ x ∈ scope.names, x.2 = .local → scope.names.lookup x.1 = some .local) (_ : ∀ x ∈ scope.names, x.2 ≠ .cell) (nf : ∀ x ∈ scope.names, x.2 ≠ .free) (nd : N.Nodup) :
  CompScope X scope N (CI N.length none) := by
 refine ⟨kind, names, fun x hx hf => absurd hf (nf x hx), nd, by simp, fun j i x e _ => ?_⟩
 rw [S2] at e
 split at e
 ·cases e
 ·cases e
def kjY (scope : Scope) (ns : List (Str × NameKind)) (XN N : List Str) (cap : List (Option Nat)) : Bool :=
 scope.kind == .function && scope.names.all (fun x => !(x.2 == .local) || scope.names.lookup x.1 == some .local) && scope.names.all (fun x => !(x.2 == .free) || (ns.lookup x.1 == some .cell || ns.lookup x.1 == some .free)) && decide N.Nodup && decide (cap.length = N.length) &&
  (cap.zip N).all fun p => match p.1 with
   | none => true
   | some i => XN[i]? == some p.2 && scope.names.lookup p.2 == some .free && scope.names.all fun y => !(y.1 == p.2 && y.2 == .cell)
theorem CompScope.of {X : Cx} {scope : Scope} {N : List Str} {cap : List (Option Nat)} (ns : List (Str × NameKind)) (XN : List Str) (hn : X.env.scope.names = ns) (hN : X.N = XN) (h : kjY scope ns XN N cap = true) : CompScope X scope N cap := by
 unfold kjY at h
 simp only [Sf, decide_eq_true_eq, S9, S8, Bool.not_eq_true', beq_iff_eq, beq_eq_false_iff_ne] at h
 obtain ⟨⟨⟨⟨⟨h1, h2⟩, h3⟩, h4⟩, h5⟩, h6⟩ := h
 refine ⟨h1, fun x hx hl => ?_, fun x hx hf => ?_, h4, h5, fun j i x e1 e2 => ?_⟩
 ·rcases h2 x hx with q | q
  ·exact absurd hl q
  ·exact q
 ·rw [hn]
  rcases h3 x hx with q | q
  ·exact absurd hf q
  ·exact q
 ·have hz : (cap.zip N)[j]? = some (some i, x) := by
   rw [List.getElem?_zip_eq_some]
   exact ⟨e1, e2⟩
  have q := h6 _ (CT hz)
  simp only [Sf, beq_iff_eq, S9, Bool.not_eq_true', Bool.and_eq_false_iff, beq_eq_false_iff_ne] at q
  obtain ⟨⟨q1, q2⟩, q3⟩ := q
  refine ⟨by rw [hN]; exact q1, q2, fun z => ?_⟩
  rcases q3 _ z with q | q
  ·exact q rfl
  ·exact q rfl
end L2
namespace L2
open PySem PySem.Spec PyProof.Rows
theorem Inv.turnedL {X : Cx} {pins : List (Addr × Obj)} {σ : St} {H : Hp} {s : Shared} {h' : Heap} {t' : Nat} {ch : List Addr} (I : Inv X pins σ H s) (k : ∀ b o, b ∉ ch → s.heap.get? b = some o → h'.get? b = some o) (hf : ∀ b ∈ ch, FpOk X pins H b) :
  Inv X pins σ H { s with heap := h', toks := t' } := by
 have nch : ∀ b u, H b = some u → b ∉ ch := fun b u e z => by
  have := (hf b z).1
  rw [this] at e
  cases e
 refine I.step (g' := s.gens) (d' := s.drawn) (ch := ch) (fun b hb => let ⟨_, h1, _, h3, h4, h5⟩ := hf b hb; ⟨h3, h1, h4, h5⟩) (fun b o _ _ hc e _ => k b o hc e) (fun b o _ _ hc e _ => ⟨o.slots, k b o hc e⟩) (fun _ _ _ _ n => n)
  (fun b o hc e => ⟨o, k b o hc e⟩) (fun _ _ e => e) (fun _ _ _ e => e) (fun b ps e => ⟨#[], by rw [e]; simp⟩) (fun m hm => ?_) (fun b u e => ?_) I.bare
 ·obtain ⟨o, es, ep, ho, r⟩ := hm
  exact ⟨o, es, ep, k _ o (fun z => (hf _ z).2.1 rfl) ho, r⟩
 ·refine (I.hok b u e).stay (fun c v hc q => k c v ?_ q) (fun _ q => q) fun _ _ q => q
  rcases hc with z | z
  ·rw [z]; exact nch b u e
  ·exact nch c _ z
def Ite (a : Addr) : It := ⟨fun i H => ∃ xs x, H a = some (.lst xs) ∧ xs[i]? = some x, fun i H x H' => ∃ t y, H t = none ∧ x = .ref t ∧ H' = upd H t (.tup [.int i, y]) ∧ ∀ xs, H a = some (.lst xs) → xs[i]? = some y, fun i H => ∃ xs, H a = some (.lst xs) ∧ xs.length ≤ i⟩
theorem khv {P : Program} {w : World} {K : CA} {es : List Expr} {k : Nat} {pos : Pos} (a e it : Addr) (hne : e ≠ it) : Turn P w K (.Tuple es k pos) (Ite a) [e, it] e (fun i h => (∃ old, IsEnum h e it ((i : Nat) : Int) old) ∧ h.IsListIter it a i) where
 mem := by simp
 obj := fun i h st b hb => by
  obtain ⟨⟨old, he⟩, o, eo, c, d⟩ := st
  have hb' : b = e ∨ b = it := by simpa using hb
  rcases hb' with rfl | rfl
  ·exact ⟨_, he, fun v z => by
    have z' : Data.fields _ = Data.cell v := z
    cases z'⟩
  ·exact ⟨o, eo, fun v z => by rw [d] at z; cases z⟩
 keep := fun i h h' st k => ⟨let ⟨old, he⟩ := st.1; ⟨old, k e (by simp) _ he⟩, st.2.at fun o eo => k it (by simp) o eo⟩
 item := by
  intro X hP hw hK hc i pins s σ H E I hf st hg
  subst hP hw hK
  obtain ⟨⟨old, he⟩, hit⟩ := st
  obtain ⟨xs, x, hq, hx⟩ := hg
  obtain ⟨its, n, r, ho, hz⟩ := I.lst hq
  obtain ⟨u, hu, ru⟩ := r.get hx
  have hl : s.heap.IsList a its.toArray := ⟨_, ho, rfl, n, rfl⟩
  refine wpAny_pyNext_enum_item he hit hl (x := u) (by simpa using hu) hne fun h1 heo hit1 ht1 hz1 hk1 => ?_
  refine ⟨.ref s.heap.objs.size, rfl, wpAny_letOwnedTupleGo_enum heo fun h2 he2 hs2 => ?_⟩
  have hs2' : Heap.SameBut e h1 h2 := hs2
  have el : e < s.heap.objs.size := Heap.lt_size he
  have kk : ∀ b o, b ∉ [e, it] → s.heap.get? b = some o → h2.get? b = some o := fun b o hb eo => by
   have hb' : b ≠ e ∧ b ≠ it := by simpa using hb
   exact (hs2'.2 b hb'.1).trans (hk1 b o hb'.1 hb'.2 eo)
  have I1 : Inv X pins σ H { s with heap := h2, toks := s.toks + 1 } := I.turnedL (ch := [e, it]) kk hf
  have fr : H s.heap.objs.size = none := I.hok.fresh (CC _)
  have ft : FpOk X pins H s.heap.objs.size := I.fpOk (CC _) fr
  have ht2 : h2.get? s.heap.objs.size = some { cls := .type "tuple", data := .seq #[.int i s.toks, u] } := (hs2'.2 _ (RD el)).trans ht1
  have I2 : Inv X pins σ (upd H s.heap.objs.size (.tup [.int i, x])) { s with heap := h2, toks := s.toks + 1 } :=
   I1.adopt ft I.sz ⟨by show 2 ≤ sizeLine; decide, [.int i s.toks, u], .cons ⟨_, rfl⟩ (.cons ru .nil), _, ht2, rfl, _, rfl⟩
  have hit2 : h2.IsListIter it a (i + 1) := hit1.extBut hs2'.extBut (Ne.symm hne)
  refine ⟨.ref s.heap.objs.size, _, I2, rfl, ⟨s.heap.objs.size, x, fr, rfl, rfl, fun ys hy => by rw [hq] at hy; cases hy; exact hx⟩, ⟨⟨u, ?_⟩, hit2⟩, fun b hb => ?_⟩
  ·have e1 : ((i + 1 : Nat) : Int) = (i : Int) + 1 := rfl
   rw [e1]
   exact he2
  ·have hbl : b < s.heap.objs.size := by
    have hb' : b = e ∨ b = it := by simpa using hb
    rcases hb' with rfl | rfl
    ·exact el
    ·obtain ⟨o, eo, _⟩ := hit
     exact Heap.lt_size eo
   rw [kam (Rc hbl)]
   exact (hf b hb).1
 done := by
  intro X hP hw hK hc i pins s σ H E I hf st hg
  subst hP hw hK
  obtain ⟨⟨old, he⟩, hit⟩ := st
  obtain ⟨xs, hq, hx⟩ := hg
  obtain ⟨its, n, r, ho, hz⟩ := I.lst hq
  have hl : s.heap.IsList a its.toArray := ⟨_, ho, rfl, n, rfl⟩
  have hlen := r.length
  obtain ⟨f0, f1, f2, f3, f4, f5⟩ := hf it (by simp)
  exact wpAny_pyNext_enum_end (I.ok.hd hc) he hit hl (by simp; omega) fun h' eb => ⟨rfl, I.turned (t' := s.toks) (fun b o hb e => eb b o hb e) f0 f1 f3 f4 f5⟩
 self := fun _ _ _ _ _ st h => let ⟨_, he⟩ := st.1; wpAny_pyIter_enum he h
section
variable {X : Cx}
def iEnum (ta : TA) : TI := fun σ H R => ta σ H fun vs H1 => ∃ a xs, vs = [.ref a] ∧ H1 a = some (.lst xs) ∧ R (Ite a) H1
theorem kf6 {es : List Expr} {k : Nat} {tpos : Pos} {e : Expr} {ta : TA} {p pos : Pos} (hg : Gl X "enumerate") (hm : X.mg "enumerate" = none) (ha : PA X [e] ta) (he : starEach [e] X.env = (false, eval e X.env) :: starEach [] X.env := by rfl)
  (hpl : (backTo pos (starEach [] X.env)).any (·.1) = false := by rfl) : PI X (.Tuple es k tpos) (.Call (.Name "enumerate" p) [e] [] pos) (iEnum ta) := by
 intro pins s σ H R I h
 refine Call_ (kde I hg hm boot_enumerate (PyProof.Rows.callWith_type1 (thn (ha pos pins s σ H _ I h) fun us s1 ⟨vs, H1, I1, r1, q1⟩ => ?_) he hpl))
 obtain ⟨a, xs, rfl, hq, q⟩ := q1
 obtain ⟨u, rfl, rx⟩ := vals1 r1
 cases rx
 obtain ⟨its, n, r, ho, hz⟩ := I1.lst hq
 refine call_enumerate_1 ho fun h' he' hit' hsz hk => wpAny_pyIter_enum he' ?_
 have I2 : Inv X pins σ H1 { s1 with heap := h' } := I1.kept (t' := s1.toks) hk
 refine ⟨s1.heap.objs.size + 1, [s1.heap.objs.size + 1, s1.heap.objs.size], _, _, H1, rfl, I2, khv a (s1.heap.objs.size + 1) s1.heap.objs.size (Nat.succ_ne_self _), ⟨⟨_, he'⟩, hit'⟩, fun b hb => ?_, q⟩
 have hb' : b = s1.heap.objs.size + 1 ∨ b = s1.heap.objs.size := by simpa using hb
 have hle : s1.heap.objs.size ≤ b := by rcases hb' with rfl | rfl <;> omega
 exact I1.fpOk hle (I1.hok.fresh hle)
end
theorem kgU {a : Addr} {xs : List V} {g : TG} {tb : TS} {D : Ends} {σ : St} {H : Hp} (Pv : Nat → St → Hp → Prop) (h0 : Pv 0 σ H) (hl : ∀ i σ H, i ≤ xs.length → Pv i σ H → H a = some (.lst xs))
  (hs : ∀ i y t σ H, xs[i]? = some y → Pv i σ H → H t = none → g (.ref t) σ (upd H t (.tup [.int (i : Nat), y])) fun σ2 H2 => tb { D with nx := Pv (i + 1), ct := Pv (i + 1), bk := D.nx } σ2 H2) (hd : ∀ σ H, Pv xs.length σ H → D.nx σ H) :
  ∃ W : Nat → Nat → St → Hp → Prop, (∃ m, W 0 m σ H) ∧ ∀ i m σ H, W i m σ H →
   ((Ite a).stop i H ∧ D.nx σ H) ∨ ((Ite a).go i H ∧ ∃ N : St → Hp → Prop, (∀ σ' H', N σ' H' → ∃ m', m' < m ∧ W (i + 1) m' σ' H') ∧ ∀ x H', (Ite a).yld i H x H' → g x σ H' fun σ2 H2 => tb { D with nx := N, ct := N, bk := D.nx } σ2 H2) := by
 refine ⟨fun i m σ H => m = xs.length - i ∧ i ≤ xs.length ∧ Pv i σ H, ⟨xs.length, by simp, Rl _, h0⟩, ?_⟩
 rintro i m σ H ⟨rfl, hi, p⟩
 have q := hl i σ H hi p
 by_cases hlt : i < xs.length
 ·refine .inr ⟨⟨xs, xs[i], q, by simp [hlt]⟩, Pv (i + 1), fun σ' H' p' => ⟨xs.length - (i + 1), by omega, rfl, hlt, p'⟩, fun x H' y => ?_⟩
  obtain ⟨t, y, hn, rfl, rfl, hy⟩ := y
  exact hs i y t σ _ (hy xs q) p hn
 ·have e : i = xs.length := by omega
  subst e
  exact .inl ⟨⟨xs, q, CC _⟩, hd σ H p⟩
section
variable {X : Cx}
theorem kg0 : ∀ {bs : List Bool} {us : List Value} {i : Nat} {v : Value}, Vals (bs.map V.bl) us → us[i]? = some v → ∃ b, bs[i]? = some b ∧ v = .bool b
 | [], _, _, _, .nil, e => by simp at e
 | b :: bs, u :: us, 0, v, .cons r _, e => by
  have e' : u = v := by simpa using e
  subst e'
  exact ⟨b, rfl, r⟩
 | b :: bs, u :: us, i + 1, v, .cons _ t, e => by
  obtain ⟨b', h1, h2⟩ := kg0 (i := i) (v := v) t (by simpa using e)
  exact ⟨b', by simpa using h1, h2⟩
theorem kgY (hc : X.calm = true) : CallR X (.builtin "all") (fun xs H Q => ∃ (p : Addr) (bs : List Bool), xs = [.ref p] ∧ SqL X.K H p (bs.map V.bl) ∧ Q (.bl (bs.all id)) H) := by
 intro pins s σ H xs us Q I r h
 obtain ⟨p, bs, rfl, hq, q⟩ := h
 obtain ⟨u, rfl, rx⟩ := vals1 r
 cases rx
 obtain ⟨its, r', pl, hz⟩ := I.list hq
 have hl := pl.isList
 have hlt : p < s.heap.objs.size := by obtain ⟨_, e, _⟩ := hl; exact Heap.lt_size e
 have hlen := r'.length
 refine call_all_walk (wpAny_pyIter_list hl ?_)
 refine ⟨s.heap.objs.size, [s.heap.objs.size, p], [s.heap.objs.size], its.toArray.size, _, _, fun i => (bs[i]?).getD true, rfl, Walks.list (A := X.A.in1) (I.ok.hd hc) _ p (Rc hlt) its.toArray,
  ⟨⟨_, Heap.get?_push_size _ rfl, rfl, rfl⟩, hl.push _⟩, fun i v s' Q' E' hP hQ => ?_, fun h' tk hk => ?_⟩
 ·obtain ⟨b, e, rfl⟩ := kg0 (i := i) (v := v) r' (by simpa using hP)
  simp only [e, Option.getD_some] at hQ
  exact wpAny_truthy_bool hQ
 ·have e : ((CP its.toArray.size).all fun i => (bs[i]?).getD true) = bs.all id := by
   rw [C3, ← hlen, Cz]
   exact LSm.range_all bs
  rw [e]
  exact ⟨.bl _, H, I.kept (LSm.kept_iter hk), rfl, q⟩
theorem b_all : bootBuiltins "all" = some (.builtin "all") := by decide +kernel
def kkx : V → List V → Hp → VK → Prop := fun x vs H Q => ∃ (l : Addr) (xs : List V) (k : Int) (y : V), x = .ref l ∧ vs = [.int k, y] ∧ H l = some (.lst xs) ∧ 0 ≤ k ∧ k ≤ xs.length ∧ xs.length < sizeLine ∧ Q .non (upd H l (.lst (xs.take k.toNat ++ y :: xs.drop k.toNat)))
theorem kkQ (its : List Value) (k : Nat) (u : Value) : (its.toArray.extract 0 k).push u ++ its.toArray.extract k = (its.take k ++ u :: its.drop k).toArray := by
 apply Array.ext'
 simp
 exact RB (by simp)
theorem kh6 : MtM X "list.insert" kkx := by
 intro pins s σ H x vs v us Q I rx rv h
 obtain ⟨l, xs, k, y, rfl, rfl, hH, hk0, hk, hz, q⟩ := h
 cases rx
 obtain ⟨uk, u, rfl, ⟨t, rfl⟩, ru⟩ := rv.two
 obtain ⟨z, its, n, r, hl, e⟩ := I.lstM hH
 have hn := keK
 have hfit : ¬ (!Builtin.List.listFitsIndex k) = true := by
  unfold Builtin.List.listFitsIndex
  simp
  omega
 have hsz : its.toArray.size ≤ sizeLine := by rw [C3]; omega
 refine call_meets F.slot_list_insert ⟨_, e, rfl⟩ F.entry_list_insert (F.args_list_insert_3 _ _ _) (AutoSeq1.list_insert_list_int_val_1 l its.toArray n k t u hfit hsz) ⟨e, ?_⟩
 refine ⟨.non, _, I.lset (its' := its.take k.toNat ++ u :: its.drop k.toNat) hH e ?_ ((r.take k.toNat).append (.cons ru (r.drop k.toNat))) ?_, rfl, q⟩
 ·have e1 : (if k < 0 then (k + (its.toArray.size : Int)).toNat else min k.toNat its.toArray.size) = k.toNat := by
   rw [if_neg (by omega), Sg (by simp; omega)]
  show (its.toArray.extract 0 (if k < 0 then (k + (its.toArray.size : Int)).toNat else min k.toNat its.toArray.size)).push u ++ its.toArray.extract (if k < 0 then (k + (its.toArray.size : Int)).toNat else min k.toNat its.toArray.size) = _
  rw [e1]
  exact kkQ its k.toNat u
 ·simp
  omega
end
section
variable {X : Cx}
end
end L2
namespace L2
open PySem PySem.Spec PyProof.Rows
section
variable {prog : Program} {w : World} {A : Around} {E : Value → Shared → Prop} {s : Shared}
end
section
variable {X : Cx}
end
section
variable {X : Cx} {CX : CXT} {k : Nat} {f C : Addr} {fd : FuncData} {ps ks : List Str} {sp : Sp} {E : XK} {x : Str} {p pos : Pos} {e : Expr} {es : List Expr} {kws : List Keyword} {t tk : TA} {g : List Value → List Value → List Value} {gV : List V → List V → List V}
end
end L2
namespace L2
open PySem PySem.Spec PyProof.Rows
def kkv (K : CA) : List V → Hp → VK → Prop := fun xs H Q => ∃ p ys, xs = [.ref p] ∧ (SqL K H p ys ∨ SqT K H p ys) ∧ ∀ l, H l = none → Q (.ref l) (upd H l (.lst ys))
def kkw (K : CA) : List V → Hp → VK → Prop := fun xs H Q => ∃ p ys, xs = [.ref p] ∧ (SqL K H p ys ∨ SqT K H p ys) ∧ Q (.int ys.length) H
section
variable {X : Cx} {K : CA} {pos : Pos}
theorem kcu {e : Expr} {ta : TE} {f : Str} (he : PE X e ta) (hb : attributeBase e f X.env (eval e X.env) = eval e X.env) (hK : X.K = K := by rfl) : PE X (.Attribute e f pos) (tFld K ta f) := by
 subst hK
 exact kap he hb
theorem kc1 {es : List Expr} {k : Nat} {t : TGs} {n : Nat} (hc : X.calm = true) (h : PGs X es t) (hK : X.K = K := by rfl)
  (hn : (assignEach es X.env).length = n := by rfl) (hst : (assignEach es X.env).findIdx? (·.1) = none := by rfl) : PG X (.Tuple es k pos) (gTup K n t) := by
 subst hK
 exact kcR hc h hn hst
end
end L2
namespace L2
open PySem PySem.Spec PyProof.Rows
inductive DEq (K : CA) (H : Hp) : Nat → V → V → Prop
 | flat {n : Nat} {x y : V} (fx : flatV x = true) (fy : flatV y = true) (e : eqV x y = true) : DEq K H n x y
 | same {n : Nat} (a : Addr) : DEq K H n (.ref a) (.ref a)
 | lst {n : Nat} {a b : Addr} {xs ys : List V} (ha : SqL K H a xs) (hb : SqL K H b ys) (hl : xs.length = ys.length) (h : ∀ (i : Nat) (x y : V), xs[i]? = some x → ys[i]? = some y → DEq K H n x y) : DEq K H (n + 1) (.ref a) (.ref b)
 | tup {n : Nat} {a b : Addr} {xs ys : List V} (ha : SqT K H a xs) (hb : SqT K H b ys) (hl : xs.length = ys.length) (h : ∀ (i : Nat) (x y : V), xs[i]? = some x → ys[i]? = some y → DEq K H n x y) : DEq K H (n + 1) (.ref a) (.ref b)
theorem DEq.self {K : CA} {H : Hp} {n : Nat} {x : V} (h : flatV x = true) : DEq K H n x x := .flat h h (kjv h)
theorem DEq.int {K : CA} {H : Hp} {n : Nat} (i : Int) : DEq K H n (.int i) (.int i) := .self rfl
theorem DEq.bl {K : CA} {H : Hp} {n : Nat} (i : Bool) : DEq K H n (.bl i) (.bl i) := .self rfl
theorem DEq.non {K : CA} {H : Hp} {n : Nat} : DEq K H n .non .non := .self rfl
theorem DEq.str {K : CA} {H : Hp} {n : Nat} (i : Str) : DEq K H n (.str i) (.str i) := .self rfl
section
variable {X : Cx}
end
def Itz (a b : Addr) : It := ⟨fun i H => ∃ xs ys x y, H a = some (.lst xs) ∧ H b = some (.lst ys) ∧ xs[i]? = some x ∧ ys[i]? = some y,
 fun i H v H' => ∃ t x y, H t = none ∧ v = .ref t ∧ H' = upd H t (.tup [x, y]) ∧ (∀ xs, H a = some (.lst xs) → xs[i]? = some x) ∧ ∀ ys, H b = some (.lst ys) → ys[i]? = some y,
 fun i H => ∃ xs ys, H a = some (.lst xs) ∧ H b = some (.lst ys) ∧ (xs.length ≤ i ∨ ys.length ≤ i)⟩
theorem kiM {P : Program} {w : World} {K : CA} {es : List Expr} {k : Nat} {pos : Pos} (a b z TI TO i1 i2 : Addr) (nd : [z, TI, TO, i1, i2].Nodup) :
  Turn P w K (.Tuple es k pos) (Itz a b) [z, TI, TO, i1, i2] z (fun i h => IsZip h z TI TO .none ∧ IsPair h TI (.ref i1) (.ref i2) ∧ (∃ u v, IsPair h TO u v) ∧ h.IsListIter i1 a i ∧ h.IsListIter i2 b i) where
 mem := by simp
 obj := fun i h st b hb => by
  obtain ⟨hz, hI, ⟨_, _, hO⟩, ⟨o1, e1, _, d1⟩, ⟨o2, e2, _, d2⟩⟩ := st
  simp only [C6, RC, or_false] at hb
  rcases hb with rfl | rfl | rfl | rfl | rfl
  ·exact ⟨_, hz, fun v q => by cases (show Data.fields _ = Data.cell v from q)⟩
  ·exact ⟨_, hI, fun v q => by cases (show Data.seq _ _ = Data.cell v from q)⟩
  ·exact ⟨_, hO, fun v q => by cases (show Data.seq _ _ = Data.cell v from q)⟩
  ·exact ⟨o1, e1, fun v q => by rw [d1] at q; cases q⟩
  ·exact ⟨o2, e2, fun v q => by rw [d2] at q; cases q⟩
 keep := fun i h h' st kk => by
  obtain ⟨hz, hI, ⟨u, v, hO⟩, h1, h2⟩ := st
  exact ⟨kk z (by simp) _ hz, kk TI (by simp) _ hI, ⟨u, v, kk TO (by simp) _ hO⟩, h1.at fun o e => kk i1 (by simp) o e, h2.at fun o e => kk i2 (by simp) o e⟩
 item := by
  intro X hP hw hK hc i pins s σ H E I hf st hg
  subst hP hw hK
  obtain ⟨hz, hI, ⟨u, v, hO⟩, h1, h2⟩ := st
  obtain ⟨xs, ys, x, y, ha, hb, hx, hy⟩ := hg
  obtain ⟨its1, n1, r1, ho1, _⟩ := I.lst ha
  obtain ⟨its2, n2, r2, ho2, _⟩ := I.lst hb
  obtain ⟨u1, g1, ru1⟩ := r1.get hx
  obtain ⟨u2, g2, ru2⟩ := r2.get hy
  have L1 : s.heap.IsList a its1.toArray := ⟨_, ho1, rfl, n1, rfl⟩
  have L2' : s.heap.IsList b its2.toArray := ⟨_, ho2, rfl, n2, rfl⟩
  have off : ∀ {l : Addr} {zs : List V}, H l = some (.lst zs) → l ∉ [z, TI, TO, i1, i2] := fun {l zs} e m => by
   have := (hf l m).1
   rw [this] at e
   cases e
  have oa := off ha
  have ob := off hb
  have nd' := nd
  simp only [RG, C6, RC, or_false, not_or, Ta, and_true, not_false_eq_true] at nd' oa ob
  obtain ⟨⟨nzI, nzO, nz1, nz2⟩, ⟨nIO, nI1, nI2⟩, ⟨nO1, nO2⟩, n12⟩ := nd'
  have D : ZipApart z TI TO i1 i2 a b := ⟨Ne.symm nzI, Ne.symm nzO, Ne.symm nz1, Ne.symm nz2, nIO, nI1, nI2, nO1, nO2, n12, oa.1, oa.2.2.1, oa.2.2.2.1, oa.2.2.2.2, ob.1, ob.2.2.1, ob.2.2.2.1, ob.2.2.2.2⟩
  refine wpAny_pyNext_zip_item D hz hI hO h1 h2 L1 L2' (x := u1) (y := u2) (by simpa using g1) (by simpa using g2) fun h' a1 a2 a3 a4 a5 a6 a7 => ?_
  refine ⟨.ref s.heap.objs.size, rfl, wpAny_letOwnedTupleGo_zip a1 fun h2' z2 s2 => ?_⟩
  have s2' : Heap.SameBut z h' h2' := s2
  have zl : z < s.heap.objs.size := Heap.lt_size hz
  have kk : ∀ b o, b ∉ [z, TI, TO, i1, i2] → s.heap.get? b = some o → h2'.get? b = some o := fun b o hb eo => by
   simp only [C6, RC, or_false, not_or] at hb
   exact (s2'.2 b hb.1).trans (a7 b o hb.1 hb.2.2.1 hb.2.2.2.1 hb.2.2.2.2 eo)
  have I1 : Inv X pins σ H { s with heap := h2', toks := s.toks } := I.turnedL (ch := [z, TI, TO, i1, i2]) kk hf
  have fr : H s.heap.objs.size = none := I.hok.fresh (CC _)
  have ft : FpOk X pins H s.heap.objs.size := I.fpOk (CC _) fr
  have t2 : h2'.get? s.heap.objs.size = some { cls := .type "tuple", data := .seq #[u1, u2] } := (s2'.2 _ (RD zl)).trans a5
  have I2 : Inv X pins σ (upd H s.heap.objs.size (.tup [x, y])) { s with heap := h2', toks := s.toks } :=
   I1.adopt ft I.sz ⟨by show 2 ≤ sizeLine; decide, [u1, u2], .cons ru1 (.cons ru2 .nil), _, t2, rfl, _, rfl⟩
  have hI2 : IsPair h2' TI (.ref i1) (.ref i2) := (s2'.2 _ (Ne.symm nzI)).trans (a7 TI _ (Ne.symm nzI) nIO nI1 nI2 hI)
  refine ⟨.ref s.heap.objs.size, _, I2, rfl, ⟨s.heap.objs.size, x, y, fr, rfl, rfl, fun ws e => by rw [ha] at e; cases e; exact hx, fun ws e => by rw [hb] at e; cases e; exact hy⟩,
   ⟨z2, hI2, ⟨_, _, (s2'.2 _ (Ne.symm nzO)).trans a2⟩, a3.extBut s2'.extBut (Ne.symm nz1), a4.extBut s2'.extBut (Ne.symm nz2)⟩, fun b hb => ?_⟩
  have hbl : b < s.heap.objs.size := by
   simp only [C6, RC, or_false] at hb
   rcases hb with rfl | rfl | rfl | rfl | rfl
   ·exact zl
   ·exact Heap.lt_size hI
   ·exact Heap.lt_size hO
   ·obtain ⟨o, e, _⟩ := h1; exact Heap.lt_size e
   ·obtain ⟨o, e, _⟩ := h2; exact Heap.lt_size e
  rw [kam (Rc hbl)]
  exact (hf b hb).1
 done := by
  intro X hP hw hK hc i pins s σ H E I hf st hg
  subst hP hw hK
  obtain ⟨hz, hI, ⟨u, v, hO⟩, h1, h2⟩ := st
  obtain ⟨xs, ys, ha, hb, hx⟩ := hg
  obtain ⟨its1, n1, r1, ho1, _⟩ := I.lst ha
  obtain ⟨its2, n2, r2, ho2, _⟩ := I.lst hb
  have L1 : s.heap.IsList a its1.toArray := ⟨_, ho1, rfl, n1, rfl⟩
  have L2' : s.heap.IsList b its2.toArray := ⟨_, ho2, rfl, n2, rfl⟩
  have hlen1 := r1.length
  have hlen2 := r2.length
  have off : ∀ {l : Addr} {zs : List V}, H l = some (.lst zs) → l ∉ [z, TI, TO, i1, i2] := fun {l zs} e m => by
   have := (hf l m).1
   rw [this] at e
   cases e
  have oa := off ha
  have ob := off hb
  have nd' := nd
  simp only [RG, C6, RC, or_false, not_or, Ta, and_true, not_false_eq_true] at nd' oa ob
  obtain ⟨⟨nzI, nzO, nz1, nz2⟩, ⟨nIO, nI1, nI2⟩, ⟨nO1, nO2⟩, n12⟩ := nd'
  have D : ZipApart z TI TO i1 i2 a b := ⟨Ne.symm nzI, Ne.symm nzO, Ne.symm nz1, Ne.symm nz2, nIO, nI1, nI2, nO1, nO2, n12, oa.1, oa.2.2.1, oa.2.2.2.1, oa.2.2.2.2, ob.1, ob.2.2.1, ob.2.2.2.1, ob.2.2.2.2⟩
  refine wpAny_pyNext_zip_end (I.ok.hd hc) D hz hI hO h1 h2 L1 L2' ?_ fun h' hk => ⟨rfl, ?_⟩
  ·rcases hx with hx | hx
   ·exact .inl (by simp; omega)
   ·exact .inr (by simp; omega)
  ·refine I.turnedL (t' := s.toks) (ch := [z, TI, TO, i1, i2]) (fun b o hb e => ?_) hf
   simp only [C6, RC, or_false, not_or] at hb
   exact hk b o hb.1 hb.2.2.1 hb.2.2.2.1 hb.2.2.2.2 e
 self := fun _ _ _ _ _ st h => wpAny_pyIter_zip st.1 h
theorem kkS (n : Nat) : ([n + 4, n + 2, n + 3, n, n + 1] : List Nat).Nodup := by
 simp only [RG, C6, RC, or_false, not_or, Ta, and_true, not_false_eq_true]
 omega
theorem kkT {n x : Nat} (h : x ∈ ([n + 4, n + 2, n + 3, n, n + 1] : List Nat)) : n ≤ x := by
 simp only [C6, RC, or_false] at h
 omega
section
variable {X : Cx}
def iZip (ta : TA) : TI := fun σ H R => ta σ H fun vs H1 => ∃ a b xs ys, vs = [.ref a, .ref b] ∧ H1 a = some (.lst xs) ∧ H1 b = some (.lst ys) ∧ R (Itz a b) H1
theorem klA : bootBuiltins "zip" = some (.type "zip") := by decide +kernel
theorem kc0 {es : List Expr} {k : Nat} {tpos : Pos} {e1 e2 : Expr} {ta : TA} {p pos : Pos} (hg : Gl X "zip") (hm : X.mg "zip" = none) (ha : PA X [e1, e2] ta) (he : starEach [e1, e2] X.env = (false, eval e1 X.env) :: starEach [e2] X.env := by rfl)
  (hpl : (backTo pos (starEach [e2] X.env)).any (·.1) = false := by rfl) : PI X (.Tuple es k tpos) (.Call (.Name "zip" p) [e1, e2] [] pos) (iZip ta) := by
 intro pins s σ H R I h
 refine Call_ (kde I hg hm klA (PyProof.Rows.callWith_type1 (thn (ha pos pins s σ H _ I h) fun us s1 ⟨vs, H1, I1, r1, q1⟩ => ?_) he hpl))
 obtain ⟨a, b, xs, ys, rfl, qa, qb, q⟩ := q1
 cases r1 with
 | cons ra rr =>
  cases rr with
  | cons rb rr =>
   cases rr
   cases ra
   cases rb
   obtain ⟨its1, n1, _, ho1, _⟩ := I1.lst qa
   obtain ⟨its2, n2, _, ho2, _⟩ := I1.lst qb
   refine call_zip_2 (xs := its1.toArray) (ys := its2.toArray) ⟨_, ho1, rfl, n1, rfl⟩ ⟨_, ho2, rfl, n2, rfl⟩ fun h' b1 b2 b3 b4 b5 _ hk => wpAny_pyIter_zip b1 ?_
   have I2 : Inv X pins σ H1 { s1 with heap := h' } := I1.kept (t' := s1.toks) hk
   refine ⟨s1.heap.objs.size + 4, [s1.heap.objs.size + 4, s1.heap.objs.size + 2, s1.heap.objs.size + 3, s1.heap.objs.size, s1.heap.objs.size + 1], _, _, H1, rfl, I2, kiM a b _ _ _ _ _ (kkS _), ⟨b1, b2, ⟨_, _, b3⟩, b4, b5⟩, fun x hx => ?_, q⟩
   have hle : s1.heap.objs.size ≤ x := kkT hx
   exact I1.fpOk hle (I1.hok.fresh hle)
end
theorem kgi {a b : Addr} {xs ys : List V} {g : TG} {tb : TS} {D : Ends} {σ : St} {H : Hp} (Pv : Nat → St → Hp → Prop) (h0 : Pv 0 σ H) (hl : ∀ i σ H, i ≤ min xs.length ys.length → Pv i σ H → H a = some (.lst xs) ∧ H b = some (.lst ys))
  (hs : ∀ i x y t σ H, xs[i]? = some x → ys[i]? = some y → Pv i σ H → H t = none → g (.ref t) σ (upd H t (.tup [x, y])) fun σ2 H2 => tb { D with nx := Pv (i + 1), ct := Pv (i + 1), bk := D.nx } σ2 H2) (hd : ∀ σ H, Pv (min xs.length ys.length) σ H → D.nx σ H) :
  ∃ W : Nat → Nat → St → Hp → Prop, (∃ m, W 0 m σ H) ∧ ∀ i m σ H, W i m σ H →
   ((Itz a b).stop i H ∧ D.nx σ H) ∨ ((Itz a b).go i H ∧ ∃ N : St → Hp → Prop, (∀ σ' H', N σ' H' → ∃ m', m' < m ∧ W (i + 1) m' σ' H') ∧ ∀ x H', (Itz a b).yld i H x H' → g x σ H' fun σ2 H2 => tb { D with nx := N, ct := N, bk := D.nx } σ2 H2) := by
 refine ⟨fun i m σ H => m = min xs.length ys.length - i ∧ i ≤ min xs.length ys.length ∧ Pv i σ H, ⟨min xs.length ys.length, by simp, Rl _, h0⟩, ?_⟩
 rintro i m σ H ⟨rfl, hi, p⟩
 obtain ⟨q1, q2⟩ := hl i σ H hi p
 by_cases hlt : i < min xs.length ys.length
 ·refine .inr ⟨⟨xs, ys, xs[i]'(by omega), ys[i]'(by omega), q1, q2, by simp [show i < xs.length by omega], by simp [show i < ys.length by omega]⟩, Pv (i + 1), fun σ' H' p' => ⟨min xs.length ys.length - (i + 1), by omega, rfl, hlt, p'⟩, fun x H' y => ?_⟩
  obtain ⟨t, x, y, hn, rfl, rfl, h1, h2⟩ := y
  exact hs i x y t σ _ (h1 _ q1) (h2 _ q2) p hn
 ·have e : i = min xs.length ys.length := by omega
  refine .inl ⟨⟨xs, ys, q1, q2, by omega⟩, ?_⟩
  rw [e] at p
  exact hd σ H p
theorem kdV {a b : Addr} {xs ys : List V} {g : TG} {te : TE} {σ : St} {H : Hp} {R : List V → Hp → Addr → Prop} (Pv : Nat → St → List V → Hp → Prop) (h0 : Pv 0 σ [] H) (hz : min xs.length ys.length ≤ sizeLine) (hl : ∀ i σ zs H, i ≤ min xs.length ys.length → Pv i σ zs H → H a = some (.lst xs) ∧ H b = some (.lst ys) ∧ zs.length = i)
  (hs : ∀ i x y t σ zs H, xs[i]? = some x → ys[i]? = some y → Pv i σ zs H → H t = none → g (.ref t) σ (upd H t (.tup [x, y])) fun σ2 H2 => te σ2 H2 fun z H3 => Pv (i + 1) σ2 (zs ++ [z]) H3) (hd : ∀ σ zs H, Pv (min xs.length ys.length) σ zs H → ∀ D, H D = none → R zs H D) :
  ∃ W : Nat → Nat → St → List V → Hp → Prop, (∃ m, W 0 m σ [] H) ∧ ∀ i m σ' zs H', W i m σ' zs H' →
   ((Itz a b).stop i H' ∧ ∀ D, H' D = none → R zs H' D) ∨ ((Itz a b).go i H' ∧ zs.length < sizeLine ∧ ∃ N : St → V → Hp → Prop, (∀ σ2 y H4, N σ2 y H4 → ∃ m', m' < m ∧ W (i + 1) m' σ2 (zs ++ [y]) H4) ∧
    ∀ x H2, (Itz a b).yld i H' x H2 → g x σ' H2 fun σ2 H3 => te σ2 H3 (N σ2)) := by
 refine ⟨fun i m σ zs H => m = min xs.length ys.length - i ∧ i ≤ min xs.length ys.length ∧ Pv i σ zs H, ⟨min xs.length ys.length, by simp, Rl _, h0⟩, ?_⟩
 rintro i m σ zs H ⟨rfl, hi, p⟩
 obtain ⟨q1, q2, el⟩ := hl i σ zs H hi p
 by_cases hlt : i < min xs.length ys.length
 ·refine .inr ⟨⟨xs, ys, xs[i]'(by omega), ys[i]'(by omega), q1, q2, by simp [show i < xs.length by omega], by simp [show i < ys.length by omega]⟩, by omega, fun σ2 y H3 => Pv (i + 1) σ2 (zs ++ [y]) H3, fun σ' y H' p' => ⟨min xs.length ys.length - (i + 1), by omega, rfl, hlt, p'⟩, fun x H' yl => ?_⟩
  obtain ⟨t, x, y, hn, rfl, rfl, h1, h2⟩ := yl
  exact hs i x y t σ zs _ (h1 _ q1) (h2 _ q2) p hn
 ·have e : i = min xs.length ys.length := by omega
  refine .inl ⟨⟨xs, ys, q1, q2, by omega⟩, ?_⟩
  rw [e] at p
  exact hd σ zs H p
end L2
namespace L2
open PySem PySem.Spec PyProof.Rows
section
variable {g : TG} {tt : TT} {te : TE} {σ : St} {H : Hp} {R : List V → Hp → Addr → Prop}
theorem kjy {J : It} {n : Nat} (Pv : Nat → St → List V → Hp → Prop) (h0 : Pv 0 σ [] H) (hz : n ≤ sizeLine) (hl : ∀ i σ ys H, i ≤ n → Pv i σ ys H → ys.length ≤ i) (hgo : ∀ i σ ys H, i < n → Pv i σ ys H → J.go i H) (hst : ∀ σ ys H, Pv n σ ys H → J.stop n H)
  (hs : ∀ i σ ys H x H', i < n → Pv i σ ys H → J.yld i H x H' → g x σ H' fun σ2 H2 => tt σ2 H2 fun b H3 => if b = true then te σ2 H3 (fun y H4 => Pv (i + 1) σ2 (ys ++ [y]) H4) else Pv (i + 1) σ2 ys H3) (hd : ∀ σ ys H, Pv n σ ys H → ∀ D, H D = none → R ys H D) :
  ∃ W : Nat → Nat → St → List V → Hp → Prop, (∃ m, W 0 m σ [] H) ∧ ∀ i m σ' ys H', W i m σ' ys H' →
   (J.stop i H' ∧ ∀ D, H' D = none → R ys H' D) ∨ (J.go i H' ∧ ys.length < sizeLine ∧ ∃ (N : St → V → Hp → Prop) (N0 : St → Hp → Prop), (∀ σ2 y H4, N σ2 y H4 → ∃ m', m' < m ∧ W (i + 1) m' σ2 (ys ++ [y]) H4) ∧ (∀ σ2 H4, N0 σ2 H4 → ∃ m', m' < m ∧ W (i + 1) m' σ2 ys H4) ∧
    ∀ x H2, J.yld i H' x H2 → g x σ' H2 fun σ2 H3 => tt σ2 H3 fun b H4 => if b = true then te σ2 H4 (N σ2) else N0 σ2 H4) := by
 refine ⟨fun i m σ ys H => m = n - i ∧ i ≤ n ∧ Pv i σ ys H, ⟨n, by simp, Rl _, h0⟩, ?_⟩
 rintro i m σ ys H ⟨rfl, hi, p⟩
 have el := hl i σ ys H hi p
 by_cases hlt : i < n
 ·refine .inr ⟨hgo i σ ys H hlt p, by omega, fun σ2 y H3 => Pv (i + 1) σ2 (ys ++ [y]) H3, fun σ2 H3 => Pv (i + 1) σ2 ys H3, fun σ' y H' p' => ⟨n - (i + 1), by omega, rfl, hlt, p'⟩, fun σ' H' p' => ⟨n - (i + 1), by omega, rfl, hlt, p'⟩, fun x H' yl => ?_⟩
  exact hs i σ ys H x H' hlt p yl
 ·have e : i = n := by omega
  subst e
  exact .inl ⟨hst σ ys H p, hd σ ys H p⟩
theorem khp {a : Addr} {xs : List V} (Pv : Nat → St → List V → Hp → Prop) (h0 : Pv 0 σ [] H) (hz : xs.length ≤ sizeLine) (hl : ∀ i σ ys H, i ≤ xs.length → Pv i σ ys H → H a = some (.lst xs) ∧ ys.length ≤ i)
  (hs : ∀ i y t σ ys H, xs[i]? = some y → Pv i σ ys H → H t = none → g (.ref t) σ (upd H t (.tup [.int (i : Nat), y])) fun σ2 H2 => tt σ2 H2 fun b H3 => if b = true then te σ2 H3 (fun y H4 => Pv (i + 1) σ2 (ys ++ [y]) H4) else Pv (i + 1) σ2 ys H3) (hd : ∀ σ ys H, Pv xs.length σ ys H → ∀ D, H D = none → R ys H D) :
  ∃ W : Nat → Nat → St → List V → Hp → Prop, (∃ m, W 0 m σ [] H) ∧ ∀ i m σ' ys H', W i m σ' ys H' →
   ((Ite a).stop i H' ∧ ∀ D, H' D = none → R ys H' D) ∨ ((Ite a).go i H' ∧ ys.length < sizeLine ∧ ∃ (N : St → V → Hp → Prop) (N0 : St → Hp → Prop), (∀ σ2 y H4, N σ2 y H4 → ∃ m', m' < m ∧ W (i + 1) m' σ2 (ys ++ [y]) H4) ∧ (∀ σ2 H4, N0 σ2 H4 → ∃ m', m' < m ∧ W (i + 1) m' σ2 ys H4) ∧
    ∀ x H2, (Ite a).yld i H' x H2 → g x σ' H2 fun σ2 H3 => tt σ2 H3 fun b H4 => if b = true then te σ2 H4 (N σ2) else N0 σ2 H4) :=
 kjy Pv h0 hz (fun i σ ys H hi p => (hl i σ ys H hi p).2) (fun i σ ys H hi p => ⟨xs, xs[i], (hl i σ ys H (CY hi) p).1, by simp [hi]⟩) (fun σ ys H p => ⟨xs, (hl _ σ ys H (CC _) p).1, CC _⟩)
  (fun i σ ys H x H' hi p yl => by
   obtain ⟨t, y, hn, rfl, rfl, hy⟩ := yl
   exact hs i y t σ ys _ (hy xs (hl i σ ys _ (CY hi) p).1) p hn) hd
end
section
variable {X : Cx}
def isI (k : Int) : Value → Bool
 | .int a _ => a == k
 | _ => false
theorem kfM : ∀ {ns : List Int} {us : List Value}, Vals (ns.map V.int) us → ∀ (j : Nat) (n : Int), ns[j]? = some n → ∃ t, us[j]? = some (.int n t)
 | [], _, _, j, n, e => by simp at e
 | m :: ns, u :: us, .cons r t, j, n, e => by
  cases j with
  | zero =>
   have e' : m = n := by simpa using e
   subst e'
   obtain ⟨t, rfl⟩ := r
   exact ⟨t, rfl⟩
  | succ j =>
   obtain ⟨q, h⟩ := kfM t j n (by simpa using e)
   exact ⟨q, by simpa using h⟩
end
end L2
namespace L2
open PySem PySem.Spec PyProof.Rows
structure BaseT (K : CA) (C : Addr) (m : Str) (f : Addr) : Prop where
 rd : PySem.W.readsIn K C (.type "type") = true
 ga : Sb K (.ref C) "__getattribute__" = some (some (.builtin "type.__getattribute__"))
 fc : PySem.W.findCls K (.ref C) (.type "type") m = some (.val (.ref f))
section
variable {X : Cx} {CX : CXT} {k : Nat} {f C : Addr} {fd : FuncData} {ps : List Str} {sp : Sp} {dvs : List V} {ds : List Value} {E : XK} {x m : Str} {p pos apos : Pos} {e o : Expr} {es : List Expr} {ta : TE} {t : TA}
theorem kd4 {pl : Sem Bool} (B : BaseT X.K C m f) (F : FnOk X.prog X.w X.K X.mg X.base CX k f fd ps sp) (hr : Room k X.A) (hg : Gl X x) (hm : X.mg x = some (.ref C)) (hk : CF X.K (.ref f) = true) (hb : Binds X.K fd ps ds) (hd : Vals dvs ds) (hx : kdj CX X E)
  (ha : PA X (e :: es) t) (hdb : (x == ("__debug__" : Str)) = false := by decide)
  (hst : starEach (e :: es) X.env = (false, eval e X.env) :: starEach es X.env := by rfl) (hpl : (backTo pos (starEach es X.env)).any (·.1) = false := by rfl)
  (ht : eval (.Call (.Attribute (.Name x p) m apos) (e :: es) [] pos) X.env = (do
   let ov ← eval (.Name x p) X.env
   standAt apos.atName
   let (f, first) ← holding [ov] (getMethod ov m pl)
   callWith pos f first (backTo pos (starEach (e :: es) X.env)) (backToKw pos (keywordEach [] X.env))) := by rfl) :
  PE X (.Call (.Attribute (.Name x p) m apos) (e :: es) [] pos) (tCall sp dvs E t) := by
 intro pins s σ H Q I h
 refine S1 (pl := pl) (thn (kdr (v := .ref C) hg hm rfl hdb pins s σ H (fun y H1 => y = .ref C ∧ H1 = H) I ⟨rfl, rfl⟩) fun u s1 ⟨y, H1, I1, ry, ey, eH⟩ => ?_) ht
 subst ey eH
 obtain rfl : u = Value.ref C := ry
 refine PySem.W.method_cls I1.kIn B.ga (PySem.W.cls_value I1.kIn B.rd B.fc rfl ?_)
 have I2 := I1.tok (s1.toks + 1)
 refine Su (h₀ := X.base) I.ok.mod.kin hk (thn (ha pos pins _ σ H1 _ I2 h) fun us s2 ⟨vs, H2, I3, r, q2⟩ => ⟨I3.kIn, ?_⟩) hst hpl
 exact kgx F hr hb hd hx I3 r q2
end
theorem kgg {n j : Nat} (h : j < n) : ixN n (j : Int) = some j := by
 unfold ixN
 rw [if_pos (by omega), if_pos (by omega)]
 simp
section
variable {X : Cx}
end
section
variable {X : Cx}
def klu (ta : TA) : TI := fun σ H R => ta σ H fun vs H1 => ∃ i j k : Int, vs = [.int i, .int j, .int k] ∧ (-(2 ^ 31) ≤ i ∧ i < 2 ^ 31) ∧ (-(2 ^ 31) ≤ j ∧ j < 2 ^ 31) ∧ 0 < k ∧ k < 2 ^ 30 ∧ R (Its i k (Builtin.Range.rangeSize i j k).toNat) H1
theorem khd {tg a b c : Expr} {ta : TA} {p pos : Pos} (hg : Gl X "range") (hm : X.mg "range" = none) (ha : PA X [a, b, c] ta) (he : starEach [a, b, c] X.env = (false, eval a X.env) :: starEach [b, c] X.env := by rfl)
  (hpl : (backTo pos (starEach [b, c] X.env)).any (·.1) = false := by rfl) : PI X tg (.Call (.Name "range" p) [a, b, c] [] pos) (klu ta) := by
 intro pins s σ H R I h
 refine Call_ (kde I hg hm boot_range (PyProof.Rows.callWith_type1 (thn (ha pos pins s σ H _ I h) fun us s1 ⟨vs, H1, I1, r1, q1⟩ => ?_) he hpl))
 obtain ⟨i, j, k, e, hi, hj, hk, hk2, q⟩ := q1
 subst e
 cases r1 with
 | cons r rr =>
  cases rr with
  | cons r' rr =>
   cases rr with
   | cons r'' rr =>
    cases rr
    obtain ⟨t, rfl⟩ := r
    obtain ⟨t', rfl⟩ := r'
    obtain ⟨t'', rfl⟩ := r''
    refine call_range_3 (by omega) ?_ (.inl (PyProof.noPylong_small (by omega)))
    refine wpAny_pyIter_range (IsRange.new ..) (kha hk hk2 hi hj) ?_
    have I2 : Inv X pins σ H1 { s1 with heap := s1.heap.push { cls := .type "range", data := .fields #[.int i t, .int j t', .int k t''] }, toks := s1.toks } := I1.kept fun b o e => Heap.get?_push_of_some _ e
    have hn := kfp hk hi hj
    refine ⟨(s1.heap.push { cls := .type "range", data := .fields #[.int i t, .int j t', .int k t''] }).objs.size, [(s1.heap.push { cls := .type "range", data := .fields #[.int i t, .int j t', .int k t''] }).objs.size], _, _, H1, rfl,
     I2.kept (t' := s1.toks) fun b o e => Heap.get?_push_of_some _ e, kht _ i k (Builtin.Range.rangeSize i j k).toNat, ?_, fun b hb => ?_, q⟩
    ·have e1 : i + ((0 : Nat) : Int) * k = i := by simp
     have e2 : (((Builtin.Range.rangeSize i j k).toNat : Nat) : Int) - ((0 : Nat) : Int) = Builtin.Range.rangeSize i j k := by omega
     show IsRangeIter _ _ (i + ((0 : Nat) : Int) * k) ((((Builtin.Range.rangeSize i j k).toNat : Nat) : Int) - ((0 : Nat) : Int)) k
     rw [e1, e2]
     exact Heap.get?_push_size _ rfl
    ·have e : b = (s1.heap.push { cls := .type "range", data := .fields #[.int i t, .int j t', .int k t''] }).objs.size := by simpa using hb
     subst e
     exact I2.fpOk (CC _) (I2.hok.fresh (CC _))
end
section
variable {g : TG} {te : TE} {σ : St} {H : Hp} {R : List V → Hp → Addr → Prop}
theorem kiE {lo st : Int} {n : Nat} (Pv : Nat → St → List V → Hp → Prop) (h0 : Pv 0 σ [] H) (hz : n ≤ sizeLine) (hl : ∀ i σ ys H, i ≤ n → Pv i σ ys H → ys.length = i)
  (hs : ∀ i σ ys H, i < n → Pv i σ ys H → g (.int (lo + i * st)) σ H fun σ2 H2 => te σ2 H2 fun y H3 => Pv (i + 1) σ2 (ys ++ [y]) H3) (hd : ∀ σ ys H, Pv n σ ys H → ∀ D, H D = none → R ys H D) :
  ∃ W : Nat → Nat → St → List V → Hp → Prop, (∃ m, W 0 m σ [] H) ∧ ∀ i m σ' ys H', W i m σ' ys H' →
   ((Its lo st n).stop i H' ∧ ∀ D, H' D = none → R ys H' D) ∨ ((Its lo st n).go i H' ∧ ys.length < sizeLine ∧ ∃ N : St → V → Hp → Prop, (∀ σ2 y H4, N σ2 y H4 → ∃ m', m' < m ∧ W (i + 1) m' σ2 (ys ++ [y]) H4) ∧
    ∀ x H2, (Its lo st n).yld i H' x H2 → g x σ' H2 fun σ2 H3 => te σ2 H3 (N σ2)) := by
 refine ⟨fun i m σ ys H => m = n - i ∧ i ≤ n ∧ Pv i σ ys H, ⟨n, by simp, Rl _, h0⟩, ?_⟩
 rintro i m σ ys H ⟨rfl, hi, p⟩
 have el := hl i σ ys H hi p
 by_cases hlt : i < n
 ·refine .inr ⟨hlt, by omega, fun σ2 y H3 => Pv (i + 1) σ2 (ys ++ [y]) H3, fun σ' y H' p' => ⟨n - (i + 1), by omega, rfl, hlt, p'⟩, fun x H' yl => ?_⟩
  obtain ⟨e, yl⟩ := yl
  subst e yl
  exact hs i σ ys _ hlt p
 ·have e : i = n := by omega
  subst e
  exact .inl ⟨CC _, hd σ ys H p⟩
end
theorem kf2 {L m : Nat} (hm : 0 < m) : (Builtin.Range.rangeSize 0 ((L : Int) - (m : Int) + 1) (m : Int)).toNat = L / m := by
 unfold Builtin.Range.rangeSize
 rw [if_pos (by omega)]
 by_cases h : m ≤ L
 ·rw [if_pos (by omega), show (L : Int) - (m : Int) + 1 - 0 - 1 = ((L - m : Nat) : Int) by omega, ← Int.natCast_ediv, Nat.div_eq_sub_div hm h]
  generalize (L - m) / m = q
  omega
 ·rw [if_neg (by omega), Nat.div_eq_of_lt (by omega)]
  rfl
end L2
namespace L2
open PySem PySem.Spec PyProof.Rows
inductive Src where
 | p (i : Nat)
 | k (j : Nat)
 | d (v : Value) (x : V)
def Src.val (us ws : List Value) : Src → Value
 | .p i => us.getD i .none
 | .k j => ws.getD j .none
 | .d v _ => v
def Src.abs (vs zs : List V) : Src → V
 | .p i => vs.getD i .non
 | .k j => zs.getD j .non
 | .d _ x => x
def Src.Ok : Src → Prop
 | .d v x => RelV x v
 | _ => True
section
variable {X : Cx} {CX : CXT} {k : Nat} {f C : Addr} {fd : FuncData} {ps ks : List Str} {sp : Sp} {E : XK} {x : Str} {p pos : Pos} {kws : List Keyword} {tk : TA} {g : List Value → List Value → List Value} {gV : List V → List V → List V}
end
end L2
namespace L2
open PySem PySem.Spec PyProof.Rows
def atK (kvs : List (Key × V)) (k : Key) : Option V := (kvs.find? fun p => decide (p.1 = k)).map Prod.snd
theorem kgn : ∀ {kvs : List (Key × V)} {vs : List (Key × Value)}, KV kvs vs → ∀ k, RelO (atK kvs k) (valueAt vs k)
 | _, _, .nil, _ => True.intro
 | p :: ps, q :: qs, .cons h t, k => by
  obtain ⟨h1, h2⟩ := h
  have ih := kgn t k
  unfold atK valueAt at *
  by_cases e : p.1 = k
  ·have e' : q.1 = k := h1.symm.trans e
   simp only [Sh, e, e', decide_true, Sy]
   exact h2
  ·have e' : ¬ q.1 = k := fun z => e (h1.trans z)
   simp only [Sh, e, e', decide_false]
   exact ih
theorem kvAny : ∀ {kvs : List (Key × V)} {vs : List (Key × Value)}, KV kvs vs → ∀ k : Key, atK kvs k = none → (vs.any fun p => decide (p.1 = k)) = false
 | _, _, .nil, _, _ => rfl
 | p :: ps, q :: qs, .cons h t, k, hn => by
  obtain ⟨h1, h2⟩ := h
  unfold atK at hn
  by_cases e : p.1 = k
  ·simp [Sh, e] at hn
  ·have e' : ¬ q.1 = k := fun z => e (h1.trans z)
   rw [RZ, decide_eq_false e', Bool.false_or]
   refine kvAny t k ?_
   unfold atK
   simpa [Sh, e] using hn
theorem kjS : ∀ {kvs : List (Key × V)} {vs : List (Key × Value)}, KV kvs vs → ∀ {k : Key} {y : V} {u : Value}, RelV y u → KV (kvs ++ [(k, y)]) (vs ++ [(k, u)])
 | _, _, .nil, _, _, _, r => .cons ⟨rfl, r⟩ .nil
 | _, _, .cons h t, _, _, _, r => .cons h (kjS t r)
theorem kvLen : ∀ {kvs : List (Key × V)} {vs : List (Key × Value)}, KV kvs vs → kvs.length = vs.length
 | _, _, .nil => rfl
 | _, _, .cons _ t => by rw [Rv, Rv, kvLen t]
theorem kjR : ∀ {kvs : List (Key × V)} {vs : List (Key × Value)}, KV kvs vs → Vals (kvs.map Prod.snd) (vs.map Prod.snd)
 | _, _, .nil => .nil
 | _, _, .cons h t => .cons h.2 (kjR t)
section
variable {X : Cx}
def kk2 : TE := fun _ H Q => ∀ p, H p = none → Q (.ref p) (upd H p (.dK []))
theorem ki9 {pos : Pos} : PE X (.Dict [] [] pos) kk2 := fun pins s σ H Q I h =>
 have big : sysModules < s.heap.objs.size := Nat.lt_trans (by decide) (show mainGlobals < s.heap.objs.size from (I.mod.glob.keeps I.bk).lt)
 wpAny_Dict_empty ⟨.ref s.heap.objs.size, _, I.laid (a := s.heap.objs.size) (o := .dK []) (t' := s.toks) (fun _ _ q => Heap.get?_push_of_some _ q) (CC _)
  (show ObjOk X.prog X.w _ _ _ (.dK []) from ⟨Rl _, beq_eq_false_iff_ne.mpr (Ne.symm (Rc big)), [], .nil, Heap.DictOf.new _⟩), rfl, h _ (I.hok.fresh (CC _))⟩
def rSetd : V → List V → Hp → VK → Prop := fun x vs H Q => ∃ (a : Addr) (kvs : List (Key × V)) (i : Int) (y : V), x = .ref a ∧ vs = [.int i, y] ∧ H a = some (.dK kvs) ∧ kvs.length < sizeLine ∧ (∀ v, atK kvs (.inl i) = some v → Q v H) ∧ (atK kvs (.inl i) = none → Q y (upd H a (.dK (kvs ++ [(.inl i, y)]))))
theorem kfd : MtM X "dict.setdefault" rSetd := by
 intro pins s σ H x vs v us Q I rx rv h
 obtain ⟨a, kvs, i, y, rfl, rfl, e, hz, h1, h2⟩ := h
 cases rx
 obtain ⟨u1, u2, rfl, ⟨t, rfl⟩, ru2⟩ := vals2 rv
 obtain ⟨z, hd, ws, rel, dd⟩ := (show ObjOk X.prog X.w H s.heap a (.dK kvs) from I.hok a _ e)
 have key : (kc4 X.prog X.w).is (Sum.inl i : Key) (.int i t) = true := kf9 _ _ i t
 refine call_meetsIn Tu dd.typeIs PySem.F.entry_dict_setdefault (PySem.F.args_dict_setdefault_3 _ _ _) (kt_meets_setdefault (kc4 X.prog X.w) a key hd u2)
  ⟨ws, dd, by rw [← kvLen rel]; exact z, fun v hv => ?_, fun hn h' dd' hs => ?_⟩
 ·have r := kgn rel (Sum.inl i)
  rw [hv] at r
  cases ea : atK kvs (Sum.inl i) with
  | none => rw [ea] at r; exact (show False from r).elim
  | some w' =>
   rw [ea] at r
   exact ⟨w', H, I.tok _, r, h1 w' ea⟩
 ·have r := kgn rel (Sum.inl i)
  rw [hn] at r
  have ea : atK kvs (Sum.inl i) = none := by
   cases ea : atK kvs (Sum.inl i) with
   | none => rfl
   | some w' => rw [ea] at r; exact (show False from r).elim
  have est : stored ws (Sum.inl i : Key) u2 = ws ++ [(Sum.inl i, u2)] := by
   unfold stored
   rw [kvAny rel _ ea, if_neg CW]
  rw [est] at dd'
  have he : ∃ q, h'.get? a = some q := let ⟨q, _, _, hq, _⟩ := dd'; ⟨q, hq⟩
  refine ⟨y, _, I.write (x := a) (e := a) (by rw [e]; exact True.intro) (.inl rfl) (fun b q hb w' => (hs.2 b hb).trans w') he ?_, ru2, h2 ea⟩
  exact (show ObjOk X.prog X.w _ h' a (.dK (kvs ++ [(.inl i, y)])) from ⟨by rw [C7, S6]; omega, hd, _, kjS rel ru2, dd'⟩)
def khw (te : TE) : TE := fun σ H Q => te σ H fun v H1 => ∃ (a : Addr) (kvs : List (Key × V)), v = .ref a ∧ H1 a = some (.dK kvs) ∧ ∀ l, H1 l = none → Q (.ref l) (upd H1 l (.lst (kvs.map Prod.snd)))
theorem kf7 {e : Expr} {te : TE} {p1 pos1 apos cpos : Pos} (hc : X.calm = true) (h1 : Gl X "list") (m1 : X.mg "list" = none) (he : PE X e te)
  (hbase : attributeBase e "values" X.env (eval e X.env) = eval e X.env := by rfl) (hline : (apos.endLine == cpos.line) = true := by rfl)
  (s2 : starEach [.Call (.Attribute e "values" apos) [] [] cpos] X.env = [(false, eval (.Call (.Attribute e "values" apos) [] [] cpos) X.env)] := by rfl) : PE X (.Call (.Name "list" p1) [.Call (.Attribute e "values" apos) [] [] cpos] [] pos1) (khw te) := by
 intro pins s σ H Q I h
 refine wpAny_Call_Name_kw (kde I h1 m1 kcx ?_ (by decide) (by decide))
 refine PyProof.Rows.callWith_type1 ?_ s2 rfl
 rw [s2]
 refine Calls.spliced_cons (wpAny_Call_method0_late hbase hline (thn (he pins s σ H _ I h) fun u s3 ⟨v, H1, I1, r1, a, kvs, ev, ea, q⟩ => ?_))
 subst ev
 cases r1
 obtain ⟨t1, t2⟩ := khs (T := "dict") (x := .ref a) (v := .ref a) I1 rfl (.inr (.inr (.inl ⟨rfl, .inl ⟨kvs, ea⟩⟩)))
 obtain ⟨z, hd, ws, rel, dd⟩ := (show ObjOk X.prog X.w H1 s3.heap a (.dK kvs) from I1.hok a _ ea)
 obtain ⟨ep, hat⟩ := dd.dictAt
 refine ⟨"dict", "dict.values", Tv, Tw, PySem.F.type_dict_values, t1, t2, Calls.callWith_builtin rfl (PySem.evalArgs_none ?_)⟩
 refine call_meetsIn Tw dd.typeIs PySem.F.entry_dict_values (PySem.F.args_dict_values_1 _) (meets_dict_values (kc4 X.prog X.w) a hd) ⟨⟨ws, dd⟩, Calls.spliced_nil ?_⟩
 refine PySem.W.kdl_call (PySem.W.kdl_values (knd := kc4 X.prog X.w) (kvs := ws) (ep := ep)) (I1.ok.hd hc) ⟨⟨_, Heap.get?_push_size _ rfl, rfl, rfl⟩, hat.push _⟩ (by rw [← kvLen rel]; exact z) fun h' tk acc' c' hk hS hacc => ?_
 have hv : acc'.toList = ws.map (·.2) := PySem.W.kdl_vals_eq acc'.toList (by rw [R3]; exact hacc.1) fun j v' ej => hacc.2 j v' (by rw [← Ts]; exact ej)
 generalize ho : ({ cls := .type "dict_values", data := .fields #[.ref a] } : Obj) = ob at *
 have hsz : (s3.heap.push ob).objs.size = s3.heap.objs.size + 1 := Heap.size_push ..
 have rv : Vals (kvs.map Prod.snd) acc'.toList := by rw [hv]; exact kjR rel
 have I2 : Inv X pins σ (upd H1 (s3.heap.push ob).objs.size (.lst (kvs.map Prod.snd))) { s3 with heap := h', toks := tk } :=
  I1.laid (fun b o e => hk b o (Heap.get?_push_of_some _ e)) (by rw [hsz]; exact Sd _) (show ObjOk X.prog X.w _ h' _ (.lst (kvs.map Prod.snd)) from ⟨by rw [Cz]; exact z, acc'.toList, c', rv, by simpa using hS⟩)
 exact ⟨.ref _, _, I2, rfl, q _ (I1.hok.fresh (by rw [hsz]; exact Sd _))⟩
end
end L2
namespace L2
open PySem PySem.Spec PyProof.Rows
section
variable {X : Cx}
end
end L2
namespace Stb
open PySem PyProof.Rows
def T (xs : Array Keyed) (i : Nat) : Int := match xs[i]? with
 | some p => numOf p.2
 | none => 0
theorem T_at {xs ys : Array Keyed} {i j : Nat} (h : xs[i]? = ys[j]?) : T xs i = T ys j := by unfold T; rw [h]
def Lx (xs : Array Keyed) (i j : Nat) : Prop := K xs i < K xs j ∨ (K xs i = K xs j ∧ T xs i < T xs j)
theorem Lx.trans {xs : Array Keyed} {i j k : Nat} (h : Lx xs i j) (h' : Lx xs j k) : Lx xs i k := by unfold Lx at *; omega
theorem Lx.le {xs : Array Keyed} {i j : Nat} (h : Lx xs i j) : K xs i ≤ K xs j := by unfold Lx at *; omega
def Up (xs : Array Keyed) (k : Nat) : Prop := ∀ i j, i < j → j < k → Lx xs i j
def Dn (xs : Array Keyed) (k : Nat) : Prop := ∀ i j, i < j → j < k → Lx xs j i
def Lat (a₀ xs : Array Keyed) (k : Nat) : Prop := ∀ i j, i < j → k ≤ j → j < a₀.size → T xs i < T xs j
theorem Lat.mono {a₀ xs : Array Keyed} {k k' : Nat} (h : Lat a₀ xs k) (hk : k ≤ k') : Lat a₀ xs k' := fun i j h1 h2 h3 => h i j h1 (by omega) h3
theorem kgZ {xs : Array Keyed} {src d : Nat} (hs : src < xs.size) (hd : d ≤ src) (k : Nat) :
  ∃ k', (K (bubble xs src d) k = K xs k' ∧ T (bubble xs src d) k = T xs k') ∧ k' = if k = src - d then src else if src - d < k ∧ k ≤ src then k - 1 else k := by
 refine ⟨_, ?_, rfl⟩
 have e := getElem?_bubble hs d hd k
 have e' : (bubble xs src d)[k]? = xs[if k = src - d then src else if src - d < k ∧ k ≤ src then k - 1 else k]? := by
  rw [e]
  split
  ·rfl
  ·split <;> rfl
 exact ⟨K_congr e', T_at e'⟩
theorem kcD {xs : Array Keyed} {i j : Nat} (hj : j ≤ xs.size) (k : Nat) :
  ∃ k', (K (mirror xs i j ((j - i) / 2)) k = K xs k' ∧ T (mirror xs i j ((j - i) / 2)) k = T xs k') ∧ k' = if i ≤ k ∧ k < j then i + j - 1 - k else k := by
 refine ⟨_, ?_, rfl⟩
 have e := getElem?_mirror_all (i := i) hj k
 have e' : (mirror xs i j ((j - i) / 2))[k]? = xs[if i ≤ k ∧ k < j then i + j - 1 - k else k]? := by
  rw [e]
  split <;> rfl
 exact ⟨K_congr e', T_at e'⟩
theorem kgc {a₀ xs : Array Keyed} {i j k : Nat} (hj : j ≤ xs.size) (hk : j ≤ k) (h : Lat a₀ xs k) : Lat a₀ (mirror xs i j ((j - i) / 2)) k := by
 intro a b hab hkb hb
 obtain ⟨a', ⟨_, ea⟩, ha⟩ := kcD (i := i) hj a
 obtain ⟨b', ⟨_, eb⟩, hb'⟩ := kcD (i := i) hj b
 rw [ea, eb]
 rw [if_neg (by omega)] at hb'
 subst hb'
 refine h _ _ ?_ hkb hb
 rw [ha]
 split <;> omega
section
variable {prog : Program} {w : World} {A : Around} {E : Value → Shared → Prop} {s : Shared} {a₀ : Array Keyed}
theorem asc {st : SortSt} {a nrem : Nat} {Q : AscSt → SortSt → Prop} (h0 : IntKeys a₀) (hn : nrem ≤ a₀.size) (ha : 1 ≤ a) (han : a ≤ nrem) (hB : SBase a₀ st) (hs : Up (arrOf st) a) (hl : Lat a₀ (arrOf st) a)
  (h : ∀ n, a ≤ n → n ≤ nrem → Up (arrOf st) n → (n = nrem ∨ K (arrOf st) n < K (arrOf st) (n - 1)) → Q (none, n) st) : wpS (model prog w) A E s (ascLoop a nrem) Q st := by
 unfold ascLoop
 refine wpS_forRange (I := fun x c st' => st' = st ∧ c = (none, x) ∧ Up (arrOf st) x) ?turn ?over ⟨rfl, rfl, hs⟩
 case over =>
  rintro c st' ⟨rfl, rfl, u⟩
  rw [show max a nrem = nrem by omega] at u ⊢
  exact h nrem han (CC _) u (.inl rfl)
 case turn =>
  rintro x c st' hax hxn ⟨rfl, rfl, u⟩
  dsimp only
  refine wpS_bind (wpS_ltK hB h0 (by omega) (by omega) ?_)
  by_cases c1 : K (arrOf st') x < K (arrOf st') (x - 1)
  ·simp only [c1, decide_true, if_true]
   exact wpS_pure (h x hax (by omega) u (.inr c1))
  ·simp only [c1, decide_false, Rw, if_false]
   refine wpS_pure ⟨rfl, rfl, fun i j hij hj => ?_⟩
   by_cases hjx : j < x
   ·exact u i j hij hjx
   ·have e : j = x := by omega
    subst e
    have t1 := hl (j - 1) j (by omega) hax (by omega)
    have l1 : Lx (arrOf st') (j - 1) j := by unfold Lx; omega
    by_cases e2 : i = j - 1
    ·rw [e2]; exact l1
    ·exact (u i (j - 1) (by omega) (by omega)).trans l1
theorem tail {st : SortSt} {n nrem : Nat} {Q : Option Nat → SortSt → Prop} (h0 : IntKeys a₀) (hn : nrem ≤ a₀.size) (h1 : 1 ≤ n) (hnn : n ≤ nrem) (hB : SBase a₀ st) (hs : Dn (arrOf st) n) (hl : Lat a₀ (arrOf st) n)
  (h : ∀ m st', SBase a₀ st' → 1 ≤ m → m ≤ nrem → Up (arrOf st') m → Lat a₀ (arrOf st') m → Q (some m) st') : wpS (model prog w) A E s (tail3 n nrem) Q st := by
 unfold tail3
 have sz : n ≤ (arrOf st).size := by rw [hB.size]; omega
 refine wpS_bind (wpS_reverse ?_)
 have hB2 : SBase a₀ (setArr st (mirror (arrOf st) 0 n ((n - 0) / 2))) := hB.setArr (mirror_perm _ _ _ _)
 have hl2 : Lat a₀ (mirror (arrOf st) 0 n ((n - 0) / 2)) n := kgc sz (CC _) hl
 refine wpS_bind (asc h0 hn h1 hnn hB2 ?_ hl2 fun m hm1 hm2 hu _ => wpS_pure (h m _ hB2 (by omega) hm2 hu (hl2.mono hm1)))
 intro i j hij hj
 show Lx (mirror (arrOf st) 0 n ((n - 0) / 2)) i j
 obtain ⟨i', ⟨k1, t1⟩, e1⟩ := kcD (i := 0) sz i
 obtain ⟨j', ⟨k2, t2⟩, e2⟩ := kcD (i := 0) sz j
 rw [if_pos (by omega)] at e1 e2
 have := hs j' i' (by omega) (by omega)
 unfold Lx at this ⊢
 rw [k1, k2, t1, t2]
 exact this
structure Fl (a₀ xs : Array Keyed) (x neq : Nat) : Prop where
 few : neq + 1 ≤ x
 hd : Dn xs (x - (neq + 1))
 cr : ∀ i j, i < x - (neq + 1) → x - (neq + 1) ≤ j → j < x → K xs j < K xs i
 tl : ∀ i j, x - (neq + 1) ≤ i → i < j → j < x → K xs i = K xs j ∧ T xs i < T xs j
 lat : Lat a₀ xs x
theorem Fl.turned {xs : Array Keyed} {x neq : Nat} (h : Fl a₀ xs x neq) (hx : x ≤ xs.size) : Dn (mirror xs (x - (neq + 1)) x ((x - (x - (neq + 1))) / 2)) x ∧ (∀ i, i < x → K xs (x - 1) ≤ K (mirror xs (x - (neq + 1)) x ((x - (x - (neq + 1))) / 2)) i) ∧ Lat a₀ (mirror xs (x - (neq + 1)) x ((x - (x - (neq + 1))) / 2)) x ∧
  ∀ k, x ≤ k → K (mirror xs (x - (neq + 1)) x ((x - (x - (neq + 1))) / 2)) k = K xs k := by
 have hf := h.few
 refine ⟨fun i j hij hj => ?_, fun i hi => ?_, kgc hx (CC _) h.lat, fun k hk => ?_⟩
 ·obtain ⟨i', ⟨k1, t1⟩, e1⟩ := kcD (i := x - (neq + 1)) hx i
  obtain ⟨j', ⟨k2, t2⟩, e2⟩ := kcD (i := x - (neq + 1)) hx j
  unfold Lx
  rw [k1, k2, t1, t2]
  by_cases c1 : j < x - (neq + 1)
  ·rw [if_neg (by omega)] at e1 e2
   subst e1 e2
   exact h.hd i' j' hij c1
  ·rw [if_pos (by omega)] at e2
   by_cases c2 : i < x - (neq + 1)
   ·rw [if_neg (by omega)] at e1
    subst e1
    exact .inl (h.cr i' j' c2 (by omega) (by omega))
   ·rw [if_pos (by omega)] at e1
    have := h.tl j' i' (by omega) (by omega) (by omega)
    omega
 ·obtain ⟨i', ⟨k1, _⟩, e1⟩ := kcD (i := x - (neq + 1)) hx i
  rw [k1]
  by_cases c2 : i < x - (neq + 1)
  ·rw [if_neg (by omega)] at e1
   subst e1
   have := h.cr i' (x - 1) c2 (by omega) (by omega)
   omega
  ·rw [if_pos (by omega)] at e1
   by_cases c3 : i' = x - 1
   ·rw [c3]; exact Int.le_refl _
   ·have := h.tl i' (x - 1) (by omega) (by omega) (by omega)
    omega
 ·obtain ⟨k', ⟨k1, _⟩, e1⟩ := kcD (i := x - (neq + 1)) hx k
  rw [if_neg (by omega)] at e1
  rw [k1, e1]
theorem Fl.plain {xs : Array Keyed} {x : Nat} (h : Fl a₀ xs x 0) : Dn xs x ∧ (∀ i, i < x → K xs (x - 1) ≤ K xs i) := by
 have hf := h.few
 refine ⟨fun i j hij hj => ?_, fun i hi => ?_⟩
 ·by_cases c1 : j < x - (0 + 1)
  ·exact h.hd i j hij c1
  ·exact .inl (h.cr i j (by omega) (by omega) hj)
 ·by_cases c3 : i = x - 1
  ·rw [c3]; exact Int.le_refl _
  ·have := h.cr i (x - 1) (by omega) (by omega) (by omega)
   omega
theorem Fl.next {xs : Array Keyed} {x : Nat} (hd : Dn xs x) (hk : ∀ i, i < x → K xs x < K xs i) (hl : Lat a₀ xs x) : Fl a₀ xs (x + 1) 0 :=
 ⟨by omega, fun i j h1 h2 => hd i j h1 (by omega), fun i j h1 h2 h3 => by
  have e : j = x := by omega
  subst e
  exact hk i (by omega), fun i j h1 h2 h3 => by omega, hl.mono (by omega)⟩
theorem desc {st : SortSt} {n nrem : Nat} {Q : DescSt → SortSt → Prop} (h0 : IntKeys a₀) (hn : nrem ≤ a₀.size) (hnn : n ≤ nrem) (hB : SBase a₀ st) (hs : Fl a₀ (arrOf st) n 0)
  (h : ∀ m neq st', SBase a₀ st' → n ≤ m → m ≤ nrem → Fl a₀ (arrOf st') m neq → Q (none, m, neq) st') : wpS (model prog w) A E s (descLoop n nrem) Q st := by
 unfold descLoop
 refine wpS_forRange (I := fun x c st' => ∃ neq, c = (none, x, neq) ∧ SBase a₀ st' ∧ Fl a₀ (arrOf st') x neq) ?turn ?over ⟨0, rfl, hB, hs⟩
 case over =>
  rintro c st' ⟨neq, rfl, hB', f⟩
  rw [show max n nrem = nrem by omega] at f ⊢
  exact h nrem neq st' hB' hnn (CC _) f
 case turn =>
  rintro x c st' hax hxn ⟨neq, rfl, hB', f⟩
  dsimp only
  have few := f.few
  have sz : x ≤ (arrOf st').size := by rw [hB'.size]; omega
  refine wpS_bind (wpS_ltK hB' h0 (by omega) (by omega) ?_)
  by_cases c1 : K (arrOf st') x < K (arrOf st') (x - 1)
  ·simp only [c1, decide_true, if_true]
   by_cases c2 : neq > 0
   ·rw [if_pos c2]
    obtain ⟨d1, d2, d3, d4⟩ := f.turned sz
    refine wpS_bind (wpS_reverse (wpS_pure ⟨0, rfl, hB'.setArr (mirror_perm _ _ _ _), Fl.next d1 (fun i hi => ?_) d3⟩))
    have := d2 i hi
    have e := d4 x (CC _)
    show K (mirror (arrOf st') _ _ _) x < K (mirror (arrOf st') _ _ _) i
    omega
   ·rw [if_neg c2]
    have e : neq = 0 := by omega
    subst e
    obtain ⟨d1, d2⟩ := f.plain
    exact wpS_pure ⟨0, rfl, hB', Fl.next d1 (fun i hi => by have := d2 i hi; omega) f.lat⟩
  ·simp only [c1, decide_false, Rw, if_false]
   refine wpS_bind (wpS_ltK hB' h0 (by omega) (by omega) ?_)
   by_cases c2 : K (arrOf st') (x - 1) < K (arrOf st') x
   ·simp only [c2, decide_true, if_true]
    exact wpS_pure (h x neq st' hB' hax (by omega) f)
   ·simp only [c2, decide_false, Rw, if_false]
    have ek : K (arrOf st') x = K (arrOf st') (x - 1) := by omega
    refine wpS_pure ⟨neq + 1, rfl, hB', ⟨by omega, ?_, ?_, ?_, f.lat.mono (by omega)⟩⟩
    ·rw [show x + 1 - (neq + 1 + 1) = x - (neq + 1) by omega]
     exact f.hd
    ·rw [show x + 1 - (neq + 1 + 1) = x - (neq + 1) by omega]
     intro i j h1 h2 h3
     by_cases c3 : j < x
     ·exact f.cr i j h1 h2 c3
     ·have e : j = x := by omega
      subst e
      rw [ek]
      exact f.cr i (j - 1) h1 (by omega) (by omega)
    ·rw [show x + 1 - (neq + 1 + 1) = x - (neq + 1) by omega]
     intro i j h1 h2 h3
     by_cases c3 : j < x
     ·exact f.tl i j h1 h2 c3
     ·have e : j = x := by omega
      subst e
      refine ⟨?_, f.lat i j h2 (CC _) (by omega)⟩
      rw [ek]
      by_cases c4 : i = j - 1
      ·rw [c4]
      ·exact (f.tl i (j - 1) h1 (by omega) (by omega)).1
theorem falls {st : SortSt} {n nrem : Nat} {Q : Option Nat → SortSt → Prop} (h0 : IntKeys a₀) (hn : nrem ≤ a₀.size) (hnn : n + 1 ≤ nrem) (hB : SBase a₀ st) (hs : Fl a₀ (arrOf st) (n + 1) 0)
  (h : ∀ m st', SBase a₀ st' → 1 ≤ m → m ≤ nrem → Up (arrOf st') m → Lat a₀ (arrOf st') m → Q (some m) st') : wpS (model prog w) A E s (descPart n nrem) Q st := by
 unfold descPart
 refine wpS_bind (wpS_lift (wpAny_rule ⟨rfl, ?_⟩))
 refine wpS_bind (desc h0 hn hnn hB hs fun m neq st' hB' hm1 hm2 f => ?_)
 dsimp only
 have sz : m ≤ (arrOf st').size := by rw [hB'.size]; omega
 by_cases c2 : neq > 0
 ·rw [if_pos c2]
  obtain ⟨d1, _, d3, _⟩ := f.turned sz
  exact wpS_bind (wpS_reverse (tail h0 hn (by omega) hm2 (hB'.setArr (mirror_perm _ _ _ _)) d1 d3 h))
 ·rw [if_neg c2]
  have e : neq = 0 := by omega
  subst e
  exact tail h0 hn (by omega) hm2 hB' f.plain.1 f.lat h
theorem count {st : SortSt} {nrem : Nat} {Q : Option Nat → SortSt → Prop} (h0 : IntKeys a₀) (hn : nrem ≤ a₀.size) (h1 : 1 ≤ nrem) (hB : SBase a₀ st) (hl : Lat a₀ (arrOf st) 1)
  (h : ∀ m st', SBase a₀ st' → 1 ≤ m → m ≤ nrem → Up (arrOf st') m → Lat a₀ (arrOf st') m → Q (some m) st') : wpS (model prog w) A E s (countRun' 0 nrem) Q st := by
 rw [countRun0_eq]
 refine wpS_bind (asc h0 hn (CC 1) h1 hB (fun i j hij hj => by omega) hl fun n hn1 hn2 hu hor => ?_)
 dsimp only
 by_cases c1 : n = nrem
 ·rw [if_pos (by simpa using c1)]
  exact wpS_pure (h n st hB hn1 hn2 hu (hl.mono hn1))
 ·rw [if_neg (by simpa using c1)]
  have lt : K (arrOf st) n < K (arrOf st) (n - 1) := hor.resolve_left c1
  by_cases c2 : n > 1
  ·rw [if_pos c2]
   refine wpS_bind (wpS_ltK hB h0 (by omega) (by omega) ?_)
   by_cases c3 : K (arrOf st) 0 < K (arrOf st) (n - 1)
   ·simp only [c3, decide_true, if_true]
    exact wpS_pure (h n st hB hn1 hn2 hu (hl.mono hn1))
   ·simp only [c3, decide_false, Rw, if_false]
    have sz : n ≤ (arrOf st).size := by rw [hB.size]; omega
    have same : ∀ i, i < n → K (arrOf st) i = K (arrOf st) (n - 1) := fun i hi => by
     by_cases z : i = 0
     ·subst z
      have := (hu 0 (n - 1) (by omega) (by omega)).le
      omega
     ·have a1 := (hu 0 i (by omega) hi).le
      by_cases z2 : i = n - 1
      ·rw [z2]
      ·have a2 := (hu i (n - 1) (by omega) (by omega)).le
       omega
    refine wpS_bind (wpS_reverse (falls h0 hn (by omega) (hB.setArr (mirror_perm _ _ _ _)) (Fl.next (fun i j hij hj => ?_) (fun i hi => ?_) (kgc sz (CC _) (hl.mono hn1))) h))
    ·show Lx (mirror (arrOf st) 0 n ((n - 0) / 2)) j i
     obtain ⟨i', ⟨k1, t1⟩, e1⟩ := kcD (i := 0) sz i
     obtain ⟨j', ⟨k2, t2⟩, e2⟩ := kcD (i := 0) sz j
     rw [if_pos (by omega)] at e1 e2
     have := hu j' i' (by omega) (by omega)
     unfold Lx at this ⊢
     rw [k1, k2, t1, t2]
     exact this
    ·show K (mirror (arrOf st) 0 n ((n - 0) / 2)) n < K (mirror (arrOf st) 0 n ((n - 0) / 2)) i
     obtain ⟨i', ⟨k1, _⟩, e1⟩ := kcD (i := 0) sz i
     obtain ⟨n', ⟨k2, _⟩, e2⟩ := kcD (i := 0) sz n
     rw [if_pos (by omega)] at e1
     rw [if_neg (by omega)] at e2
     subst e2
     rw [k1, k2, same i' (by omega)]
     exact lt
  ·rw [if_neg c2]
   have e : n = 1 := by omega
   subst e
   refine falls h0 hn (by omega) hB (Fl.next (fun i j hij hj => by omega) (fun i hi => ?_) hl) h
   have z : i = 0 := by omega
   subst z
   exact lt
theorem insert {st : SortSt} {n ok : Nat} {Q : Bool → SortSt → Prop} (h0 : IntKeys a₀) (hn : n ≤ a₀.size) (h1 : 1 ≤ ok) (hok : ok ≤ n) (hB : SBase a₀ st) (hs : Up (arrOf st) ok) (hl : Lat a₀ (arrOf st) ok)
  (h : ∀ st', SBase a₀ st' → Up (arrOf st') n → Q true st') : wpS (model prog w) A E s (binarySort' 0 n ok) Q st := by
 rw [binarySort'_eq]
 simp only [Sz]
 refine wpS_bind (wpS_mono (wpS_forRange (I := fun k c st' => c = (none, ()) ∧ SBase a₀ st' ∧ Up (arrOf st') (min k n) ∧ Lat a₀ (arrOf st') (min k n)) (Q := fun c st' => c = (none, ()) ∧ SBase a₀ st' ∧ Up (arrOf st') n) ?turn ?over ?begin) ?behind)
 case behind =>
  rintro c st' ⟨rfl, hB', hu⟩
  exact wpS_pure (h st' hB' hu)
 case begin =>
  rw [show max ok 1 = ok by omega, show min ok n = ok by omega]
  exact ⟨rfl, hB, hs, hl⟩
 case over =>
  rintro c st' ⟨hc, hB', hu, _⟩
  refine ⟨hc, hB', ?_⟩
  rwa [show min (max (max ok 1) n) n = n by omega] at hu
 case turn =>
  rintro k c st' hak hkn ⟨rfl, hB', hu, hla⟩
  rw [show min k n = k by omega] at hu hla
  have hk : k < a₀.size := by omega
  refine wpS_bind (wpS_mono (wpS_forRange (I := fun x c st'' => st'' = st' ∧ ∃ l r, c = (none, l, r) ∧ l ≤ r ∧ r ≤ k ∧ r - l ≤ k - x ∧ (∀ i, i < l → K (arrOf st') i ≤ K (arrOf st') k) ∧ (∀ i, r ≤ i → i < k → K (arrOf st') k < K (arrOf st') i))
   (Q := fun c st'' => st'' = st' ∧ ∃ l r, c = (none, l, r) ∧ l ≤ k ∧ (∀ i, i < l → K (arrOf st') i ≤ K (arrOf st') k) ∧ (∀ i, l ≤ i → i < k → K (arrOf st') k < K (arrOf st') i)) ?turn2 ?over2 ?begin2) ?behind2)
  case begin2 => exact ⟨rfl, 0, k, rfl, by omega, by omega, by omega, fun i hi => by omega, fun i a b => by omega⟩
  case over2 =>
   rintro c st'' ⟨rfl, l, r, rfl, hlr, hrk, hm, lo, hi⟩
   have e : l = r := by omega
   subst e
   exact ⟨rfl, l, l, rfl, hrk, lo, hi⟩
  case turn2 =>
   rintro x c st'' _ hxk ⟨rfl, l, r, rfl, hlr, hrk, hm, lo, hi⟩
   dsimp only
   by_cases c1 : l ≥ r
   ·rw [if_pos c1]
    have e : l = r := by omega
    subst e
    exact wpS_pure ⟨rfl, l, l, rfl, hrk, lo, hi⟩
   ·rw [if_neg c1]
    refine wpS_bind (wpS_ltK hB' h0 hk (by omega) ?_)
    by_cases c2 : K (arrOf st'') k < K (arrOf st'') ((l + r) / 2)
    ·simp only [c2, decide_true, if_true]
     refine wpS_pure ⟨rfl, l, (l + r) / 2, rfl, by omega, by omega, by omega, lo, fun i a b => ?_⟩
     by_cases z : i = (l + r) / 2
     ·rw [z]; exact c2
     ·exact Int.lt_of_lt_of_le c2 (hu _ _ (by omega) b).le
    ·simp only [c2, decide_false, Rw, if_false]
     refine wpS_pure ⟨rfl, (l + r) / 2 + 1, r, rfl, by omega, by omega, by omega, fun i a => ?_, hi⟩
     by_cases z : i = (l + r) / 2
     ·rw [z]; omega
     ·exact Int.le_trans (hu i ((l + r) / 2) (by omega) (by omega)).le (Int.not_lt.mp c2)
  case behind2 =>
   rintro c st'' ⟨rfl, l, r, rfl, hlk, lo, hi⟩
   show wpS _ _ _ _ (do moveDown' k l; pure (ForInStep.yield (none, ()))) _ _
   rw [moveDown'_eq]
   have hks : k < (arrOf st'').size := by rw [hB'.size]; exact hk
   refine wpS_bind (wpS_modify (wpS_pure ⟨rfl, hB'.setArr (bubble_perm _ _ _), ?_, ?_⟩))
   ·rw [show min (k + 1) n = k + 1 by omega]
    intro i j hij hj
    show Lx (bubble (arrOf st'') k (k - l)) i j
    obtain ⟨i', ⟨k1, t1⟩, e1⟩ := kgZ hks (show k - l ≤ k by omega) i
    obtain ⟨j', ⟨k2, t2⟩, e2⟩ := kgZ hks (show k - l ≤ k by omega) j
    rw [show k - (k - l) = l by omega] at e1 e2
    unfold Lx
    rw [k1, k2, t1, t2]
    by_cases z1 : i = l
    ·rw [if_pos z1] at e1
     rw [if_neg (by omega), if_pos (by omega)] at e2
     subst e1
     exact .inl (hi j' (by omega) (by omega))
    ·rw [if_neg z1] at e1
     by_cases z2 : j = l
     ·rw [if_pos z2] at e2
      rw [if_neg (by omega)] at e1
      subst e2
      have a1 := lo i' (by omega)
      have a2 := hla i' j' (by omega) (CC _) hk
      omega
     ·rw [if_neg z2] at e2
      refine hu i' j' ?_ ?_
      ·rw [e1, e2]
       repeat' split
       all_goals omega
      ·rw [e2]
       split <;> omega
   ·rw [show min (k + 1) n = k + 1 by omega]
    intro a b hab hkb hb
    show T (bubble (arrOf st'') k (k - l)) a < T (bubble (arrOf st'') k (k - l)) b
    obtain ⟨a', ⟨_, t1⟩, e1⟩ := kgZ hks (show k - l ≤ k by omega) a
    obtain ⟨b', ⟨_, t2⟩, e2⟩ := kgZ hks (show k - l ≤ k by omega) b
    rw [show k - (k - l) = l by omega] at e1 e2
    rw [if_neg (by omega), if_neg (by omega)] at e2
    subst e2
    rw [t1, t2]
    refine hla a' b' ?_ (by omega) hb
    rw [e1]
    repeat' split
    all_goals omega
def Done (a₀ : Array Keyed) (st : SortSt) : Prop := (arrOf st).Perm a₀ ∧ failedOf st = none ∧ pendingOf st = #[(0, a₀.size, 0)] ∧ Up (arrOf st) a₀.size
theorem done {st : SortSt} (hB : SBase a₀ st) (hu : Up (arrOf st) a₀.size) : Done a₀ (setPending st ((pendingOf st).push (0, a₀.size, 0))) := ⟨hB.perm, hB.failed, by show (pendingOf st).push _ = _; rw [hB.pend]; rfl, hu⟩
theorem runs {st : SortSt} {Q : Unit → SortSt → Prop} (h0 : IntKeys a₀) (hB : SBase a₀ st) (h2 : 2 ≤ a₀.size) (h64 : a₀.size < 64) (hl : Lat a₀ (arrOf st) 1)
  (h : ∀ st', (arrOf st').Perm a₀ → failedOf st' = none → Up (arrOf st') a₀.size → Q () st') : wpS (model prog w) A E s sortRuns' Q st := by
 rw [sortRuns'_eq]
 refine wpS_bind (wpS_get ?_)
 dsimp only
 have mr : minRun' a₀.size a₀.size 0 = a₀.size := by
  obtain ⟨f, hf⟩ : ∃ f, a₀.size = f + 1 := ⟨a₀.size - 1, by omega⟩
  have z : minRun' (f + 1) a₀.size 0 = a₀.size := by rw [minRun'_succ, if_pos h64]; rfl
  rwa [← hf] at z
 simp only [hB.size, mr]
 refine wpS_bind (wpS_mono (wpS_forRange (I := fun x c st' => (x = 0 ∧ c = (none, 0) ∧ st' = st) ∨ (1 ≤ x ∧ c = (none, a₀.size) ∧ Done a₀ st')) (Q := fun c st' => c = (none, a₀.size) ∧ Done a₀ st') ?turn ?over (.inl ⟨rfl, rfl, rfl⟩)) ?behind)
 case over =>
  rintro c st' (⟨hx, _, _⟩ | ⟨_, hc, hD⟩)
  ·omega
  ·exact ⟨hc, hD⟩
 case turn =>
  rintro x c st' _ hx (⟨rfl, rfl, rfl⟩ | ⟨hx1, rfl, hD⟩)
  ·dsimp only
   rw [if_neg (by omega)]
   simp only [Nat.sub_zero, RQ, Sz]
   refine wpS_bind (count h0 (CC _) (by omega) hB hl fun m st2 hB2 hm1 hm2 hu2 hl2 => ?_)
   dsimp only
   by_cases c1 : m < a₀.size
   ·rw [if_pos c1]
    refine wpS_bind (wpS_lift (wpAny_rule ⟨rfl, ?_⟩))
    refine wpS_bind (insert h0 (CC _) hm1 hm2 hB2 hu2 hl2 fun st3 hB3 hu3 => ?_)
    simp only [Bool.not_true, Rw, if_false]
    refine wpS_bind (wpS_get ?_)
    have hb : (pendingOf st3).back? = none := by rw [hB3.pend]; rfl
    rw [hb]
    dsimp only
    exact wpS_bind (wpS_modify (wpS_pure (.inr ⟨by omega, rfl, done hB3 hu3⟩)))
   ·rw [if_neg c1]
    have e : m = a₀.size := by omega
    subst e
    refine wpS_bind (wpS_get ?_)
    have hb : (pendingOf st2).back? = none := by rw [hB2.pend]; rfl
    rw [hb]
    dsimp only
    exact wpS_bind (wpS_modify (wpS_pure (.inr ⟨by omega, rfl, done hB2 hu2⟩)))
  ·dsimp only
   rw [if_pos (CC _)]
   exact wpS_pure ⟨rfl, hD⟩
 case behind =>
  rintro c st' ⟨rfl, hD⟩
  dsimp only
  refine wpS_bind (wpS_mono (wpS_forRange (I := fun _ c st'' => st'' = st' ∧ c = (none, ())) (Q := fun c st'' => st'' = st' ∧ c = (none, ())) ?_ (fun _ _ z => z) ⟨rfl, rfl⟩) ?_)
  ·rintro x c st'' _ _ ⟨rfl, rfl⟩
   refine wpS_bind (wpS_get ?_)
   rw [if_pos (by rw [hD.2.2.1]; exact CC 1)]
   exact wpS_pure ⟨rfl, rfl⟩
  ·rintro c st'' ⟨rfl, rfl⟩
   exact wpS_pure (h _ hD.1 hD.2.1 hD.2.2.2)
end
end Stb
namespace Stb
open PySem PyProof.Rows
structure SJ (J : Shared → Prop) (n0 : Nat) : Prop where
 sz : ∀ s, J s → n0 ≤ s.heap.objs.size
 push : ∀ s c xs n, J s → J { s with heap := s.heap.push (seqObj c xs n) }
 upd : ∀ s b g, J s → n0 ≤ b → J { s with heap := s.heap.update b (Obj.mapSeq g) }
def Tells (J : Shared → Prop) (n0 : Nat) (k : Int) (s : Shared) (v : Value) (s' : Shared) : Prop := (∃ t, v = .int k t) ∧ J s' ∧ ∀ b o, n0 ≤ b → s.heap.get? b = some o → s'.heap.get? b = some o
def Rows (keys : Array Value) (vs : List Value) (out : Array Value) : Prop := ∃ xs : Array Keyed, xs.Perm (keys.zip vs.toArray) ∧ Up xs xs.size ∧ out = xs.map (·.2)
section
variable {prog : Program} {w : World} {A : Around} {E : Value → Shared → Prop} {s : Shared} {J : Shared → Prop} {n0 : Nat} {a kS : Addr} {vs : List Value} {kz : List Int} {keys : Array Value} {e e1 : Nat} {P : PySem.Fin → Shared → Prop}
theorem tailK (S : SJ J n0) (hJ : J s) (hk : s.heap.get? kS = some (seqObj "list" keys e)) (ha : s.heap.get? a = some (seqObj "list" #[] e1)) (ne : kS ≠ a) (nk : n0 ≤ kS) (na : n0 ≤ a) {st : SortSt} (hz : keys.size ≤ 64) (hp : (arrOf st).Perm (keys.zip vs.toArray)) (hu : Up (arrOf st) (arrOf st).size)
  (hf : failedOf st = none) (hv : vs.length ≤ 64) (h : ∀ h' out c, J { s with heap := h' } → h'.get? a = some (seqObj "list" out c) → Rows keys vs out → P (.done (.ret .none)) { s with heap := h' }) : wpAny (model prog w) A (ksk_tail a false e1 (.ref kS) st) P E s := by
 have sz2 : (arrOf st).size ≤ 64 := by
  have hvs : vs.toArray.size = vs.length := by simp
  rw [hp.size_eq, SA]
  omega
 have q1 := Heap.SameBut.update s.heap kS (Obj.mapSeq fun _ => (#[] : Array Value))
 have g1 : (s.heap.update kS (Obj.mapSeq fun _ => (#[] : Array Value))).get? a = some (seqObj "list" #[] e1) := (q1.2 a ne.symm).trans ha
 have J1 := S.upd s kS (fun _ => #[]) hJ nk
 have J2 := S.upd _ a (fun _ => (arrOf st).map (·.2)) J1 na
 unfold ksk_tail
 try dsimp only
 refine wpAny_bind (listUpdate_at hk rfl ?_ (by rw [sizeLine_eq]; omega) (Rl _))
 refine wpAny_bind (wpAny_letGo ?_)
 refine wpAny_bind (seqEpoch_at g1 rfl ?_)
 refine wpAny_bind (listUpdate_at g1 rfl ?_ (Rl _) (by simp only [Rw, if_false, Array.size_map]; rw [sizeLine_eq]; omega))
 rw [hf]
 simp only [bne_self_eq_false, Rw, if_false]
 exact wpAny_pure (h _ _ _ J2 (get?_update_seq g1 fun _ => (arrOf st).map (·.2)) ⟨arrOf st, hp, hu, rfl⟩)
theorem zip_T {keys : Array Value} {vs : List Value} {i : Nat} (hl : keys.size = vs.length) : T (keys.zip vs.toArray) i = match vs[i]? with | some v => numOf v | none => 0 := by
 unfold T
 have hvs : vs.toArray.size = vs.length := by simp
 cases ev : vs[i]? with
 | none =>
  have hi : vs.length ≤ i := SQ.mp ev
  have e : (keys.zip vs.toArray)[i]? = none := Array.getElem?_eq_none (by rw [SA]; omega)
  rw [e]
 | some v =>
  have hi : i < vs.length := (CZ.mp ev).1
  have hz : i < (keys.zip vs.toArray).size := by rw [SA]; omega
  have ev' : vs[i] = v := by
   rw [RK hi] at ev
   exact Option.some.inj ev
  have e : (keys.zip vs.toArray)[i]? = some (keys[i]'(by omega), vs[i]) := by
   rw [Tb hz]
   simp
  rw [e, ev']
theorem endK (S : SJ J n0) (hJ : J s) (hk : s.heap.get? kS = some (seqObj "list" keys e)) (ha : s.heap.get? a = some (seqObj "list" #[] e1)) (ne : kS ≠ a) (nk : n0 ≤ kS) (na : n0 ≤ a) (hi : IntsAre keys.toList kz) (hl : keys.size = vs.length) (h64 : vs.length < 64)
  (up : ∀ (i j : Nat) (x y : Value), i < j → vs[i]? = some x → vs[j]? = some y → numOf x < numOf y)
  (h : ∀ h' out c, J { s with heap := h' } → h'.get? a = some (seqObj "list" out c) → Rows keys vs out → P (.done (.ret .none)) { s with heap := h' }) : wpAny (model prog w) A (ksk_end a false vs.toArray e1 (.ref kS) keys) P E s := by
 have hvs : vs.toArray.size = vs.length := by simp
 have zs : (keys.zip vs.toArray).size = vs.length := by rw [SA]; omega
 unfold ksk_end
 try dsimp only
 simp only [Rw, if_false]
 by_cases h2 : vs.toArray.size < 2
 ·rw [if_pos h2, if_pos h2]
  refine wpAny_bind (wpAny_pure ?_)
  rw [StateT.run_pure]
  refine wpAny_bind (wpAny_pure ?_)
  try dsimp only
  refine tailK (st := SortSt.mk' general' (keys.zip vs.toArray) #[] 7 none) S hJ hk ha ne nk na (by omega) (Array.Perm.refl _) ?_ rfl (by omega) h
  intro i j hij hj
  have hj2 : j < (keys.zip vs.toArray).size := hj
  rw [zs] at hj2
  rw [C3] at h2
  omega
 ·rw [if_neg h2, if_neg h2]
  rw [C3] at h2
  rw [ksk_kind hi (by rw [hl]; omega)]
  refine wpAny_bind (wpAny_pure ?_)
  have lat : Lat (keys.zip vs.toArray) (keys.zip vs.toArray) 1 := fun i j hij _ hj => by
   rw [zs] at hj
   rw [zip_T hl, zip_T hl, RK (show i < vs.length by omega), RK hj]
   exact up i j _ _ hij (RK (show i < vs.length by omega)) (RK hj)
  refine wpAny_bind (wpAny_mono (runs (a₀ := keys.zip vs.toArray) (st := SortSt.mk' oneType' (keys.zip vs.toArray) #[] 7 none) (Q := fun _ st' => (arrOf st').Perm (keys.zip vs.toArray) ∧ failedOf st' = none ∧ Up (arrOf st') (keys.zip vs.toArray).size)
   (ksk_intKeys hi) ⟨Array.Perm.refl _, rfl, rfl, rfl⟩ (by rw [zs]; omega) (by rw [zs]; exact h64) lat fun st' b1 b2 b3 => ⟨b1, b2, b3⟩) ?_ fun _ _ z => z)
  rintro ⟨⟨⟩, st'⟩ s' ⟨rfl, b1, b2, b3⟩
  try dsimp only
  exact tailK S hJ hk ha ne nk na (by omega) b1 (by rw [b1.size_eq]; exact b3) b2 (by omega) h
theorem restK {f : Value} (S : SJ J n0) (hJ : J s) (hk : s.heap.get? kS = some (seqObj "list" #[] 0)) (ha : s.heap.get? a = some (seqObj "list" #[] e1)) (ne : kS ≠ a) (nk : n0 ≤ kS) (na : n0 ≤ a) (hl : kz.length = vs.length) (h64 : vs.length < 64)
  (up : ∀ (i j : Nat) (x y : Value), i < j → vs[i]? = some x → vs[j]? = some y → numOf x < numOf y)
  (turn : ∀ (i : Nat) (v : Value) (k : Int), vs[i]? = some v → kz[i]? = some k → ∀ s', J s' → wpAny (model prog w) A (call f [v]) (Tells J n0 k s') (fun _ _ => False) s')
  (h : ∀ s' keys out c, J s' → s'.heap.get? a = some (seqObj "list" out c) → IntsAre keys.toList kz → keys.size = vs.length → Rows keys vs out → P (.done (.ret .none)) s') : wpAny (model prog w) A (ksk_rest a f false vs.toArray e1 (.ref kS)) P E s := by
 unfold ksk_rest
 refine wpAny_bind (wpAny_rule ?_)
 first
  | rw [List.forIn_toArray]
  | rw [← Array.forIn_toList]
 refine wpAny_bind (ksk_fold (fun i s' => J s' ∧ ∃ kA e, s'.heap.get? kS = some (seqObj "list" kA e) ∧ s'.heap.get? a = some (seqObj "list" #[] e1) ∧ IntsAre kA.toList (kz.take i)) vs 0 s ⟨hJ, #[], 0, hk, ha, by simpa using IntsAre.nil⟩ ?turnP ?doneP)
 case turnP =>
  rintro j x s' hx ⟨J', kA, e, g1, g2, hi⟩
  simp only [Sz] at hi ⊢
  have hj : j < vs.length := (CZ.mp hx).1
  obtain ⟨k, ek⟩ : ∃ k, kz[j]? = some k := ⟨_, RK (by omega)⟩
  have lz : kA.size ≤ vs.length := by
   have h1 := hi.length
   rw [R3, C0] at h1
   omega
  refine wpAny_bind (wpAny_attempt (wpAny_mono (turn j x k hx ek s' J') (fun v s'' hT => ?_) fun _ _ z => z.elim))
  obtain ⟨⟨t, rfl⟩, J2, kp⟩ := hT
  try dsimp only
  have g1' := kp _ _ nk g1
  have g2' := kp _ _ na g2
  have q1 := Heap.SameBut.update s''.heap kS (Obj.mapSeq (·.push (.int k t)))
  refine wpAny_bind (listUpdate_at g1' rfl ?_ (by rw [sizeLine_eq]; omega) (CN (Ss (Array.size_push ..)) (by rw [sizeLine_eq]; omega)))
  have et : kz.take (j + 1) = kz.take j ++ [k] := by rw [RS, ek]; simp
  have ep : (kA.push (Value.int k t)).toList = kA.toList ++ [Value.int k t] := by simp
  exact wpAny_pure ⟨rfl, S.upd _ kS _ J2 nk, kA.push (.int k t), _, get?_update_seq g1' (·.push (.int k t)), (q1.2 a ne.symm).trans g2', by rw [ep, et]; exact ksk_snoc hi⟩
 case doneP =>
  rintro s' ⟨J', kA, e, g1, g2, hi⟩
  have e3 : kz.take (0 + vs.length) = kz := RB (by omega)
  rw [e3] at hi
  have lk : kA.size = vs.length := by
   have := hi.length
   rw [R3] at this
   omega
  try dsimp only
  refine wpAny_bind (listItems_at g1 rfl ?_)
  exact endK S J' g1 g2 ne nk na hi lk h64 up fun h' out c z1 z2 z3 => h _ kA out c z1 z2 hi lk z3
theorem sortK {f : Value} {n : Nat} (S : SJ J n0) (hJ : J s) (ho : s.heap.get? a = some (seqObj "list" vs.toArray n)) (na : n0 ≤ a) (hl : kz.length = vs.length) (h64 : vs.length < 64)
  (up : ∀ (i j : Nat) (x y : Value), i < j → vs[i]? = some x → vs[j]? = some y → numOf x < numOf y)
  (turn : ∀ (i : Nat) (v : Value) (k : Int), vs[i]? = some v → kz[i]? = some k → ∀ s', J s' → wpAny (model prog w) A (call f [v]) (Tells J n0 k s') (fun _ _ => False) s')
  (h : ∀ s' keys out c, J s' → s'.heap.get? a = some (seqObj "list" out c) → IntsAre keys.toList kz → keys.size = vs.length → Rows keys vs out → P (.done (.ret .none)) s') : wpAny (model prog w) A (ksk_tree a f false) P E s := by
 have la : a < s.heap.objs.size := Heap.lt_size ho
 have J1 := S.upd s a (fun _ => #[]) hJ na
 have J2 := S.push _ "tuple" vs.toArray 0 J1
 have J3 := S.push _ "list" #[] 0 J2
 obtain ⟨e1, g1⟩ : ∃ e1, (s.heap.update a (Obj.mapSeq fun _ => (#[] : Array Value))).get? a = some (seqObj "list" #[] e1) := ⟨_, get?_update_seq ho fun _ => #[]⟩
 have sz : ((s.heap.update a (Obj.mapSeq fun _ => (#[] : Array Value))).push (seqObj "tuple" vs.toArray 0)).objs.size = s.heap.objs.size + 1 := by rw [size_push', Heap.size_update]
 have n0s := S.sz s hJ
 unfold ksk_tree
 refine wpAny_bind (listItems_at ho rfl ?_)
 refine wpAny_bind (listUpdate_at ho rfl ?_ (by rw [C3, sizeLine_eq]; omega) (Rl _))
 refine wpAny_bind (seqEpoch_at g1 rfl ?_)
 refine wpAny_bind (wpAny_newTuple ?_ (by show vs.length ≤ _; rw [sizeLine_eq]; omega))
 refine wpAny_bind (wpAny_newList ?_ (Rl _))
 refine wpAny_holding ?_
 refine restK (s := { s with heap := ((s.heap.update a (Obj.mapSeq fun _ => (#[] : Array Value))).push (seqObj "tuple" vs.toArray 0)).push (seqObj "list" #[] 0) }) (kS := ((s.heap.update a (Obj.mapSeq fun _ => (#[] : Array Value))).push (seqObj "tuple" vs.toArray 0)).objs.size)
  S J3 (Heap.get?_push_size _ rfl) (Heap.get?_push_of_some _ (Heap.get?_push_of_some _ g1)) (by rw [sz]; exact RD (Nat.lt_succ_of_lt la)) (by rw [sz]; omega) na hl h64 up turn h
end
section
variable {prog : Program} {w : World} {A : Around} {E : Value → Shared → Prop} {s : Shared} {J : Shared → Prop} {n0 : Nat} {vs : List Value} {kz : List Int} {Q : Value → Shared → Prop}
theorem sortedK {l f : Addr} (S : SJ J n0) (hJ : J s) (hL : s.heap.IsList l vs.toArray) (hl : kz.length = vs.length) (h64 : vs.length < 64)
  (up : ∀ (i j : Nat) (x y : Value), i < j → vs[i]? = some x → vs[j]? = some y → numOf x < numOf y)
  (turn : ∀ (i : Nat) (v : Value) (k : Int), vs[i]? = some v → kz[i]? = some k → ∀ s', J s' → wpAny (model prog w) A.in1.in1 (call (.ref f) [v]) (Tells J n0 k s') (fun _ _ => False) s')
  (h : ∀ s' D keys out c, n0 ≤ D → J s' → s'.heap.get? D = some (seqObj "list" out c) → IntsAre keys.toList kz → keys.size = vs.length → Rows keys vs out → Q (.ref D) s') : wpAny (model prog w) A (call (.builtin "sorted") [.ref l] [(Str.ofString "key", .ref f)]) Q E s := by
 refine call_function_entry_kw kind_sorted plain_sorted entry_sorted (ksk_s1 _ _) ?_
 unfold Builtin.«sorted»
 refine wpAny_bind (m := checkCount "sorted" 1 1 _) (wpAny_pure ?_)
 refine wpAny_bind (collect_list hL ?_ (by rw [sizeLine_eq]; omega))
 refine wpAny_bind (wpAny_newList ?_ (by rw [sizeLine_eq]; omega))
 have n0s := S.sz s hJ
 have J1 := S.push s "list" #[] 0 hJ
 have J2 := S.upd _ s.heap.objs.size (· ++ vs.toArray) J1 n0s
 have J3 := S.push _ "list" vs.toArray 0 J2
 have sz : ((s.heap.push (seqObj "list" #[] 0)).update s.heap.objs.size (Obj.mapSeq (· ++ vs.toArray))).objs.size = s.heap.objs.size + 1 := by rw [Heap.size_update, size_push']
 have g1 : (((s.heap.push (seqObj "list" #[] 0)).update s.heap.objs.size (Obj.mapSeq (· ++ vs.toArray))).push (seqObj "list" vs.toArray 0)).get? (s.heap.objs.size + 1) = some (seqObj "list" vs.toArray 0) := by
  rw [← sz]
  exact Heap.get?_push_size _ rfl
 show wpAny _ _ _ _ _ { s with heap := ((s.heap.push (seqObj "list" #[] 0)).update s.heap.objs.size (Obj.mapSeq (· ++ vs.toArray))).push (seqObj "list" vs.toArray 0) }
 rw [sz]
 refine wpAny_bind (wpAny_holding (wpAny_call_entry_kw slot_list_sort ⟨_, g1, rfl⟩ entry_list_sort ?inner (ksk_l1 _ _)))
 case inner =>
  show wpAny (model prog w) A.in1.in1 (Builtin.«list.sort» ⟨[.ref (s.heap.objs.size + 1)], [(Str.ofString "key", .ref f)]⟩) _ _ _
  rw [ksk_t1]
  refine sortK (s := { s with heap := ((s.heap.push (seqObj "list" #[] 0)).update s.heap.objs.size (Obj.mapSeq (· ++ vs.toArray))).push (seqObj "list" vs.toArray 0) }) S J3 g1 (by omega) hl h64 up turn fun s' keys out c z1 z2 z3 z4 z5 => ⟨_, rfl, ?_⟩
  exact wpAny_pure ⟨_, rfl, h s' _ keys out c (by omega) z1 z2 z3 z4 z5⟩
end
end Stb
namespace L2
open PySem PySem.Spec PyProof.Rows
structure kdk (X : Cx) (scope : Scope) (x : Str) (N : List Str) (cap : List (Option Nat)) : Prop where
 S : CompScope X scope N (none :: cap)
 hd : N[0]? = some x
 par : scope.names.lookup x = some .local
 co : scope.isCoroutine = false
 gen : scope.isGenerator = false
 nocell : ∀ y ∈ scope.names, y.2 ≠ .cell
abbrev kih (X : Cx) (scope : Scope) (qual : Str) (L f c : Addr) : Env := PySem.W.envX qual scope L f (.ref c) (closL X.env.cells scope.names [])
def cxL (X : Cx) (A : Around) (scope : Scope) (N : List Str) (qual : Str) (f c : Addr) (s : Shared) (H : Hp) : Cx :=
 { X with A := A.deeper (kih X scope qual s.heap.objs.size f c), N := N, s₀ := s, H₀ := H, env := kih X scope qual s.heap.objs.size f c, outer := X.stack, stack := kih X scope qual s.heap.objs.size f c :: X.stack, ex := [], fn := fun _ => false, calm := true, pn := [], xe := fun _ _ => False }
section
variable {X : Cx} {A : Around} {scope : Scope} {x : Str} {N : List Str} {cap : List (Option Nat)} {pins : List (Addr × Obj)} {σ : St} {H : Hp} {s s1 : Shared} {qual : Str} {f c : Addr}
theorem kcJ (S : kdk X scope x N cap) (I : Inv X pins σ H s) {y : Str} {a : Addr} (h : (closL X.env.cells scope.names []).lookup y = some a) : X.env.cells.lookup y = some a := by
 rcases kdW _ _ h with ⟨h1, h2⟩ | h1
 ·obtain ⟨a', ea⟩ := I.ok.has y (S.S.free _ h1 rfl)
  rw [ea] at h2
  rw [h2]
  exact ea
 ·cases h1
theorem kkP (S : kdk X scope x N cap) (I : Inv X pins σ H s) (hfr : A.frames = some X.stack) (hh : A.handled = none) {v : V} {u : Value} (r : RelV v u) {h1 : Heap} {t : Nat} (hns : h1.Ns s.heap.objs.size fun y => [(x, u)].reverse.lookup y) (hk : ∀ b o, s.heap.get? b = some o → h1.get? b = some o) :
  Inv (cxL X A scope N qual f c s H) [] (some v :: capσ cap σ) H { s with heap := h1, toks := t } := by
 have noA : ∀ b : Addr, b ∉ (cxL X A scope N qual f c s H).ex := fun b z => absurd (show b ∈ ([] : List Addr) from z) (by simp)
 have od : ∀ {y : Str} {a : Addr}, X.env.cells.lookup y = some a → a < s.heap.objs.size := fun {y a} h => let ⟨_, q⟩ := I.cell y a h; q.lt
 refine ⟨⟨I.ok.mod, S.S.kind, rfl, rfl, CC _, fun y z a e1 e2 => I.ok.inj y z a (kcJ S I e1) (kcJ S I e2), fun y hy => ?_, fun y a e1 _ => ?_, fun _ => hh, Around.frames_deeper hfr, .inr ⟨rfl, rfl⟩, fun b z => absurd z (noA b), I.bs, CN I.ok.bsz I.sz, fun b _ _ => noA b, fun b z => absurd z (noA b), I.stack, I.stkFree⟩,
  rfl, I.bare, Un.kept hk, ⟨_, hns, fun j y w e1 e2 e3 => ?_⟩, fun y a e => ?_, I.hok.fresh (CC _), fun y a e => I.freeC y a (kcJ S I e), fun p hp => absurd (show p ∈ ([] : List (Addr × Obj)) from hp) (by simp), I.hok.kept hk, ?_⟩
 ·have hy' : scope.names.lookup y = some .cell ∨ scope.names.lookup y = some .free := hy
  rcases hy' with q | q
  ·exact absurd rfl (S.nocell _ (PySem.mem_of_lookup q))
  ·exact kcO (cells := X.env.cells) scope.names [] (.inl (PySem.mem_of_lookup q))
 ·cases (show false = true from e1)
 ·cases j with
  | zero =>
   have ex : y = x := by
    have e1' : N[0]? = some y := e1
    rw [S.hd] at e1'
    exact (Option.some.inj e1').symm
   have ev : w = v := by
    have e2' : some (some v) = some (some w) := e2
    exact (Option.some.inj (Option.some.inj e2')).symm
   subst ex ev
   refine ⟨u, r, .inl ⟨S.par, ?_⟩⟩
   simp
  | succ j =>
   have e2' : (capσ cap σ)[j]? = some (some w) := by simpa using e2
   have e2'' : (cap.map fun o => match o with | some i => (σ[i]?).getD none | none => none)[j]? = some (some w) := e2'
   rw [CV] at e2''
   cases ec : cap[j]? with
   | none => rw [ec] at e2''; cases e2''
   | some oi =>
    rw [ec] at e2''
    cases oi with
    | none => cases e2''
    | some i =>
     have e4 : (σ[i]?).getD none = some w := Option.some.inj e2''
     have e5 : σ[i]? = some (some w) := by
      cases q : σ[i]? with
      | none => rw [q] at e4; cases e4
      | some w' => rw [q] at e4; exact congrArg some e4
     obtain ⟨q1, hf, _⟩ := S.S.cap (j + 1) i y (by simpa using ec) e1
     have hm := PySem.mem_of_lookup hf
     have q2 := S.S.free _ hm rfl
     obtain ⟨mo, _, hl⟩ := I.loc
     obtain ⟨u', ru, lk⟩ := hl i y w q1 e5 (.inr q2)
     refine ⟨u', ru, .inr ⟨.inr hf, ?_⟩⟩
     rcases lk with ⟨k1, _⟩ | ⟨_, a, ea, z⟩
     ·have k1' : X.env.scope.names.lookup y = some .local := k1
      rcases q2 with q2 | q2 <;> rw [q2] at k1' <;> cases k1'
     ·obtain ⟨a', ea2⟩ := kcO (cells := X.env.cells) scope.names [] (.inl hm)
      have e6 := kcJ S I ea2
      rw [ea] at e6
      have e7 : a = a' := Option.some.inj e6
      subst e7
      obtain ⟨oc, ho, hd⟩ := z
      exact ⟨a, ea2, oc, hk _ _ ho, hd⟩
 ·obtain ⟨w, oc, ho, hd⟩ := I.cell y a (kcJ S I e)
  exact ⟨w, oc, hk _ _ ho, hd⟩
 ·have := S.S.len
  show (some v :: capσ cap σ).length = N.length
  rw [← this, Rv, Rv]
  unfold capσ
  rw [Cz]
theorem kjl {name : Str} {params : Arguments} {body : Expr} {pm ctv : Value} {te : TE} {v : V} {u : Value} {Q : VK} (S : kdk X scope x N cap) (I : Inv X pins σ H s) (hfr : A.frames = some X.stack) (hh : A.handled = none) (hdp : A.depth < recursionLimit)
  (ho : s.heap.get? f = some (SB name qual params body scope (closL X.env.cells scope.names []) pm c ctv)) (hcd : s.heap.CodeRec (.ref c) qual)
  (hbind : bindArgs (PySem.W.kla_fn name qual params body scope (closL X.env.cells scope.names []) pm (.ref c) ctv) ⟨[u], []⟩ = pure [(x, u)]) (r : RelV v u) (he : PE (cxL X A scope N qual f c s H) body te) (hq : te (some v :: capσ cap σ) H Q) :
  wpAny (model X.prog X.w) A (call (.ref f) [u]) (fun w' s' => ∃ v' H', Inv X pins σ H' s' ∧ RelV v' w' ∧ Q v' H' ∧ Un (frs X.stack) [] H H' s.heap s'.heap ∧ s.heap.objs.size ≤ s'.heap.objs.size) (fun _ _ => False) s := by
 refine wpAny_call (PySem.W.kla_callFunE hdp ho rfl S.co S.gen rfl hcd ?_)
 rw [hbind]
 refine wpAny_pure (wpAny_newFunctionEnv S.nocell (fun y hy => ?_) (fun h1 hns hsb => ⟨I.nolimit.fresh _ hsb, ?_⟩) S.S.kind)
 ·rw [RL] at hy
  subst hy
  exact S.par
 have hk : ∀ b o, s.heap.get? b = some o → h1.get? b = some o := fun b o e => hsb.extBut b o (Rc (Heap.lt_size e)) (Heap.get?_push_of_some _ e)
 have J := kkP (A := A) (qual := qual) (f := f) (c := c) (t := s.toks + 1) S I hfr hh r hns hk
 refine PySem.W.kla_codeExpr (wpAny_mono (he [] _ _ _ Q J hq) (fun w' s' hw => ?_) fun _ _ z => z.elim)
 obtain ⟨v', H', J', rv, qv⟩ := hw
 exact ⟨v', H', I.call' (ch := []) J'.os J'.base J'.hok J'.bare (fun b hb => by simp at hb), rv, qv, J'.base, J'.sz⟩
end
end L2
namespace L2
open PySem PySem.Spec PyProof.Rows
def CodeO (c : Addr) (qual : Str) : HO := .ext fun h => h.CodeRec (.ref c) qual
def lamQ : Str := "falling_groups.<locals>.<lambda>"
def TbAt (P : Addr) (H : Hp) : Prop := ∃ ps : Array Value, H P = some (.tbl ps) ∧ TriplesOk ps.toList ∧ ∀ pos c, codeAmong pos ps.toList = some c → ∃ c', c = .ref c' ∧ H c' = some (CodeO c' lamQ)
structure Grew (P : Addr) (H H' : Hp) : Prop where
 kp : ∀ b o, b ≠ P → H b = some o → H' b = some o
 tb : TbAt P H'
theorem kiL {pos : Pos} {a b : Int} {c : Value} (l : List Value) (h : TriplesOk l) {x : Value} (e : codeAmong pos (l ++ [rawInt a, rawInt b, c]) = some x) : codeAmong pos l = some x ∨ x = c := by
 fun_induction TriplesOk l with
 | case1 =>
  right
  unfold rawInt codeAmong at e
  simp only [R5] at e
  split at e
  ·exact (Option.some.inj e).symm
  ·simp [codeAmong] at e
 | case2 n t m u d rest ih =>
  simp only [SC, codeAmong] at e ⊢
  split at e
  ·left
   rename_i hc
   rw [if_pos hc]
   exact e
  ·rename_i hc
   rw [if_neg hc]
   exact ih h e
 | case3 => exact h.elim
def CodeK (K : CA) (c P : Addr) : Prop :=
 ∃ o vs file tf flags tg inF text tt, K.lookup c = some o ∧ o.cls = .type "code" ∧ o.data = .fields vs ∧ vs[11]? = some (.ref P) ∧ vs.getD 11 .none = .ref P ∧ vs.getD 18 .none = .str file tf ∧ vs.getD 7 .none = .int flags tg ∧ vs.getD 9 .none = .bool inF ∧ vs.getD 10 .none = .int text tt ∧ c ≠ P
theorem CodeK.hd {K : CA} {c P : Addr} {h : Heap} (x : CodeK K c P) (X : K.In h) : PySem.W.CodeHd h c P := by
 obtain ⟨o, vs, file, tf, flags, tg, inF, text, tt, e, r⟩ := x
 exact ⟨o, vs, file, tf, flags, tg, inF, text, tt, X _ _ e, r⟩
def BltM (mg : Str → Option Value) (base : Heap) : Prop := ∃ bm ob, mg "__builtins__" = some (.ref bm) ∧ bm ≠ builtinsNs ∧ base.get? bm = some ob ∧ ob.cls = .type "module" ∧ ob.dict = some builtinsNs ∧ ob.data = .plain
section
variable {X : Cx} {scope : Scope} {x : Str} {N : List Str} {cap : List (Option Nat)} {pins : List (Addr × Obj)} {σ : St} {H : Hp} {s : Shared} {c0 P : Addr} {params : Arguments} {body : Expr} {lpos : Pos}
theorem kjk {E : Value → Shared → Prop} {Q : Value → Shared → Prop} (S : kdk X scope x N cap) (I : Inv X pins σ H s) (hcode : X.env.code = .ref c0) (CK : CodeK X.K c0 P) (hB : BltM X.mg X.base) (TB : TbAt P H) (hq : X.env.qual ++ "<lambda>" = lamQ) (hdef : defaultsOf params X.env = ([], []))
  (h : ∀ (s' : Shared) (H' : Hp) (f c : Addr) (pm ctv : Value), Inv X pins σ H' s' → Grew P H H' → s'.heap.get? f = some (SB "<lambda>" lamQ params body scope (closL X.env.cells scope.names []) pm c ctv) → H' f = none → s.heap.objs.size ≤ f → (∀ b, s.heap.objs.size ≤ b → s'.heap.objs.size ≤ b → H' b = none) → H' c = some (CodeO c lamQ) → Q (.ref f) s') :
  wpAny (model X.prog X.w) X.A (eval (.Lambda params body scope lpos) X.env) Q E s := by
 obtain ⟨ps, eP, ht, hor⟩ := TB
 have hP : s.heap.get? P = some (SD ps) := (show ObjOk X.prog X.w H s.heap P (.tbl ps) from I.hok P _ eP)
 have hg := I.mod.glob.keeps I.bk
 have nbP : ∀ b o, X.base.get? b = some o → b ≠ P := fun b o e z => by
  have := (I.bs b o e).2
  rw [z, eP] at this
  cases this
 have hgP : mainGlobals ≠ P := by
  obtain ⟨o, _, _, e, _⟩ := I.mod.glob
  exact nbP _ o e
 have hb : s.heap.BuiltinsAt X.mg P := by
  obtain ⟨bm, ob, b1, b2, b3, b4, b5, b6⟩ := hB
  refine ⟨bm, ob, b1, b2, fun z => ?_, nbP _ ob b3, I.bk _ _ b3, b4, b5, b6⟩
  obtain ⟨o, es, ep, e, hd, _⟩ := I.mod.glob
  rw [← z, b3] at e
  cases e
  rw [b6] at hd
  cases hd
 have CH := CK.hd I.kIn
 refine PySem.W.kla_eval hdef ?_
 rw [hq]
 cases hor' : codeAmong lpos ps.toList with
 | none =>
  have hnf := hor'
  refine PySem.W.kla_makeFunction (mg := X.mg) (kcN S.S I) I.ok.glob hg hcode CH hP ht hnf hgP hb fun c' ctv h' tk hx hge hlt hrec htb => ?_
  have hc0 : H c' = none := I.hok.fresh hge
  have nPc : P ≠ c' := kal eP hc0
  have szP : P < s.heap.objs.size := Heap.lt_size hP
  generalize hob : SB "<lambda>" lamQ params body scope (closL X.env.cells scope.names []) ((X.mg "__name__").getD .none) c' ctv = ob
  have k2 : ∀ b o, b ≠ P → s.heap.get? b = some o → (h'.push ob).get? b = some o := fun b o hbp e => Heap.get?_push_of_some _ (hx b o hbp e)
  have nN : ∀ {b : Addr}, H b = none → b ≠ P := fun {b} n z => by rw [z, eP] at n; cases n
  have at2 : ∀ {b : Addr}, b ≠ P → b ≠ c' → (upd (upd H P (.tbl (ps ++ #[rawInt lpos.line, rawInt lpos.col, .ref c']))) c' (CodeO c' lamQ)) b = H b := fun {b} h1 h2 => by rw [kam h2, kam h1]
  have eP2 : (upd (upd H P (.tbl (ps ++ #[rawInt lpos.line, rawInt lpos.col, .ref c']))) c' (CodeO c' lamQ)) P = some (.tbl (ps ++ #[rawInt lpos.line, rawInt lpos.col, .ref c'])) := by rw [kam nPc, kad]
  have ec2 : (upd (upd H P (.tbl (ps ++ #[rawInt lpos.line, rawInt lpos.col, .ref c']))) c' (CodeO c' lamQ)) c' = some (CodeO c' lamQ) := kad
  have fresh2 : ∀ b, s.heap.objs.size ≤ b → (h'.push ob).objs.size ≤ b → (upd (upd H P (.tbl (ps ++ #[rawInt lpos.line, rawInt lpos.col, .ref c']))) c' (CodeO c' lamQ)) b = none := fun b h1 h2 => by
   rw [Heap.size_push] at h2
   rw [at2 (RD (Ra szP h1)) (RD (Ra hlt (Nat.le_of_succ_le h2)))]
   exact I.hok.fresh h1
  have ff : (upd (upd H P (.tbl (ps ++ #[rawInt lpos.line, rawInt lpos.col, .ref c']))) c' (CodeO c' lamQ)) h'.objs.size = none := by
   have h1 : s.heap.objs.size ≤ h'.objs.size := CN hge (CY hlt)
   rw [at2 (RD (Ra szP h1)) (RD hlt)]
   exact I.hok.fresh h1
  generalize upd (upd H P (.tbl (ps ++ #[rawInt lpos.line, rawInt lpos.col, .ref c']))) c' (CodeO c' lamQ) = H2 at *
  have un : Un X.fs [] H H2 s.heap (h'.push ob) := by
   refine ⟨fun b o e n _ _ => k2 b o (nN n) e, fun b o e n _ _ => ⟨o.slots, k2 b o (nN n) e⟩, fun b o e n _ => ?_, fun b o e _ => ?_, fun b xs e => ?_, fun b o u e => ?_, fun b qs e => ?_⟩
   ·rw [at2 (nN n) (Rc (Ra (Heap.lt_size e) hge))]
    exact n
   ·by_cases hbp : b = P
    ·subst hbp
     exact ⟨_, Heap.get?_push_of_some _ htb⟩
    ·exact ⟨o, k2 b o hbp e⟩
   ·rw [at2 (ne_of e eP (by intro z; cases z)) (kal e hc0)]
    exact e
   ·rw [at2 (ne_of e eP (by intro z; cases z)) (kal e hc0)]
    exact e
   ·by_cases hbp : b = P
    ·subst hbp
     rw [eP] at e
     cases e
     exact ⟨_, eP2⟩
    ·refine ⟨#[], ?_⟩
     rw [at2 hbp (kal e hc0), e]
     simp
  have hok2 : HOk X.prog X.w H2 (h'.push ob) := fun b u e => by
   by_cases hbp : b = P
   ·subst hbp
    rw [eP2] at e
    cases e
    exact (show (h'.push ob).get? b = some _ from Heap.get?_push_of_some _ htb)
   ·by_cases hbc : b = c'
    ·subst hbc
     rw [ec2] at e
     cases e
     obtain ⟨cc, oc, vs, t, e1, e2, e3, e4⟩ := hrec
     cases e1
     refine (show ObjOk X.prog X.w H2 (h'.push ob) b (CodeO b lamQ) from ⟨⟨b, oc, vs, t, rfl, Heap.get?_push_of_some _ e2, e3, e4⟩, ⟨oc, Heap.get?_push_of_some _ e2⟩, fun h1 h2 q k => ?_⟩)
     obtain ⟨c3, o3, vs3, t3, z1, z2, z3, z4⟩ := q
     cases z1
     exact ⟨b, o3, vs3, t3, rfl, k _ z2, z3, z4⟩
    ·rw [at2 hbp hbc] at e
     have nown : ∀ d y, H d = some (.own y) → d ≠ P ∧ d ≠ c' := fun d y r => ⟨ne_of r eP (by intro z; cases z), kal r hc0⟩
     refine (I.hok b u e).stay (fun d v hd r => k2 d v ?_ r) (fun d r => by rw [at2 (nown d b r).1 (nown d b r).2]; exact r) fun d xs r => by rw [at2 (ne_of r eP (by intro z; cases z)) (kal r hc0)]; exact r
     rcases hd with rfl | hd
     ·exact hbp
     ·exact (nown d b hd).1
  subst hob
  refine h _ H2 h'.objs.size c' _ ctv (I.un (t' := tk) un hok2) ⟨fun b o hbp e => by rw [at2 hbp (kal e hc0)]; exact e, _, eP2, ?_, fun pos d ed => ?_⟩ (Heap.get?_push_size _ rfl) ff (CN hge (CY hlt)) fresh2 ec2
  ·have := TriplesOk_snoc lpos.line lpos.col (.ref c') ps.toList ht
   simpa using this
  ·have ed' : codeAmong pos (ps.toList ++ [rawInt lpos.line, rawInt lpos.col, .ref c']) = some d := by simpa using ed
   rcases kiL ps.toList ht ed' with z | z
   ·obtain ⟨d', rfl, ed2⟩ := hor pos d z
    exact ⟨d', rfl, by rw [at2 (ne_of ed2 eP (by intro z; cases z)) (kal ed2 hc0)]; exact ed2⟩
   ·exact ⟨c', z, ec2⟩
 | some cv =>
  have hf := hor'
  obtain ⟨c', rfl, ec'⟩ := hor lpos cv hf
  refine PySem.W.kla_makeFunctionHit (mg := X.mg) (kcN S.S I) I.ok.glob hg hcode CH hP ht hf hb fun ctv h' tk hk hsz => ?_
  have k2 : ∀ b o, s.heap.get? b = some o → (h'.push (SB "<lambda>" lamQ params body scope (closL X.env.cells scope.names []) ((X.mg "__name__").getD .none) c' ctv)).get? b = some o := fun b o e => Heap.get?_push_of_some _ (hk b o e)
  exact h _ H h'.objs.size c' _ ctv (I.kept (t' := tk) k2) ⟨fun b o _ e => e, ps, eP, ht, hor⟩ (Heap.get?_push_size _ rfl) (I.hok.fresh hsz) hsz (fun b h1 _ => I.hok.fresh h1) ec'
end
end L2
namespace L2
open PySem PySem.Spec PyProof.Rows
theorem kgR : ∀ {ns : List Int} {us : List Value}, Vals (ns.map V.int) us → IntsAre us ns
 | [], _, .nil => .nil
 | n :: ns, _, .cons h t => by
  obtain ⟨tk, rfl⟩ := h
  exact .cons n tk (kgR t)
theorem kgq : ∀ {us : List Value} {ns : List Int}, IntsAre us ns → Vals (ns.map V.int) us
 | _, _, .nil => .nil
 | _, _, .cons n t h => .cons ⟨t, rfl⟩ (kgq h)
theorem ki3 {ns : List Int} {key : Int → Int} {keys : Array Value} {us : List Value} {out : Array Value} (hu : IntsAre us ns) (hk : IntsAre keys.toList (ns.map key)) (hl : keys.size = us.length) (h : Stb.Rows keys us out) :
  ∃ ms : List Int, IntsAre out.toList ms ∧ ms.Perm ns ∧ ms.Pairwise fun a b => key a < key b ∨ (key a = key b ∧ a < b) := by
 obtain ⟨xs, hp, hup, rfl⟩ := h
 have pl : xs.toList.Perm (keys.toList.zip us) := by
  rw [← ksk_zip]
  exact Array.perm_iff_toList_perm.mp hp
 have mem : ∀ p ∈ keys.toList.zip us, p.2 ∈ us ∧ numOf p.1 = key (numOf p.2) := fun p hp => by
  obtain ⟨i, hi, rfl⟩ := List.mem_iff_getElem.mp hp
  have l1 : i < keys.toList.length := by
   rw [List.length_zip] at hi
   omega
  have l2 : i < us.length := by
   rw [List.length_zip] at hi
   omega
  rw [List.getElem_zip]
  refine ⟨List.getElem_mem l2, ?_⟩
  have e1 : (keys.toList.map numOf)[i]? = (ns.map key)[i]? := by rw [hk.nums]
  have e2 : (us.map numOf)[i]? = ns[i]? := by rw [hu.nums]
  rw [CV, RK l1, CV] at e1
  rw [CV, RK l2] at e2
  rw [← e2] at e1
  exact Option.some.inj e1
 have memx : ∀ p ∈ xs.toList, p.2 ∈ us ∧ numOf p.1 = key (numOf p.2) := fun p hp => mem p (pl.mem_iff.mp hp)
 refine ⟨xs.toList.map fun p => numOf p.2, ?_, ?_, ?_⟩
 ·have e : (xs.map (·.2)).toList = xs.toList.map (·.2) := by simp
  rw [e]
  have := intsAre_map (xs.toList.map (·.2)) fun v hv => by
   obtain ⟨p, hp', rfl⟩ := C4.mp hv
   exact hu.all _ (memx p hp').1
  rw [C9] at this
  exact this
 ·have h1 := pl.map (fun p : Keyed => numOf p.2)
  have e2 : (keys.toList.zip us).map (fun p : Keyed => numOf p.2) = ns := by
   have e3 : (keys.toList.zip us).map (fun p : Keyed => numOf p.2) = ((keys.toList.zip us).map Prod.snd).map numOf := by rw [C9]; rfl
   rw [e3, List.map_snd_zip (by have e := R3 (xs := keys); omega), hu.nums]
  rw [e2] at h1
  exact h1
 ·rw [R1]
  intro i j hi hj hij
  have hi' : i < xs.size := by simpa using hi
  have hj' : j < xs.size := by simpa using hj
  have q := hup i j hij hj'
  have ki := (memx xs[i] (by simp)).2
  have kj := (memx xs[j] (by simp)).2
  unfold Stb.Lx Stb.T at q
  rw [K_eq hi', K_eq hj', Tb hi', Tb hj'] at q
  simp only [R7, Array.getElem_toList]
  rw [← ki, ← kj]
  exact q
section
variable {X : Cx} {scope : Scope} {x : Str} {N : List Str} {cap : List (Option Nat)} {pins : List (Addr × Obj)} {σ : St} {H : Hp} {s1 : Shared} {f : Addr} {fo : Obj}
def Held (X : Cx) (pins : List (Addr × Obj)) (σ : St) (H : Hp) (n0 : Nat) (f : Addr) (fo : Obj) (s : Shared) : Prop := Inv X pins σ H s ∧ n0 ≤ s.heap.objs.size ∧ s.heap.get? f = some fo
theorem kkR (I : Inv X pins σ H s1) (hf : f < s1.heap.objs.size) : Stb.SJ (Held X pins σ H s1.heap.objs.size f fo) s1.heap.objs.size where
 sz := fun s h => h.2.1
 push := fun s c xs n h => ⟨h.1.kept (t' := s.toks) fun b o e => Heap.get?_push_of_some _ e, CN h.2.1 (by rw [Heap.size_push]; exact Sd _), Heap.get?_push_of_some _ h.2.2⟩
 upd := fun s b g h hb => by
  obtain ⟨q1, q2, q3, q4, q5, q6⟩ := I.fpOk hb (I.hok.fresh hb)
  have sb := Heap.SameBut.update s.heap b (Obj.mapSeq g)
  exact ⟨h.1.turned (t' := s.toks) (it := b) (fun d o hd e => (sb.2 d hd).trans e) q1 q2 q4 q5 q6, by rw [Heap.size_update]; exact h.2.1, (sb.2 f (Rc (Ra hf hb))).trans h.2.2⟩
def kiN (K : CA) (P : Addr) (tl : TE) (cap : List (Option Nat)) (te : TE) : TE := fun σ H Q => tl σ H fun v H1 => ∃ (a : Addr) (ns : List Int) (key : Int → Int), v = .ref a ∧ SqL K H1 a (ns.map V.int) ∧ ns.length < 64 ∧ ns.Pairwise (· < ·) ∧ TbAt P H1 ∧ a ≠ P ∧
 (∀ H2, Grew P H1 H2 → ∀ n ∈ ns, te (some (.int n) :: capσ cap σ) H2 fun v H3 => v = .int (key n) ∧ H3 = H2) ∧
 ∀ (H2 : Hp) (l : Addr) (ms : List Int), Grew P H1 H2 → H1 l = none → H2 l = none → ms.Perm ns → (ms.Pairwise fun a b => key a < key b ∨ (key a = key b ∧ a < b)) → Q (.ref l) (upd H2 l (.lst (ms.map V.int)))
theorem kjB : bootBuiltins "sorted" = some (.builtin "sorted") := by decide +kernel
theorem Grew.seq {K : CA} {P : Addr} {H H' : Hp} {a : Addr} {xs : List V} (g : Grew P H H') (ha : a ≠ P) (h : SqL K H a xs) : SqL K H' a xs := by
 rcases h with (h | ⟨o, h⟩) | h
 ·exact .inl (.inl (g.kp _ _ ha h))
 ·exact .inl (.inr ⟨o, g.kp _ _ ha h⟩)
 ·exact .inr h
theorem khe {l : Expr} {tl te : TE} {c0 P : Addr} {params : Arguments} {body : Expr} {lpos p pos kpos : Pos} (hl : PE X l tl) (S : kdk X scope x N cap) (hc : X.calm = true) (hdp : X.A.depth < recursionLimit) (hcode : X.env.code = .ref c0) (CK : CodeK X.K c0 P) (hB : BltM X.mg X.base)
  (hg : Gl X "sorted") (hm : X.mg "sorted" = none) (hbind : ∀ (cl : List (Str × Addr)) (pm : Value) (c : Addr) (ctv u : Value), bindArgs (PySem.W.kla_fn "<lambda>" lamQ params body scope cl pm (.ref c) ctv) ⟨[u], []⟩ = pure [(x, u)])
  (he : ∀ A f c s H, PE (cxL X A scope N lamQ f c s H) body te) (hq : X.env.qual ++ "<lambda>" = lamQ) (hdef : defaultsOf params X.env = ([], []) := by rfl) (s1 : starEach [l] X.env = [(false, eval l X.env)] := by rfl) :
  PE X (.Call (.Name "sorted" p) [l] [⟨some "key", .Lambda params body scope lpos, kpos⟩] pos) (kiN X.K P tl cap te) := by
 intro pins s σ H Q I h
 refine wpAny_Call_Name_kw (kde I hg hm kjB ?_ (by decide) (by decide))
 refine callWith_kw ?_ (by rw [s1]; rfl) (by rw [s1]; rfl)
 rw [s1]
 refine Calls.spliced_cons (thn (hl pins s σ H _ I h) fun u s3 ⟨v, H1, I1, r1, a, ns, key, ev, hS, h64, hup, TB, haP, hte, q⟩ => Calls.spliced_nil ?_)
 subst ev
 cases r1
 show wpAny _ _ (evalAll ((do let v ← eval (.Lambda params body scope lpos) X.env; standAt pos; pure v) :: [])) _ _ s3
 refine wpAny_evalAll_cons (wpAny_bind (kjk S I1 hcode CK hB TB hq hdef fun s4 H4 lf c pm ctv I4 G ef ff hsf hfr ec => wpAny_bind (wpAny_standAt (wpAny_pure (wpAny_evalAll_nil ?_)))))
 show wpAny _ _ (call (.builtin "sorted") [.ref a] [(Str.ofString "key", .ref lf)]) _ _ s4
 obtain ⟨its, rv, pl, hz⟩ := I4.list (G.seq haP hS)
 have hi := kgR rv
 have lu := hi.length
 have lf4 : lf < s4.heap.objs.size := Heap.lt_size ef
 have rising : ∀ (i j : Nat) (y z : Value), i < j → its[i]? = some y → its[j]? = some z → numOf y < numOf z := fun i j y z hij ey ez => by
  have e1 : ns[i]? = some (numOf y) := by rw [← hi.nums, CV, ey]; rfl
  have e2 : ns[j]? = some (numOf z) := by rw [← hi.nums, CV, ez]; rfl
  obtain ⟨l1, q1⟩ := CZ.mp e1
  obtain ⟨l2, q2⟩ := CZ.mp e2
  have := R1.mp hup i j l1 l2 hij
  rw [q1, q2] at this
  exact this
 refine Stb.sortedK (kz := ns.map key) (J := Held X pins σ H4 s4.heap.objs.size lf _) (kkR I4 lf4) ⟨I4, CC _, ef⟩ pl.isList (by rw [Cz, lu]) (by omega) rising (fun i v k ev ek s5 hJ => ?_) fun s5 D keys out cc hD hJ eD hk hkl hR => ?_
 ·have en : ns[i]? = some (numOf v) := by rw [← hi.nums, CV, ev]; rfl
  have ek' : k = key (numOf v) := by
   rw [CV, en] at ek
   exact (Option.some.inj ek).symm
  subst ek'
  obtain ⟨n, t, rfl⟩ := hi.all v (CT ev)
  have hcr : s5.heap.CodeRec (.ref c) lamQ := (show ObjOk X.prog X.w H4 s5.heap c (CodeO c lamQ) from hJ.1.hok c _ ec).1
  refine wpAny_mono (kjl (A := X.A.in1.in1) (v := .int n) (u := .int n t) S hJ.1 I.ok.frames (I.ok.hd hc) hdp hJ.2.2 hcr (hbind _ _ _ _ _) ⟨t, rfl⟩ (he _ _ _ _ _) (hte H4 G n (CT en))) (fun w' s6 hw => ?_) fun _ _ z => z
  obtain ⟨v', H6, I6, rv', ⟨e1, e2⟩, un, sz6⟩ := hw
  subst e1 e2
  have nst : ∀ b, s3.heap.objs.size ≤ b → b ∉ frs X.stack := fun b hb z => absurd (khA I1 z) (Nat.not_lt.mpr hb)
  have s34 : s3.heap.objs.size ≤ s4.heap.objs.size := CY (RP hsf lf4)
  have kp : ∀ b o, s3.heap.objs.size ≤ b → H6 b = none → s5.heap.get? b = some o → s6.heap.get? b = some o := fun b o hb hn e => un.keep b o e hn (nst b hb) (by simp)
  refine ⟨rv', ⟨I6, ?_, kp lf _ hsf ff hJ.2.2⟩, fun b o hb e => kp b o (CN s34 hb) (I4.hok.fresh hb) e⟩
  exact CN hJ.2.1 sz6
 ·obtain ⟨ms, m1, m2, m3⟩ := ki3 hi hk (by omega) hR
  have hn : H4 D = none := I4.hok.fresh hD
  have fp := I4.fpOk hD hn
  have h10 : H1 D = none := I1.hok.fresh (CN (CY (RP hsf lf4)) hD)
  have vm := kgq m1
  have lz : (ms.map V.int).length ≤ sizeLine := by
   rw [Cz, m2.length_eq, sizeLine_eq]
   omega
  refine ⟨.ref D, _, hJ.1.adopt (a := D) (o := .lst (ms.map V.int)) fp ?_ ?_, rfl, q H4 D ms G h10 hn m2 m3⟩
  ·exact CN I4.sz hD
  ·exact (show ObjOk X.prog X.w _ s5.heap D (.lst (ms.map V.int)) from ⟨lz, out.toList, cc, vm, by simpa using eD⟩)
end
end L2
namespace L2
open PySem PySem.W PyProof.Rows
section
variable {X : Cx}
def klf : V → List V → Hp → VK → Prop := fun x vs H Q => ∃ (l : Addr) (ns : List Int) (k : Int), x = .ref l ∧ vs = [.int k] ∧ H l = some (.lst (ns.map V.int)) ∧ Q (.int (ns.count k : Nat)) H
theorem kem : ∀ {ns : List Int} {us : List Value} (k : Int), Vals (ns.map V.int) us → us.countP (isI k) = ns.count k
 | [], _, _, .nil => rfl
 | m :: ns, _ :: us, k, .cons r t => by
  obtain ⟨tk, rfl⟩ := r
  rw [List.countP_cons, Tc, kem k t]
  rfl
theorem kjh : MtM X "list.count" klf := by
 intro pins s σ H x vs v us Q I rx rv h
 obtain ⟨l, ns, k, rfl, rfl, hH, q⟩ := h
 cases rx
 obtain ⟨u, rfl, ru⟩ := rv.one
 obtain ⟨t, rfl⟩ := ru
 obtain ⟨z, its, n, r, hl, e⟩ := I.lstM hH
 refine call_meets F.slot_list_count ⟨_, e, rfl⟩ F.entry_list_count (F.args_list_count_2 _ _)
  (MeetsSeq.list_count l its.toArray n (.int k t) (isI k) (fun y hy => ?_)) ⟨e, ?_⟩
 ·obtain ⟨j, hj', rfl⟩ := Array.mem_iff_getElem.mp hy
  have hjl : j < its.length := by simpa using hj'
  have hln : its.length = ns.length := by rw [← hl, Cz]
  obtain ⟨tk, et⟩ := kfM r j ns[j] (by simp)
  obtain ⟨_, e'⟩ := CZ.mp et
  have e2 : its.toArray[j] = .int ns[j] tk := by simpa using e'
  rw [e2]
  exact MeetsSeq.EqGives.int _ k tk t
 ·refine ⟨.int (ns.count k : Nat), H, I.tok _, ⟨s.toks, ?_⟩, q⟩
  rw [List.toList_toArray, kem k r]
end
end L2
namespace L2
open PySem PySem.W PyProof.Rows
section
variable {X : Cx} {pins : List (Addr × Obj)} {σ : St} {H : Hp} {s : Shared} {A : Around} {E : Value → Shared → Prop} {Q : Value → Shared → Prop}
theorem ps_no {st : Stmt} : PS X st (fun _ _ _ => False) := fun _ _ _ _ _ _ h => h.elim
end
end L2
namespace L2
open PySem PySem.W PyProof.Rows
section
variable {X : Cx}
theorem kjt : PGet X (rIxL X.K) := by
 intro pins s σ H o i ov iv Q I ro ri h
 obtain ⟨p, xs, i, z, rfl, rfl, hq, he, q⟩ := h
 cases ro
 obtain ⟨t, rfl⟩ := ri
 obtain ⟨its, r, pl, hz⟩ := I.list hq
 obtain ⟨j, h1, h2, h3, h4, h5⟩ := kgo he
 obtain ⟨w, ew, rw'⟩ := r.get h2
 have hl := r.length
 have hn := keK
 have fin : EP X pins σ Q w s := ⟨z, H, I, rw', q⟩
 by_cases h0 : 0 ≤ i
 ·have hj : i.toNat = j := by
   rw [seqIndex_of h0 h5] at h1
   exact Option.some.inj h1
  exact wpAny_getItem_list pl.isList h0 (by omega) (by rw [hj]; simpa using ew) fin
 ·have hj : (i + (its.toArray.size : Int)).toNat = j := by
   rw [seqIndex_neg (by omega) h4] at h1
   rw [C3, ← hl]
   exact Option.some.inj h1
  exact wpAny_getItem_list_neg pl.isList (by omega) (by rw [C3] <;> omega) (by omega) (by rw [hj]; simpa using ew) fin
end
end L2
namespace L2
open PySem PySem.Spec PyProof.Rows
def nxo : HO → Bool
 | .ext _ => false
 | _ => true
def NX (H : Hp) (p : Addr) : Prop := ∀ φ, H p ≠ some (.ext φ)
theorem nx {H : Hp} {p : Addr} {o : HO} (h : H p = some o) (n : nxo o = true := by rfl) : NX H p := fun φ z => by
 rw [h] at z
 cases z
 cases n
theorem nx0 {H : Hp} {p : Addr} (h : H p = none) : NX H p := fun φ z => by
 rw [h] at z
 cases z
theorem kcU {H : Hp} {p q : Addr} {o : HO} (h : NX H p) (n : nxo o = true := by rfl) : NX (upd H q o) p := fun φ z => by
 by_cases e : p = q
 ·subst e
  rw [kad] at z
  cases z
  cases n
 ·rw [kam e] at z
  exact h φ z
abbrev Ev (H H' : Hp) (b : Addr) (o : HO) : Prop := match o with
 | .tbl _ => (∃ ps, H' b = some (.tbl ps)) ∧ (TbAt b H → TbAt b H')
 | o => H' b = some o
theorem ev_eq {H H' : Hp} {b : Addr} {o : HO} (e : H' b = some o) (t : TbAt b H → TbAt b H') : Ev H H' b o := by
 cases o <;> first | exact e | exact ⟨⟨_, e⟩, t⟩
theorem kfg {H H' : Hp} {b : Addr} {o : HO} (e : Ev H H' b o) : ∃ o', H' b = some o' := by
 cases o <;> first | exact ⟨_, e⟩ | exact ⟨_, e.1.choose_spec⟩
theorem kcg {H H1 H2 : Hp} {b : Addr} {o : HO} (e : Ev H H1 b o) (k : ∀ o, H1 b = some o → Ev H1 H2 b o) : Ev H H2 b o := by
 cases o with
 | tbl ps =>
  obtain ⟨⟨ps1, e1⟩, t1⟩ := e
  obtain ⟨e2, t2⟩ := (show Ev H1 H2 b (.tbl ps1) from k _ e1)
  exact ⟨e2, fun h => t2 (t1 h)⟩
 | _ => exact k _ e
theorem kdB {b p : Addr} {H : Hp} {o : HO} (h : TbAt b H) (n : b ≠ p) (hx : NX H p) : TbAt b (upd H p o) := by
 obtain ⟨ps, e, t, hor⟩ := h
 refine ⟨ps, by rw [kam n]; exact e, t, fun pos d ed => ?_⟩
 obtain ⟨c, rfl, z2⟩ := hor pos d ed
 have hc : c ≠ p := fun e => by
  subst e
  exact hx _ z2
 exact ⟨c, rfl, by rw [kam hc]; exact z2⟩
def Same (H H' : Hp) : Prop := ∀ b o, H b = some o → Ev H H' b o
theorem Same.refl (H : Hp) : Same H H := fun _ _ h => ev_eq h fun t => t
theorem Same.trans {H H1 H2 : Hp} (a : Same H H1) (b : Same H1 H2) : Same H H2 := fun c o h => kcg (a c o h) fun o' e => b c o' e
theorem Same.free {H H' : Hp} (e : Same H H') {l : Addr} (h : H' l = Option.none) : H l = Option.none := by
 cases q : H l with
 | none => rfl
 | some o =>
  obtain ⟨o', e'⟩ := kfg (e l o q)
  rw [e'] at h
  cases h
theorem Same.seq {K : CA} {H H' : Hp} {a : Addr} {xs : List V} (e : Same H H') (h : SqL K H a xs) : SqL K H' a xs := by
 rcases h with (h | ⟨o, h⟩) | h
 ·exact .inl (.inl (e _ _ h))
 ·exact .inl (.inr ⟨o, e _ _ h⟩)
 ·exact .inr h
theorem Same.tb {H H' : Hp} (s : Same H H') {b : Addr} (h : TbAt b H) : TbAt b H' := by
 obtain ⟨ps, e, r⟩ := id h
 exact (show Ev H H' b (.tbl ps) from s b _ e).2 h
theorem Grew.same {P : Addr} {H H' : Hp} (g : Grew P H H') (TB : TbAt P H) : Same H H' := fun b o e => by
 obtain ⟨ps, eP, ht, hor⟩ := TB
 by_cases h : b = P
 ·subst h
  rw [eP] at e
  cases e
  obtain ⟨qs, e1, _⟩ := id g.tb
  exact ⟨⟨qs, e1⟩, fun _ => g.tb⟩
 ·refine ev_eq (g.kp b o h e) fun t => ?_
  obtain ⟨qs, e1, t1, h1⟩ := t
  refine ⟨qs, g.kp b _ h e1, t1, fun pos d ed => ?_⟩
  obtain ⟨c, rfl, z⟩ := h1 pos d ed
  exact ⟨c, rfl, g.kp c _ (ne_of z eP (by intro z; cases z)) z⟩
end L2
namespace L2
open PySem PySem.Spec PyProof.Rows
def kfn (K : CA) (tP : Addr) : Sp := fun vs H Q _ => ∃ (a : Addr) (ns : List Int), vs = [.ref a] ∧ SqL K H a (ns.map V.int) ∧ ns.length ≤ 63 ∧ TbAt tP H ∧ ∀ H', Q (.bl true) H'
theorem kif {P : Program} {w : World} {K : CA} {mg mb : Str → Option Value} {k : Nat} {fa a tP c0 : Addr} {fd : FuncData} {x : Str} {s₁ : Shared} {vs : List Value} {ns : List Int}
  (KX : K.In s₁.heap) (hns : s₁.heap.Ns mainGlobals mg) (hb : s₁.heap.Ns builtinsNs mb) (hbb : ∀ x : Str, x ≠ "__name__" → mb x = bootBuiltins x) (hlim : s₁.heap.NoLimit) (hg : s₁.gens = #[])
  (ha : s₁.heap.get? a = some { cls := .type "list", data := .seq vs.toArray }) (hi : IntsAre vs ns) (hl : ns.length ≤ 63) (hr : Room k callerA) (hT : s₁.heap.get? tP = some (SD #[])) (CK : CodeK K c0 tP) (kT : K.lookup tP = none) (hBM : BltM mg s₁.heap)
  (F : ∀ base : Heap, K.In base → base.Ns mainGlobals mg → BltM mg base → FnOk P w K mg base CX0 k fa fd [x] (kfn K tP)) (hbind : ∀ (s : Shared) (u : Value), BindsTo s fd ⟨[u], []⟩ [(x, u)]) :
  codeAny (model P w) callerA (.call (.ref fa) ⟨[.ref a], []⟩) (fun r s' => r = .ok (.ret (.bool true)) ∧ OldK s₁.heap s'.heap ∧ s'.os = s₁.os ∧ AllBare s'.gens) s₁ := by
 have rv := kfk hi
 have lenV := hi.length
 have hlz : ns.length ≤ sizeLine := CN hl (by decide)
 have nTa : tP ≠ a := fun e => by
  rw [e, ha] at hT
  have := Option.some.inj hT
  injection this with z
  cases z
 have core : ∀ H : Hp, SqL K H a (ns.map V.int) → HOk P w H s₁.heap → H tP = some (.tbl #[]) → (∀ b, b ≠ tP → H b = none ∨ (b = a ∧ ∃ o xs, H b = some (.frz o (.lst xs)))) → (H a ≠ none → K.lookup a = none) →
   codeAny (model P w) callerA (.call (.ref fa) ⟨[.ref a], []⟩) (fun r s' => r = .ok (.ret (.bool true)) ∧ OldK s₁.heap s'.heap ∧ s'.os = s₁.os ∧ AllBare s'.gens) s₁ := by
  intro H hS hok eT hO hK
  have base_of : ∀ {b : Addr} {o : Obj}, s₁.heap.get? b = some o → H b = none → (hidT s₁.heap H).get? b = some o := fun e n => kjp e n
  have noT : ∀ {b : Addr} {o : Obj}, s₁.heap.get? b = some o → o.cls ≠ .none → (∀ us n, o.data ≠ .seq us n) → H b = none := fun {b o} e hc hd => by
   by_cases hbT : b = tP
   ·rw [hbT, hT] at e
    cases e
    exact absurd rfl hc
   ·rcases hO b hbT with z | ⟨z, _⟩
    ·exact z
    ·rw [z, ha] at e
     cases e
     exact absurd rfl (hd _ _)
  have noA : ∀ {b : Addr} {o : Obj} {es : Array DictEntry} {ep : Nat}, s₁.heap.get? b = some o → o.data = .dict es ep → H b = none := fun {b o es ep} e d => by
   by_cases hbT : b = tP
   ·rw [hbT, hT] at e
    cases e
    cases d
   ·rcases hO b hbT with z | ⟨z, _⟩
    ·exact z
    ·rw [z, ha] at e
     cases e
     cases d
  have nsK : ∀ {b : Addr} {m : Str → Option Value}, s₁.heap.Ns b m → (hidT s₁.heap H).Ns b m := fun {b m} ⟨o, es, ep, e, d, r⟩ => ⟨o, es, ep, base_of e (noA e d), d, r⟩
  have hKb : K.In (hidT s₁.heap H) := fun b o e => base_of (KX b o e) (by
   by_cases hbT : b = tP
   ·rw [hbT, kT] at e
    cases e
   ·rcases hO b hbT with z | ⟨z, o', xs, z2⟩
    ·exact z
    ·subst z
     rw [hK (by rw [z2]; simp)] at e
     cases e)
  have hM : Mod K mg (hidT s₁.heap H) := ⟨hKb, nsK hns, ⟨mb, nsK hb, hbb⟩, let ⟨mc, h1, h2⟩ := hlim; ⟨mc, nsK h1, h2⟩⟩
  have hBb : BltM mg (hidT s₁.heap H) := by
   obtain ⟨bm, ob, b1, b2, b3, b4, b5, b6⟩ := hBM
   exact ⟨bm, ob, b1, b2, base_of b3 (noT b3 (by rw [b4]; intro z; cases z) (fun us n z => by rw [b6] at z; cases z)), b4, b5, b6⟩
  have e0 : Env0 P w K mg (hidT s₁.heap H) callerA [] s₁ H := ⟨rfl, hM, fun b o e => kkG e, Ss (kip _ _), trivial, fun b hb => absurd (show b ∈ ([] : List Addr) from hb) (by simp), hok, .of_eq hg⟩
  have hsp : kfn K tP [.ref a] H (fun v _ => v = .bl true) fun _ _ _ => False := ⟨a, ns, rfl, hS, hl, ⟨#[], eT, by trivial, fun pos c e => by cases e⟩, fun _ => rfl⟩
  refine codeAny_mono ((F _ hKb (nsK hns) hBb).run callerA [] s₁ H ⟨[.ref a], []⟩ [.ref a] [.ref a] _ _ hr e0 (hbind s₁ (.ref a)) (.cons rfl .nil) hsp) fun r s' h => ?_
  cases r with
  | error e => exact (show False from h).elim
  | ok fl =>
   cases fl with
   | next => exact False.elim h
   | brk => exact False.elim h
   | cont => exact False.elim h
   | ret u =>
    obtain ⟨v, H', os, bare, un, hok', r', q⟩ := h
    have q' : v = .bl true := q
    subst q'
    obtain rfl : u = Value.bool true := r'
    have kp : ∀ b o, b ≠ tP → s₁.heap.get? b = some o → s'.heap.get? b = some o := fun b o hbT e => by
     rcases hO b hbT with z | ⟨z, o', xs, z2⟩
     ·exact un.keep b o e z (fun z => absurd (show b ∈ ([] : List Addr) from z) (by simp)) (by simp)
     ·have z3 := un.frzs b o' _ z2
      obtain ⟨e1, _⟩ := hok b _ z2
      obtain ⟨e2, _⟩ := hok' b _ z3
      rw [e] at e1
      cases e1
      exact e2
    obtain ⟨more, eM⟩ := un.tbls tP #[] eT
    have tM : s'.heap.get? tP = some (SD (#[] ++ more)) := (show ObjOk P w H' s'.heap tP (.tbl (#[] ++ more)) from hok' tP _ eM)
    refine ⟨rfl, ⟨fun b o e => ?_, fun b o e => ?_⟩, os, bare⟩
    ·by_cases hbT : b = tP
     ·subst hbT
      rw [hT] at e
      cases e
      obtain ⟨oc, us, _, _, _, _, _, _, _, c1, c2, c3, c4, _⟩ := CK
      exact .inr (.inl ⟨⟨c0, oc, us, KX _ _ c1, c2, c3, c4⟩, rfl, #[], more, rfl, tM⟩)
     ·exact .inl (kp b o hbT e)
    ·by_cases hbT : b = tP
     ·subst hbT
      exact ⟨_, tM⟩
     ·exact ⟨o, kp b o hbT e⟩
 cases hk : K.lookup a with
 | some o =>
  have e := KX a o hk
  rw [ha] at e
  cases e
  refine core (fun b => if b = tP then some (.tbl #[]) else none) (.inr ⟨_, vs.toArray, _, hk, rfl, rfl, rfl, by rw [C3, lenV]; exact hlz, by simpa using rv⟩) (fun b u z => ?_) (if_pos rfl) (fun b hbT => .inl (if_neg hbT)) fun z => absurd (if_neg nTa.symm) z
  by_cases hbT : b = tP
  ·have z' := (if_pos hbT).symm.trans z
   cases z'
   subst hbT
   exact (show s₁.heap.get? b = some _ from hT)
  ·have z' := (if_neg hbT).symm.trans z
   cases z'
 | none =>
  refine core (fun b => if b = tP then some (.tbl #[]) else if b = a then some (.frz { cls := .type "list", data := .seq vs.toArray } (.lst (ns.map V.int))) else none) (.inl (.inr ⟨{ cls := .type "list", data := .seq vs.toArray }, by show (if a = tP then _ else _) = _; rw [if_neg nTa.symm, if_pos rfl]⟩)) (fun b u z => ?_) (if_pos rfl) (fun b hbT => ?_) fun _ => hk
  ·by_cases hbT : b = tP
   ·have z' := (if_pos hbT).symm.trans z
    cases z'
    subst hbT
    exact (show s₁.heap.get? b = some _ from hT)
   ·have z1 := (if_neg hbT).symm.trans z
    by_cases hb2 : b = a
    ·have z' := (if_pos hb2).symm.trans z1
     cases z'
     subst hb2
     exact ⟨ha, by rw [Cz]; exact hlz, vs, _, rv, ha⟩
    ·have z' := (if_neg hb2).symm.trans z1
     cases z'
  ·by_cases hb2 : b = a
   ·exact .inr ⟨hb2, _, _, by show (if b = tP then _ else _) = _; rw [if_neg hbT, if_pos hb2]⟩
   ·exact .inl (by show (if b = tP then _ else _) = _; rw [if_neg hbT, if_neg hb2])
theorem walkT_of {l : PySem.W.OpenLaw} {k : Nat} {q : Program} {loose : List Str} {XP : (Str → Option Value) → Heap → Prop} {YP : World → Heap → Prop} {d : DefRec} {K : Params → CA} {ts : List Addr} {x : Str}
  (hn : l.most = some 63) (hdf : d.params.defaults = []) (hr : Room k callerA) (hY : ∀ (w : World) (h : Heap), YP w h → (K w.params).In h) (hTs : ∀ (w : World) (h : Heap), YP w h → ∀ P ∈ ts, h.get? P = some (SD #[]))
  (F : ∀ (w : World) (mg : Str → Option Value) (fa : Addr) (h : Heap), (K w.params).In h → h.Ns mainGlobals mg → mg d.name = some (.ref fa) →
   ∃ (fd : FuncData) (tP c0 : Addr), tP ∈ ts ∧ CodeK (K w.params) c0 tP ∧ (K w.params).lookup tP = none ∧ (∀ (s : Shared) (u : Value), BindsTo s fd ⟨[u], []⟩ [(x, u)]) ∧
    ∀ base : Heap, (K w.params).In base → base.Ns mainGlobals mg → BltM mg base → FnOk l.prog w (K w.params) mg base CX0 k fa fd [x] (kfn (K w.params) tP)) :
  PySem.W.WalkO q loose XP YP l.row.toRowW d [] (fun f vs => PySem.call f vs) := by
 refine Att.attach_call hn hdf fun w s₀ s₁ mg mb fa o pm cd doc a vs ns G Y ho hd hcd hmg hobj hints hlen hg => ?_
 have KX := hY w _ Y
 obtain ⟨fd, tP, c0, hm, CK, kT, hb, hF⟩ := F w mg fa _ KX G.T.g hmg
 obtain ⟨bm, ob, b1, b2, b3, b4, b5, b6⟩ := G.T.bmain
 exact kif KX G.T.g G.T.b G.T.builtins G.T.nolimit hg hobj hints hlen hr (hTs w _ Y tP hm) CK kT ⟨bm, ob, b1, b2, b3, b4, b5, b6⟩ hF hb
end L2
namespace L2
open PySem PySem.Spec PyProof.Rows
theorem nd1 (x : Str) : ([x] : List Str).Nodup := by simp
def But (x : Addr) (H H' : Hp) : Prop := ∀ b o, b ≠ x → H b = some o → Ev H H' b o
theorem But.trans {x : Addr} {H H1 H2 : Hp} (a : But x H H1) (b : But x H1 H2) : But x H H2 := fun c o n h => kcg (a c o n h) fun o' e => b c o' n e
theorem But.same {x : Addr} {H H1 H2 : Hp} (a : But x H H1) (b : Same H1 H2) : But x H H2 := fun c o n h => kcg (a c o n h) fun o' e => b c o' e
theorem But.of_same {x : Addr} {H H1 : Hp} (b : Same H H1) : But x H H1 := fun c o _ h => b c o h
theorem But.refl {x : Addr} {H : Hp} : But x H H := fun b o _ h => Same.refl H b o h
theorem kaz {x : Addr} {H : Hp} {o : HO} (hx : NX H x := by first | exact nx kad | exact nx (by assumption) | exact nx0 (by assumption) | exact kcU (nx kad) rfl | exact kcU (nx (by assumption)) rfl) : But x H (upd H x o) := fun b u n e => ev_eq (by rw [kam n]; exact e) fun t => kdB t n hx
theorem kak {H : Hp} {p : Addr} {o : HO} (hp : H p = none) : Same H (upd H p o) := fun b u e => ev_eq (by rw [kam (kal e hp)]; exact e) fun t => kdB t (kal e hp) (nx0 hp)
theorem kaw {H H' : Hp} {p : Addr} {o : HO} (hp : H p = none) (s : Same H H') (hx : NX H' p := by first | exact nx (by assumption) | exact nx kad | exact kcU (nx (by assumption)) rfl | exact kcU (nx kad) rfl | exact kcU (nx0 (by assumption)) rfl | exact kcU (kcU (nx (by assumption)) rfl) rfl) : Same H (upd H' p o) := fun b u e =>
 kcg (s b u e) fun u' e' => ev_eq (by rw [kam (kal e hp)]; exact e') fun t => kdB t (kal e hp) hx
theorem kbQ {H : Hp} {x dx C : Addr} (hx : H x = none) (nd : H dx = none) : Same H (upd (upd H dx (.own x)) x (.ins C dx [])) := fun b u e => by
 have n1 := kal e hx
 have n2 := kal e nd
 exact ev_eq (by rw [kam n1, kam n2]; exact e) fun t => kdB (kdB t n2 (nx0 nd)) n1 (kcU (nx0 hx) rfl)
theorem kbU {H H' : Hp} {x dx C : Addr} (hx : H x = none) (nd : H dx = none) (k : But x (upd (upd H dx (.own x)) x (.ins C dx [])) H') : Same H H' := fun b o e => kcg (kbQ (C := C) hx nd b o e) fun o' e' => k b o' (kal e hx) e'
theorem kdd {H : Hp} {x dx C y : Addr} (h : (upd (upd H dx (.own x)) x (.ins C dx [])) y = none) : H y = none := by
 by_cases e1 : y = x
 ·subst e1
  rw [kad] at h
  cases h
 ·rw [kam e1] at h
  by_cases e2 : y = dx
  ·subst e2
   rw [kad] at h
   cases h
  ·rw [kam e2] at h
   exact h
theorem kfJ {H : Hp} {x dx C y : Addr} {o : HO} (nx : H x = none) (nd : H dx = none) (h : H y = some o) : (upd (upd H dx (.own x)) x (.ins C dx [])) y = some o := by
 rw [kam (kal h nx), kam (kal h nd)]
 exact h
theorem kao {f : Str} {v : V} : ∀ {fs : List (Str × V)} {n : Nat}, fs.length ≤ n → (putF f v fs).length ≤ n + 1
 | [], n, _ => by
  show 1 ≤ n + 1
  omega
 | (g, x) :: r, n, h => by
  show (if g = f then (g, v) :: r else (g, x) :: putF f v r).length ≤ n + 1
  have h' : r.length + 1 ≤ n := h
  split
  ·show r.length + 1 ≤ n + 1
   omega
  ·show (putF f v r).length + 1 ≤ n + 1
   have := kao (f := f) (v := v) (fs := r) (n := n - 1) (by omega)
   omega
theorem few {fs : List (Str × V)} (h : fs.length ≤ 20) : fs.length < 1000 := by omega
theorem kb0 {ns : List Addr} {i : Nat} {x : V} (h : (ns.map V.ref)[i]? = some x) : ∃ z, ns[i]? = some z ∧ x = V.ref z := by
 rw [CV] at h
 cases e : ns[i]? with
 | none => rw [e] at h; cases h
 | some z => rw [e] at h; exact ⟨z, rfl, (Option.some.inj h).symm⟩
theorem kb6 {α : Type} {g : α → V} {ns : List α} {i : Nat} {x : V} (h : (ns.map g)[i]? = some x) : ∃ z, ns[i]? = some z ∧ x = g z := by
 rw [CV] at h
 cases e : ns[i]? with
 | none => rw [e] at h; cases h
 | some z => rw [e] at h; exact ⟨z, rfl, (Option.some.inj h).symm⟩
theorem at_lt {α : Type} {xs : List α} {i : Nat} {x : α} (h : xs[i]? = some x) : i < xs.length := (CZ.mp h).1
theorem at_of {α : Type} {xs : List α} {i : Nat} (h : i < xs.length) : ∃ x, xs[i]? = some x := ⟨xs[i], by simp [h]⟩
theorem kbY {α : Type} {rs : List α} {i : Nat} {r : α} (h : rs[i]? = some r) : rs.take (i + 1) = rs.take i ++ [r] := by
 rw [RS, h]
 rfl
inductive P2 {α β : Type} (R : α → β → Prop) : List α → List β → Prop
 | nil : P2 R [] []
 | cons {a : α} {b : β} {as : List α} {bs : List β} (h : R a b) (t : P2 R as bs) : P2 R (a :: as) (b :: bs)
section
variable {α β : Type} {R R' : α → β → Prop} {as as' : List α} {bs bs' : List β}
theorem P2.of (hl : as.length = bs.length) (h : ∀ (i : Nat) (a : α) (b : β), as[i]? = some a → bs[i]? = some b → R a b) : P2 R as bs := by
 induction as generalizing bs with
 | nil =>
  cases bs with
  | nil => exact .nil
  | cons b bs => cases hl
 | cons a as ih =>
  cases bs with
  | nil => cases hl
  | cons b bs => exact .cons (h 0 a b rfl rfl) (ih (by simpa using hl) fun i x y e1 e2 => h (i + 1) x y (by simpa using e1) (by simpa using e2))
theorem P2.len (h : P2 R as bs) : as.length = bs.length := by
 induction h with
 | nil => rfl
 | cons r t ih => simp [ih]
theorem P2.get (h : P2 R as bs) {i : Nat} {a : α} {b : β} (e1 : as[i]? = some a) (e2 : bs[i]? = some b) : R a b := by
 induction h generalizing i with
 | nil => simp at e1
 | cons r t ih =>
  cases i with
  | zero =>
   simp at e1 e2
   subst e1 e2
   exact r
  | succ i => exact ih (by simpa using e1) (by simpa using e2)
theorem P2.at (h : P2 R as bs) {i : Nat} {a : α} (e1 : as[i]? = some a) : ∃ b, bs[i]? = some b ∧ R a b := by
 obtain ⟨b, e2⟩ := at_of (xs := bs) (i := i) (by rw [← h.len]; exact at_lt e1)
 exact ⟨b, e2, h.get e1 e2⟩
theorem P2.mono (h : P2 R as bs) (k : ∀ a b, R a b → R' a b) : P2 R' as bs := by
 induction h with
 | nil => exact .nil
 | cons r t ih => exact .cons (k _ _ r) ih
theorem P2.append (h : P2 R as bs) (h' : P2 R as' bs') : P2 R (as ++ as') (bs ++ bs') := by
 induction h with
 | nil => exact h'
 | cons r t ih => exact .cons r ih
theorem P2.snoc (h : P2 R as bs) {a : α} {b : β} (r : R a b) : P2 R (as ++ [a]) (bs ++ [b]) := h.append (.cons r .nil)
theorem P2.take (h : P2 R as bs) (k : Nat) : P2 R (as.take k) (bs.take k) := by
 induction h generalizing k with
 | nil => simpa using P2.nil
 | cons r t ih =>
  cases k with
  | zero => exact .nil
  | succ k => exact .cons r (ih k)
theorem P2.drop (h : P2 R as bs) (k : Nat) : P2 R (as.drop k) (bs.drop k) := by
 induction h generalizing k with
 | nil => simpa using P2.nil
 | cons r t ih =>
  cases k with
  | zero => exact .cons r t
  | succ k => exact ih k
theorem P2.reverse (h : P2 R as bs) : P2 R as.reverse bs.reverse := by
 induction h with
 | nil => exact .nil
 | cons r t ih =>
  rw [Sw, Sw]
  exact ih.append (.cons r .nil)
end
theorem rep1 (n : Nat) (v : V) : (CI n [v]).flatten = CI n v := by
 induction n with
 | zero => rfl
 | succ n ih => rw [RJ, Rf, ih, RJ]; rfl
theorem khO (n : Nat) (z : Int) : CI n (V.int z) = (CI n z).map V.int := by simp
theorem kjQ (k : Int) : (!decide (V.int k = V.non)) = true := by simp
theorem kjP : (!decide (V.non = V.non)) = false := by simp
def oV : Option Int → V
 | none => .non
 | some z => .int z
structure TxtB (mg : Str → Option Value) : Prop where
 range : mg "range" = none
 len : mg "len" = none
 min : mg "min" = none
 max : mg "max" = none
 isi : mg "isinstance" = none
 bool : mg "bool" = none
 int : mg "int" = none
 list : mg "list" = none
 sum : mg "sum" = none
 enum : mg "enumerate" = none
 any : mg "any" = none
 all : mg "all" = none
 rev : mg "reversed" = none
 zip : mg "zip" = none
 abs : mg "abs" = none
 sorted : mg "sorted" = none
 tuple : mg "tuple" = none
 str : mg "str" = none
structure FunD (K : CA) (x qual : Str) (st : Stmt) (f : Addr) (fd : FuncData) : Prop where
 ex : ∃ (oc : Value) (od : Option Addr) (dV kV doc pm : Value) (an : Option Addr) (cdv ct : Value) (osl : Array (Option Value)),
  fd = Cy x qual (kag st) (kaf st) (kab st) dV kV doc pm an cdv ct ∧ K.lookup f = some ⟨oc, od, .func fd, osl⟩ ∧ CJ K cdv qual = true
 kp : CF K (.ref f) = true
theorem FunD.ok {P : Program} {w : World} {K : CA} {mg : Str → Option Value} {base : Heap} {x qual : Str} {st : Stmt} {f : Addr} {fd : FuncData} {N ps : List Str} {k : Nat} {sp : Sp} (F : FunD K x qual st f fd) (S : kaq N ps (kab st)) (len : ∀ vs H Q E, sp vs H Q E → vs.length = ps.length)
  (hbody : ∀ (cdv : Value) (A : Around) (outer : List Env) (s : Shared) (H : Hp) (vs : List V) (Q : VK) (E : XK), Room k (A.deeper (PyProof.Rows.envOfC qual (kab st) s.heap.objs.size f cdv)) → sp vs H Q E →
   ∃ t, PSs (cxOf CX0 P w K mg base N qual (kab st) f cdv A outer s H E).nox (kaf st) t ∧ t { nx := fun _ H' => Q .non H', rt := Q } (start N vs) H) : FnOk P w K mg base CX0 (k + 1) f fd ps sp := by
 obtain ⟨oc, od, dV, kV, doc, pm, an, cdv, ct, osl, rfl, lk, hcd⟩ := F.ex
 refine fn_of lk hcd S len fun A outer s H vs Q E hr hsp => ?_
 obtain ⟨t, h, q⟩ := hbody cdv A outer s H vs Q E hr hsp
 exact ⟨t, h.nox, q⟩
theorem FunD.okC {P : Program} {w : World} {K : CA} {mg : Str → Option Value} {base : Heap} {x qual : Str} {st : Stmt} {f : Addr} {fd : FuncData} {N ps : List Str} {k : Nat} {sp : Sp} (F : FunD K x qual st f fd) (S : kaq N ps (kab st)) (len : ∀ vs H Q E, sp vs H Q E → vs.length = ps.length)
  (hbody : ∀ (A : Around) (outer : List Env) (s : Shared) (H : Hp) (vs : List V) (Q : VK) (E : XK), Room k (A.deeper (PyProof.Rows.envOfC qual (kab st) s.heap.objs.size f fd.code)) → sp vs H Q E →
   ∃ t, PSs (cxOf CX0 P w K mg base N qual (kab st) f fd.code A outer s H E).nox (kaf st) t ∧ t { nx := fun _ H' => Q .non H', rt := Q } (start N vs) H) : FnOk P w K mg base CX0 (k + 1) f fd ps sp := by
 obtain ⟨oc, od, dV, kV, doc, pm, an, cdv, ct, osl, rfl, lk, hcd⟩ := F.ex
 refine fn_of lk hcd S len fun A outer s H vs Q E hr hsp => ?_
 obtain ⟨t, h, q⟩ := hbody A outer s H vs Q E hr hsp
 exact ⟨t, h.nox, q⟩
theorem kav {K : CA} {x qual : Str} {st : Stmt} {f : Addr} {oc : Value} {od an : Option Addr} {osl : Array (Option Value)} {dV kV doc pm cdv ct : Value} (l : K.lookup f = some ⟨oc, od, .func (Cy x qual (kag st) (kaf st) (kab st) dV kV doc pm an cdv ct), osl⟩)
  (c : CJ K cdv qual = true) (k : CF K (.ref f) = true) : FunD K x qual st f (Cy x qual (kag st) (kaf st) (kab st) dV kV doc pm an cdv ct) := ⟨⟨oc, od, dV, kV, doc, pm, an, cdv, ct, osl, rfl, l, c⟩, k⟩
structure Dn (K : CA) (mg : Str → Option Value) (x : Str) (st : Stmt) (ps : List Str) (f : Addr) (fd : FuncData) : Prop where
 F : FunD K x x st f fd
 b : Binds K fd ps []
 m : mg x = some (.ref f)
structure Isi (K : CA) (C : Addr) : Prop where
 ha : CD K (.ref C) "__class__" = some (some (.builtin "object.__class__"))
 hn : Sb K (.builtin "object.__class__") "__get__" = some (some (.builtin "getset_descriptor.__get__"))
 ht : SZ K (.builtin "object.__class__") = some true
 hm : CQ K C (.type "object") = some true
theorem kbt {K : CA} {A B : Addr} {b : Bool} (mA : CQ K A (.ref B) = some b) (ob : CQ K B (.type "object") = some true) (ty : Rn K (.ref B) = some (.type "type")) (ne : A ≠ B) : C2 K (.ref A) (.ref B) = some b := by
 have e : (Value.ref A == Value.ref B) = false := beq_eq_false_iff_ne.mpr fun z => ne (by injection z)
 obtain ⟨cd, a, _⟩ := Option.bind_eq_some_iff.mp ob
 unfold C2 PySem.W.kitCls PySem.W.subIn
 rw [e, if_neg CW]
 show (if ((PySem.W.clsIn K B).isSome && Rn K (.ref B) == some (.type "type")) = true then CQ K A (.ref B) else none) = some b
 rw [a, ty, mA, if_pos (by simp)]
theorem kbX {K : CA} {A B : Addr} (h : CQ K A (.ref B) = some false) (hA : CQ K A (.ref A) = some true) : A ≠ B := fun e => by
 rw [← e, hA] at h
 cases h
structure ClsT (K : CA) (mg : Str → Option Value) (nm : Str) (C : Addr) : Prop where
 cl : Cls K C
 m : mg nm = some (.ref C)
 isi : Isi K C
 self : CQ K C (.ref C) = some true
 ty : Rn K (.ref C) = some (.type "type")
 makes : Rr K C = true
 kp : CF K (.ref C) = true
structure MthT (K : CA) (C : Addr) (m qual : Str) (st : Stmt) (ps : List Str) (f : Addr) (fd : FuncData) : Prop where
 at_ : CD K (.ref C) m = some (some (.ref f))
 fn : Rg K (.ref f) = true
 F : FunD K m qual st f fd
 b : Binds K fd ps []
theorem MthT.me {K : CA} {C : Addr} {m qual : Str} {st : Stmt} {ps : List Str} {f : Addr} {fd : FuncData} (h : MthT K C m qual st ps f fd) : Meth K C m f := ⟨h.at_, h.fn, h.F.kp⟩
theorem MthT.mk' {K : CA} {mg : Str → Option Value} {C : Addr} {nm qual : Str} {st : Stmt} {ps : List Str} {f : Addr} {fd : FuncData} (h : MthT K C "__init__" qual st ps f fd) (c : ClsT K mg nm C) : Mk K C f := ⟨c.makes, h.at_, h.fn, c.kp⟩
end L2
namespace War
structure Row where
 kd : Int
 pr : Int
 mn : Int
 ex : Option Int
structure Row.Ok (r : Row) : Prop where
 pr0 : 0 ≤ r.pr
 pr1 : r.pr ≤ 1000000000000
 mn0 : 0 ≤ r.mn
 mn1 : r.mn ≤ 60
 ex0 : ∀ z, r.ex = some z → 0 ≤ z ∧ z ≤ 1000000000000
def prc (m : Bool) (r : Row) : Int := if m = true then r.ex.getD r.pr else r.pr
def own (rs : List Row) : List Int := (rs.zipIdx.map fun p => CI p.1.mn.toNat (p.2 : Int)).flatten
def prs (m : Bool) (rs : List Row) : List Int := (rs.map fun r => CI r.mn.toNat (prc m r)).flatten
theorem kjb (rs : List Row) (r : Row) : own (rs ++ [r]) = own rs ++ CI r.mn.toNat (rs.length : Int) := by
 unfold own
 rw [List.zipIdx_append, CU, SE]
 simp
theorem ki6 (m : Bool) (rs : List Row) (r : Row) : prs m (rs ++ [r]) = prs m rs ++ CI r.mn.toNat (prc m r) := by
 unfold prs
 rw [CU, SE]
 simp
theorem kgG : ∀ (rs : List Row) (k : Nat), (∀ r ∈ rs, r.Ok) → ((rs.zipIdx k).map fun p => CI p.1.mn.toNat (p.2 : Int)).flatten.length ≤ 60 * rs.length
 | [], _, _ => by simp
 | r :: rs, k, h => by
  have h1 := kgG rs (k + 1) fun x hx => h x (C8 _ hx)
  have h2 := (h r Re).mn1
  rw [R8, C1, Rf, C7, Ro, Rv]
  show r.mn.toNat + _ ≤ _
  omega
theorem kh0 (rs : List Row) (h : ∀ r ∈ rs, r.Ok) : (own rs).length ≤ 60 * rs.length := kgG rs 0 h
theorem khT (m : Bool) : ∀ (rs : List Row), (∀ r ∈ rs, r.Ok) → (prs m rs).length ≤ 60 * rs.length
 | [], _ => by simp [prs]
 | r :: rs, h => by
  have h1 := khT m rs fun x hx => h x (C8 _ hx)
  have h2 := (h r Re).mn1
  unfold prs at h1 ⊢
  rw [C1, Rf, C7, Ro, Rv]
  omega
theorem kj7 (n : Nat) (z : Int) : (CI n z).sum = z * n := by
 induction n with
 | zero => simp
 | succ n ih =>
  rw [RJ, Rx, ih]
  have : z * ((n + 1 : Nat) : Int) = z * (n : Int) + z := by
   rw [Int.natCast_add, Int.mul_add]
   simp
  omega
theorem kjK {m : Bool} {r : Row} (h : r.Ok) : 0 ≤ prc m r ∧ prc m r ≤ 1000000000000 := by
 unfold prc
 split
 ·cases e : r.ex with
  | none => exact ⟨h.pr0, h.pr1⟩
  | some z => exact h.ex0 z e
 ·exact ⟨h.pr0, h.pr1⟩
theorem take_snoc {α : Type} {rs : List α} {i : Nat} {r : α} (h : rs[i]? = some r) : rs.take (i + 1) = rs.take i ++ [r] := by
 rw [RS, h]
 rfl
end War
namespace Kin
def Good (ps : List (Option Nat)) : Prop := ∀ (i k : Nat), ps[i]? = some (some k) → k < i
def anc (ps : List (Option Nat)) : Nat → Nat → List Nat
 | 0, _ => []
 | f + 1, i => i :: (match ps[i]? with | some (some k) => anc ps f k | _ => [])
def up (ps : List (Option Nat)) (i : Nat) : List Nat := anc ps (i + 1) i
theorem kjD {ps : List (Option Nat)} (g : Good ps) : ∀ (f f' i : Nat), i < f → i < f' → anc ps f i = anc ps f' i := by
 intro f
 induction f with
 | zero => intro f' i h; omega
 | succ f ih =>
  intro f' i h h'
  cases f' with
  | zero => omega
  | succ f' =>
   show i :: _ = i :: _
   congr 1
   cases e : ps[i]? with
   | none => rfl
   | some o =>
    cases o with
    | none => rfl
    | some k =>
     have hk := g i k e
     exact ih f' k (by omega) (by omega)
theorem kj4 {ps : List (Option Nat)} (g : Good ps) {i k : Nat} (e : ps[i]? = some (some k)) : up ps i = i :: up ps k := by
 have hk := g i k e
 show i :: _ = _
 rw [e]
 show i :: anc ps i k = i :: up ps k
 rw [kjD g i (k + 1) k hk (by omega)]
 rfl
theorem kj5 {ps : List (Option Nat)} {i : Nat} (e : ps[i]? = some none) : up ps i = [i] := by
 show i :: _ = _
 rw [e]
def rest (ps : List (Option Nat)) : Option Nat → List Nat
 | none => []
 | some k => up ps k
def left : Option Nat → Nat
 | none => 0
 | some k => k + 1
theorem up_eq {ps : List (Option Nat)} (g : Good ps) {i : Nat} {o : Option Nat} (e : ps[i]? = some o) : up ps i = i :: rest ps o := by
 cases o with
 | none => exact kj5 e
 | some k => exact kj4 g e
theorem kjr : Good [] := fun i k e => by simp at e
theorem kiv {ps : List (Option Nat)} (g : Good ps) {o : Option Nat} (h : ∀ k, o = some k → k < ps.length) : Good (ps ++ [o]) := by
 intro i k e
 rcases Nat.lt_trichotomy i ps.length with hi | hi | hi
 ·rw [Se hi] at e
  exact g i k e
 ·subst hi
  rw [R4 (CC _)] at e
  simp at e
  exact h k e
 ·rw [R4 (by omega)] at e
  have : (i - ps.length) ≠ 0 := by omega
  cases q : i - ps.length with
  | zero => omega
  | succ n => rw [q] at e; simp at e
end Kin
namespace Kin
end Kin
namespace Deal
def pre (ws : List Int) (k : Nat) : Int := (ws.take k).sum
def part (c : Int) (ws : List Int) (j : Nat) : Int := c * pre ws (j + 1) / ws.sum - c * pre ws j / ws.sum
def dl (c : Int) (ws : List Int) : List Int := if ws.sum = 0 then ws.map (fun _ => 0) else (CP ws.length).map (part c ws)
theorem ki7 (ws : List Int) : pre ws 0 = 0 := by simp [pre]
theorem khU (ws : List Int) : pre ws ws.length = ws.sum := by simp [pre]
theorem kdS {ws : List Int} {i : Nat} {w : Int} (h : ws[i]? = some w) : pre ws (i + 1) = pre ws i + w := by
 unfold pre
 rw [RS, h]
 simp
theorem keN (c : Int) (ws : List Int) : (dl c ws).length = ws.length := by
 unfold dl
 split <;> simp
theorem dl_at {c : Int} {ws : List Int} (h : ¬ ws.sum = 0) {j : Nat} (hj : j < ws.length) : (dl c ws)[j]? = some (part c ws j) := by
 unfold dl
 rw [if_neg h]
 simp [hj]
theorem kiA {c : Int} {ws : List Int} (h : ws.sum = 0) {j : Nat} (hj : j < ws.length) : (dl c ws)[j]? = some 0 := by
 unfold dl
 rw [if_pos h]
 simp [hj]
def Nn (ws : List Int) : Prop := ∀ w ∈ ws, 0 ≤ w
theorem kco : ∀ {ws : List Int}, Nn ws → 0 ≤ ws.sum
 | [], _ => by simp
 | w :: ws, h => by
  have := kco (ws := ws) fun x hx => h x (C8 _ hx)
  have h1 := h w Re
  simp
  omega
theorem khY {c s A w : Int} (hs : 0 < s) (hc : 0 ≤ c) (hcs : c ≤ s) (hw : 0 ≤ w) : 0 ≤ c * (A + w) / s - c * A / s ∧ c * (A + w) / s - c * A / s ≤ w ∧
  (c * (A + w) / s - c * A / s) * s - c * w < s ∧ -s < (c * (A + w) / s - c * A / s) * s - c * w := by
 have e : c * (A + w) = c * A + c * w := Int.mul_add ..
 rw [e]
 generalize hx : c * A = x
 have h1 : 0 ≤ c * w := Int.mul_nonneg hc hw
 have h2 : c * w ≤ w * s := by
  rw [Int.mul_comm w s]
  exact Int.mul_le_mul_of_nonneg_right hcs hw
 generalize hy : c * w = y at h1 h2
 have m1 : x / s ≤ (x + y) / s := Int.ediv_le_ediv hs (by omega)
 have m2 : (x + y) / s ≤ (x + w * s) / s := Int.ediv_le_ediv hs (by omega)
 rw [Int.add_mul_ediv_right _ _ (by omega)] at m2
 have d1 := Int.emod_add_mul_ediv x s
 have d2 := Int.emod_add_mul_ediv (x + y) s
 have r1 := Int.emod_nonneg x (show s ≠ 0 by omega)
 have r2 := Int.emod_lt_of_pos x hs
 have r3 := Int.emod_nonneg (x + y) (show s ≠ 0 by omega)
 have r4 := Int.emod_lt_of_pos (x + y) hs
 have e3 : ((x + y) / s - x / s) * s = s * ((x + y) / s) - s * (x / s) := by
  rw [Int.sub_mul, Int.mul_comm, Int.mul_comm (x / s)]
 rw [e3]
 refine ⟨by omega, by omega, by omega, by omega⟩
end Deal
namespace Vs
open Kin Deal
structure Mks where
 kind : Option Nat
 needs : Int
 most : Option Int
 member : Bool
 once : Bool
 lone : Bool
inductive Srt
 | off (a : Int)
 | share (s : Int) (b : Bool)
 | cheap (n : Int)
 | bund (n p : Int)
 | carr
structure Vch where
 so : Srt
 ms : Mks
structure Stnd where
 ow : List Nat
 pr : List Int
 cg : Int
 mkd : List Bool
def kHit (ps : List (Option Nat)) (kind : Option Nat) (kd : Nat) : Bool := match kind with
 | none => true
 | some k => decide (k ∈ up ps kd)
def hits (ps : List (Option Nat)) (kds : List Nat) (kind : Option Nat) (lone : Bool) (mkd : List Bool) (l : Nat) : Bool :=
 kHit ps kind (kds.getD l 0) && (!lone || !(mkd.getD l false))
def abt (ps : List (Option Nat)) (kds : List Nat) (kind : Option Nat) (lone : Bool) (S : Stnd) : List Nat :=
 (CP S.ow.length).filter fun i => hits ps kds kind lone S.mkd (S.ow.getD i 0)
theorem kg4 {ps : List (Option Nat)} {kds : List Nat} {kind : Option Nat} {lone : Bool} {S : Stnd} {i : Nat} (h : i ∈ abt ps kds kind lone S) : i < S.ow.length := by
 have := (RI.mp h).1
 simpa using this
theorem kfZ (ps : List (Option Nat)) (kds : List Nat) (kind : Option Nat) (lone : Bool) (S : Stnd) : (abt ps kds kind lone S).Nodup := R6.filter _ SF
theorem ker (ps : List (Option Nat)) (kds : List Nat) (kind : Option Nat) (lone : Bool) (S : Stnd) : (abt ps kds kind lone S).length ≤ S.ow.length := by
 have := SG (fun i => hits ps kds kind lone S.mkd (S.ow.getD i 0)) (CP S.ow.length)
 simpa [abt] using this
def qs (pr : List Int) (is : List Nat) : List Int := is.map fun i => pr.getD i 0
theorem kcq (pr : List Int) (is : List Nat) : (qs pr is).length = is.length := by simp [qs]
def spr (n : Nat) (is : List Nat) (vs : List Int) : List Int := (CP n).map fun i => ((is.zip vs).lookup i).getD 0
theorem kcX (n : Nat) (is : List Nat) (vs : List Int) : (spr n is vs).length = n := by simp [spr]
theorem kka (n : Nat) (vs : List Int) : spr n [] vs = CI n 0 := by
 unfold spr
 apply RM
 ·simp
 ·intro i h1 h2
  simp
theorem kgb {l : List (Nat × Int)} {i j : Nat} {v : Int} (h : ∀ p ∈ l, p.1 ≠ i) : (l ++ [(i, v)]).lookup j = if j = i then some v else l.lookup j := by
 induction l with
 | nil =>
  simp only [R5, Rp, List.lookup_nil]
  by_cases e : j = i
  ·subst e; simp
  ·have : (j == i) = false := beq_eq_false_iff_ne.mpr e
   simp [this, e]
 | cons p l ih =>
  obtain ⟨k, w⟩ := p
  have ih' := ih fun q hq => h q (C8 _ hq)
  have hk : k ≠ i := h (k, w) Re
  simp only [SC, Rp]
  by_cases e : j = k
  ·subst e
   simp [hk]
  ·have : (j == k) = false := beq_eq_false_iff_ne.mpr e
   simp only [this]
   exact ih'
theorem kj9 {n : Nat} {is : List Nat} {vs : List Int} (hn : is.Nodup) {k i : Nat} {v : Int} (h1 : is[k]? = some i) (h2 : vs[k]? = some v) (hi : i < n) :
  (spr n (is.take k) (vs.take k)).set i v = spr n (is.take (k + 1)) (vs.take (k + 1)) := by
 have e1 : is.take (k + 1) = is.take k ++ [i] := by rw [RS, h1]; rfl
 have e2 : vs.take (k + 1) = vs.take k ++ [v] := by rw [RS, h2]; rfl
 have hk1 : k < is.length := (CZ.mp h1).1
 have hk2 : k < vs.length := (CZ.mp h2).1
 have ez : (is.take (k + 1)).zip (vs.take (k + 1)) = (is.take k).zip (vs.take k) ++ [(i, v)] := by
  rw [e1, e2, SH (by simp; omega)]
  rfl
 have hne : ∀ p ∈ (is.take k).zip (vs.take k), p.1 ≠ i := fun p hp e => by
  have hm : p.1 ∈ is.take k := (RX hp).1
  rw [e] at hm
  obtain ⟨j, hj, ej⟩ := List.getElem_of_mem hm
  rw [C0] at hj
  rw [List.getElem_take] at ej
  have e3 : is[k] = i := by
   obtain ⟨_, q⟩ := CZ.mp h1
   exact q
  exact R1.mp hn j k (by omega) hk1 (by omega) (by rw [ej, e3])
 apply RM
 ·simp [spr]
 ·intro j h3 h4
  have hj : j < n := by simpa [spr] using h4
  rw [Td]
  simp only [spr, R7, Si]
  rw [ez, kgb hne]
  by_cases e : i = j
  ·subst e; simp
  ·have : ¬ j = i := fun z => e z.symm
   simp [e, this]
def bef (q : List Int) (a b : Nat) : Prop := q.getD b 0 < q.getD a 0 ∨ (q.getD a 0 = q.getD b 0 ∧ a < b)
def Fall (q : List Int) (r : List Nat) : Prop := r.Perm (CP q.length) ∧ r.Pairwise (bef q)
theorem kjA {q : List Int} {a b : Nat} (h : bef q a b) (h' : bef q b a) : False := by
 unfold bef at h h'
 omega
theorem kd3 {R : Nat → Nat → Prop} (asym : ∀ a b, R a b → R b a → False) : ∀ {l l' : List Nat}, l.Perm l' → l.Pairwise R → l'.Pairwise R → l = l'
 | [], l', p, _, _ => (List.nil_perm.mp p).symm
 | a :: l, l', p, h, h' => by
  cases l' with
  | nil => exact absurd p.length_eq (by simp)
  | cons b l' =>
   have hab : a = b := by
    rcases Classical.em (a = b) with e | e
    ·exact e
    ·have ha : a ∈ b :: l' := p.mem_iff.mp Re
     have hb : b ∈ a :: l := p.mem_iff.mpr Re
     rcases C6.mp ha with e1 | ha
     ·exact absurd e1 e
     ·rcases C6.mp hb with e2 | hb
      ·exact absurd e2.symm e
      ·exact (asym a b ((SI.mp h).1 b hb) ((SI.mp h').1 a ha)).elim
   subst hab
   congr 1
   exact kd3 asym (SK.cons_inv p) (SI.mp h).2 (SI.mp h').2
theorem kgj {q : List Int} {r r' : List Nat} (h : Fall q r) (h' : Fall q r') : r = r' :=
 kd3 (fun _ _ a b => kjA a b) (h.1.trans h'.1.symm) h.2 h'.2
def grp (n : Nat) (r : List Nat) : List (List Nat) := (CP (r.length / n)).map fun g => (r.drop (g * n)).take n
end Vs
namespace Vs
open Kin Deal
def Le2 (xs ys : List Int) : Prop := xs.length = ys.length ∧ ∀ (j : Nat) (v w : Int), xs[j]? = some v → ys[j]? = some w → 0 ≤ v ∧ v ≤ w
theorem Le2.nil : Le2 [] [] := ⟨rfl, fun j v w e => by simp at e⟩
theorem Le2.self {xs : List Int} (h : Nn xs) : Le2 xs xs := ⟨rfl, fun j v w e1 e2 => by
 rw [e1] at e2
 cases e2
 exact ⟨h v (CT e1), Int.le_refl _⟩⟩
theorem Le2.nn {xs ys : List Int} (h : Le2 xs ys) : Nn xs := fun v hv => by
 obtain ⟨j, hj, e⟩ := List.getElem_of_mem hv
 exact (h.2 j v (ys[j]'(by rw [← h.1]; exact hj)) (by simp [hj, e]) (by simp [show j < ys.length by rw [← h.1]; exact hj])).1
theorem Le2.trans {xs ys zs : List Int} (h : Le2 xs ys) (h' : Le2 ys zs) : Le2 xs zs := ⟨h.1.trans h'.1, fun j v w e1 e2 => by
 have hj : j < xs.length := (CZ.mp e1).1
 have e3 : ys[j]? = some (ys[j]'(by rw [← h.1]; exact hj)) := by simp [show j < ys.length by rw [← h.1]; exact hj]
 have a := h.2 j v _ e1 e3
 have b := h'.2 j _ w e3 e2
 omega⟩
theorem Le2.append {xs ys xs' ys' : List Int} (h : Le2 xs ys) (h' : Le2 xs' ys') : Le2 (xs ++ xs') (ys ++ ys') := by
 refine ⟨by simp [h.1, h'.1], fun j v w e1 e2 => ?_⟩
 have hl := h.1
 rcases Nat.lt_or_ge j xs.length with hj | hj
 ·rw [Se hj] at e1
  rw [Se (by omega)] at e2
  exact h.2 j v w e1 e2
 ·rw [R4 hj] at e1
  rw [R4 (by omega), ← hl] at e2
  exact h'.2 _ v w e1 e2
theorem Le2.sum : ∀ {xs ys : List Int}, Le2 xs ys → 0 ≤ xs.sum ∧ xs.sum ≤ ys.sum
 | [], [], _ => by simp
 | [], _ :: _, h => by have := h.1; simp at this
 | _ :: _, [], h => by have := h.1; simp at this
 | x :: xs, y :: ys, h => by
  have h0 := h.2 0 x y rfl rfl
  have h1 : Le2 xs ys := ⟨by simpa using h.1, fun j v w e1 e2 => h.2 (j + 1) v w (by simpa using e1) (by simpa using e2)⟩
  have h2 := Le2.sum h1
  simp
  omega
theorem dl_le {c : Int} {ws : List Int} (hn : Nn ws) (h0 : 0 ≤ c) (h1 : c ≤ ws.sum) : Le2 (dl c ws) ws := by
 refine ⟨keN c ws, fun j v w e1 e2 => ?_⟩
 have hj : j < ws.length := (CZ.mp e2).1
 have hw := hn w (CT e2)
 by_cases hs : ws.sum = 0
 ·rw [kiA hs hj] at e1
  cases e1
  exact ⟨Int.le_refl _, hw⟩
 ·rw [dl_at hs hj] at e1
  cases e1
  have hp : 0 < ws.sum := by
   have := kco hn
   omega
  have q := khY (A := pre ws j) hp h0 h1 hw
  unfold part
  rw [kdS e2]
  exact ⟨q.1, q.2.1⟩
theorem kdz {is : List Nat} {vs : List Int} {i : Nat} {v : Int} (h : (is.zip vs).lookup i = some v) : ∃ k : Nat, is[k]? = some i ∧ vs[k]? = some v := by
 induction is generalizing vs with
 | nil => simp at h
 | cons a is ih =>
  cases vs with
  | nil => simp at h
  | cons b vs =>
   simp only [SL, Rp] at h
   by_cases e : i = a
   ·subst e
    simp at h
    exact ⟨0, rfl, by simp [h]⟩
   ·have : (i == a) = false := beq_eq_false_iff_ne.mpr e
    rw [this] at h
    obtain ⟨k, h1, h2⟩ := ih h
    exact ⟨k + 1, by simpa using h1, by simpa using h2⟩
theorem kfl {pr : List Int} {is : List Nat} {vs : List Int} (hn : Nn pr) (hv : Le2 vs (qs pr is)) : Le2 (spr pr.length is vs) pr := by
 refine ⟨kcX _ _ _, fun j v w e1 e2 => ?_⟩
 have hj : j < pr.length := (CZ.mp e2).1
 have hw := hn w (CT e2)
 have e3 : v = ((is.zip vs).lookup j).getD 0 := by
  simp [spr, hj] at e1
  exact e1.symm
 cases e4 : (is.zip vs).lookup j with
 | none =>
  rw [e4] at e3
  subst e3
  exact ⟨Int.le_refl _, hw⟩
 | some u =>
  rw [e4] at e3
  have e3' : v = u := e3
  subst e3'
  obtain ⟨k, h1, h2⟩ := kdz e4
  refine hv.2 k v w h2 ?_
  simp only [qs, CV, h1, Sy]
  rw [C5, e2]
  rfl
theorem qs_nn {pr : List Int} (hn : Nn pr) (is : List Nat) : Nn (qs pr is) := fun v hv => by
 obtain ⟨i, _, rfl⟩ := C4.mp hv
 rw [C5]
 cases e : pr[i]? with
 | none => exact Int.le_refl _
 | some w => exact hn w (CT e)
def leQ (q : List Int) (a b : Nat) : Bool := decide (q.getD b 0 < q.getD a 0 ∨ (q.getD a 0 = q.getD b 0 ∧ a ≤ b))
def ordQ (q : List Int) : List Nat := (CP q.length).mergeSort (leQ q)
theorem kc8 (q : List Int) : (ordQ q).Perm (CP q.length) := List.mergeSort_perm _ _
theorem kd7 (q : List Int) : Fall q (ordQ q) := by
 refine ⟨kc8 q, ?_⟩
 have h1 : (ordQ q).Pairwise (fun a b => leQ q a b = true) := List.pairwise_mergeSort (le := leQ q) (fun a b c h h' => by simp only [leQ, decide_eq_true_eq] at *; omega) (fun a b => by simp only [leQ, S8, decide_eq_true_eq]; omega) _
 have h2 : (ordQ q).Nodup := (kc8 q).nodup_iff.mpr SF
 refine (h1.and h2).imp fun {a b} h => ?_
 have h3 := h.1
 have h4 : a ≠ b := h.2
 simp only [leQ, decide_eq_true_eq] at h3
 unfold bef
 omega
def gdl (cut : Int → Int) (gs : List (List Nat)) (q : List Int) : List Int := spr q.length gs.flatten ((gs.map fun g => dl (cut (qs q g).sum) (qs q g)).flatten)
theorem khS (q : List Int) (a b : List Nat) : qs q (a ++ b) = qs q a ++ qs q b := by simp [qs]
theorem kjV {cut : Int → Int} {gs : List (List Nat)} {q : List Int} (hn : Nn q) (hc : ∀ s, 0 ≤ s → 0 ≤ cut s ∧ cut s ≤ s) : Le2 (gdl cut gs q) q := by
 refine kfl hn ?_
 induction gs with
 | nil => exact Le2.nil
 | cons g gs ih =>
  rw [C1, Rf, Rf, khS]
  have h := hc _ (kco (qs_nn hn g))
  exact (dl_le (qs_nn hn g) h.1 h.2).append ih
def kep (n : Nat) (lines : List Nat) : List (List Nat) := (CP n).map fun l => (CP lines.length).filter fun k => lines.getD k 0 == l
def lasts (gs : List (List Nat)) : List Nat := gs.map fun g => g.getLastD 0
def want (so : Srt) (n : Nat) (lines : List Nat) (q : List Int) : List Int := match so with
 | .off a => dl (min a q.sum) q
 | .share s false => dl (q.sum * s / 1000) q
 | .share s true => gdl (fun z => z * s / 1000) (kep n lines) q
 | .cheap m => spr q.length (lasts (grp m.toNat (ordQ q))) (qs q (lasts (grp m.toNat (ordQ q))))
 | .bund m p => gdl (fun z => max 0 (z - p)) (grp m.toNat (ordQ q)) q
 | .carr => CI q.length 0
def fee (so : Srt) (cg : Int) : Int := match so with
 | .carr => cg
 | _ => 0
def SrtOk : Srt → Prop
 | .off a => 0 ≤ a ∧ a ≤ 1000000000000
 | .share s _ => 1 ≤ s ∧ s ≤ 1000
 | .cheap n => 2 ≤ n ∧ n ≤ 20
 | .bund n p => 2 ≤ n ∧ n ≤ 20 ∧ 0 ≤ p ∧ p ≤ 1000000000000
 | .carr => True
theorem keW {z s : Int} (hz : 0 ≤ z) (h1 : 1 ≤ s) (h2 : s ≤ 1000) : 0 ≤ z * s / 1000 ∧ z * s / 1000 ≤ z := by
 have a : 0 ≤ z * s := Int.mul_nonneg hz (by omega)
 have b : z * s ≤ z * 1000 := Int.mul_le_mul_of_nonneg_left h2 hz
 omega
theorem kld {q : List Int} (hn : Nn q) : Le2 (CI q.length 0) q := by
 refine ⟨by simp, fun j v w e1 e2 => ?_⟩
 have : v = 0 := by
  rw [S2] at e1
  split at e1
  ·exact (Option.some.inj e1).symm
  ·cases e1
 subst this
 exact ⟨Int.le_refl _, hn w (CT e2)⟩
theorem kf0 {a : Int} {n : Nat} {lines : List Nat} {q : List Int} (hn : Nn q) (h0 : 0 ≤ a) : Le2 (want (.off a) n lines q) q := by
 have hs := kco hn
 show Le2 (dl (min a q.sum) q) q
 exact dl_le hn (by omega) (by omega)
theorem keR {s : Int} {e : Bool} {n : Nat} {lines : List Nat} {q : List Int} (hn : Nn q) (h1 : 1 ≤ s) (h2 : s ≤ 1000) : Le2 (want (.share s e) n lines q) q := by
 have hs := kco hn
 cases e with
 | false =>
  show Le2 (dl (q.sum * s / 1000) q) q
  have h := keW hs h1 h2
  exact dl_le hn h.1 h.2
 | true =>
  show Le2 (gdl (fun z => z * s / 1000) (kep n lines) q) q
  exact kjV hn fun z hz => keW hz h1 h2
theorem kfj {m p : Int} {n : Nat} {lines : List Nat} {q : List Int} (hn : Nn q) (h0 : 0 ≤ p) : Le2 (want (.bund m p) n lines q) q := by
 show Le2 (gdl (fun z => max 0 (z - p)) (grp m.toNat (ordQ q)) q) q
 exact kjV hn fun z hz => ⟨by show 0 ≤ max 0 (z - p); omega, by show max 0 (z - p) ≤ z; omega⟩
theorem keS {m : Int} {n : Nat} {lines : List Nat} {q : List Int} (hn : Nn q) : Le2 (want (.cheap m) n lines q) q := by
 show Le2 (spr q.length _ (qs q _)) q
 exact kfl hn (Le2.self (qs_nn hn _))
theorem kfi {n : Nat} {lines : List Nat} {q : List Int} (hn : Nn q) : Le2 (want .carr n lines q) q := kld hn
theorem khr {so : Srt} {n : Nat} {lines : List Nat} {q : List Int} (hn : Nn q) (ho : SrtOk so) : Le2 (want so n lines q) q := by
 cases so with
 | off a => exact kf0 hn ho.1
 | share s e => exact keR hn ho.1 ho.2
 | cheap m => exact keS hn
 | bund m p => exact kfj hn ho.2.2.1
 | carr => exact kfi hn
def cap (most : Option Int) (w : List Int) (f : Int) : List Int × Int := match most with
 | none => (w, f)
 | some m => if m < w.sum + f then (dl (min m w.sum) w, min f m) else (w, f)
theorem klz {most : Option Int} {w q : List Int} {f cg : Int} (h : Le2 w q) (hf : 0 ≤ f ∧ f ≤ cg) (hm : ∀ m, most = some m → 0 ≤ m) : Le2 (cap most w f).1 q ∧ 0 ≤ (cap most w f).2 ∧ (cap most w f).2 ≤ cg := by
 unfold cap
 cases most with
 | none => exact ⟨h, hf⟩
 | some m =>
  have h0 := hm m rfl
  have hs := kco h.nn
  simp only
  split
  ·exact ⟨(dl_le h.nn (by omega) (by omega)).trans h, by simp only; omega, by simp only; omega⟩
  ·exact ⟨h, hf⟩
def cutM (V : Vch) (ps : List (Option Nat)) (kk : List Nat) (S : Stnd) : List Int × Int :=
 let is := abt ps kk V.ms.kind V.ms.lone S
 let c := cap V.ms.most (want V.so S.mkd.length (is.map fun i => S.ow.getD i 0) (qs S.pr is)) (fee V.so S.cg)
 (spr S.pr.length is c.1, c.2)
theorem kgX {V : Vch} {ps : List (Option Nat)} {kk : List Nat} {S : Stnd} (hn : Nn S.pr) (hc : 0 ≤ S.cg) (ho : SrtOk V.so) (hm : ∀ m, V.ms.most = some m → 0 ≤ m) : Le2 (cutM V ps kk S).1 S.pr ∧ 0 ≤ (cutM V ps kk S).2 ∧ (cutM V ps kk S).2 ≤ S.cg := by
 have hf : 0 ≤ fee V.so S.cg ∧ fee V.so S.cg ≤ S.cg := by
  unfold fee
  split <;> omega
 have h := klz (most := V.ms.most) (khr (n := S.mkd.length) (lines := (abt ps kk V.ms.kind V.ms.lone S).map fun i => S.ow.getD i 0) (qs_nn hn (abt ps kk V.ms.kind V.ms.lone S)) ho) hf hm
 exact ⟨kfl hn h.1, h.2⟩
def kdh (ow : List Nat) (c : List Int) (l : Nat) : Bool := (CP ow.length).any fun i => ow.getD i 0 == l && decide (0 < c.getD i 0)
def aftM (V : Vch) (ps : List (Option Nat)) (kk : List Nat) (S : Stnd) : Stnd :=
 ⟨S.ow, Rb (· - ·) S.pr (cutM V ps kk S).1, S.cg - (cutM V ps kk S).2, (CP S.mkd.length).map fun l => S.mkd.getD l false || (V.ms.lone && kdh S.ow (cutM V ps kk S).1 l)⟩
theorem klC {V : Vch} {ps : List (Option Nat)} {kk : List Nat} {S : Stnd} (hn : Nn S.pr) (hc : 0 ≤ S.cg) (ho : SrtOk V.so) (hm : ∀ m, V.ms.most = some m → 0 ≤ m) : Le2 (aftM V ps kk S).pr S.pr ∧ 0 ≤ (aftM V ps kk S).cg ∧ (aftM V ps kk S).cg ≤ S.cg := by
 have h := kgX (ps := ps) (kk := kk) hn hc ho hm
 refine ⟨⟨?_, fun j v w e1 e2 => ?_⟩, ?_, ?_⟩
 ·show (Rb _ _ _).length = _
  rw [Sj, h.1.1]
  omega
 ·have hj : j < S.pr.length := (CZ.mp e2).1
  have hj2 : j < (cutM V ps kk S).1.length := by rw [h.1.1]; exact hj
  have e3 : (cutM V ps kk S).1[j]? = some ((cutM V ps kk S).1[j]) := by simp [hj2]
  have b := h.1.2 j _ w e3 e2
  have e4 : (Rb (· - ·) S.pr (cutM V ps kk S).1)[j]? = some (w - (cutM V ps kk S).1[j]) := by
   rw [SM, e2, e3]
  have e1' : (Rb (· - ·) S.pr (cutM V ps kk S).1)[j]? = some v := e1
  rw [e4] at e1'
  cases e1'
  omega
 ·show 0 ≤ S.cg - _
  have := h.2
  omega
 ·show S.cg - _ ≤ S.cg
  have := h.2
  omega
end Vs
namespace Vs
open Kin Deal
structure Sel (q : List Int) (row left : List Nat) : Prop where
 pm : (row ++ left).Perm (CP q.length)
 inc : left.Pairwise (· < ·)
 pw : row.Pairwise (bef q)
 cr : ∀ r ∈ row, ∀ l ∈ left, bef q r l
theorem Sel.start (q : List Int) : Sel q [] (CP q.length) := ⟨SK.refl _, Te, .nil, fun r hr => by simp at hr⟩
theorem Sel.lt {q : List Int} {row left : List Nat} (h : Sel q row left) {i : Nat} (hi : i ∈ left) : i < q.length := by
 have := h.pm.mem_iff.mp (Rt row hi)
 simpa using this
theorem Sel.len {q : List Int} {row left : List Nat} (h : Sel q row left) : row.length + left.length = q.length := by
 have := h.pm.length_eq
 simpa using this
theorem Sel.fin {q : List Int} {row : List Nat} (h : Sel q row []) : row = ordQ q := by
 refine kgj ⟨?_, h.pw⟩ (kd7 q)
 have := h.pm
 rwa [S0] at this
def TopI (q : List Int) (left : List Nat) (i top : Nat) : Prop := (∃ k, left[k]? = some top ∧ (k < i ∨ k = 0)) ∧ ∀ y ∈ left.take i, y = top ∨ bef q top y
theorem TopI.start {q : List Int} {left : List Nat} {t : Nat} (h : left[0]? = some t) : TopI q left 0 t := ⟨⟨0, h, .inr rfl⟩, fun y hy => by simp at hy⟩
theorem TopI.more {q : List Int} {left : List Nat} {i top x : Nat} (inc : left.Pairwise (· < ·)) (h : TopI q left i top) (hx : left[i]? = some x) : TopI q left (i + 1) (if q.getD top 0 < q.getD x 0 then x else top) := by
 obtain ⟨⟨k, ek, hk⟩, hy⟩ := h
 have et : left.take (i + 1) = left.take i ++ [x] := by rw [RS, hx]; rfl
 split
 ·rename_i hlt
  refine ⟨⟨i, hx, .inl (by omega)⟩, fun y hm => ?_⟩
  rw [et] at hm
  rcases Rk.mp hm with h1 | h1
  ·refine .inr (.inl ?_)
   rcases hy y h1 with rfl | h2
   ·exact hlt
   ·unfold bef at h2
    omega
  ·exact .inl (by simpa using h1)
 ·rename_i hge
  refine ⟨⟨k, ek, by omega⟩, fun y hm => ?_⟩
  rw [et] at hm
  rcases Rk.mp hm with h1 | h1
  ·exact hy y h1
  ·have e : y = x := by simpa using h1
   subst e
   by_cases hki : k = i
   ·subst hki
    rw [ek] at hx
    exact .inl (Option.some.inj hx).symm
   ·have hlt : top < y := by
     obtain ⟨l1, q1⟩ := CZ.mp ek
     obtain ⟨l2, q2⟩ := CZ.mp hx
     have := R1.mp inc k i l1 l2 (by omega)
     rwa [q1, q2] at this
    refine .inr ?_
    unfold bef
    omega
theorem Sel.step {q : List Int} {row left : List Nat} {top : Nat} (h : Sel q row left) (ht : TopI q left left.length top) : Sel q (row ++ [top]) (left.erase top) ∧ top ∈ left := by
 obtain ⟨⟨k, ek, _⟩, hy⟩ := ht
 have hm := CT ek
 rw [Rh] at hy
 have nd : left.Nodup := h.inc.imp fun hlt => Rc hlt
 refine ⟨⟨?_, h.inc.sublist (List.erase_sublist), ?_, ?_⟩, hm⟩
 ·refine SK.trans ?_ h.pm
  rw [R0]
  exact SK.append_left row (List.perm_cons_erase hm).symm
 ·exact List.pairwise_append.mpr ⟨h.pw, List.pairwise_singleton _ _, fun r hr t ht => by
   have e : t = top := by simpa using ht
   subst e
   exact h.cr r hr t hm⟩
 ·intro r hr l hl
  have hl' := (nd.mem_erase_iff).mp hl
  rcases Rk.mp hr with h1 | h1
  ·exact h.cr r h1 l hl'.2
  ·have e : r = top := by simpa using h1
   subst e
   rcases hy l hl'.2 with h2 | h2
   ·exact absurd h2 hl'.1
   ·exact h2
end Vs
namespace Vs
open Kin Deal
theorem kgS {m : Nat} {r : List Nat} {i : Nat} {g : List Nat} (h : (grp m r)[i]? = some g) : i * m + m ≤ r.length ∧ g.length = m ∧ ∀ j, j < m → g[j]? = r[i * m + j]? := by
 unfold grp at h
 rw [CV] at h
 have hi : i < r.length / m := by
  rcases Nat.lt_or_ge i (r.length / m) with q | q
  ·exact q
  ·rw [Tf (by simpa using q)] at h
   cases h
 rw [Sk hi] at h
 cases h
 have hle : i * m + m ≤ r.length := by
  have h1 : (i + 1) * m ≤ r.length / m * m := Nat.mul_le_mul_right m hi
  have h2 := Nat.div_mul_le_self r.length m
  rw [Nat.add_mul, Nat.one_mul] at h1
  omega
 refine ⟨hle, by rw [C0, RY]; omega, fun j hj => ?_⟩
 rw [Tr hj, List.getElem?_drop]
theorem kge {m : Nat} {r : List Nat} {i : Nat} {g : List Nat} (hm : 0 < m) (h : (grp m r)[i]? = some g) : r[i * m + (m - 1)]? = some (g.getLastD 0) := by
 obtain ⟨hle, hl, hg⟩ := kgS h
 rw [← hg (m - 1) (by omega)]
 cases g with
 | nil => simp at hl; omega
 | cons x xs =>
  have e : (x :: xs).getLastD 0 = (x :: xs).getLast (by simp) := by simp [List.getLastD]
  rw [e, List.getLast_eq_getElem, CZ]
  refine ⟨by omega, ?_⟩
  congr 1
  omega
theorem kgO {gs : List (List Nat)} {i : Nat} {g : List Nat} (h : gs[i]? = some g) : (lasts gs)[i]? = some (g.getLastD 0) := by
 unfold lasts
 rw [CV, h]
 rfl
theorem kdf (gs : List (List Nat)) : (lasts gs).length = gs.length := by simp [lasts]
theorem kgd {m : Nat} {r : List Nat} (hm : 0 < m) (hr : r.Nodup) : (lasts (grp m r)).Nodup := by
 refine R1.mpr fun i j hi hj hij e => ?_
 rw [kdf] at hi hj
 have e1 : (grp m r)[i]? = some (grp m r)[i] := by simp [hi]
 have e2 : (grp m r)[j]? = some (grp m r)[j] := by simp [hj]
 have a1 := kge hm e1
 have a2 := kge hm e2
 have b1 := kgO e1
 have b2 := kgO e2
 obtain ⟨_, c1⟩ := CZ.mp b1
 obtain ⟨_, c2⟩ := CZ.mp b2
 rw [c1, c2] at e
 rw [e] at a1
 obtain ⟨l1, d1⟩ := CZ.mp a1
 obtain ⟨l2, d2⟩ := CZ.mp a2
 have hlt : i * m + (m - 1) < j * m + (m - 1) := by
  have := Nat.mul_lt_mul_of_pos_right hij hm
  omega
 exact R1.mp hr _ _ l1 l2 hlt (by rw [d1, d2])
theorem kkD {q : List Int} {i : Nat} (h : i ∈ ordQ q) : i < q.length := by
 have := (kc8 q).mem_iff.mp h
 simpa using this
end Vs
namespace Vs
open Kin Deal
theorem kiO {n : Nat} {is : List Nat} {vs : List Int} {i : Nat} {v : Int} (hl : is.length = vs.length) (hn : (is ++ [i]).Nodup) (hi : i < n) : (spr n is vs).set i v = spr n (is ++ [i]) (vs ++ [v]) := by
 have h := kj9 (n := n) (is := is ++ [i]) (vs := vs ++ [v]) hn (k := is.length) (i := i) (v := v) (by simp) (by rw [hl]; simp) hi
 rw [List.take_left' rfl, List.take_left' hl.symm, RB (by simp), RB (by simp [hl])] at h
 exact h
theorem kdY {gs : List (List Nat)} (h : gs.flatten.Nodup) {i k a : Nat} {g : List Nat} (hg : gs[i]? = some g) (hk : g[k]? = some a) : ((gs.take i).flatten ++ g.take k ++ [a]).Nodup := by
 have e : gs = gs.take i ++ g :: gs.drop (i + 1) := by
  obtain ⟨hi, eg⟩ := CZ.mp hg
  rw [← eg, Tx hi, R9]
 have e2 : g = (g.take k ++ [a]) ++ g.drop (k + 1) := by
  obtain ⟨hk', ek⟩ := CZ.mp hk
  rw [R0, List.singleton_append, ← ek, Tx hk', R9]
 rw [e, SE, Rf] at h
 rw [R0]
 refine h.sublist (List.Sublist.append_left ?_ _)
 refine List.Sublist.trans ?_ (Tz g _)
 conv => rhs; rw [e2]
 exact Tz _ _
theorem kjq {m : Nat} (r : List Nat) : (grp m r).flatten = r.take (r.length / m * m) := by
 unfold grp
 have hle : r.length / m * m ≤ r.length := Nat.div_mul_le_self _ _
 generalize r.length / m = c at *
 induction c with
 | zero => simp
 | succ c ih =>
  have h1 : c * m + m ≤ r.length := by rw [← Nat.succ_mul]; exact hle
  rw [RT, CU, SE, ih (by omega)]
  simp only [C1, S4, Rf, List.flatten_nil, S0]
  rw [show (c + 1) * m = c * m + m by rw [Nat.add_mul, Nat.one_mul], List.take_add]
theorem kir {m : Nat} {r : List Nat} (h : r.Nodup) : (grp m r).flatten.Nodup := by
 rw [kjq]
 exact h.sublist (List.take_sublist _ _)
end Vs
namespace Vs
open Kin Deal
theorem kcV {is : List Nat} (hn : is.Nodup) {k i : Nat} (hk : is[k]? = some i) : ∀ (l : List (Nat × Int)), (∀ p ∈ l, p.1 < is.length) → (l.map fun p => (is.getD p.1 0, p.2)).lookup i = l.lookup k
 | [], _ => rfl
 | (j, v) :: l, h => by
  have ih := kcV hn hk l fun p hp => h p (C8 _ hp)
  have hj : j < is.length := h (j, v) Re
  obtain ⟨hk', ek⟩ := CZ.mp hk
  have e : is.getD j 0 = is[j] := by rw [C5]; simp [hj]
  simp only [C1, Rp, e]
  by_cases q : k = j
  ·subst q
   simp [ek]
  ·have h1 : (k == j) = false := by simp [q]
   have h2 : (i == is[j]) = false := by
    refine beq_eq_false_iff_ne.mpr fun z => q ?_
    exact (List.getElem_inj hn).mp (by rw [ek, z])
   rw [h1, h2]
   exact ih
theorem lookup_none {is : List Nat} {i : Nat} (hi : ∀ k : Nat, is[k]? ≠ some i) : ∀ (l : List (Nat × Int)), (∀ p ∈ l, p.1 < is.length) → (l.map fun p => (is.getD p.1 0, p.2)).lookup i = none
 | [], _ => rfl
 | (j, v) :: l, h => by
  have ih := lookup_none hi l fun p hp => h p (C8 _ hp)
  have hj : j < is.length := h (j, v) Re
  have e : is.getD j 0 = is[j] := by rw [C5]; simp [hj]
  have h2 : (i == is[j]) = false := beq_eq_false_iff_ne.mpr fun z => hi j (by rw [z]; simp [hj])
  simp only [C1, Rp, e, h2]
  exact ih
theorem keg {is : List Nat} (hn : is.Nodup) {k i : Nat} (hk : is[k]? = some i) : ∀ {vs : List Int}, is.length = vs.length → (is.zip vs).lookup i = vs[k]? := by
 induction is generalizing k with
 | nil => simp at hk
 | cons a is ih =>
  intro vs hl
  cases vs with
  | nil => simp at hl
  | cons v vs =>
   rw [SL, Rp]
   cases k with
   | zero =>
    have : a = i := by simpa using hk
    subst this
    simp
   | succ k =>
    have hk' : is[k]? = some i := by simpa using hk
    have hh := RG.mp hn
    have hne : (i == a) = false := beq_eq_false_iff_ne.mpr fun z => hh.1 (z ▸ CT hk')
    rw [hne]
    simpa using ih hh.2 hk' (by simpa using hl)
theorem kf1 {n : Nat} {is js : List Nat} {vs : List Int} (hn : is.Nodup) (hj : ∀ j ∈ js, j < is.length) : spr n is (spr is.length js vs) = spr n (js.map fun j => is.getD j 0) vs := by
 apply RM
 ·simp [spr]
 intro i h1 h2
 have ez : (js.map fun j => is.getD j 0).zip vs = (js.zip vs).map fun p => (is.getD p.1 0, p.2) := by rw [List.zip_map_left]; rfl
 have hp : ∀ p ∈ js.zip vs, p.1 < is.length := fun p hp => hj _ (RX hp).1
 simp only [spr, R7, Si]
 rw [ez]
 by_cases hk : ∃ k : Nat, is[k]? = some i
 ·obtain ⟨k, hk⟩ := hk
  have hkl := (CZ.mp hk).1
  rw [kcV hn hk _ hp, keg hn hk (by simp)]
  simp [hkl]
 ·rw [lookup_none (fun k e => hk ⟨k, e⟩) _ hp]
  have : ((is.zip ((CP is.length).map fun i => ((js.zip vs).lookup i).getD 0)).lookup i) = none := by
   rw [List.lookup_eq_none_iff]
   intro p hp'
   have := (RX hp').1
   obtain ⟨k, ek⟩ := RU.mp this
   have hne : i ≠ p.1 := fun z => hk ⟨k, by rw [ek, ← z]⟩
   simpa using hne
  rw [this]
def owns (n : Nat) (ow : List Nat) (is : List Nat) : List (List Nat) := (CP n).map fun l => is.filter fun i => ow.getD i 0 == l
theorem keo (n : Nat) (ow is : List Nat) : (kep n (is.map fun i => ow.getD i 0)).map (fun g => g.map fun j => is.getD j 0) = owns n ow is := by
 unfold kep owns
 rw [C9]
 refine Ry fun l _ => ?_
 show (((CP _).filter _).map fun j => is.getD j 0) = _
 have e : is = (CP is.length).map fun j => is.getD j 0 := by
  apply RM
  ·simp
  ·intro j h1 h2
   simp [C5, h1]
 conv => rhs; rw [e]
 rw [List.filter_map, Cz]
 congr 1
 refine List.filter_congr fun k hk => ?_
 have hk' : k < is.length := by simpa using hk
 simp [C5, hk']
theorem qs_qs {pr : List Int} {ab g : List Nat} (h : ∀ j ∈ g, j < ab.length) : qs (qs pr ab) g = qs pr (g.map fun j => ab.getD j 0) := by
 unfold qs
 rw [C9]
 refine Ry fun j hj => ?_
 have := h j hj
 simp [C5, this]
theorem kfQ {n : Nat} {lines : List Nat} {g : List Nat} (hg : g ∈ kep n lines) {j : Nat} (hj : j ∈ g) : j < lines.length := by
 obtain ⟨l, _, rfl⟩ := C4.mp hg
 have := (RI.mp hj).1
 simpa using this
theorem kgm {n N : Nat} {ow ab : List Nat} {pr : List Int} (cut : Int → Int) (hn : ab.Nodup) : spr n ab (gdl cut (kep N (ab.map fun i => ow.getD i 0)) (qs pr ab)) = spr n (owns N ow ab).flatten ((owns N ow ab).map fun o => dl (cut (qs pr o).sum) (qs pr o)).flatten := by
 unfold gdl
 rw [kcq, kf1 hn fun j hj => ?_, List.map_flatten, keo]
 ·congr 2
  rw [← keo, C9]
  refine Ry fun g hg => ?_
  have e := qs_qs (pr := pr) (ab := ab) (g := g) fun j hj => by simpa using kfQ hg hj
  show dl (cut (qs (qs pr ab) g).sum) (qs (qs pr ab) g) = dl (cut (qs pr (g.map fun j => ab.getD j 0)).sum) (qs pr (g.map fun j => ab.getD j 0))
  rw [e]
 ·obtain ⟨g, hg, hj'⟩ := RV.mp hj
  simpa using kfQ hg hj'
end Vs
namespace Vs
open Kin Deal
section
variable {p : Nat → Bool} {n : Nat} {w : List Int}
def cnt (p : Nat → Bool) (j : Nat) : Nat := ((CP j).filter p).length
theorem kiF {j : Nat} (h : p j = true) : cnt p (j + 1) = cnt p j + 1 := by
 unfold cnt
 rw [RT, Sl, C7]
 simp [h]
theorem kjZ {j : Nat} (h : p j = false) : cnt p (j + 1) = cnt p j := by
 unfold cnt
 rw [RT, Sl, C7]
 simp [h]
theorem kcM : ∀ {n j : Nat}, j < n → p j = true → ((CP n).filter p)[cnt p j]? = some j
 | 0, j, h, _ => by omega
 | n + 1, j, h, hp => by
  rw [RT, Sl]
  by_cases hj : j < n
  ·have ih := kcM hj hp
   rw [Se (CZ.mp ih).1]
   exact ih
  ·have e : j = n := by omega
   subst e
   unfold cnt
   rw [R4 (CC _)]
   simp [hp]
theorem kjH (hl : w.length = cnt p n) {j : Nat} (hj : j < n) : (spr n ((CP n).filter p) w)[j]? = some (if p j = true then w.getD (cnt p j) 0 else 0) := by
 unfold spr
 rw [CV, Sk hj]
 show some _ = some _
 congr 1
 show (RE j (((CP n).filter p).zip w)).getD 0 = _
 cases hp : p j with
 | true =>
  rw [keg (R6.filter _ SF) (kcM hj hp) hl.symm, if_pos rfl, C5]
 | false =>
  rw [if_neg CW]
  cases e : (((CP n).filter p).zip w).lookup j with
  | none => rw [S5]
  | some v =>
   obtain ⟨k, hk, _⟩ := kdz e
   have := (RI.mp (CT hk)).2
   rw [hp] at this
   cases this
theorem ke1 (hl : w.length = cnt p n) : ∀ j, j ≤ n → pre (spr n ((CP n).filter p) w) j = pre w (cnt p j)
 | 0, _ => by simp [pre, cnt]
 | j + 1, h => by
  have ih := ke1 hl j (by omega)
  rw [kdS (kjH hl (show j < n by omega)), ih]
  cases hp : p j with
  | true =>
   have hk := (CZ.mp (kcM (show j < n by omega) hp)).1
   have hk' : cnt p j < w.length := by rw [hl]; exact hk
   rw [if_pos rfl, kiF hp, kdS (w := w.getD (cnt p j) 0) (by rw [C5, RK hk']; rfl)]
  | false => rw [if_neg CW, kjZ hp, Int.add_zero]
theorem khy (hl : w.length = cnt p n) : (spr n ((CP n).filter p) w).sum = w.sum := by
 have h := ke1 hl n (CC _)
 rw [← hl, khU] at h
 have e : pre (spr n ((CP n).filter p) w) n = (spr n ((CP n).filter p) w).sum := by
  have := khU (spr n ((CP n).filter p) w)
  rw [kcX] at this
  exact this
 rw [← e, h]
theorem klw (m : Int) (hl : w.length = cnt p n) : dl m (spr n ((CP n).filter p) w) = spr n ((CP n).filter p) (dl m w) := by
 have hl2 : (dl m w).length = cnt p n := by rw [keN, hl]
 have hs := khy hl
 apply List.ext_getElem?
 intro j
 by_cases hj : j < n
 ·rw [kjH hl2 hj]
  have hjF : j < (spr n ((CP n).filter p) w).length := by rw [kcX]; exact hj
  by_cases h0 : w.sum = 0
  ·rw [kiA (hs.trans h0) hjF]
   cases hp : p j with
   | false => rw [if_neg CW]
   | true =>
    have hk := (CZ.mp (kcM hj hp)).1
    rw [if_pos rfl, C5, kiA h0 (by rw [hl]; exact hk)]
    rfl
  ·rw [dl_at (by rw [hs]; exact h0) hjF]
   unfold part
   rw [hs, ke1 hl j (by omega), ke1 hl (j + 1) (by omega)]
   cases hp : p j with
   | false => rw [if_neg CW, kjZ hp, Int.sub_self]
   | true =>
    have hk := (CZ.mp (kcM hj hp)).1
    rw [if_pos rfl, C5, dl_at h0 (by rw [hl]; exact hk), kiF hp]
    rfl
 ·rw [Tf (by rw [keN, kcX]; omega), Tf (by rw [kcX]; omega)]
end
theorem kkV {c : Int} {n : Nat} : dl c (CI n 0) = CI n 0 := by
 have e : (CI n (0 : Int)).sum = 0 := by simp
 unfold dl
 rw [if_pos e]
 simp
theorem kjx {V : Vch} {ps : List (Option Nat)} {kk : List Nat} {S : Stnd} (e : V.ms.most = none) :
  (cutM V ps kk S).1 = spr S.pr.length (abt ps kk V.ms.kind V.ms.lone S) (want V.so S.mkd.length ((abt ps kk V.ms.kind V.ms.lone S).map fun i => S.ow.getD i 0) (qs S.pr (abt ps kk V.ms.kind V.ms.lone S))) := by
 unfold cutM cap
 rw [e]
theorem kjw {V : Vch} {ps : List (Option Nat)} {kk : List Nat} {S : Stnd} (hl : S.pr.length = S.ow.length)
  (hw : Le2 (want V.so S.mkd.length ((abt ps kk V.ms.kind V.ms.lone S).map fun i => S.ow.getD i 0) (qs S.pr (abt ps kk V.ms.kind V.ms.lone S))) (qs S.pr (abt ps kk V.ms.kind V.ms.lone S))) {m : Int} (e : V.ms.most = some m) (h0 : 0 ≤ m) :
  (cutM V ps kk S).1 = if (spr S.pr.length (abt ps kk V.ms.kind V.ms.lone S) (want V.so S.mkd.length ((abt ps kk V.ms.kind V.ms.lone S).map fun i => S.ow.getD i 0) (qs S.pr (abt ps kk V.ms.kind V.ms.lone S)))).sum > m
   then dl m (spr S.pr.length (abt ps kk V.ms.kind V.ms.lone S) (want V.so S.mkd.length ((abt ps kk V.ms.kind V.ms.lone S).map fun i => S.ow.getD i 0) (qs S.pr (abt ps kk V.ms.kind V.ms.lone S))))
   else spr S.pr.length (abt ps kk V.ms.kind V.ms.lone S) (want V.so S.mkd.length ((abt ps kk V.ms.kind V.ms.lone S).map fun i => S.ow.getD i 0) (qs S.pr (abt ps kk V.ms.kind V.ms.lone S))) := by
 have hwl := hw.1
 rw [kcq] at hwl
 have ea : abt ps kk V.ms.kind V.ms.lone S = (CP S.pr.length).filter fun i => hits ps kk V.ms.kind V.ms.lone S.mkd (S.ow.getD i 0) := by rw [hl]; rfl
 have ez : V.so = .carr → (want V.so S.mkd.length ((abt ps kk V.ms.kind V.ms.lone S).map fun i => S.ow.getD i 0) (qs S.pr (abt ps kk V.ms.kind V.ms.lone S))) = CI (qs S.pr (abt ps kk V.ms.kind V.ms.lone S)).length 0 := fun z => by rw [z]; rfl
 unfold cutM cap
 rw [e]
 simp only
 generalize want V.so S.mkd.length ((abt ps kk V.ms.kind V.ms.lone S).map fun i => S.ow.getD i 0) (qs S.pr (abt ps kk V.ms.kind V.ms.lone S)) = w at *
 rw [ea] at hwl ⊢
 rw [khy hwl, klw m hwl]
 by_cases hc : V.so = .carr
 ·have hz := ez hc
  have hs : w.sum = 0 := by rw [hz]; simp
  rw [if_neg (by omega : ¬ w.sum > m)]
  split
  ·simp only
   rw [hz, kkV]
  ·rfl
 ·have hf : fee V.so S.cg = 0 := by
   unfold fee
   split
   ·rename_i z
    exact absurd z hc
   ·rfl
  rw [hf, Int.add_zero]
  by_cases hm : m < w.sum
  ·rw [if_pos hm, if_pos hm]
   simp only
   rw [Int.min_eq_left (by omega)]
  ·rw [if_neg hm, if_neg hm]
end Vs
namespace Vs
open Kin Deal
def ins : List (Nat × List Nat) → Nat → Nat → List (Nat × List Nat)
 | [], o, a => [(o, [a])]
 | (l, g) :: G, o, a => if l = o then (l, g ++ [a]) :: G else (l, g) :: ins G o a
def parted (f : Nat → Nat) (is : List Nat) : List (Nat × List Nat) := is.foldl (fun G a => ins G (f a) a) []
theorem kd6 (f : Nat → Nat) (is : List Nat) (a : Nat) : parted f (is ++ [a]) = ins (parted f is) (f a) a := by
 unfold parted
 rw [List.foldl_append]
 rfl
theorem kdU : ∀ (G : List (Nat × List Nat)) (o a : Nat), (ins G o a).map Prod.fst = if o ∈ G.map Prod.fst then G.map Prod.fst else G.map Prod.fst ++ [o]
 | [], o, a => by simp [ins]
 | (l, g) :: G, o, a => by
  unfold ins
  by_cases h : l = o
  ·subst h
   simp
  ·rw [if_neg h, C1, kdU G o a]
   show _ = if o ∈ l :: G.map Prod.fst then l :: G.map Prod.fst else (l :: G.map Prod.fst) ++ [o]
   have h' : ¬ o = l := fun z => h z.symm
   by_cases hm : o ∈ G.map Prod.fst
   ·rw [if_pos hm, if_pos (C8 _ hm)]
   ·rw [if_neg hm, if_neg (by rw [C6, not_or]; exact ⟨h', hm⟩)]
    rfl
theorem kio : ∀ {G : List (Nat × List Nat)} {o a l : Nat} {g : List Nat}, (G.map Prod.fst).Nodup → (l, g) ∈ ins G o a → (l ≠ o ∧ (l, g) ∈ G) ∨ (l = o ∧ ((∃ g', (o, g') ∈ G ∧ g = g' ++ [a]) ∨ (o ∉ G.map Prod.fst ∧ g = [a])))
 | [], o, a, l, g, _, h => by
  unfold ins at h
  rw [RL] at h
  cases h
  exact .inr ⟨rfl, .inr ⟨by simp, rfl⟩⟩
 | (k, g0) :: G, o, a, l, g, hn, h => by
  unfold ins at h
  rw [C1, RG] at hn
  by_cases e : k = o
  ·rw [if_pos e] at h
   subst e
   rcases C6.mp h with z | z
   ·cases z
    exact .inr ⟨rfl, .inl ⟨g0, Re, rfl⟩⟩
   ·refine .inl ⟨fun w => ?_, C8 _ z⟩
    subst w
    exact hn.1 (C4.mpr ⟨(l, g), z, rfl⟩)
  ·rw [if_neg e] at h
   rcases C6.mp h with z | z
   ·cases z
    exact .inl ⟨e, Re⟩
   ·rcases kio hn.2 z with ⟨w1, w2⟩ | ⟨w1, ⟨g', w2, w3⟩ | ⟨w2, w3⟩⟩
    ·exact .inl ⟨w1, C8 _ w2⟩
    ·exact .inr ⟨w1, .inl ⟨g', C8 _ w2, w3⟩⟩
    ·refine .inr ⟨w1, .inr ⟨?_, w3⟩⟩
     rw [C1, C6, not_or]
     exact ⟨fun z => e z.symm, w2⟩
structure PtOk (f : Nat → Nat) (is : List Nat) (G : List (Nat × List Nat)) : Prop where
 nd : (G.map Prod.fst).Nodup
 gs : ∀ l g, (l, g) ∈ G → g = is.filter fun i => f i == l
 all : ∀ i ∈ is, f i ∈ G.map Prod.fst
theorem keF (f : Nat → Nat) : ∀ (n : Nat) (is : List Nat), is.length = n → PtOk f is (parted f is)
 | 0, is, h => by
  have e : is = [] := List.eq_nil_of_length_eq_zero h
  subst e
  exact ⟨by simp [parted], fun l g hg => by simp [parted] at hg, fun i hi => by simp at hi⟩
 | n + 1, is, h => by
  have hne : is ≠ [] := by
   intro z
   subst z
   cases h
  obtain ⟨is', a, rfl⟩ : ∃ is' a, is = is' ++ [a] := ⟨is.dropLast, is.getLast hne, (List.dropLast_concat_getLast hne).symm⟩
  have ih := keF f n is' (by simpa using h)
  rw [kd6]
  refine ⟨?_, fun l g hg => ?_, fun i hi => ?_⟩
  ·rw [kdU]
   split
   ·exact ih.nd
   ·rename_i hm
    exact Tg.mpr ⟨ih.nd, by simp, fun x hx y hy => by
     rw [RL] at hy
     subst hy
     exact fun z => hm (by rw [← z]; exact hx)⟩
  ·rw [Sl]
   rcases kio ih.nd hg with ⟨w1, w2⟩ | ⟨w1, ⟨g', w2, w3⟩ | ⟨w2, w3⟩⟩
   ·rw [ih.gs l g w2]
    have : (f a == l) = false := by simpa using fun z => w1 z.symm
    simp [this]
   ·subst w1 w3
    rw [ih.gs _ g' w2]
    simp
   ·subst w1 w3
    have e : is'.filter (fun i => f i == f a) = [] := by
     rw [List.filter_eq_nil_iff]
     intro i hi z
     have z' : f i = f a := by simpa using z
     exact w2 (by rw [← z']; exact ih.all i hi)
    rw [e]
    simp
  ·rw [kdU]
   rcases Rk.mp hi with hi | hi
   ·have := ih.all i hi
    split
    ·exact this
    ·exact SU _ this
   ·rw [RL] at hi
    subst hi
    split
    ·assumption
    ·exact Rt _ (by simp)
theorem kcE (f : Nat → Nat) (is : List Nat) : PtOk f is (parted f is) := keF f is.length is rfl
theorem PtOk.snds {f : Nat → Nat} {is : List Nat} {G : List (Nat × List Nat)} (h : PtOk f is G) : G.map Prod.snd = (G.map Prod.fst).map fun l => is.filter fun i => f i == l := by
 rw [C9]
 refine Ry fun p hp => ?_
 exact h.gs p.1 p.2 hp
theorem khl {l l' : List (Nat × Int)} {i : Nat} : (l ++ l').lookup i = (l.lookup i).or (l'.lookup i) := by
 induction l with
 | nil => simp
 | cons p l ih =>
  obtain ⟨a, b⟩ := p
  rw [SC, Rp, Rp, ih]
  split <;> rfl
theorem keJ {l : List (Nat × Int)} {i : Nat} (h : ∀ p ∈ l, p.1 ≠ i) : l.lookup i = none := by
 induction l with
 | nil => rfl
 | cons p l ih =>
  obtain ⟨a, b⟩ := p
  have h1 : (i == a) = false := by
   have := h (a, b) Re
   simpa using fun z => this z.symm
  rw [Rp, h1]
  exact ih fun q hq => h q (C8 _ hq)
section
variable {f : Nat → Nat} {is : List Nat} {D : List Nat → List Int}
theorem kj2 {l i : Nat} {vs : List Int} (h : f i ≠ l) : ((is.filter fun i => f i == l).zip vs).lookup i = none :=
 keJ fun p hp => by
  have h1 := (RX (show (p.1, p.2) ∈ _ from hp)).1
  have h2 : f p.1 = l := by simpa using (RI.mp h1).2
  intro z
  rw [z] at h2
  exact h h2
theorem kdF (hD : ∀ g, (D g).length = g.length) (i : Nat) : ∀ (ks : List Nat), ks.Nodup →
  (((ks.map fun l => is.filter fun i => f i == l).flatten).zip ((ks.map fun l => D (is.filter fun i => f i == l)).flatten)).lookup i = if f i ∈ ks then ((is.filter fun j => f j == f i).zip (D (is.filter fun j => f j == f i))).lookup i else none
 | [], _ => by simp
 | l :: ks, hn => by
  rw [RG] at hn
  have ih := kdF hD i ks hn.2
  rw [C1, C1, Rf, Rf, SH (hD _).symm, khl, ih]
  by_cases h : f i = l
  ·subst h
   rw [if_neg hn.1, if_pos Re, Option.or_none]
  ·rw [kj2 h, Option.none_or]
   by_cases hm : f i ∈ ks
   ·rw [if_pos hm, if_pos (C8 _ hm)]
   ·rw [if_neg hm, if_neg (by rw [C6, not_or]; exact ⟨h, hm⟩)]
theorem khf (hD : ∀ g, (D g).length = g.length) {n : Nat} {ks ks' : List Nat} (hn : ks.Nodup) (hn' : ks'.Nodup) (h : ∀ i ∈ is, f i ∈ ks) (h' : ∀ i ∈ is, f i ∈ ks') :
  spr n (ks.map fun l => is.filter fun i => f i == l).flatten (ks.map fun l => D (is.filter fun i => f i == l)).flatten = spr n (ks'.map fun l => is.filter fun i => f i == l).flatten (ks'.map fun l => D (is.filter fun i => f i == l)).flatten := by
 unfold spr
 refine Ry fun i _ => ?_
 have key : ∀ ks : List Nat, ks.Nodup → (∀ i ∈ is, f i ∈ ks) → (((ks.map fun l => is.filter fun i => f i == l).flatten).zip ((ks.map fun l => D (is.filter fun i => f i == l)).flatten)).lookup i = ((is.filter fun j => f j == f i).zip (D (is.filter fun j => f j == f i))).lookup i := fun ks hn hk => by
  rw [kdF hD i ks hn]
  by_cases hm : f i ∈ ks
  ·rw [if_pos hm]
  ·rw [if_neg hm, keJ fun p hp => ?_]
   have h1 := (RX (show (p.1, p.2) ∈ _ from hp)).1
   obtain ⟨h2, h3⟩ := RI.mp h1
   exact fun _ => hm (by rw [← (show f p.1 = f i by simpa using h3)]; exact hk _ h2)
 rw [key ks hn h, key ks' hn' h']
theorem kd5 (hi : is.Nodup) : ∀ {ks : List Nat}, ks.Nodup → (ks.map fun l => is.filter fun i => f i == l).flatten.Nodup
 | [], _ => by simp
 | l :: ks, hn => by
  rw [RG] at hn
  rw [C1, Rf]
  refine Tg.mpr ⟨hi.filter _, kd5 hi hn.2, fun x hx y hy z => ?_⟩
  subst z
  have h1 : f x = l := by simpa using (RI.mp hx).2
  obtain ⟨g, hg, hy⟩ := RV.mp hy
  obtain ⟨l', hl', rfl⟩ := C4.mp hg
  have h2 : f x = l' := by simpa using (RI.mp hy).2
  exact hn.1 (by rw [← h1, h2]; exact hl')
end
theorem khg {n N : Nat} {ow ab : List Nat} {pr : List Int} (cut : Int → Int) (hn : ab.Nodup) (hN : ∀ i ∈ ab, ow.getD i 0 < N) :
  spr n ((parted (fun i => ow.getD i 0) ab).map Prod.snd).flatten (((parted (fun i => ow.getD i 0) ab).map Prod.snd).map fun g => dl (cut (qs pr g).sum) (qs pr g)).flatten = spr n ab (gdl cut (kep N (ab.map fun i => ow.getD i 0)) (qs pr ab)) := by
 have ok := kcE (fun i => ow.getD i 0) ab
 rw [kgm cut hn, ok.snds]
 generalize hks : (parted (fun i => ow.getD i 0) ab).map Prod.fst = ks at *
 have nd : ks.Nodup := by rw [← hks]; exact ok.nd
 have al : ∀ i ∈ ab, ow.getD i 0 ∈ ks := by rw [← hks]; exact ok.all
 unfold owns
 rw [C9, C9]
 exact khf (f := fun i => ow.getD i 0) (is := ab) (D := fun g => dl (cut (qs pr g).sum) (qs pr g)) (fun g => by rw [keN, kcq]) nd SF al fun i hi => by simpa using hN i hi
theorem keG (f : Nat → Nat) : ∀ (is : List Nat), (parted f is).length ≤ is.length := by
 intro is
 have key : ∀ (is : List Nat) (G : List (Nat × List Nat)), (is.foldl (fun G a => ins G (f a) a) G).length ≤ G.length + is.length := by
  intro is
  induction is with
  | nil => intro G; simp
  | cons a is ih =>
   intro G
   have h1 := ih (ins G (f a) a)
   have h2 : (ins G (f a) a).length ≤ G.length + 1 := by
    have := congrArg Sv (kdU G (f a) a)
    rw [Cz] at this
    rw [this]
    split <;> simp
   rw [List.foldl_cons, Rv]
   omega
 simpa [parted] using key is []
end Vs
namespace Vs
open Kin Deal
def fallP (pr : List Int) (is : List Nat) : List Nat := (ordQ (qs pr is)).map fun j => is.getD j 0
theorem range_getD (is : List Nat) : (CP is.length).map (fun j => is.getD j 0) = is := by
 apply RM
 ·simp
 ·intro j h1 h2
  simp [C5, h2]
theorem kb3 (pr : List Int) (is : List Nat) : (fallP pr is).Perm is := by
 have h := (kc8 (qs pr is)).map fun j => is.getD j 0
 rw [kcq, range_getD] at h
 exact h
def befP (pr : List Int) (a b : Nat) : Prop := pr.getD b 0 < pr.getD a 0 ∨ (pr.getD a 0 = pr.getD b 0 ∧ a < b)
theorem kju {pr : List Int} {is : List Nat} (hs : is.Pairwise (· < ·)) : (fallP pr is).Pairwise (befP pr) := by
 have h := (kd7 (qs pr is)).2
 have hm := (kd7 (qs pr is)).1
 unfold fallP
 rw [Th]
 refine h.imp_of_mem fun {a b} ha hb hab => ?_
 have la : a < is.length := by simpa [kcq] using hm.mem_iff.mp ha
 have lb : b < is.length := by simpa [kcq] using hm.mem_iff.mp hb
 have ea : (qs pr is).getD a 0 = pr.getD (is.getD a 0) 0 := by simp [qs, C5, la]
 have eb : (qs pr is).getD b 0 = pr.getD (is.getD b 0) 0 := by simp [qs, C5, lb]
 unfold bef at hab
 unfold befP
 rw [ea, eb] at hab
 rcases hab with z | ⟨z1, z2⟩
 ·exact .inl z
 ·refine .inr ⟨z1, ?_⟩
  have := R1.mp hs a b la lb z2
  simpa [C5, la, lb] using this
theorem khn {pr : List Int} {is ks : List Nat} (hs : is.Pairwise (· < ·)) (hp : ks.Perm is) (hk : ks.Pairwise (befP pr)) : ks = fallP pr is :=
 kd3 (R := befP pr) (fun a b h h' => by unfold befP at h h'; omega) (hp.trans (kb3 pr is).symm) hk (kju hs)
theorem kit (m : Nat) (f : Nat → Nat) (r : List Nat) : grp m (r.map f) = (grp m r).map fun g => g.map f := by
 unfold grp
 rw [Cz, C9]
 refine Ry fun g _ => ?_
 show ((r.map f).drop _).take _ = ((r.drop _).take _).map f
 rw [Sm, Ti]
theorem kis {m : Nat} {r g : List Nat} (h : g ∈ grp m r) : ∀ j ∈ g, j ∈ r := fun j hj => by
 obtain ⟨i, _, rfl⟩ := C4.mp h
 exact List.mem_of_mem_drop (SN hj)
theorem kiu {n : Nat} {ab : List Nat} {pr : List Int} (cut : Int → Int) (hn : ab.Nodup) (gs : List (List Nat)) (hg : ∀ g ∈ gs, ∀ j ∈ g, j < ab.length) :
  spr n ab (gdl cut gs (qs pr ab)) = spr n (gs.map fun g => g.map fun j => ab.getD j 0).flatten ((gs.map fun g => g.map fun j => ab.getD j 0).map fun o => dl (cut (qs pr o).sum) (qs pr o)).flatten := by
 unfold gdl
 rw [kcq, kf1 hn fun j hj => ?_, List.map_flatten, C9]
 ·congr 2
  refine Ry fun g hg' => ?_
  have e := qs_qs (pr := pr) (ab := ab) (g := g) (hg g hg')
  show dl (cut (qs (qs pr ab) g).sum) (qs (qs pr ab) g) = dl (cut (qs pr (g.map fun j => ab.getD j 0)).sum) (qs pr (g.map fun j => ab.getD j 0))
  rw [e]
 ·obtain ⟨g, hg', hj'⟩ := RV.mp hj
  exact hg g hg' j hj'
theorem kjN {pr : List Int} {is : List Nat} {m : Nat} {g : List Nat} (h : g ∈ grp m (ordQ (qs pr is))) : ∀ j ∈ g, j < is.length := fun j hj => by
 have := kkD (kis h j hj)
 rwa [kcq] at this
theorem kjz {n m : Nat} {is : List Nat} {pr : List Int} (cut : Int → Int) (hn : is.Nodup) :
  spr n is (gdl cut (grp m (ordQ (qs pr is))) (qs pr is)) = spr n (grp m (fallP pr is)).flatten ((grp m (fallP pr is)).map fun o => dl (cut (qs pr o).sum) (qs pr o)).flatten := by
 rw [kiu cut hn _ fun g hg => kjN hg]
 unfold fallP
 rw [kit]
theorem kig {f : Nat → Nat} {gs : List (List Nat)} (h : ∀ g ∈ gs, g ≠ []) : lasts (gs.map fun g => g.map f) = (lasts gs).map f := by
 unfold lasts
 rw [C9, C9]
 refine Ry fun g hg => ?_
 show (g.map f).getLastD 0 = f (g.getLastD 0)
 have hne := h g hg
 rw [Tj, Tj, List.getLast?_map, TC hne]
 rfl
theorem klx (c : Int) : dl c [c] = [c] := by
 unfold dl
 by_cases h : [c].sum = 0
 ·rw [if_pos h]
  have : c = 0 := by simpa using h
  simp [this]
 ·rw [if_neg h]
  have hc : c ≠ 0 := by simpa using h
  have e : part c [c] 0 = c := by
   unfold part pre
   simp [Int.mul_ediv_cancel _ hc]
  simp [RT, e]
theorem khM (f : Nat → Int) : ∀ (l : List Nat), (l.map fun i => [i]).flatten = l ∧ (l.map fun i => [f i]).flatten = l.map f
 | [] => ⟨rfl, rfl⟩
 | a :: l => by
  obtain ⟨h1, h2⟩ := khM f l
  simp [h1, h2]
theorem kiG {n m : Nat} {is : List Nat} {pr : List Int} (hm : 0 < m) (hn : is.Nodup) :
  spr n is (spr (qs pr is).length (lasts (grp m (ordQ (qs pr is)))) (qs (qs pr is) (lasts (grp m (ordQ (qs pr is)))))) = spr n (lasts (grp m (fallP pr is))) ((lasts (grp m (fallP pr is))).map fun i => pr.getD i 0) := by
 have ne : ∀ g ∈ grp m (ordQ (qs pr is)), g ≠ [] := fun g hg z => by
  obtain ⟨i, hi⟩ := RU.mp hg
  have := (kgS hi).2.1
  rw [z] at this
  simp at this
  omega
 have hl : ∀ j ∈ lasts (grp m (ordQ (qs pr is))), j < is.length := fun j hj => by
  obtain ⟨g, hg, rfl⟩ := C4.mp hj
  refine kjN hg _ ?_
  rw [Tj, TC (ne g hg)]
  exact List.getLast_mem _
 rw [kcq, kf1 hn hl, qs_qs hl]
 have e : lasts (grp m (fallP pr is)) = (lasts (grp m (ordQ (qs pr is)))).map fun j => is.getD j 0 := by
  unfold fallP
  rw [kit, kig ne]
 rw [e]
 rfl
theorem spr_zero {n k : Nat} {is : List Nat} : spr n is (CI k 0) = CI n 0 := by
 unfold spr
 apply RM
 ·simp
 ·intro j h1 h2
  simp only [R7, Si, List.getElem_replicate]
  cases e : (is.zip (CI k (0 : Int))).lookup j with
  | none => rfl
  | some v =>
   obtain ⟨i, _, hv⟩ := kdz e
   have := List.eq_of_mem_replicate (CT hv)
   rw [this]
   rfl
theorem kel {pr : List Int} {is : List Nat} (hn : is.Nodup) : (fallP pr is).Nodup := (kb3 pr is).nodup_iff.mpr hn
theorem kgh (m : Nat) (r : List Nat) : (grp m r).length ≤ r.length := by
 unfold grp
 rw [Cz, List.length_range]
 exact Nat.div_le_self _ _
end Vs
namespace Vs
open Kin Deal
structure Later (S S' : Stnd) : Prop where
 ow : S'.ow = S.ow
 pr : Le2 S'.pr S.pr
 cg : 0 ≤ S'.cg ∧ S'.cg ≤ S.cg
 mg : ∀ l, S.mkd.getD l false = true → S'.mkd.getD l false = true
theorem Later.refl {S : Stnd} (hn : Nn S.pr) (hc : 0 ≤ S.cg) : Later S S := ⟨rfl, Le2.self hn, ⟨hc, Int.le_refl _⟩, fun _ h => h⟩
theorem Later.trans {S S' S'' : Stnd} (h : Later S S') (h' : Later S' S'') : Later S S'' := ⟨h'.ow.trans h.ow, h'.pr.trans h.pr, ⟨h'.cg.1, Int.le_trans h'.cg.2 h.cg.2⟩, fun l e => h'.mg l (h.mg l e)⟩
end Vs
namespace Vs
open PySem L2
def top (i : Nat) : Stmt := PySem.Challenge.pw_voucherstack_k25_line_by_line.main.body.getD i (.Pass ⟨0, 0, 0, 0⟩)
abbrev kca : Stmt := top 2
abbrev kb8 : Stmt := top 4
abbrev kaO : Stmt := top 16
abbrev kbZ : Stmt := top 19
abbrev kcA : Stmt := top 20
abbrev kbu : Stmt := top 21
abbrev kcB : Stmt := top 22
abbrev kcb : Stmt := top 23
abbrev kaQ : Stmt := top 24
abbrev kaK : Stmt := top 25
abbrev kaU : Stmt := top 26
abbrev kaP : Stmt := top 27
abbrev kaC : Stmt := top 28
abbrev kaY : Stmt := top 29
abbrev kbo : Stmt := top 30
abbrev kaX : Stmt := top 31
abbrev kbL : Stmt := top 32
abbrev kb9 : Stmt := top 38
abbrev kbV : Stmt := top 39
abbrev kaW : Stmt := top 40
abbrev ka4 : Stmt := top 41
abbrev ka5 : Stmt := top 42
abbrev kaJ : Stmt := top 43
abbrev kbW : Stmt := top 46
abbrev kbp : Stmt := top 47
abbrev kbb : Stmt := top 48
abbrev ka3 : Stmt := top 49
abbrev ka8 : Stmt := top 53
abbrev kbv : Stmt := top 54
abbrev kbj : Stmt := top 55
abbrev ka7 : Stmt := top 56
abbrev kbd : Stmt := top 57
abbrev kbe : Stmt := top 58
abbrev kbl : Stmt := top 59
abbrev ka6 : Stmt := top 60
abbrev kbi : Stmt := top 61
abbrev kbh : Stmt := top 62
abbrev kbq : Stmt := top 63
abbrev kbr : Stmt := top 64
abbrev kbm : Stmt := top 65
abbrev kbk : Stmt := top 66
abbrev kaR : Stmt := top 67
abbrev kaD : Stmt := top 68
abbrev kbc : Stmt := top 69
abbrev kaS : Stmt := top 70
abbrev kay : Stmt := top 71
abbrev s_law : Stmt := top 72
abbrev kar : Stmt := inClass (top 6) 0
abbrev kaL : Stmt := inClass (top 7) 0
abbrev kbs : Stmt := inClass (top 8) 0
abbrev kaM : Stmt := inClass (top 9) 0
abbrev kaF : Stmt := inClass (top 10) 0
abbrev kaV : Stmt := inClass (top 11) 0
abbrev kaG : Stmt := inClass (top 12) 0
abbrev kbg : Stmt := inClass (top 14) 0
abbrev kaH : Stmt := inClass (top 15) 0
abbrev ka0 : Stmt := inClass (top 17) 0
abbrev kaT : Stmt := inClass (top 17) 1
abbrev kbD : Stmt := inClass (top 37) 0
abbrev ka9 : Stmt := inClass (top 37) 1
abbrev kbn : Stmt := inClass (top 37) 2
abbrev kaZ : Stmt := inClass (top 37) 4
abbrev kbw : Stmt := inClass (top 45) 0
abbrev kbf : Stmt := inClass (top 51) 0
set_option genInjectivity false
set_option genSizeOf false
structure D where
 Xv : Addr
 Xw : FuncData
 Xx : Addr
 Xy : FuncData
 Xz : Addr
 XA : FuncData
 XB : Addr
 XC : FuncData
 XD : Addr
 XE : FuncData
 XF : Addr
 XG : FuncData
 XH : Addr
 XI : FuncData
 XJ : Addr
 XM : FuncData
 XO : Addr
 XQ : FuncData
 XR : Addr
 XS : FuncData
 XT : Addr
 XU : FuncData
 XW : Addr
 XX : FuncData
 XY : Addr
 QS : FuncData
 XZ : Addr
 X0 : FuncData
 X1 : Addr
 X2 : FuncData
 X3 : Addr
 X4 : FuncData
 X5 : Addr
 X6 : FuncData
 X7 : Addr
 X8 : FuncData
 X9 : Addr
 Ya : FuncData
 Yb : Addr
 Yc : FuncData
 Yd : Addr
 Ye : FuncData
 Yf : Addr
 Yg : FuncData
 Yh : Addr
 Yi : FuncData
 Yj : Addr
 Yk : FuncData
 Yl : Addr
 Ym : FuncData
 Yn : Addr
 Yo : FuncData
 Yp : Addr
 Yq : FuncData
 Yr : Addr
 Ys : FuncData
 Yt : Addr
 Yu : FuncData
 Yv : Addr
 Yw : FuncData
 Yx : Addr
 Yy : FuncData
 Yz : Addr
 YA : FuncData
 YB : Addr
 YC : FuncData
 YD : Addr
 YE : FuncData
 YF : Addr
 YG : FuncData
 YH : Addr
 YI : FuncData
 YJ : Addr
 YK : FuncData
 YL : Addr
 YM : FuncData
 YN : Addr
 YO : FuncData
 YQ : Addr
 YR : FuncData
 YS : Addr
 YT : FuncData
 YU : Addr
 YV : FuncData
 YW : Addr
 YX : FuncData
 YY : Addr
 YZ : FuncData
 Y0 : Addr
 Y1 : FuncData
 Y2 : Addr
 Y3 : FuncData
 f_law : Addr
 Y4 : FuncData
 qg : Addr
 Y5 : Addr
 qA : FuncData
 tok1_Marks_init : Nat
 qx : Addr
 QT : Addr
 QU : FuncData
 c_Off : Addr
 Y6 : Addr
 QV : FuncData
 qk : Addr
 Y7 : Addr
 q9 : FuncData
 qm : Addr
 Y8 : Addr
 QW : FuncData
 ql : Addr
 Y9 : Addr
 QX : FuncData
 qo : Addr
 Za : Addr
 QY : FuncData
 qe : Addr
 Zb : Addr
 QZ : FuncData
 qh : Addr
 Zc : Addr
 Qa : FuncData
 tok0_Basket_init : Nat
 qc : Addr
 Zd : Addr
 Ze : FuncData
 Zf : Addr
 Zg : FuncData
 c_Way : Addr
 Zh : Addr
 Zi : FuncData
 Zj : Addr
 Zk : FuncData
 Zl : Addr
 Zm : FuncData
 Zn : Addr
 Zo : FuncData
 qi : Addr
 Zp : Addr
 Zq : FuncData
 qf : Addr
 Zr : Addr
 Q0 : FuncData
 tok0_Till_init : Nat
 cc_falling_groups : Addr
 tP_falling_groups : Addr
structure Wld (K : CA) (mg : Str → Option Value) (d : D) : Prop where
 B : TxtB mg
 qG : Dn K mg "dealt" kca ["cut", "weights"] d.Xv d.Xw
 Qb : Dn K mg "under" kb8 ["parents", "one", "other"] d.Xx d.Xy
 Qc : Dn K mg "price_of_piece" kaO ["line", "member"] d.Xz d.XA
 qH : Dn K mg "about" kbZ ["voucher", "parents", "basket", "standing"] d.XB d.XC
 Qd : Dn K mg "fits" kcA ["marks", "parents", "kind", "marked"] d.XD d.XE
 Qe : Dn K mg "hindrance" kbu ["voucher", "parents", "basket", "standing"] d.XF d.XG
 Qf : Dn K mg "cuts" kcB ["voucher", "parents", "basket", "standing"] d.XH d.XI
 Qg : Dn K mg "after" kcb ["voucher", "parents", "basket", "standing"] d.XJ d.XM
 qI : Dn K mg "cuts_of_pieces" kaQ ["voucher", "parents", "basket", "standing"] d.XO d.XQ
 qJ : Dn K mg "cut_of_carriage" kaK ["voucher", "standing"] d.XR d.XS
 Qh : Dn K mg "wanted_cuts" kaU ["voucher", "standing", "pieces"] d.XT d.XU
 Qi : Dn K mg "parted_by_line" kaP ["standing", "pieces"] d.XW d.XX
 qK : Dn K mg "falling_groups" kaC ["standing", "pieces", "many"] d.XY d.QS
 Qj : Dn K mg "marked_behind" kaY ["voucher", "standing", "piece_cuts"] d.XZ d.X0
 qL : Dn K mg "prices_of" kbo ["standing", "pieces"] d.X1 d.X2
 qp : Dn K mg "sum_of_prices" kaX ["standing", "pieces"] d.X3 d.X4
 Qk : Dn K mg "at_most" kbL ["most", "number"] d.X5 d.X6
 qu : Dn K mg "fault" kb9 ["till", "basket", "hand", "order"] d.X7 d.X8
 Ql : Dn K mg "way_by" kbV ["till", "basket", "hand", "order"] d.X9 d.Ya
 Qm : Dn K mg "word_of_order" kaW ["till", "hand", "used", "number"] d.Yb d.Yc
 Qn : Dn K mg "breaks_never" ka4 ["rules", "used", "number"] d.Yd d.Ye
 Qo : Dn K mg "breaks_ahead" ka5 ["rules", "used", "number"] d.Yf d.Yg
 Qp : Dn K mg "without_company" kaJ ["rules", "order"] d.Yh d.Yi
 Qq : Dn K mg "priced" kbW ["till", "basket", "hand", "order"] d.Yj d.Yk
 Qr : Dn K mg "line_cuts" kbp ["basket", "bill"] d.Yl d.Ym
 Qs : Dn K mg "line_totals" kbb ["basket", "bill"] d.Yn d.Yo
 qM : Dn K mg "sums_by_line" ka3 ["basket", "amounts"] d.Yp d.Yq
 Qt : Dn K mg "_law_cell_at" ka8 ["_law_script", "_law_k"] d.Yr d.Ys
 qd : Dn K mg "_law_some" kbv ["_law_script", "_law_k", "_law_salt", "_law_many"] d.Yt d.Yu
 qw : Dn K mg "_law_price" kbj ["_law_script", "_law_k", "_law_salt"] d.Yv d.Yw
 Qu : Dn K mg "_law_parents" ka7 ["_law_script"] d.Yx d.Yy
 Qv : Dn K mg "_law_basket" kbd ["_law_script", "_law_kinds"] d.Yz d.YA
 qq : Dn K mg "_law_amount" kbe ["_law_script", "_law_k", "_law_salt", "_law_worth_here"] d.YB d.YC
 Qw : Dn K mg "_law_marks" kbl ["_law_script", "_law_k", "_law_kinds", "_law_worth_here"] d.YD d.YE
 Qx : Dn K mg "_law_voucher" ka6 ["_law_script", "_law_k", "_law_kinds", "_law_worth_here"] d.YF d.YG
 Qy : Dn K mg "_law_rules" kbi ["_law_script", "_law_many"] d.YH d.YI
 Qz : Dn K mg "_law_worth" kbh ["_law_basket_here"] d.YJ d.YK
 QA : Dn K mg "_law_till" kbq ["_law_script", "_law_parents_here", "_law_basket_here", "_law_back"] d.YL d.YM
 QB : Dn K mg "_law_hand" kbr ["_law_script", "_law_many"] d.YN d.YO
 QC : Dn K mg "_law_going" kbm ["_law_till_here", "_law_basket_here", "_law_hand_here", "_law_order_here"] d.YQ d.YR
 QD : Dn K mg "_law_order" kbk ["_law_script", "_law_k", "_law_till_here", "_law_basket_here", "_law_hand_here"] d.YS d.YT
 QE : Dn K mg "_law_number_is" kaR ["_law_found", "_law_due"] d.YU d.YV
 qN : Dn K mg "_law_numbers_are" kaD ["_law_found", "_law_due"] d.YW d.YX
 qO : Dn K mg "_law_summed" kbc ["_law_basket_here", "_law_numbers"] d.YY d.YZ
 QF : Dn K mg "_law_lists_are" kaS ["_law_found", "_law_due"] d.Y0 d.Y1
 qP : Dn K mg "_law_lines_right" kay ["_law_basket_here", "_law_bill"] d.Y2 d.Y3
 d_law : Dn K mg "law" s_law ["_law_script"] d.f_law d.Y4
 qg : ClsT K mg "Marks" d.qg
 n_Marks_kind : NoAttr K d.qg "kind"
 n_Marks_needs : NoAttr K d.qg "needs"
 n_Marks_most : NoAttr K d.qg "most"
 n_Marks_member : NoAttr K d.qg "member"
 n_Marks_once : NoAttr K d.qg "once"
 n_Marks_lone : NoAttr K d.qg "lone"
 QG : MthT K d.qg "__init__" "Marks.__init__" kar ["self", "kind", "needs", "most", "member", "once", "lone"] d.Y5 d.qA
 b1_Marks_init : Binds K d.qA ["self", "kind", "needs", "most", "member", "once", "lone"] [.bool false]
 b2_Marks_init : Binds K d.qA ["self", "kind", "needs", "most", "member", "once", "lone"] [.bool false, .bool false]
 b3_Marks_init : Binds K d.qA ["self", "kind", "needs", "most", "member", "once", "lone"] [.bool false, .bool false, .bool false]
 b4_Marks_init : Binds K d.qA ["self", "kind", "needs", "most", "member", "once", "lone"] [.none, .bool false, .bool false, .bool false]
 b5_Marks_init : Binds K d.qA ["self", "kind", "needs", "most", "member", "once", "lone"] [.int 0 d.tok1_Marks_init, .none, .bool false, .bool false, .bool false]
 b6_Marks_init : Binds K d.qA ["self", "kind", "needs", "most", "member", "once", "lone"] [.none, .int 0 d.tok1_Marks_init, .none, .bool false, .bool false, .bool false]
 qx : ClsT K mg "Voucher" d.qx
 qt : MthT K d.qx "__init__" "Voucher.__init__" kaL ["self", "marks"] d.QT d.QU
 b1_Voucher_init : Binds K d.QU ["self", "marks"] [.none]
 g_Off : mg "Off" = some (.ref d.c_Off)
 c_Off : ClsT K mg "Off" d.c_Off
 n_Off_amount : NoAttr K d.c_Off "amount"
 n_Off_marks : NoAttr K d.c_Off "marks"
 Q1 : MthT K d.c_Off "__init__" "Off.__init__" kbs ["self", "amount", "marks"] d.Y6 d.QV
 b1_Off_init : Binds K d.QV ["self", "amount", "marks"] [.none]
 ZD : mg "Share" = some (.ref d.qk)
 qk : ClsT K mg "Share" d.qk
 n_Share_share : NoAttr K d.qk "share"
 n_Share_by_line : NoAttr K d.qk "by_line"
 n_Share_marks : NoAttr K d.qk "marks"
 Q2 : MthT K d.qk "__init__" "Share.__init__" kaM ["self", "share", "by_line", "marks"] d.Y7 d.q9
 b1_Share_init : Binds K d.q9 ["self", "share", "by_line", "marks"] [.none]
 b2_Share_init : Binds K d.q9 ["self", "share", "by_line", "marks"] [.bool false, .none]
 ZE : mg "Cheapest" = some (.ref d.qm)
 qm : ClsT K mg "Cheapest" d.qm
 n_Cheapest_many : NoAttr K d.qm "many"
 n_Cheapest_marks : NoAttr K d.qm "marks"
 Q3 : MthT K d.qm "__init__" "Cheapest.__init__" kaF ["self", "many", "marks"] d.Y8 d.QW
 b1_Cheapest_init : Binds K d.QW ["self", "many", "marks"] [.none]
 ZF : mg "Bundle" = some (.ref d.ql)
 ql : ClsT K mg "Bundle" d.ql
 n_Bundle_many : NoAttr K d.ql "many"
 n_Bundle_price : NoAttr K d.ql "price"
 n_Bundle_marks : NoAttr K d.ql "marks"
 Q4 : MthT K d.ql "__init__" "Bundle.__init__" kaV ["self", "many", "price", "marks"] d.Y9 d.QX
 b1_Bundle_init : Binds K d.QX ["self", "many", "price", "marks"] [.none]
 ZG : mg "Carriage" = some (.ref d.qo)
 qo : ClsT K mg "Carriage" d.qo
 n_Carriage_marks : NoAttr K d.qo "marks"
 Q5 : MthT K d.qo "__init__" "Carriage.__init__" kaG ["self", "marks"] d.Za d.QY
 b1_Carriage_init : Binds K d.QY ["self", "marks"] [.none]
 qe : ClsT K mg "Line" d.qe
 n_Line_kind : NoAttr K d.qe "kind"
 n_Line_price : NoAttr K d.qe "price"
 n_Line_many : NoAttr K d.qe "many"
 n_Line_special : NoAttr K d.qe "special"
 Q6 : MthT K d.qe "__init__" "Line.__init__" kbg ["self", "kind", "price", "many", "special"] d.Zb d.QZ
 b1_Line_init : Binds K d.QZ ["self", "kind", "price", "many", "special"] [.none]
 qh : ClsT K mg "Basket" d.qh
 n_Basket_lines : NoAttr K d.qh "lines"
 n_Basket_carriage : NoAttr K d.qh "carriage"
 n_Basket_member : NoAttr K d.qh "member"
 Q7 : MthT K d.qh "__init__" "Basket.__init__" kaH ["self", "lines", "carriage", "member"] d.Zc d.Qa
 b1_Basket_init : Binds K d.Qa ["self", "lines", "carriage", "member"] [.bool false]
 b2_Basket_init : Binds K d.Qa ["self", "lines", "carriage", "member"] [.int 0 d.tok0_Basket_init, .bool false]
 qc : ClsT K mg "Standing" d.qc
 n_Standing_owners : NoAttr K d.qc "owners"
 n_Standing_prices : NoAttr K d.qc "prices"
 n_Standing_carriage : NoAttr K d.qc "carriage"
 n_Standing_marked : NoAttr K d.qc "marked"
 qQ : MthT K d.qc "__init__" "Standing.__init__" ka0 ["self", "basket"] d.Zd d.Ze
 Q8 : MthT K d.qc "whole" "Standing.whole" kaT ["self"] d.Zf d.Zg
 c_Way : ClsT K mg "Way" d.c_Way
 n_Way_till : NoAttr K d.c_Way "till"
 n_Way_basket : NoAttr K d.c_Way "basket"
 n_Way_hand : NoAttr K d.c_Way "hand"
 n_Way_used : NoAttr K d.c_Way "used"
 n_Way_standing : NoAttr K d.c_Way "standing"
 qR : MthT K d.c_Way "__init__" "Way.__init__" kbD ["self", "till", "basket", "hand"] d.Zh d.Zi
 qT : MthT K d.c_Way "word_for" "Way.word_for" ka9 ["self", "number"] d.Zj d.Zk
 qU : MthT K d.c_Way "behind" "Way.behind" kbn ["self", "number"] d.Zl d.Zm
 Q9 : MthT K d.c_Way "is_let_by" "Way.is_let_by" kaZ ["self"] d.Zn d.Zo
 qi : ClsT K mg "Bill" d.qi
 n_Bill_order : NoAttr K d.qi "order"
 n_Bill_steps : NoAttr K d.qi "steps"
 n_Bill_prices : NoAttr K d.qi "prices"
 n_Bill_carriage : NoAttr K d.qi "carriage"
 n_Bill_total : NoAttr K d.qi "total"
 Xa : MthT K d.qi "__init__" "Bill.__init__" kbw ["self", "order", "steps", "standing"] d.Zp d.Zq
 qf : ClsT K mg "Till" d.qf
 n_Till_parents : NoAttr K d.qf "parents"
 n_Till_vouchers : NoAttr K d.qf "vouchers"
 n_Till_rules : NoAttr K d.qf "rules"
 n_Till_back : NoAttr K d.qf "back"
 Xb : MthT K d.qf "__init__" "Till.__init__" kbf ["self", "parents", "vouchers", "rules", "back"] d.Zr d.Q0
 b1_Till_init : Binds K d.Q0 ["self", "parents", "vouchers", "rules", "back"] [.str "again" d.tok0_Till_init]
 q_Voucher_init : BaseT K d.qx "__init__" d.QT
 ZH : C2 K (.ref d.c_Off) (.ref d.qo) = some false
 ZI : C2 K (.ref d.qk) (.ref d.qo) = some false
 ZJ : C2 K (.ref d.qm) (.ref d.qo) = some false
 ZK : C2 K (.ref d.ql) (.ref d.qo) = some false
 ZL : C2 K (.ref d.qk) (.ref d.c_Off) = some false
 ZM : C2 K (.ref d.qm) (.ref d.c_Off) = some false
 ZN : C2 K (.ref d.ql) (.ref d.c_Off) = some false
 ZO : C2 K (.ref d.qo) (.ref d.c_Off) = some false
 ZP : C2 K (.ref d.c_Off) (.ref d.qk) = some false
 ZQ : C2 K (.ref d.qm) (.ref d.qk) = some false
 ZR : C2 K (.ref d.ql) (.ref d.qk) = some false
 ZS : C2 K (.ref d.qo) (.ref d.qk) = some false
 ZT : C2 K (.ref d.c_Off) (.ref d.qm) = some false
 ZU : C2 K (.ref d.qk) (.ref d.qm) = some false
 ZV : C2 K (.ref d.ql) (.ref d.qm) = some false
 ZW : C2 K (.ref d.qo) (.ref d.qm) = some false
 ZX : C2 K (.ref d.c_Off) (.ref d.ql) = some false
 ZY : C2 K (.ref d.qk) (.ref d.ql) = some false
 ZZ : C2 K (.ref d.qm) (.ref d.ql) = some false
 Z9 : C2 K (.ref d.qo) (.ref d.ql) = some false
 code_falling_groups : d.QS.code = .ref d.cc_falling_groups
 ck_falling_groups : CodeK K d.cc_falling_groups d.tP_falling_groups
structure WB (K : CA) (mg : Str → Option Value) (d : D) (base : Heap) : Prop extends Wld K mg d where
 blt : BltM mg base
end Vs
namespace Vs
open PySem L2 War Kin Deal
def LineAt (C : Addr) (H : Hp) (x : Addr) (r : Row) : Prop := ∃ (dx : Addr) (fs : List (Str × V)), H x = some (.ins C dx fs) ∧ fs.lookup ("kind" : Str) = some (.int r.kd) ∧ fs.lookup ("price" : Str) = some (.int r.pr) ∧ fs.lookup ("many" : Str) = some (.int r.mn) ∧ fs.lookup ("special" : Str) = some (oV r.ex)
abbrev Lines (C : Addr) (H : Hp) (ls : List Addr) (rs : List Row) : Prop := P2 (LineAt C H) ls rs
def BaskAt (C : Addr) (H : Hp) (b l : Addr) (cg : Int) (m : Bool) : Prop := ∃ (dx : Addr) (fs : List (Str × V)), H b = some (.ins C dx fs) ∧ fs.lookup ("lines" : Str) = some (.ref l) ∧ fs.lookup ("carriage" : Str) = some (.int cg) ∧ fs.lookup ("member" : Str) = some (.bl m)
def StandAt (C : Addr) (H : Hp) (x o p mk : Addr) (cg : Int) : Prop := ∃ (dx : Addr) (fs : List (Str × V)), H x = some (.ins C dx fs) ∧ fs.lookup ("owners" : Str) = some (.ref o) ∧ fs.lookup ("prices" : Str) = some (.ref p) ∧ fs.lookup ("carriage" : Str) = some (.int cg) ∧ fs.lookup ("marked" : Str) = some (.ref mk) ∧ fs.lookup ("whole" : Str) = none
section
variable {C : Addr} {H H' : Hp}
theorem LineAt.same {x : Addr} {r : Row} (s : Same H H') : LineAt C H x r → LineAt C H' x r := fun ⟨dx, fs, h, q⟩ => ⟨dx, fs, s _ _ h, q⟩
theorem Lines.same {ls : List Addr} {rs : List Row} (s : Same H H') (h : Lines C H ls rs) : Lines C H' ls rs := h.mono fun _ _ q => q.same s
theorem BaskAt.same {b l : Addr} {cg : Int} {m : Bool} (s : Same H H') : BaskAt C H b l cg m → BaskAt C H' b l cg m := fun ⟨dx, fs, h, q⟩ => ⟨dx, fs, s _ _ h, q⟩
theorem StandAt.same {x o p mk : Addr} {cg : Int} (s : Same H H') : StandAt C H x o p mk cg → StandAt C H' x o p mk cg := fun ⟨dx, fs, h, q⟩ => ⟨dx, fs, s _ _ h, q⟩
end
section
variable {H : Hp} {hd : Addr} {xs : List V} {o : HO}
theorem BaskAt.set {C b l : Addr} {cg : Int} {m : Bool} (h : H hd = some (.lst xs)) : BaskAt C H b l cg m → BaskAt C (upd H hd o) b l cg m := fun ⟨dx, fs, e, q⟩ => ⟨dx, fs, by rw [kam (ne_of e h (by intro z; cases z))]; exact e, q⟩
theorem StandAt.set {C x a b c : Addr} {cg : Int} (h : H hd = some (.lst xs)) : StandAt C H x a b c cg → StandAt C (upd H hd o) x a b c cg := fun ⟨dx, fs, e, q⟩ => ⟨dx, fs, by rw [kam (ne_of e h (by intro z; cases z))]; exact e, q⟩
theorem LineAt.set {C x : Addr} {r : Row} (h : H hd = some (.lst xs)) : LineAt C H x r → LineAt C (upd H hd o) x r := fun ⟨dx, fs, e, q⟩ => ⟨dx, fs, by rw [kam (ne_of e h (by intro z; cases z))]; exact e, q⟩
theorem Lines.set {C : Addr} {ls : List Addr} {rs : List Row} (h : H hd = some (.lst xs)) (L : Lines C H ls rs) : Lines C (upd H hd o) ls rs := L.mono fun _ _ q => q.set h
end
structure Bask where
 rs : List Row
 cg : Int
 m : Bool
def BaskIs (CL CB : Addr) (H : Hp) (b : Addr) (B : Bask) : Prop := ∃ (l : Addr) (ls : List Addr), BaskAt CB H b l B.cg B.m ∧ H l = some (.lst (ls.map V.ref)) ∧ Lines CL H ls B.rs
theorem BaskIs.same {CL CB : Addr} {H H' : Hp} {b : Addr} {B : Bask} (s : Same H H') : BaskIs CL CB H b B → BaskIs CL CB H' b B := fun ⟨l, ls, h1, h2, h3⟩ => ⟨l, ls, h1.same s, s _ _ h2, h3.same s⟩
def iV (k : Nat) : V := .int (k : Int)
def StndIs (CS : Addr) (H : Hp) (x : Addr) (S : Stnd) : Prop := ∃ o p mk : Addr, StandAt CS H x o p mk S.cg ∧ H o = some (.lst (S.ow.map iV)) ∧ H p = some (.lst (S.pr.map V.int)) ∧ H mk = some (.lst (S.mkd.map V.bl))
theorem StndIs.same {CS : Addr} {H H' : Hp} {x : Addr} {S : Stnd} (s : Same H H') : StndIs CS H x S → StndIs CS H' x S := fun ⟨o, p, mk, h1, h2, h3, h4⟩ => ⟨o, p, mk, h1.same s, s _ _ h2, s _ _ h3, s _ _ h4⟩
theorem kc5 (ns : List Nat) : (ns.map iV).all flatV = true := by
 rw [S9]
 intro x hx
 obtain ⟨n, _, rfl⟩ := C4.mp hx
 rfl
def ownN (rs : List Row) : List Nat := (rs.zipIdx.map fun p => CI p.1.mn.toNat p.2).flatten
theorem kdT (rs : List Row) : (own rs).map V.int = (ownN rs).map iV := by
 unfold own ownN
 generalize rs.zipIdx = l
 induction l with
 | nil => rfl
 | cons p l ih =>
  rw [C1, Rf, CU, ih, C1, Rf, CU]
  congr 1
  simp [iV]
theorem kh1 (rs : List Row) {l : Nat} (h : l ∈ ownN rs) : l < rs.length := by
 unfold ownN at h
 obtain ⟨xs, h1, h2⟩ := RV.mp h
 obtain ⟨p, h3, rfl⟩ := C4.mp h1
 have e : l = p.2 := (SO.mp h2).2
 have q := List.mem_zipIdx h3
 omega
theorem kjc (rs : List Row) (h : ∀ r ∈ rs, r.Ok) : (ownN rs).length ≤ 60 * rs.length := by
 have e : (ownN rs).length = (own rs).length := by
  have := congrArg Sv (kdT rs)
  simpa using this.symm
 rw [e]
 exact kh0 rs h
def pV : Option Nat → V
 | none => .non
 | some k => .int (k : Int)
theorem eq_int (a b : Nat) : decide (V.int (a : Int) = V.int (b : Int)) = decide (a = b) := by
 by_cases h : a = b
 ·subst h; simp
 ·have : ¬ (V.int (a : Int) = V.int (b : Int)) := by
   intro e
   injection e with e
   omega
  simp [h, this]
theorem kji {c : Int} {ws : List Int} (h : ws.sum = 0) : (dl c ws).map V.int = CI ws.length (V.int 0) := by
 unfold dl
 rw [if_pos h]
 clear h
 induction ws with
 | nil => rfl
 | cons w ws ih => simpa [RJ] using ih
theorem kh9 {c : Int} {ws : List Int} (h : ¬ ws.sum = 0) : dl c ws = (CP ws.length).map (part c ws) := by
 unfold dl
 rw [if_neg h]
def kkn (K : CA) : Sp := fun vs H Q _ => ∃ (c : Int) (a : Addr) (ws : List Int), vs = [.int c, .ref a] ∧ SqL K H a (ws.map V.int) ∧ Nn ws ∧ ws.sum < 2 ^ 100 ∧ 0 ≤ c ∧ c < 2 ^ 64 ∧ ws.length ≤ 1000 ∧
 ∀ p, H p = none → Q (.ref p) (upd H p (.lst ((dl c ws).map V.int)))
def kke (K : CA) : Sp := fun vs H Q _ => ∃ (a : Addr) (ps : List (Option Nat)) (one other : Nat), vs = [.ref a, .int one, .int other] ∧ SqL K H a (ps.map pV) ∧ Good ps ∧ one < ps.length ∧ Q (.bl (decide (other ∈ up ps one))) H
def khF (C : Addr) : Sp := fun vs H Q _ => ∃ (x dx : Addr) (r : Row), vs = [.ref x, .int r.kd, .int r.pr, .int r.mn, oV r.ex] ∧ H x = some (.ins C dx []) ∧ ∀ H', But x H H' → LineAt C H' x r → Q .non H'
def khK (K : CA) (C : Addr) : Sp := fun vs H Q _ => ∃ (x dx l : Addr) (cg : Int) (m : Bool) (xs : List V), vs = [.ref x, .ref l, .int cg, .bl m] ∧ H x = some (.ins C dx []) ∧ SqL K H l xs ∧
 ∀ (H' : Hp) (l' : Addr), But x H H' → H l' = none → H' l' = some (.lst xs) → BaskAt C H' x l' cg m → Q .non H'
def kkh (CL : Addr) : Sp := fun vs H Q _ => ∃ (x : Addr) (m : Bool) (r : Row), vs = [.ref x, .bl m] ∧ LineAt CL H x r ∧ Q (.int (prc m r)) H
def kdR (CL CB CS : Addr) : Sp := fun vs H Q _ => ∃ (x dx b l : Addr) (cg : Int) (m : Bool) (ls : List Addr) (rs : List Row), vs = [.ref x, .ref b] ∧ H x = some (.ins CS dx []) ∧ BaskAt CB H b l cg m ∧ H l = some (.lst (ls.map V.ref)) ∧ Lines CL H ls rs ∧ rs.length ≤ 12 ∧ (∀ r ∈ rs, r.Ok) ∧
 ∀ (H' : Hp) (o p mk : Addr), But x H H' → H o = none → H p = none → H mk = none → StandAt CS H' x o p mk cg → H' o = some (.lst ((own rs).map V.int)) → H' p = some (.lst ((prs m rs).map V.int)) → H' mk = some (.lst (CI rs.length (.bl false))) → (∃ dx fs, H' x = some (.ins CS dx fs) ∧ fs.length ≤ 10) → Q .non H'
def kkc (CS : Addr) : Sp := fun vs H Q _ => ∃ (x o p mk : Addr) (cg : Int) (ns : List Int), vs = [.ref x] ∧ StandAt CS H x o p mk cg ∧ H p = some (.lst (ns.map V.int)) ∧ Q (.int (ns.sum + cg)) H
structure S3 (H0 : Hp) (x C dx : Addr) (fs : List (Str × V)) (o p mk : Addr) (a b c : List V) (H : Hp) : Prop where
 bt : But x H0 H
 ob : H x = some (.ins C dx fs)
 ho : H o = some (.lst a)
 hp : H p = some (.lst b)
 hm : H mk = some (.lst c)
structure Ds (H0 : Hp) (x o p mk : Addr) : Prop where
 fo : H0 o = none
 fp : H0 p = none
 fm : H0 mk = none
 ox : o ≠ x
 px : p ≠ x
 mx : mk ≠ x
 op : o ≠ p
 om : o ≠ mk
 pm : p ≠ mk
section
variable {H0 H H' : Hp} {x C dx o p mk : Addr} {fs : List (Str × V)} {a b c d : List V}
theorem S3.same (h : S3 H0 x C dx fs o p mk a b c H) (s : Same H H') : S3 H0 x C dx fs o p mk a b c H' := ⟨h.bt.same s, s _ _ h.ob, s _ _ h.ho, s _ _ h.hp, s _ _ h.hm⟩
theorem S3.setO (h : S3 H0 x C dx fs o p mk a b c H) (D : Ds H0 x o p mk) : S3 H0 x C dx fs o p mk d b c (upd H o (.lst d)) :=
 ⟨fun y u n e => kcg (h.bt y u n e) fun u' e' => ev_eq (by rw [kam (kal e D.fo)]; exact e') fun t => kdB t (kal e D.fo) (nx h.ho), by rw [kam D.ox.symm]; exact h.ob, kad, by rw [kam D.op.symm]; exact h.hp, by rw [kam D.om.symm]; exact h.hm⟩
theorem S3.setP (h : S3 H0 x C dx fs o p mk a b c H) (D : Ds H0 x o p mk) : S3 H0 x C dx fs o p mk a d c (upd H p (.lst d)) :=
 ⟨fun y u n e => kcg (h.bt y u n e) fun u' e' => ev_eq (by rw [kam (kal e D.fp)]; exact e') fun t => kdB t (kal e D.fp) (nx h.hp), by rw [kam D.px.symm]; exact h.ob, by rw [kam D.op]; exact h.ho, kad, by rw [kam D.pm.symm]; exact h.hm⟩
theorem S3.setM (h : S3 H0 x C dx fs o p mk a b c H) (D : Ds H0 x o p mk) : S3 H0 x C dx fs o p mk a b d (upd H mk (.lst d)) :=
 ⟨fun y u n e => kcg (h.bt y u n e) fun u' e' => ev_eq (by rw [kam (kal e D.fm)]; exact e') fun t => kdB t (kal e D.fm) (nx h.hm), by rw [kam D.mx.symm]; exact h.ob, by rw [kam D.om]; exact h.ho, by rw [kam D.pm]; exact h.hp, kad⟩
end
end Vs
namespace Vs
open PySem L2 War Kin Deal
def MksIs (C : Addr) (H : Hp) (x : Addr) (M : Mks) : Prop := ∃ (dx : Addr) (fs : List (Str × V)), H x = some (.ins C dx fs) ∧ fs.lookup ("kind" : Str) = some (pV M.kind) ∧ fs.lookup ("needs" : Str) = some (.int M.needs) ∧ fs.lookup ("most" : Str) = some (oV M.most) ∧ fs.lookup ("member" : Str) = some (.bl M.member) ∧ fs.lookup ("once" : Str) = some (.bl M.once) ∧ fs.lookup ("lone" : Str) = some (.bl M.lone)
theorem MksIs.same {C : Addr} {H H' : Hp} {x : Addr} {M : Mks} (s : Same H H') : MksIs C H x M → MksIs C H' x M := fun ⟨dx, fs, h, q⟩ => ⟨dx, fs, s _ _ h, q⟩
def SrtIs (fs : List (Str × V)) : Srt → Prop
 | .off a => fs.lookup ("amount" : Str) = some (.int a)
 | .share s b => fs.lookup ("share" : Str) = some (.int s) ∧ fs.lookup ("by_line" : Str) = some (.bl b)
 | .cheap n => fs.lookup ("many" : Str) = some (.int n)
 | .bund n p => fs.lookup ("many" : Str) = some (.int n) ∧ fs.lookup ("price" : Str) = some (.int p)
 | .carr => True
def clsOf (d : D) : Srt → Addr
 | .off _ => d.c_Off
 | .share _ _ => d.qk
 | .cheap _ => d.qm
 | .bund _ _ => d.ql
 | .carr => d.qo
def here : Srt → Bool
 | .off _ => true
 | .share _ _ => true
 | .cheap _ => true
 | .bund _ _ => true
 | .carr => true
def kkZ : Srt → Bool
 | .off _ => true
 | .share _ _ => false
 | .cheap _ => false
 | .bund _ _ => false
 | .carr => false
def kiJ : Srt → Bool
 | .off _ => false
 | .share _ _ => true
 | .cheap _ => false
 | .bund _ _ => false
 | .carr => false
def kfY : Srt → Bool
 | .off _ => false
 | .share _ _ => false
 | .cheap _ => true
 | .bund _ _ => false
 | .carr => false
def khq : Srt → Bool
 | .off _ => false
 | .share _ _ => false
 | .cheap _ => false
 | .bund _ _ => true
 | .carr => false
def kb7 : Srt → Bool
 | .off _ => false
 | .share _ _ => false
 | .cheap _ => false
 | .bund _ _ => false
 | .carr => true
def Tbs (d : D) (H : Hp) : Prop := TbAt d.tP_falling_groups H
theorem Tbs.same {d : D} {H H' : Hp} (s : Same H H') (h : Tbs d H) : Tbs d H' := s.tb h
def VchIs (d : D) (H : Hp) (v : Addr) (V : Vch) : Prop := ∃ (mA dx : Addr) (fs : List (Str × L2.V)), H v = some (.ins (clsOf d V.so) dx fs) ∧ fs.lookup ("marks" : Str) = some (.ref mA) ∧ SrtIs fs V.so ∧ MksIs d.qg H mA V.ms ∧ here V.so = true ∧ Tbs d H
theorem VchIs.same {d : D} {H H' : Hp} {v : Addr} {V : Vch} (s : Same H H') : VchIs d H v V → VchIs d H' v V := fun ⟨mA, dx, fs, h1, h2, h3, h4, h5, h6⟩ => ⟨mA, dx, fs, s _ _ h1, h2, h3, h4.same s, h5, h6.same s⟩
def kds (B : Bask) : List Nat := B.rs.map fun r => r.kd.toNat
structure Wf (ps : List (Option Nat)) (B : Bask) (S : Stnd) : Prop where
 good : Good ps
 pl : ps.length ≤ 20
 kd : ∀ r ∈ B.rs, 0 ≤ r.kd ∧ r.kd < (ps.length : Int)
 ok : ∀ r ∈ B.rs, r.Ok
 nl : B.rs.length ≤ 12
 bc : 0 ≤ B.cg ∧ B.cg ≤ 1000000000000
 ow : S.ow = ownN B.rs
 lp : S.pr.length = S.ow.length
 lm : S.mkd.length = B.rs.length
 pr : ∀ z ∈ S.pr, 0 ≤ z ∧ z ≤ 1000000000000
 cg : 0 ≤ S.cg ∧ S.cg ≤ 1000000000000
 n64 : S.ow.length < 64
theorem Wf.np {ps : List (Option Nat)} {B : Bask} {S : Stnd} (W : Wf ps B S) : S.ow.length ≤ 720 := by
 have := kjc B.rs W.ok
 have := W.nl
 rw [W.ow]
 omega
theorem Wf.line {ps : List (Option Nat)} {B : Bask} {S : Stnd} (W : Wf ps B S) {i l : Nat} (h : S.ow[i]? = some l) : l < B.rs.length := by
 have hm := CT h
 rw [W.ow] at hm
 exact kh1 _ hm
structure MksOk (ps : List (Option Nat)) (M : Mks) : Prop where
 kind : ∀ k, M.kind = some k → k < ps.length
 needs : 0 ≤ M.needs ∧ M.needs ≤ 1000000000000
 most : ∀ m, M.most = some m → 0 ≤ m ∧ m ≤ 1000000000000
def mks0 : Mks := ⟨none, 0, none, false, false, false⟩
def keU : Srt → List V
 | .off a => [.int a]
 | .share s b => [.int s, .bl b]
 | .cheap n => [.int n]
 | .bund n p => [.int n, .int p]
 | .carr => []
def Mrk (CM : Addr) (H : Hp) (mv : V) (H' : Hp) (mA : Addr) : Prop := mv = .ref mA ∨ (mv = .non ∧ H mA = none ∧ MksIs CM H' mA mks0)
theorem MksIs.but {C x mA : Addr} {H H' : Hp} {M : Mks} (n : mA ≠ x) (b : But x H H') : MksIs C H mA M → MksIs C H' mA M := fun ⟨dx, fs, h, q⟩ => ⟨dx, fs, b _ _ n h, q⟩
theorem Mrk.but {CM x mA : Addr} {H H1 H2 : Hp} {mv : V} {o : HO} (hx : H x = some o) (b : But x H1 H2) : Mrk CM H mv H1 mA → Mrk CM H mv H2 mA
 | .inl e => .inl e
 | .inr ⟨e, f, h⟩ => .inr ⟨e, f, h.but (kal hx f).symm b⟩
def kgr (C : Addr) : Sp := fun vs H Q _ => ∃ (x dx : Addr) (M : Mks), vs = [.ref x, pV M.kind, .int M.needs, oV M.most, .bl M.member, .bl M.once, .bl M.lone] ∧ H x = some (.ins C dx []) ∧ ∀ H', But x H H' → MksIs C H' x M → Q .non H'
def kg6 (K : CA) (CM : Addr) : Sp := fun vs H Q _ => ∃ (x C dx : Addr) (fs : List (Str × V)) (mv : V), vs = [.ref x, mv] ∧ H x = some (.ins C dx fs) ∧ Cls K C ∧ NoAttr K C "marks" ∧ fs.length ≤ 5 ∧ (mv = .non ∨ ∃ mA, mv = .ref mA) ∧
 ∀ (H' : Hp) (mA : Addr), But x H H' → Mrk CM H mv H' mA → H' x = some (.ins C dx (putF "marks" (.ref mA) fs)) → Q .non H'
def kdC (C CM : Addr) (is : Srt → Prop) : Sp := fun vs H Q _ => ∃ (x dx : Addr) (so : Srt) (mv : V), is so ∧ vs = .ref x :: (keU so ++ [mv]) ∧ H x = some (.ins C dx []) ∧ (mv = .non ∨ ∃ mA, mv = .ref mA) ∧
 ∀ (H' : Hp) (mA : Addr) (fs : List (Str × V)), But x H H' → Mrk CM H mv H' mA → H' x = some (.ins C dx fs) → fs.lookup ("marks" : Str) = some (.ref mA) → SrtIs fs so → Q .non H'
theorem kgL {C : Addr} {H : Hp} {M : Mks} {R : Addr → Hp → Prop} {E : XK} (k : ∀ (H' : Hp) (x : Addr), Same H H' → H x = none → MksIs C H' x M → R x H') :
  ∀ x dx, H x = none → H dx = none → dx ≠ x → kgr C [.ref x, pV M.kind, .int M.needs, oV M.most, .bl M.member, .bl M.once, .bl M.lone] (upd (upd H dx (.own x)) x (.ins C dx [])) (fun v H2 => v = .non ∧ R x H2) E :=
 fun x dx nx nd _ => ⟨x, dx, M, rfl, kad, fun H' b l => ⟨rfl, k H' x (kbU nx nd b) nx l⟩⟩
theorem kln {d : D} {H : Hp} {so : Srt} {mA : Addr} {M : Mks} {is : Srt → Prop} {R : Addr → Hp → Prop} {E : XK} (hi : is so) (hh : here so = true) (hM : MksIs d.qg H mA M) (k : ∀ (H' : Hp) (x : Addr), Same H H' → H x = none → VchIs d H' x ⟨so, M⟩ → R x H') (htb : Tbs d H := by assumption) :
  ∀ x dx, H x = none → H dx = none → dx ≠ x → kdC (clsOf d so) d.qg is (.ref x :: (keU so ++ [.ref mA])) (upd (upd H dx (.own x)) x (.ins (clsOf d so) dx [])) (fun v H2 => v = .non ∧ R x H2) E :=
 fun x dx nx nd _ => ⟨x, dx, so, .ref mA, hi, rfl, kad, .inr ⟨mA, rfl⟩, fun H' mA' fs b hm h1 h2 h3 => by
  have e : mA' = mA := by
   rcases hm with e | ⟨e, _⟩
   ·injection e with e
    exact e.symm
   ·cases e
  subst e
  exact ⟨rfl, k H' x (kbU nx nd b) nx ⟨mA', dx, fs, h1, h2, h3, hM.same (kbU nx nd b), hh, htb.same (kbU nx nd b)⟩⟩⟩
end Vs
namespace Vs
open PySem L2 War Kin Deal
theorem kkK {CL : Addr} {H : Hp} {r : Row} {R : Addr → Hp → Prop} {E : XK} (k : ∀ (H' : Hp) (x : Addr), Same H H' → H x = none → LineAt CL H' x r → R x H') :
  ∀ x dx, H x = none → H dx = none → dx ≠ x → khF CL [.ref x, .int r.kd, .int r.pr, .int r.mn, oV r.ex] (upd (upd H dx (.own x)) x (.ins CL dx [])) (fun v H2 => v = .non ∧ R x H2) E :=
 fun x dx nx nd _ => ⟨x, dx, r, rfl, kad, fun H' b l => ⟨rfl, k H' x (kbU nx nd b) nx l⟩⟩
theorem kkM {K : CA} {CB : Addr} {H : Hp} {l : Addr} {cg : Int} {m : Bool} {xs : List V} {R : Addr → Hp → Prop} {E : XK} (hl : SqL K H l xs) (k : ∀ (H' : Hp) (x l' : Addr), Same H H' → H x = none → H l' = none → H' l' = some (.lst xs) → BaskAt CB H' x l' cg m → R x H') :
  ∀ x dx, H x = none → H dx = none → dx ≠ x → khK K CB [.ref x, .ref l, .int cg, .bl m] (upd (upd H dx (.own x)) x (.ins CB dx [])) (fun v H2 => v = .non ∧ R x H2) E :=
 fun x dx nx nd _ => ⟨x, dx, l, cg, m, xs, rfl, kad, (kbQ nx nd).seq hl, fun H' l' b n h1 h2 => ⟨rfl, k H' x l' (kbU nx nd b) nx (kdd n) h1 h2⟩⟩
theorem kgK {CL CB CS : Addr} {H : Hp} {b l : Addr} {cg : Int} {m : Bool} {ls : List Addr} {rs : List Row} {R : Addr → Hp → Prop} {E : XK} (hb : BaskAt CB H b l cg m) (hl : H l = some (.lst (ls.map V.ref))) (hL : Lines CL H ls rs) (hn : rs.length ≤ 12) (hok : ∀ r ∈ rs, r.Ok)
  (k : ∀ (H' : Hp) (x o p mk : Addr), Same H H' → H x = none → H o = none → H p = none → H mk = none → StandAt CS H' x o p mk cg → H' o = some (.lst ((own rs).map V.int)) → H' p = some (.lst ((prs m rs).map V.int)) → H' mk = some (.lst (CI rs.length (.bl false))) → R x H') :
  ∀ x dx, H x = none → H dx = none → dx ≠ x → kdR CL CB CS [.ref x, .ref b] (upd (upd H dx (.own x)) x (.ins CS dx [])) (fun v H2 => v = .non ∧ R x H2) E :=
 fun x dx nx nd _ => ⟨x, dx, b, l, cg, m, ls, rs, rfl, kad, hb.same (kbQ nx nd), kfJ nx nd hl, hL.same (kbQ nx nd), hn, hok, fun H' o p mk bt n1 n2 n3 S h1 h2 h3 _ => ⟨rfl, k H' x o p mk (kbU nx nd bt) nx (kdd n1) (kdd n2) (kdd n3) S h1 h2 h3⟩⟩
structure VchOk (ps : List (Option Nat)) (V : Vch) : Prop where
 so : SrtOk V.so
 ms : MksOk ps V.ms
def stnd0 (B : Bask) : Stnd := ⟨ownN B.rs, prs B.m B.rs, B.cg, CI B.rs.length false⟩
theorem kkJ {CL CB CS : Addr} {H : Hp} {b : Addr} {B : Bask} {R : Addr → Hp → Prop} {E : XK} (hb : BaskIs CL CB H b B) (hn : B.rs.length ≤ 12) (hok : ∀ r ∈ B.rs, r.Ok) (k : ∀ (H' : Hp) (x : Addr), Same H H' → H x = none → StndIs CS H' x (stnd0 B) → R x H') :
  ∀ x dx, H x = none → H dx = none → dx ≠ x → kdR CL CB CS [.ref x, .ref b] (upd (upd H dx (.own x)) x (.ins CS dx [])) (fun v H2 => v = .non ∧ R x H2) E := by
 obtain ⟨l, ls, h1, h2, h3⟩ := hb
 refine kgK h1 h2 h3 hn hok fun H' x o p mk s f1 _ _ _ hS ho hp hm => k H' x s f1 ⟨o, p, mk, hS, ?_, hp, ?_⟩
 ·rw [ho, kdT]
  rfl
 ·rw [hm]
  show _ = some (HO.lst ((CI B.rs.length false).map V.bl))
  rw [List.map_replicate]
theorem kjK {m : Bool} {r : Row} (h : r.Ok) : 0 ≤ prc m r ∧ prc m r ≤ 1000000000000 := by
 unfold prc
 split
 ·cases e : r.ex with
  | none => exact ⟨h.pr0, h.pr1⟩
  | some z => exact h.ex0 z e
 ·exact ⟨h.pr0, h.pr1⟩
theorem kgz (m : Bool) : ∀ (rs : List Row) (k : Nat), (rs.map fun r => CI r.mn.toNat (prc m r)).flatten.length = ((rs.zipIdx k).map fun p => CI p.1.mn.toNat (p.2 : Int)).flatten.length
 | [], _ => by simp
 | r :: rs, k => by
  rw [R8, C1, Rf, C7, Ro, C1, Rf, C7, Ro, kgz m rs (k + 1)]
theorem kkA (m : Bool) (rs : List Row) : (prs m rs).length = (ownN rs).length := by
 have e : (ownN rs).length = (own rs).length := by
  have := congrArg Sv (kdT rs)
  simpa using this.symm
 rw [e]
 exact kgz m rs 0
theorem Wf.start {ps : List (Option Nat)} {B : Bask} (g : Good ps) (pl : ps.length ≤ 20) (kd : ∀ r ∈ B.rs, 0 ≤ r.kd ∧ r.kd < (ps.length : Int)) (ok : ∀ r ∈ B.rs, r.Ok) (nl : B.rs.length ≤ 12) (bc : 0 ≤ B.cg ∧ B.cg ≤ 1000000000000) (n64 : (ownN B.rs).length < 64) : Wf ps B (stnd0 B) := by
 refine ⟨g, pl, kd, ok, nl, bc, rfl, kkA _ _, by simp [stnd0], fun z hz => ?_, bc, n64⟩
 obtain ⟨xs, h1, h2⟩ := RV.mp hz
 obtain ⟨r, hr, rfl⟩ := C4.mp h1
 rw [(SO.mp h2).2]
 exact kjK (ok r hr)
theorem Wf.nn {ps : List (Option Nat)} {B : Bask} {S : Stnd} (W : Wf ps B S) : Nn S.pr := fun z hz => (W.pr z hz).1
theorem Wf.after {ps : List (Option Nat)} {B : Bask} {S : Stnd} {V : Vch} (W : Wf ps B S) (O : VchOk ps V) : Wf ps B (aftM V ps (kds B) S) := by
 have h := klC (V := V) (ps := ps) (kk := kds B) W.nn W.cg.1 O.so fun m e => (O.ms.most m e).1
 refine ⟨W.good, W.pl, W.kd, W.ok, W.nl, W.bc, W.ow, h.1.1.trans W.lp, by rw [← W.lm]; simp [aftM], fun z hz => ?_, ⟨h.2.1, Int.le_trans h.2.2 W.cg.2⟩, W.n64⟩
 obtain ⟨j, e1⟩ := RU.mp hz
 have hj : j < S.pr.length := by
  rw [← h.1.1]
  exact (CZ.mp e1).1
 have e2 : S.pr[j]? = some S.pr[j] := by simp [hj]
 have b := h.1.2 j z _ e1 e2
 have c := W.pr _ (CT e2)
 exact ⟨b.1, Int.le_trans b.2 c.2⟩
def kkq (K : CA) (d : D) : Sp := fun vs H Q _ => ∃ (v a b x : Addr) (V : Vch) (ps : List (Option Nat)) (B : Bask) (S : Stnd), vs = [.ref v, .ref a, .ref b, .ref x] ∧ VchIs d H v V ∧ SqL K H a (ps.map pV) ∧ BaskIs d.qe d.qh H b B ∧ StndIs d.qc H x S ∧ Wf ps B S ∧ VchOk ps V ∧
 ∀ (H' : Hp) (p : Addr), Same H H' → H p = none → H' p = some (.lst ((abt ps (kds B) V.ms.kind V.ms.lone S).map iV)) → Q (.ref p) H'
def klb (K : CA) (d : D) : Sp := fun vs H Q _ => ∃ (v a b x : Addr) (V : Vch) (ps : List (Option Nat)) (B : Bask) (S : Stnd), vs = [.ref v, .ref a, .ref b, .ref x] ∧ VchIs d H v V ∧ SqL K H a (ps.map pV) ∧ BaskIs d.qe d.qh H b B ∧ StndIs d.qc H x S ∧ Wf ps B S ∧ VchOk ps V ∧
 ∀ (H' : Hp) (t p : Addr), Same H H' → H t = none → H p = none → H' t = some (.tup [.ref p, .int (cutM V ps (kds B) S).2]) → H' p = some (.lst ((cutM V ps (kds B) S).1.map L2.V.int)) → Q (.ref t) H'
def kkp (K : CA) (d : D) : Sp := fun vs H Q _ => ∃ (v a b x : Addr) (V : Vch) (ps : List (Option Nat)) (B : Bask) (S : Stnd), vs = [.ref v, .ref a, .ref b, .ref x] ∧ VchIs d H v V ∧ SqL K H a (ps.map pV) ∧ BaskIs d.qe d.qh H b B ∧ StndIs d.qc H x S ∧ Wf ps B S ∧ VchOk ps V ∧
 ∀ (H' : Hp) (x' : Addr), Same H H' → H x' = none → StndIs d.qc H' x' (aftM V ps (kds B) S) → Q (.ref x') H'
theorem cl_of {K : CA} {mg : Str → Option Value} {d : D} {base : Heap} (W : WB K mg d base) : ∀ {so : Srt}, here so = true → Cls K (clsOf d so)
 | .off _, h => W.c_Off.cl
 | .share _ _, h => W.qk.cl
 | .cheap _, h => W.qm.cl
 | .bund _ _, h => W.ql.cl
 | .carr, h => W.qo.cl
theorem na_of {K : CA} {mg : Str → Option Value} {d : D} {base : Heap} (W : WB K mg d base) : ∀ {so : Srt}, here so = true → NoAttr K (clsOf d so) "marks"
 | .off _, h => W.n_Off_marks
 | .share _ _, h => W.n_Share_marks
 | .cheap _, h => W.n_Cheapest_marks
 | .bund _ _, h => W.n_Bundle_marks
 | .carr, h => W.n_Carriage_marks
theorem kjT {K : CA} {mg : Str → Option Value} {d : D} {base : Heap} (W : WB K mg d base) : ∀ {so : Srt}, here so = true → Isi K (clsOf d so)
 | .off _, h => W.c_Off.isi
 | .share _ _, h => W.qk.isi
 | .cheap _, h => W.qm.isi
 | .bund _ _, h => W.ql.isi
 | .carr, h => W.qo.isi
theorem kfL {K : CA} {mg : Str → Option Value} {d : D} {base : Heap} (W : WB K mg d base) : ∀ {so : Srt}, here so = true → C2 K (.ref (clsOf d so)) (.ref d.qo) = some (kb7 so)
 | .off _, h => W.ZH
 | .share _ _, h => W.ZI
 | .cheap _, h => W.ZJ
 | .bund _ _, h => W.ZK
 | .carr, h => kcs _ _
theorem kkN {K : CA} {mg : Str → Option Value} {d : D} {base : Heap} (W : WB K mg d base) : ∀ {so : Srt}, here so = true → C2 K (.ref (clsOf d so)) (.ref d.c_Off) = some (kkZ so)
 | .off _, h => kcs _ _
 | .share _ _, h => W.ZL
 | .cheap _, h => W.ZM
 | .bund _ _, h => W.ZN
 | .carr, h => W.ZO
theorem kdg {K : CA} {mg : Str → Option Value} {d : D} {base : Heap} (W : WB K mg d base) : ∀ {so : Srt}, here so = true → C2 K (.ref (clsOf d so)) (.ref d.qk) = some (kiJ so)
 | .off _, h => W.ZP
 | .share _ _, h => kcs _ _
 | .cheap _, h => W.ZQ
 | .bund _ _, h => W.ZR
 | .carr, h => W.ZS
theorem kcK {K : CA} {mg : Str → Option Value} {d : D} {base : Heap} (W : WB K mg d base) : ∀ {so : Srt}, here so = true → C2 K (.ref (clsOf d so)) (.ref d.qm) = some (kfY so)
 | .off _, h => W.ZT
 | .share _ _, h => W.ZU
 | .cheap _, h => kcs _ _
 | .bund _ _, h => W.ZV
 | .carr, h => W.ZW
theorem keL {K : CA} {mg : Str → Option Value} {d : D} {base : Heap} (W : WB K mg d base) : ∀ {so : Srt}, here so = true → C2 K (.ref (clsOf d so)) (.ref d.ql) = some (khq so)
 | .off _, h => W.ZX
 | .share _ _, h => W.ZY
 | .cheap _, h => W.ZZ
 | .bund _ _, h => kcs _ _
 | .carr, h => W.Z9
theorem pickI {zs : List Int} {m : Int} (h0 : 0 ≤ m) (h1 : m < (zs.length : Int)) : ∃ z, atI (zs.map V.int) m = some (.int z) ∧ z ∈ zs := by
 obtain ⟨j, rfl⟩ := Int.eq_ofNat_of_zero_le h0
 obtain ⟨z, ez⟩ := at_of (xs := zs) (i := j) (by omega)
 exact ⟨z, kbK (by rw [CV, ez]; rfl), CT ez⟩
theorem kdl {b : Int} : ∀ {q : List Int}, (∀ z ∈ q, z ≤ b) → q.sum ≤ b * q.length
 | [], _ => by simp
 | z :: q, h => by
  have h1 := h z Re
  have h2 := kdl (q := q) fun x hx => h x (C8 _ hx)
  rw [Rx, Rv]
  have e : b * ((q.length + 1 : Nat) : Int) = b * q.length + b := by rw [Int.natCast_add, Int.mul_add]; simp
  omega
theorem khR {ps : List (Option Nat)} {B : Bask} {S : Stnd} (wf : Wf ps B S) {ab : List Nat} (hl : ab.length ≤ 720) (hb : ∀ i ∈ ab, i < S.pr.length) : (qs S.pr ab).sum ≤ 720000000000000 := by
 have h := kdl (b := 1000000000000) (q := qs S.pr ab) fun z hz => by
  obtain ⟨i, hi, rfl⟩ := C4.mp hz
  obtain ⟨w, ew⟩ := at_of (hb i hi)
  rw [C5, ew]
  exact (wf.pr w (CT ew)).2
 rw [kcq] at h
 omega
theorem kkW (xs : List V) (i k : Nat) : cutV xs (some (i : Int)) (some ((i + k : Nat) : Int)) = (xs.drop i).take k := by
 unfold cutV
 rw [HT.sIx_nat, HT.sIx_nat]
 by_cases h : i ≤ xs.length
 ·rw [Sg h, Tt, RY]
  omega
 ·rw [Tn (by omega), Tn (by omega)]
  simp
theorem kkH {d : D} {H : Hp} {so : Srt} {is : Srt → Prop} {R : Addr → Hp → Prop} {E : XK} (hi : is so) (hh : here so = true) (k : ∀ (H' : Hp) (x : Addr), Same H H' → H x = none → VchIs d H' x ⟨so, mks0⟩ → R x H') (htb : Tbs d H := by assumption) :
  ∀ x dx, H x = none → H dx = none → dx ≠ x → kdC (clsOf d so) d.qg is (.ref x :: (keU so ++ [.non])) (upd (upd H dx (.own x)) x (.ins (clsOf d so) dx [])) (fun v H2 => v = .non ∧ R x H2) E :=
 fun x dx nx nd _ => ⟨x, dx, so, .non, hi, rfl, kad, .inl rfl, fun H' mA' fs b hm h1 h2 h3 => by
  rcases hm with e | ⟨_, _, hM⟩
  ·cases e
  ·exact ⟨rfl, k H' x (kbU nx nd b) nx ⟨mA', dx, fs, h1, h2, h3, hM, hh, htb.same (kbU nx nd b)⟩⟩⟩
theorem kiI {α : Type} {xs : List α} {v : α} (h : xs[xs.length - 1]? = some v) (h0 : 0 < xs.length) : atI xs (-1) = some v := by
 unfold atI ixN
 rw [if_neg (by omega), if_pos (by omega)]
 show xs[(-1 + (xs.length : Int)).toNat]? = some v
 rw [show (-1 + (xs.length : Int)).toNat = xs.length - 1 by omega]
 exact h
theorem kgv {H0 H1 H2 : Hp} {x : Addr} (f : H0 x = none) (s : Same H0 H1) (b : But x H1 H2) : Same H0 H2 := fun y u e => kcg (s y u e) fun u' e' => b y u' (kal e f) e'
def hindM (V : Vch) (ps : List (Option Nat)) (B : Bask) (S : Stnd) : L2.V :=
 if (V.ms.member && !B.m) = true then .str "member" else if (abt ps (kds B) V.ms.kind V.ms.lone S).length = 0 then .str "nothing" else if (qs S.pr (abt ps (kds B) V.ms.kind V.ms.lone S)).sum < V.ms.needs then .str "needs" else .non
def kk9 (K : CA) (d : D) : Sp := fun vs H Q _ => ∃ (v a b x : Addr) (V : Vch) (ps : List (Option Nat)) (B : Bask) (S : Stnd), vs = [.ref v, .ref a, .ref b, .ref x] ∧ VchIs d H v V ∧ SqL K H a (ps.map pV) ∧ BaskIs d.qe d.qh H b B ∧ StndIs d.qc H x S ∧ Wf ps B S ∧ VchOk ps V ∧
 ∀ (H' : Hp), Same H H' → Q (hindM V ps B S) H'
def atM (m : Option Int) (n : Int) : Int := match m with
 | none => n
 | some m => min m n
theorem none_of {H H' : Hp} (s : Same H H') {p : Addr} (h : H' p = none) : H p = none := s.free h
theorem kfR {x : Addr} {H H' : Hp} (b : But x H H') (n : H x = none) : Same H H' := fun y u e => b y u (kal e n) e
theorem kh8 {CL CB CS : Addr} {H : Hp} {b l : Addr} {cg : Int} {m : Bool} {ls : List Addr} {rs : List Row} {R : Addr → Hp → Prop} {E : XK} (hb : BaskAt CB H b l cg m) (hl : H l = some (.lst (ls.map V.ref))) (hL : Lines CL H ls rs) (hn : rs.length ≤ 12) (hok : ∀ r ∈ rs, r.Ok)
  (k : ∀ (H' : Hp) (x : Addr), Same H H' → H x = none → ∀ (dx : Addr) (fs : List (Str × V)), H' x = some (.ins CS dx fs) → fs.length ≤ 10 → fs.lookup ("whole" : Str) = none → R x H') :
  ∀ x dx, H x = none → H dx = none → dx ≠ x → kdR CL CB CS [.ref x, .ref b] (upd (upd H dx (.own x)) x (.ins CS dx [])) (fun v H2 => v = .non ∧ R x H2) E :=
 fun x dx nx nd _ => ⟨x, dx, b, l, cg, m, ls, rs, rfl, kad, hb.same (kbQ nx nd), kfJ nx nd hl, hL.same (kbQ nx nd), hn, hok, fun H' o p mk bt n1 n2 n3 S h1 h2 h3 fw => by
  obtain ⟨dx', fs, e, hf⟩ := fw
  obtain ⟨dx2, fs2, e2, _, _, _, _, hw⟩ := S
  rw [e] at e2
  injection e2 with e2
  injection e2 with _ e3 e4
  subst e4
  exact ⟨rfl, k H' x (kbU nx nd bt) nx dx' fs e hf hw⟩⟩
theorem kix {V : Vch} {ps : List (Option Nat)} {kk : List Nat} {S : Stnd} (vo : VchOk ps V) : (cutM V ps kk S).2 = if kb7 V.so = true then atM V.ms.most S.cg else 0 := by
 have hm := vo.ms.most
 unfold cutM
 simp only
 cases e : V.ms.most with
 | none =>
  unfold cap atM
  simp only
  unfold fee kb7
  cases V.so <;> rfl
 | some m =>
  have h0 := (hm m e).1
  unfold cap atM
  simp only
  cases eso : V.so with
  | carr =>
   have hz : (want .carr S.mkd.length ((abt ps kk V.ms.kind V.ms.lone S).map fun i => S.ow.getD i 0) (qs S.pr (abt ps kk V.ms.kind V.ms.lone S))).sum = 0 := by
    unfold want
    simp
   show (if m < _ + S.cg then _ else _ : List Int × Int).2 = min m S.cg
   rw [hz, Int.zero_add]
   split
   ·show min S.cg m = _
    omega
   ·show S.cg = _
    omega
  | _ =>
   show (if m < _ + 0 then (_, min 0 m) else (_, 0) : List Int × Int).2 = 0
   split
   ·show min 0 m = 0
    omega
   ·rfl
theorem kls {B : Bask} {l : Nat} {r : Row} (h : B.rs[l]? = some r) : (kds B).getD l 0 = r.kd.toNat := by
 unfold kds
 rw [C5, CV, h]
 rfl
theorem kjE {ps : List (Option Nat)} {kk : List Nat} {kind : Option Nat} {lone : Bool} {S : Stnd} {i : Nat} :
  (CP (i + 1)).filter (fun i => hits ps kk kind lone S.mkd (S.ow.getD i 0)) = (CP i).filter (fun i => hits ps kk kind lone S.mkd (S.ow.getD i 0)) ++ (if hits ps kk kind lone S.mkd (S.ow.getD i 0) = true then [i] else []) := by
 rw [RT, Sl]
 congr 1
 simp only [List.filter_cons, List.filter_nil]
def GrpAt (H H' : Hp) (pa : Addr) (t : Addr) (q : Int × List Nat) : Prop := ∃ ga, H' t = some (.tup [.int q.1, .ref ga]) ∧ H' ga = some (.lst (q.2.map iV)) ∧ (ga = pa ∨ H ga = none)
def kiQ (d : D) : Sp := fun vs H Q _ => ∃ (v x pa : Addr) (V : Vch) (ps : List (Option Nat)) (B : Bask) (S : Stnd), vs = [.ref v, .ref x, .ref pa] ∧ VchIs d H v V ∧ StndIs d.qc H x S ∧ H pa = some (.lst ((abt ps (kds B) V.ms.kind V.ms.lone S).map iV)) ∧ Wf ps B S ∧ VchOk ps V ∧
 ∀ (H' : Hp) (p : Addr) (tl : List Addr) (gl : List (Int × List Nat)), Same H H' → H p = none → H' p = some (.lst (tl.map L2.V.ref)) → P2 (GrpAt H H' pa) tl gl → (∀ c g, (c, g) ∈ gl → 0 ≤ c ∧ c ≤ (qs S.pr g).sum ∧ g.length ≤ 720) → (gl.map Prod.snd).flatten.Nodup → (∀ i ∈ (gl.map Prod.snd).flatten, i < S.pr.length) → gl.length ≤ 720 →
  spr S.pr.length (gl.map Prod.snd).flatten (gl.map fun p => dl p.1 (qs S.pr p.2)).flatten = spr S.pr.length (abt ps (kds B) V.ms.kind V.ms.lone S) (want V.so S.mkd.length ((abt ps (kds B) V.ms.kind V.ms.lone S).map fun i => S.ow.getD i 0) (qs S.pr (abt ps (kds B) V.ms.kind V.ms.lone S))) → Q (.ref p) H'
theorem But.free {x l : Addr} {H H' : Hp} {o : HO} (b : But x H H') (hx : H' x = some o) (h : H' l = none) : H l = none := by
 cases q : H l with
 | none => rfl
 | some u =>
  obtain ⟨o', e'⟩ := kfg (b l u (kal hx h).symm q)
  rw [e'] at h
  cases h
structure Rul where
 w : Str
 a : Nat
 b : Nat
structure TillD where
 ps : List (Option Nat)
 vs : List Vch
 rs : List Rul
 bk : Str
def RulIs (H : Hp) (a : Addr) (r : Rul) : Prop := H a = some (.tup [.str r.w, iV r.a, iV r.b])
def TillIs (d : D) (H : Hp) (t : Addr) (T : TillD) : Prop := ∃ (dx : Addr) (fs : List (Str × V)) (p vl rl : Addr) (va ra : List Addr), H t = some (.ins d.qf dx fs) ∧ fs.lookup ("parents" : Str) = some (.ref p) ∧ fs.lookup ("vouchers" : Str) = some (.ref vl) ∧ fs.lookup ("rules" : Str) = some (.ref rl) ∧ fs.lookup ("back" : Str) = some (.str T.bk) ∧
 H p = some (.lst (T.ps.map pV)) ∧ H vl = some (.lst (va.map V.ref)) ∧ P2 (fun a V => VchIs d H a V) va T.vs ∧ H rl = some (.lst (ra.map V.ref)) ∧ P2 (fun a r => RulIs H a r) ra T.rs
theorem TillIs.same {d : D} {H H' : Hp} {t : Addr} {T : TillD} (s : Same H H') : TillIs d H t T → TillIs d H' t T := fun ⟨dx, fs, p, vl, rl, va, ra, h1, h2, h3, h4, h5, h6, h7, h8, h9, h10⟩ =>
 ⟨dx, fs, p, vl, rl, va, ra, s _ _ h1, h2, h3, h4, h5, s _ _ h6, s _ _ h7, h8.mono fun a V h => h.same s, s _ _ h9, h10.mono fun a r h => s _ _ h⟩
structure kdi (T : TillD) : Prop where
 vs : ∀ V ∈ T.vs, VchOk T.ps V
 nv : T.vs.length ≤ 8
def WayAt (d : D) (m : Nat) (H : Hp) (w t b x : Addr) (hand : List Int) (used : List Nat) : Prop := ∃ (dx : Addr) (fs : List (Str × V)) (h u : Addr), H w = some (.ins d.c_Way dx fs) ∧ fs.lookup ("till" : Str) = some (.ref t) ∧ fs.lookup ("basket" : Str) = some (.ref b) ∧ fs.lookup ("hand" : Str) = some (.ref h) ∧ fs.lookup ("used" : Str) = some (.ref u) ∧ fs.lookup ("standing" : Str) = some (.ref x) ∧
 fs.lookup ("word_for" : Str) = none ∧ fs.lookup ("behind" : Str) = none ∧ fs.lookup ("is_let_by" : Str) = none ∧ fs.lookup ("followers" : Str) = none ∧ fs.length ≤ m ∧ H h = some (.lst (hand.map V.int)) ∧ H u = some (.lst (used.map iV))
abbrev WayIs (d : D) (H : Hp) (w t b x : Addr) (hand : List Int) (used : List Nat) : Prop := WayAt d 7 H w t b x hand used
theorem WayAt.most {d : D} {m m' : Nat} {H : Hp} {w t b x : Addr} {hand : List Int} {used : List Nat} (hm : m ≤ m') : WayAt d m H w t b x hand used → WayAt d m' H w t b x hand used := fun ⟨dx, fs, h, u, h1, h2, h3, h4, h5, h6, h7, h8, h9, h10, h11, h12, h13⟩ =>
 ⟨dx, fs, h, u, h1, h2, h3, h4, h5, h6, h7, h8, h9, h10, CN h11 hm, h12, h13⟩
theorem WayAt.same {d : D} {m : Nat} {H H' : Hp} {w t b x : Addr} {hand : List Int} {used : List Nat} (s : Same H H') : WayAt d m H w t b x hand used → WayAt d m H' w t b x hand used := fun ⟨dx, fs, h, u, h1, h2, h3, h4, h5, h6, h7, h8, h9, h10, h11, h12, h13⟩ =>
 ⟨dx, fs, h, u, s _ _ h1, h2, h3, h4, h5, h6, h7, h8, h9, h10, h11, s _ _ h12, s _ _ h13⟩
def nevR (used : List Nat) (n : Nat) (r : Rul) : Bool := decide (r.w = ("never" : Str)) && ((decide (r.a = n) && used.contains r.b) || (decide (r.b = n) && used.contains r.a))
def keH (rs : List Rul) (used : List Nat) (n : Nat) : Bool := rs.any (nevR used n)
def ahdR (used : List Nat) (n : Nat) (r : Rul) : Bool := decide (r.w = ("ahead" : Str)) && (decide (r.a = n) && used.contains r.b)
def keQ (rs : List Rul) (used : List Nat) (n : Nat) : Bool := rs.any (ahdR used n)
def loneM (order : List Nat) (r : Rul) : Bool := decide (r.w = ("only" : Str)) && (order.contains r.a && !order.contains r.b)
def onlyM (rs : List Rul) (order : List Nat) : Option Nat := (rs.find? (loneM order)).map Rul.a
def sV : Option Str → V
 | none => .non
 | some z => .str z
def wordM (V : Vch) (rs : List Rul) (hand : List Int) (used : List Nat) (n : Nat) : Option Str :=
 if hand.getD n 0 < (used.count n : Int) + 1 then some "held" else if (V.ms.once && used.contains n) = true then some "once" else if keH rs used n = true then some "never" else if keQ rs used n = true then some "ahead" else none
def dueM (V : Vch) (T : TillD) (B : Bask) (hand : List Int) (used : List Nat) (S : Stnd) (n : Nat) : L2.V := match wordM V T.rs hand used n with
 | some z => .str z
 | none => hindM V T.ps B S
theorem kcL {n : Nat} : ∀ (l : List Nat), inV (iV n) (l.map iV) = l.contains n
 | [] => rfl
 | m :: l => by
  have ih := kcL (n := n) l
  unfold inV at ih ⊢
  rw [C1, RZ, ih, List.contains_cons]
  congr 1
  show eqV (V.int (m : Int)) (V.int (n : Int)) = (n == m)
  by_cases h : n = m
  ·subst h
   simp [eqV]
  ·have h1 : ¬ ((m : Int) = (n : Int)) := by omega
   have e2 : (n == m) = false := beq_eq_false_iff_ne.mpr h
   rw [e2]
   simp [eqV, h1]
theorem kkX (l : List Nat) (n : Nat) : (l.map fun (i : Nat) => (i : Int)).count (n : Int) = l.count n := by
 induction l with
 | nil => rfl
 | cons m l ih =>
  rw [C1, Tc, Tc, ih]
  congr 1
  by_cases h : m = n
  ·subst h; simp
  ·have h1 : ¬ ((m : Int) = (n : Int)) := by omega
   have e1 : ((m : Int) == (n : Int)) = false := beq_eq_false_iff_ne.mpr h1
   have e2 : (m == n) = false := beq_eq_false_iff_ne.mpr h
   rw [e1, e2]
theorem kgW (a b : Nat) : decide (iV a = iV b) = decide (a = b) := by
 by_cases h : a = b
 ·subst h; simp
 ·have n : ¬ (iV a = iV b) := fun e => h (by have := V.int.inj e; omega)
  rw [decide_eq_false h, decide_eq_false n]
theorem eq_str (a b : Str) : decide (V.str a = V.str b) = decide (a = b) := by
 by_cases h : a = b
 ·subst h; simp
 ·have n : ¬ (V.str a = V.str b) := fun e => h (V.str.inj e)
  rw [decide_eq_false h, decide_eq_false n]
section
variable {P : Program} {w : World} {K : CA} {mg : Str → Option Value} {base : Heap} {d : D}
theorem Xc : kaq ["parents", "one", "other", "kind"] ["parents", "one", "other"] (kab kb8) := ⟨rfl, rfl, rfl, by decide +kernel, rfl, by decide +kernel, by decide +kernel⟩
theorem kje (W : WB K mg d base) : FnOk P w K mg base CX0 1 d.Xx d.Xy ["parents", "one", "other"] (kke K) := by
 refine FunD.ok W.Qb.F Xc (fun vs H Q E h => ?_) (fun cdv A outer s H vs Q E hr h => ?_)
 ·obtain ⟨a, ps, one, other, rfl, _⟩ := h
  rfl
 ·obtain ⟨a, ps, one, other, rfl, hS, hg, ho, k⟩ := h
  refine ⟨_, kae (kax (i := 3) Xc.nd rfl (Or.inl rfl) (pv 1))
   (kae (kgy PassesOwn.never (kaA kcF (pv 3) kbN (kaN _))
   (kae (ps_if (kaA op_eq (pv 3) (pv 2) (kaN _)) (kaj (kat pe_bl)) (kaB))
   (kaj (kax (i := 3) Xc.nd rfl (Or.inl rfl) (pe_ix (r := rIxL K) kbx (pv 0) (pv 3) (fun _ _ => rfl))))))
   (kaj (kat pe_bl))), ?_⟩
  refine ⟨_, rfl, ?_⟩
  refine kgp (fun σ H' => ∃ o : Option Nat, σ = [some (.ref a), some (.int one), some (.int other), some (pV o)] ∧ H' = H ∧ (∀ i, o = some i → i < ps.length) ∧ decide (other ∈ up ps one) = decide (other ∈ rest ps o))
   (fun σ _ => match σ with | [_, _, _, some (.int i)] => i.toNat + 1 | _ => 0) ⟨some one, rfl, rfl, fun i e => by cases e; exact ho, rfl⟩ ?_ ?_
  ·rintro σ H' ⟨o, rfl, rfl, hb, he⟩
   refine ⟨_, rfl, rfl, _, rfl, ?_⟩
   cases o with
   | none =>
    show if (!decide (V.non = V.non)) = true then _ else _
    rw [kjP]
    refine iteF ?_
    show Q (.bl false) _
    have e : decide (other ∈ up ps one) = false := by rw [he]; simp [Kin.rest]
    rw [e] at k
    exact k
   | some i =>
    show if (!decide (V.int i = V.non)) = true then _ else _
    rw [kjQ]
    refine iteT ?_
    have hi := hb i rfl
    refine ⟨_, rfl, _, rfl, rfl, _, rfl, ?_⟩
    show if decide (V.int i = V.int other) = true then _ else _
    rw [eq_int]
    obtain ⟨o, eo⟩ : ∃ o, ps[i]? = some o := ⟨ps[i], by simp [hi]⟩
    refine ite2 (fun h => ?_) (fun h => ?_)
    ·have h' : i = other := of_decide_eq_true h
     subst h'
     have e : decide (i ∈ up ps one) = true := by
      rw [he]
      show decide (i ∈ up ps i) = true
      rw [up_eq hg eo]
      simp
     rw [e] at k
     exact k
    ·have h' : ¬ i = other := fun z => h (decide_eq_true z)
     refine ⟨_, rfl, _, rfl, a, _, _, pV o, rfl, rfl, hS, kbK (by simp [eo]), ?_⟩
     refine ⟨⟨o, rfl, rfl, fun j e => ?_, ?_⟩, ?_⟩
     ·subst e
      have := hg i j eo
      omega
     ·rw [he]
      show decide (other ∈ up ps i) = _
      rw [up_eq hg eo]
      have : ¬ other = i := fun z => h' z.symm
      simp [this]
     ·cases o with
      | none => exact Nat.succ_pos _
      | some j =>
       have := hg i j eo
       show ((j : Int)).toNat + 1 < ((i : Int)).toNat + 1
       omega
  ·rintro σ H' Q' Q'' hq ⟨v, h1, h2, h3⟩
   exact ⟨v, h1, h2, by obtain ⟨b, e, q⟩ := h3; exact ⟨b, e, hq _ _ q⟩⟩
theorem qy : kaq ["cut", "weights", "total", "parts", "reached", "given", "weight", "share"] ["cut", "weights"] (kab kca) := ⟨rfl, rfl, rfl, by decide +kernel, rfl, by decide +kernel, by decide +kernel⟩
theorem kjf (W : WB K mg d base) : FnOk P w K mg base CX0 1 d.Xv d.Xw ["cut", "weights"] (kkn K) := by
 refine FunD.ok W.qG.F qy (fun vs H Q E h => ?_) (fun cdv A outer s H vs Q E hr h => ?_)
 ·obtain ⟨c, a, ws, rfl, _⟩ := h
  rfl
 ·obtain ⟨c, a, ws, rfl, hS, hn, hs, hc0, hc1, hl, k⟩ := h
  refine ⟨_, kae (kax (i := 2) qy.nd rfl (Or.inl rfl) (kaE (kct rfl) (by rfl) W.B.sum b_sum (kaa (pv 1) kah)))
   (kae (ps_if (kaA op_eq (pv 2) kai (kaN _)) (kaj (kat (kbO (N := ["weight"]) (CompScope.plain rfl (by decide +kernel) (by decide +kernel) (by decide +kernel) (nd1 _)) rfl (kby (pv 1)) (fun _ _ _ _ => kas (i := 0) (nd1 _) rfl (Or.inl rfl)) (fun _ _ _ _ => kai)))) (kaB))
   (kae (kax (i := 3) qy.nd rfl (Or.inl rfl) (kbG kah))
   (kae (kax (i := 4) qy.nd rfl (Or.inl rfl) kai)
   (kae (kax (i := 5) qy.nd rfl (Or.inl rfl) kai)
   (kae (kbT PassesOwn.never rfl (kby (pv 1)) (kas (i := 6) qy.nd rfl (Or.inl rfl))
   (kae (klg (i := 4) qy.nd rfl (Or.inl rfl) (pv 6) kjU)
   (kae (kax (i := 7) qy.nd rfl (Or.inl rfl) (pe_op kjd (pe_op kcf (pv 0) (pv 4)) (pv 2)))
   (kae (kbC (pe_bm Ri Rz RA kbE (pv 3) (kaa (pe_op kfy (pv 7) (pv 5)) kah)))
   (kaj (kax (i := 5) qy.nd rfl (Or.inl rfl) (pv 7)))))))
   (kaj (kat (pv 3)))))))), ?_⟩
  refine ⟨_, rfl, a, ws, rfl, hS, _, rfl, rfl, _, rfl, ?_⟩
  refine ite2 (fun h => ?_) (fun h => ?_)
  ·have h0 : ws.sum = 0 := by
    have e : V.int ws.sum = V.int 0 := of_decide_eq_true h
    injection e
   refine ⟨_, rfl, a, rfl, ⟨_, hS⟩, kbF (xs := ws.map V.int) (fun i σ ys H' => H' = H ∧ ys = CI i (V.int 0) ∧ ∃ v, σ = [v]) ⟨rfl, rfl, none, rfl⟩ ?_ ?_ ?_ ?_⟩
   ·rw [Cz]
    exact CY (kau hl)
   ·rintro i σ ys H' hi ⟨rfl, rfl, v, rfl⟩
    exact ⟨hS, by simp⟩
   ·rintro i x σ ys H' hx ⟨rfl, rfl, v, rfl⟩
    exact ⟨rfl, by rw [Sa], _, rfl⟩
   ·rintro σ ys H' ⟨rfl, rfl, v, rfl⟩ D hD
    have := k D hD
    rw [kji h0] at this
    rw [Cz]
    exact this
  ·have h0 : ¬ ws.sum = 0 := fun e => h (by rw [e]; simp)
   have hpos : 0 < ws.sum := by
    have := kco hn
    omega
   refine ⟨by decide, fun p hp => ?_⟩
   have s1 : ∀ o, Same H (upd H p o) := fun o => kak hp
   refine ⟨_, rfl, a, rfl, ⟨_, (s1 _).seq hS⟩, kb4 (K := K) (a := a) (xs := ws.map V.int) (fun i σ H' => H' = upd H p (.lst (((CP i).map (part c ws)).map V.int)) ∧
    ∃ (v6 v7 : Option V), σ = [some (.int c), some (.ref a), some (.int ws.sum), some (.ref p), some (.int (pre ws i)), some (.int (c * pre ws i / ws.sum)), v6, v7])
    ⟨rfl, none, none, by simp [ki7]; rfl⟩ (fun i σ H' _ ⟨e, _⟩ => by rw [e]; exact (s1 _).seq hS) ?_ ?_⟩
   ·rintro i x σ H' hi ⟨rfl, v6, v7, rfl⟩
    have hil : i < (ws.map V.int).length := (CZ.mp hi).1
    rw [Cz] at hil
    obtain ⟨z, ez, rfl⟩ : ∃ z, ws[i]? = some z ∧ x = V.int z := by
     rw [CV] at hi
     cases e : ws[i]? with
     | none => rw [e] at hi; cases hi
     | some z => rw [e] at hi; exact ⟨z, rfl, (Option.some.inj hi).symm⟩
    have ep := kdS ez
    refine ⟨_, rfl, _, rfl, _, _, rfl, rfl, ?_⟩
    refine ⟨_, rfl, _, rfl, _, _, rfl, rfl, .inl ⟨by omega, by omega⟩, _, rfl, _, _, rfl, rfl, ⟨hpos, by omega⟩, ?_⟩
    refine ⟨_, rfl, .inl ⟨rfl, _, SqL.of kad⟩, _, rfl, _, rfl, _, _, rfl, rfl, p, _, _, rfl, rfl, kad, kau (by simp; omega), ?_⟩
    refine ⟨_, rfl, ?_, some (.int z), some (.int (c * (pre ws i + z) / ws.sum)), ?_⟩
    ·rw [kj3, RT, CU, CU]
     show upd H p (.lst (_ ++ [V.int (c * (pre ws i + z) / ws.sum - c * pre ws i / ws.sum)])) = upd H p (.lst (_ ++ [V.int (part c ws i)]))
     unfold part
     rw [ep]
    ·rw [ep]
     rfl
   ·rintro σ H' ⟨rfl, v6, v7, rfl⟩
    refine ⟨_, rfl, ?_⟩
    have := k p hp
    rw [kh9 h0] at this
    rw [Cz]
    exact this
theorem keZ : kaq ["self", "kind", "needs", "most", "member", "once", "lone"] ["self", "kind", "needs", "most", "member", "once", "lone"] (kab kar) := ⟨rfl, rfl, rfl, by decide +kernel, rfl, by decide +kernel, by decide +kernel⟩
theorem kdb (W : WB K mg d base) : FnOk P w K mg base CX0 1 d.Y5 d.qA ["self", "kind", "needs", "most", "member", "once", "lone"] (kgr d.qg) := by
 refine FunD.ok W.QG.F keZ (fun vs H Q E h => ?_) (fun cdv A outer s H vs Q E hr h => ?_)
 ·obtain ⟨x, dx, M, rfl, _⟩ := h
  rfl
 ·obtain ⟨x, dx, M, rfl, hx, k⟩ := h
  refine ⟨_, kae (kba (pv 0) (pv 1) rfl)
   (kae (kba (pv 0) (pv 2) rfl)
   (kae (kba (pv 0) (pv 3) rfl)
   (kae (kba (pv 0) (pv 4) rfl)
   (kae (kba (pv 0) (pv 5) rfl)
   (kaj (kba (pv 0) (pv 6) rfl)))))), ?_⟩
  refine ⟨_, rfl, _, rfl, x, d.qg, dx, [], rfl, hx, W.qg.cl, W.n_Marks_kind, by decide, ?_⟩
  refine ⟨_, rfl, _, rfl, x, d.qg, dx, _, rfl, kad, W.qg.cl, W.n_Marks_needs, few (CN (kao (n := 0) (CC _)) (by decide)), ?_⟩
  refine ⟨_, rfl, _, rfl, x, d.qg, dx, _, rfl, kad, W.qg.cl, W.n_Marks_most, few (CN (kao (kao (n := 0) (CC _))) (by decide)), ?_⟩
  refine ⟨_, rfl, _, rfl, x, d.qg, dx, _, rfl, kad, W.qg.cl, W.n_Marks_member, few (CN (kao (kao (kao (n := 0) (CC _)))) (by decide)), ?_⟩
  refine ⟨_, rfl, _, rfl, x, d.qg, dx, _, rfl, kad, W.qg.cl, W.n_Marks_once, few (CN (kao (kao (kao (kao (n := 0) (CC _))))) (by decide)), ?_⟩
  refine ⟨_, rfl, _, rfl, x, d.qg, dx, _, rfl, kad, W.qg.cl, W.n_Marks_lone, few (CN (kao (kao (kao (kao (kao (n := 0) (CC _)))))) (by decide)), ?_⟩
  refine k _ (But.trans (But.trans (But.trans (But.trans (But.trans kaz kaz) kaz) kaz) kaz) kaz) ⟨dx, _, kad, ?_, ?_, ?_, ?_, ?_, ?_⟩ <;> (repeat (first | rw [kac, if_pos rfl] | rw [kac, if_neg (by decide +kernel)]))
theorem kd2 : kaq ["self", "marks"] ["self", "marks"] (kab kaL) := ⟨rfl, rfl, rfl, by decide +kernel, rfl, by decide +kernel, by decide +kernel⟩
theorem kbP (W : WB K mg d base) : FnOk P w K mg base CX0 3 d.QT d.QU ["self", "marks"] (kg6 K d.qg) := by
 refine FunD.ok W.qt.F kd2 (fun vs H Q E h => ?_) (fun cdv A outer s H vs Q E hr h => ?_)
 ·obtain ⟨x, C, dx, fs, mv, rfl, _⟩ := h
  rfl
 ·obtain ⟨x, C, dx, fs, mv, rfl, hx, hC, hN, hl, hm, k⟩ := h
  have Xd := kdb (P := P) (w := w) (base := base) W
  refine ⟨_, kaj (kba (pv 0) (kgD (kaA kfA (pv 1) kbN (kaN _)) (ki8 (W.QG.mk' W.qg) Xd hr rfl W.qg.m W.b6_Marks_init (show Vals [.non, .int 0, .non, .bl false, .bl false, .bl false] [.none, .int 0 d.tok1_Marks_init, .none, .bool false, .bool false, .bool false] from (.cons rfl (.cons ⟨_, rfl⟩ (.cons rfl (.cons rfl (.cons rfl (.cons rfl .nil))))))) pass0) (pv 1)) rfl), ?_⟩
  rcases hm with rfl | ⟨mA, rfl⟩
  ·refine ⟨_, rfl, rfl, _, rfl, iteT ?_⟩
   refine kgL (M := mks0) fun H1 mA s1 f1 hM => ?_
   refine ⟨_, rfl, x, C, dx, fs, rfl, s1 _ _ hx, hC, hN, by omega, ?_⟩
   have hne : mA ≠ x := (kal hx f1).symm
   refine k _ mA ((But.of_same s1).trans (kaz (nx (s1 _ _ hx)))) (.inr ⟨rfl, f1, ?_⟩) kad
   exact hM.but hne (kaz (nx (s1 _ _ hx)))
  ·refine ⟨_, rfl, rfl, _, rfl, iteF ?_⟩
   refine ⟨_, rfl, _, rfl, x, C, dx, fs, rfl, hx, hC, hN, by omega, ?_⟩
   exact k _ mA kaz (.inl rfl) kad
theorem kf4 : kaq ["self", "amount", "marks"] ["self", "amount", "marks"] (kab kbs) := ⟨rfl, rfl, rfl, by decide +kernel, rfl, by decide +kernel, by decide +kernel⟩
theorem kf8 (W : WB K mg d base) : FnOk P w K mg base CX0 4 d.Y6 d.QV ["self", "amount", "marks"] (kdC d.c_Off d.qg (fun so => ∃ (a : Int), so = .off a)) := by
 refine FunD.ok W.Q1.F kf4 (fun vs H Q E h => ?_) (fun cdv A outer s H vs Q E hr h => ?_)
 ·obtain ⟨x, dx, so, mv, ⟨a, rfl⟩, rfl, _⟩ := h
  rfl
 ·obtain ⟨x, dx, so, mv, ⟨a, rfl⟩, rfl, hx, hm, k⟩ := h
  have qz := kbP (P := P) (w := w) (base := base) W
  refine ⟨_, kae (kbC (kd4 W.q_Voucher_init qz hr rfl W.qx.m W.qt.F.kp W.qt.b .nil pass0 (kaa (pv 0) (kaa (pv 2) kah))))
   (kaj (kba (pv 0) (pv 1) rfl)), ?_⟩
  refine ⟨_, rfl, _, rfl, x, d.c_Off, dx, [], mv, rfl, hx, W.c_Off.cl, W.n_Off_marks, by decide, hm, fun H1 mA b1 hM h1 => ?_⟩
  refine ⟨_, rfl, _, rfl, x, d.c_Off, dx, _, rfl, h1, W.c_Off.cl, W.n_Off_amount, few (CN (kao (n := 0) (CC _)) (by decide)), ?_⟩
  refine k _ mA _ (b1.trans kaz) ?_ kad ?_ ?_
  ·exact hM.but hx kaz
  ·(repeat (first | rw [kac, if_pos rfl] | rw [kac, if_neg (by decide +kernel)]))
  ·show RE _ _ = _
   (repeat (first | rw [kac, if_pos rfl] | rw [kac, if_neg (by decide +kernel)]))
theorem keY : kaq ["self", "share", "by_line", "marks"] ["self", "share", "by_line", "marks"] (kab kaM) := ⟨rfl, rfl, rfl, by decide +kernel, rfl, by decide +kernel, by decide +kernel⟩
theorem kfb (W : WB K mg d base) : FnOk P w K mg base CX0 4 d.Y7 d.q9 ["self", "share", "by_line", "marks"] (kdC d.qk d.qg (fun so => ∃ (sh : Int) (bb : Bool), so = .share sh bb)) := by
 refine FunD.ok W.Q2.F keY (fun vs H Q E h => ?_) (fun cdv A outer s H vs Q E hr h => ?_)
 ·obtain ⟨x, dx, so, mv, ⟨sh, bb, rfl⟩, rfl, _⟩ := h
  rfl
 ·obtain ⟨x, dx, so, mv, ⟨sh, bb, rfl⟩, rfl, hx, hm, k⟩ := h
  have qz := kbP (P := P) (w := w) (base := base) W
  refine ⟨_, kae (kbC (kd4 W.q_Voucher_init qz hr rfl W.qx.m W.qt.F.kp W.qt.b .nil pass0 (kaa (pv 0) (kaa (pv 3) kah))))
   (kae (kba (pv 0) (pv 1) rfl)
   (kaj (kba (pv 0) (pv 2) rfl))), ?_⟩
  refine ⟨_, rfl, _, rfl, x, d.qk, dx, [], mv, rfl, hx, W.qk.cl, W.n_Share_marks, by decide, hm, fun H1 mA b1 hM h1 => ?_⟩
  refine ⟨_, rfl, _, rfl, x, d.qk, dx, _, rfl, h1, W.qk.cl, W.n_Share_share, few (CN (kao (n := 0) (CC _)) (by decide)), ?_⟩
  refine ⟨_, rfl, _, rfl, x, d.qk, dx, _, rfl, kad, W.qk.cl, W.n_Share_by_line, few (CN (kao (kao (n := 0) (CC _))) (by decide)), ?_⟩
  refine k _ mA _ ((b1.trans kaz).trans kaz) ?_ kad ?_ ?_
  ·exact hM.but hx (But.trans kaz kaz)
  ·(repeat (first | rw [kac, if_pos rfl] | rw [kac, if_neg (by decide +kernel)]))
  ·exact ⟨by (repeat (first | rw [kac, if_pos rfl] | rw [kac, if_neg (by decide +kernel)])), by (repeat (first | rw [kac, if_pos rfl] | rw [kac, if_neg (by decide +kernel)]))⟩
theorem kdK : kaq ["self", "many", "marks"] ["self", "many", "marks"] (kab kaF) := ⟨rfl, rfl, rfl, by decide +kernel, rfl, by decide +kernel, by decide +kernel⟩
theorem kdP (W : WB K mg d base) : FnOk P w K mg base CX0 4 d.Y8 d.QW ["self", "many", "marks"] (kdC d.qm d.qg (fun so => ∃ (n : Int), so = .cheap n)) := by
 refine FunD.ok W.Q3.F kdK (fun vs H Q E h => ?_) (fun cdv A outer s H vs Q E hr h => ?_)
 ·obtain ⟨x, dx, so, mv, ⟨n, rfl⟩, rfl, _⟩ := h
  rfl
 ·obtain ⟨x, dx, so, mv, ⟨n, rfl⟩, rfl, hx, hm, k⟩ := h
  have qz := kbP (P := P) (w := w) (base := base) W
  refine ⟨_, kae (kbC (kd4 W.q_Voucher_init qz hr rfl W.qx.m W.qt.F.kp W.qt.b .nil pass0 (kaa (pv 0) (kaa (pv 2) kah))))
   (kaj (kba (pv 0) (pv 1) rfl)), ?_⟩
  refine ⟨_, rfl, _, rfl, x, d.qm, dx, [], mv, rfl, hx, W.qm.cl, W.n_Cheapest_marks, by decide, hm, fun H1 mA b1 hM h1 => ?_⟩
  refine ⟨_, rfl, _, rfl, x, d.qm, dx, _, rfl, h1, W.qm.cl, W.n_Cheapest_many, few (CN (kao (n := 0) (CC _)) (by decide)), ?_⟩
  refine k _ mA _ (b1.trans kaz) ?_ kad ?_ ?_
  ·exact hM.but hx kaz
  ·(repeat (first | rw [kac, if_pos rfl] | rw [kac, if_neg (by decide +kernel)]))
  ·show RE _ _ = _
   (repeat (first | rw [kac, if_pos rfl] | rw [kac, if_neg (by decide +kernel)]))
theorem kev : kaq ["self", "many", "price", "marks"] ["self", "many", "price", "marks"] (kab kaV) := ⟨rfl, rfl, rfl, by decide +kernel, rfl, by decide +kernel, by decide +kernel⟩
theorem keC (W : WB K mg d base) : FnOk P w K mg base CX0 4 d.Y9 d.QX ["self", "many", "price", "marks"] (kdC d.ql d.qg (fun so => ∃ (n : Int) (pp : Int), so = .bund n pp)) := by
 refine FunD.ok W.Q4.F kev (fun vs H Q E h => ?_) (fun cdv A outer s H vs Q E hr h => ?_)
 ·obtain ⟨x, dx, so, mv, ⟨n, pp, rfl⟩, rfl, _⟩ := h
  rfl
 ·obtain ⟨x, dx, so, mv, ⟨n, pp, rfl⟩, rfl, hx, hm, k⟩ := h
  have qz := kbP (P := P) (w := w) (base := base) W
  refine ⟨_, kae (kbC (kd4 W.q_Voucher_init qz hr rfl W.qx.m W.qt.F.kp W.qt.b .nil pass0 (kaa (pv 0) (kaa (pv 3) kah))))
   (kae (kba (pv 0) (pv 1) rfl)
   (kaj (kba (pv 0) (pv 2) rfl))), ?_⟩
  refine ⟨_, rfl, _, rfl, x, d.ql, dx, [], mv, rfl, hx, W.ql.cl, W.n_Bundle_marks, by decide, hm, fun H1 mA b1 hM h1 => ?_⟩
  refine ⟨_, rfl, _, rfl, x, d.ql, dx, _, rfl, h1, W.ql.cl, W.n_Bundle_many, few (CN (kao (n := 0) (CC _)) (by decide)), ?_⟩
  refine ⟨_, rfl, _, rfl, x, d.ql, dx, _, rfl, kad, W.ql.cl, W.n_Bundle_price, few (CN (kao (kao (n := 0) (CC _))) (by decide)), ?_⟩
  refine k _ mA _ ((b1.trans kaz).trans kaz) ?_ kad ?_ ?_
  ·exact hM.but hx (But.trans kaz kaz)
  ·(repeat (first | rw [kac, if_pos rfl] | rw [kac, if_neg (by decide +kernel)]))
  ·exact ⟨by (repeat (first | rw [kac, if_pos rfl] | rw [kac, if_neg (by decide +kernel)])), by (repeat (first | rw [kac, if_pos rfl] | rw [kac, if_neg (by decide +kernel)]))⟩
theorem kdL : kaq ["self", "marks"] ["self", "marks"] (kab kaG) := ⟨rfl, rfl, rfl, by decide +kernel, rfl, by decide +kernel, by decide +kernel⟩
theorem kdQ (W : WB K mg d base) : FnOk P w K mg base CX0 4 d.Za d.QY ["self", "marks"] (kdC d.qo d.qg (fun so => so = .carr)) := by
 refine FunD.ok W.Q5.F kdL (fun vs H Q E h => ?_) (fun cdv A outer s H vs Q E hr h => ?_)
 ·obtain ⟨x, dx, so, mv, rfl, rfl, _⟩ := h
  rfl
 ·obtain ⟨x, dx, so, mv, rfl, rfl, hx, hm, k⟩ := h
  have qz := kbP (P := P) (w := w) (base := base) W
  refine ⟨_, kaj (kbC (kd4 W.q_Voucher_init qz hr rfl W.qx.m W.qt.F.kp W.qt.b .nil pass0 (kaa (pv 0) (kaa (pv 1) kah)))), ?_⟩
  refine ⟨_, rfl, _, rfl, x, d.qo, dx, [], mv, rfl, hx, W.qo.cl, W.n_Carriage_marks, by decide, hm, fun H1 mA b1 hM h1 => ?_⟩
  refine k _ mA _ b1 hM h1 ?_ trivial
  (repeat (first | rw [kac, if_pos rfl] | rw [kac, if_neg (by decide +kernel)]))
theorem kfv : kaq ["self", "kind", "price", "many", "special"] ["self", "kind", "price", "many", "special"] (kab kbg) := ⟨rfl, rfl, rfl, by decide +kernel, rfl, by decide +kernel, by decide +kernel⟩
theorem kfG (W : WB K mg d base) : FnOk P w K mg base CX0 1 d.Zb d.QZ ["self", "kind", "price", "many", "special"] (khF d.qe) := by
 refine FunD.ok W.Q6.F kfv (fun vs H Q E h => ?_) (fun cdv A outer s H vs Q E hr h => ?_)
 ·obtain ⟨x, dx, r, rfl, _⟩ := h
  rfl
 ·obtain ⟨x, dx, r, rfl, hx, k⟩ := h
  refine ⟨_, kae (kba (pv 0) (pv 1) rfl)
   (kae (kba (pv 0) (pv 2) rfl)
   (kae (kba (pv 0) (pv 3) rfl)
   (kaj (kba (pv 0) (pv 4) rfl)))), ?_⟩
  refine ⟨_, rfl, _, rfl, x, d.qe, dx, [], rfl, hx, W.qe.cl, W.n_Line_kind, by decide, ?_⟩
  refine ⟨_, rfl, _, rfl, x, d.qe, dx, _, rfl, kad, W.qe.cl, W.n_Line_price, few (CN (kao (n := 0) (CC _)) (by decide)), ?_⟩
  refine ⟨_, rfl, _, rfl, x, d.qe, dx, _, rfl, kad, W.qe.cl, W.n_Line_many, few (CN (kao (kao (n := 0) (CC _))) (by decide)), ?_⟩
  refine ⟨_, rfl, _, rfl, x, d.qe, dx, _, rfl, kad, W.qe.cl, W.n_Line_special, few (CN (kao (kao (kao (n := 0) (CC _)))) (by decide)), ?_⟩
  refine k _ (But.trans (But.trans (But.trans kaz kaz) kaz) kaz) ⟨dx, _, kad, ?_, ?_, ?_, ?_⟩
  ·rw [kac, if_neg (by decide +kernel), kac, if_neg (by decide +kernel), kac, if_neg (by decide +kernel), kac, if_pos rfl]
  ·rw [kac, if_neg (by decide +kernel), kac, if_neg (by decide +kernel), kac, if_pos rfl]
  ·rw [kac, if_neg (by decide +kernel), kac, if_pos rfl]
  ·rw [kac, if_pos rfl]
theorem kew : kaq ["self", "lines", "carriage", "member"] ["self", "lines", "carriage", "member"] (kab kaH) := ⟨rfl, rfl, rfl, by decide +kernel, rfl, by decide +kernel, by decide +kernel⟩
theorem keD (W : WB K mg d base) : FnOk P w K mg base CX0 1 d.Zc d.Qa ["self", "lines", "carriage", "member"] (khK K d.qh) := by
 refine FunD.ok W.Q7.F kew (fun vs H Q E h => ?_) (fun cdv A outer s H vs Q E hr h => ?_)
 ·obtain ⟨x, dx, l, cg, m, xs, rfl, _⟩ := h
  rfl
 ·obtain ⟨x, dx, l, cg, m, xs, rfl, hx, hl, k⟩ := h
  refine ⟨_, kae (kba (pv 0) (kbM kbB (by rfl) W.B.list kcx (kaa (pv 1) kah)) rfl)
   (kae (kba (pv 0) (pv 2) rfl)
   (kaj (kba (pv 0) (pv 3) rfl))), ?_⟩
  refine ⟨_, rfl, l, _, rfl, .inl hl, fun l' hl' => ?_⟩
  have s1 := kak (o := .lst xs) hl'
  have nlx : l' ≠ x := fun e => by
   rw [e, hx] at hl'
   cases hl'
  refine ⟨_, rfl, x, d.qh, dx, [], rfl, s1 _ _ hx, W.qh.cl, W.n_Basket_lines, by decide, ?_⟩
  refine ⟨_, rfl, _, rfl, x, d.qh, dx, _, rfl, kad, W.qh.cl, W.n_Basket_carriage, few (CN (kao (n := 0) (CC _)) (by decide)), ?_⟩
  refine ⟨_, rfl, _, rfl, x, d.qh, dx, _, rfl, kad, W.qh.cl, W.n_Basket_member, few (CN (kao (kao (n := 0) (CC _))) (by decide)), ?_⟩
  refine k _ l' ((((But.of_same s1).trans kaz).trans kaz).trans kaz) hl' ?_ ⟨dx, _, kad, ?_, ?_, ?_⟩
  ·rw [kam nlx, kam nlx, kam nlx, kad]
  ·rw [kac, if_neg (by decide +kernel), kac, if_neg (by decide +kernel), kac, if_pos rfl]
  ·rw [kac, if_neg (by decide +kernel), kac, if_pos rfl]
  ·rw [kac, if_pos rfl]
theorem kdm : kaq ["line", "member"] ["line", "member"] (kab kaO) := ⟨rfl, rfl, rfl, by decide +kernel, rfl, by decide +kernel, by decide +kernel⟩
theorem kdt (W : WB K mg d base) : FnOk P w K mg base CX0 1 d.Xz d.XA ["line", "member"] (kkh d.qe) := by
 refine FunD.ok W.Qc.F kdm (fun vs H Q E h => ?_) (fun cdv A outer s H vs Q E hr h => ?_)
 ·obtain ⟨x, m, r, rfl, _⟩ := h
  rfl
 ·obtain ⟨x, m, r, rfl, ⟨dx, fs, hx, lk, lp, lm, ls⟩, k⟩ := h
  refine ⟨_, kae (ps_if (PW.pt (kch (kbH (pv 1)) (kcc (kaA kcF (kap (pv 0) rfl) kbN (kaN _))))) (kaj (kat (kap (pv 0) rfl))) (kaB))
   (kaj (kat (kap (pv 0) rfl))), ?_⟩
  refine ⟨_, rfl, m, rfl, ?_⟩
  cases m with
  | false =>
   refine iteF (iteF ⟨_, rfl, x, d.qe, dx, fs, _, rfl, hx, W.qe.cl, W.n_Line_price, lp, ?_⟩)
   exact k
  | true =>
   refine iteT ⟨_, rfl, x, d.qe, dx, fs, _, rfl, hx, W.qe.cl, W.n_Line_special, ls, rfl, _, rfl, ?_⟩
   cases e : r.ex with
   | none =>
    rw [e] at ls
    show if (!decide (V.non = V.non)) = true then _ else _
    rw [show (!decide (V.non = V.non)) = false by simp]
    refine iteF ⟨_, rfl, x, d.qe, dx, fs, _, rfl, hx, W.qe.cl, W.n_Line_price, lp, ?_⟩
    have ep : prc true r = r.pr := by
     unfold prc
     rw [if_pos rfl, e]
     rfl
    rw [ep] at k
    exact k
   | some z =>
    rw [e] at ls
    show if (!decide (V.int z = V.non)) = true then _ else _
    rw [show (!decide (V.int z = V.non)) = true by simp]
    refine iteT ⟨_, rfl, x, d.qe, dx, fs, _, rfl, hx, W.qe.cl, W.n_Line_special, ls, ?_⟩
    have ep : prc true r = z := by
     unfold prc
     rw [if_pos rfl, e]
     rfl
    rw [ep] at k
    exact k
theorem QH : kaq ["self", "basket", "number", "line", "price"] ["self", "basket"] (kab ka0) := ⟨rfl, rfl, rfl, by decide +kernel, rfl, by decide +kernel, by decide +kernel⟩
theorem kcd (W : WB K mg d base) : FnOk P w K mg base CX0 2 d.Zd d.Ze ["self", "basket"] (kdR d.qe d.qh d.qc) := by
 refine FunD.ok W.qQ.F QH (fun vs H Q E h => ?_) (fun cdv A outer s H vs Q E hr h => ?_)
 ·obtain ⟨x, dx, b, l, cg, m, ls, rs, rfl, _⟩ := h
  rfl
 ·obtain ⟨x, dx, b, l, cg, m, ls, rs, rfl, hx, ⟨dxb, fsb, hb, lbl, lbc, lbm⟩, hl, hL, hn, hok, k⟩ := h
  have Va := kdt (P := P) (w := w) (base := base) W
  refine ⟨_, kae (kba (pv 0) (kbG kah) rfl)
   (kae (kba (pv 0) (kbG kah) rfl)
   (kae (kba (pv 0) (kap (pv 1) rfl) rfl)
   (kae (kba (pv 0) (kbG kah) rfl)
   (kaj (kbT PassesOwn.never rfl (kf6 rfl W.B.enum (kaa (kap (pv 1) rfl) kah)) (kcR rfl (kaI (kas (i := 2) QH.nd rfl (Or.inl rfl)) (kaI (kas (i := 3) QH.nd rfl (Or.inl rfl)) kbR)))
   (kae (kax (i := 4) QH.nd rfl (Or.inl rfl) (kan Va hr rfl W.Qc.m W.Qc.F.kp W.Qc.b .nil pass0 (kaa (pv 3) (kaa (kap (pv 1) rfl) kah))))
   (kae (kbC (pe_bm Ri TF TH kfI (kap (pv 0) rfl) (kaa (pe_op kjO (kbG (kaa (pv 2) kah)) (kap (pv 3) rfl)) kah)))
   (kae (kbC (pe_bm Ri TF TH kfI (kap (pv 0) rfl) (kaa (pe_op kjO (kbG (kaa (pv 4) kah)) (kap (pv 3) rfl)) kah)))
   (kaj (kbC (pe_bm Ri Rz RA kbE (kap (pv 0) rfl) (kaa pe_bl kah)))))))))))), ?_⟩
  have nbx : b ≠ x := ne_of hb hx (by
   intro z
   injection z with _ _ z
   rw [z] at lbl
   cases lbl)
  have nlx : l ≠ x := ne_of hl hx (by intro z; cases z)
  refine ⟨by decide, fun o ho => ?_⟩
  have nox : o ≠ x := (kal hx ho).symm
  refine ⟨_, rfl, x, d.qc, dx, [], rfl, kak ho _ _ hx, W.qc.cl, W.n_Standing_owners, by decide, ?_⟩
  have b1 : But x H (upd (upd H o (.lst [])) x (.ins d.qc dx (putF "owners" (.ref o) []))) := (But.of_same (kak ho)).trans kaz
  refine ⟨by decide, fun p hp => ?_⟩
  have npx : p ≠ x := fun e => by
   rw [e, kad] at hp
   cases hp
  have nop : o ≠ p := fun e => by
   rw [← e, kam nox, kad] at hp
   cases hp
  have hp0 : H p = none := by
   cases e : H p with
   | none => rfl
   | some u =>
    obtain ⟨u', e'⟩ := kfg (b1 p u npx e)
    rw [e'] at hp
    cases hp
  refine ⟨_, rfl, x, d.qc, dx, _, rfl, kak hp _ _ kad, W.qc.cl, W.n_Standing_prices, few (CN (kao (n := 0) (CC _)) (by decide)), ?_⟩
  have b2 := (b1.same (kak (o := .lst []) hp)).trans (kaz (o := .ins d.qc dx (putF "prices" (.ref p) (putF "owners" (.ref o) []))))
  refine ⟨_, rfl, b, d.qh, dxb, fsb, _, rfl, b2 b _ nbx hb, W.qh.cl, W.n_Basket_carriage, lbc, _, rfl, x, d.qc, dx, _, rfl, kad, W.qc.cl, W.n_Standing_carriage, few (CN (kao (kao (n := 0) (CC _))) (by decide)), ?_⟩
  have b3 := b2.trans (kaz (o := .ins d.qc dx (putF "carriage" (.int cg) (putF "prices" (.ref p) (putF "owners" (.ref o) [])))))
  refine ⟨by decide, fun mk hm => ?_⟩
  have nmx : mk ≠ x := fun e => by
   rw [e, kad] at hm
   cases hm
  have hm0 : H mk = none := by
   cases e : H mk with
   | none => rfl
   | some u =>
    obtain ⟨u', e'⟩ := kfg (b3 mk u nmx e)
    rw [e'] at hm
    cases hm
  have nom : o ≠ mk := fun e => by
   rw [← e, kam nox, kam nox, kam nop, kam nox, kad] at hm
   cases hm
  have npm : p ≠ mk := fun e => by
   rw [← e, kam npx, kam npx, kad] at hm
   cases hm
  refine ⟨_, rfl, x, d.qc, dx, _, rfl, kak hm _ _ kad, W.qc.cl, W.n_Standing_marked, few (CN (kao (kao (kao (n := 0) (CC _)))) (by decide)), ?_⟩
  have b4 := (b3.same (kak (o := .lst []) hm)).trans (kaz (o := .ins d.qc dx (putF "marked" (.ref mk) (putF "carriage" (.int cg) (putF "prices" (.ref p) (putF "owners" (.ref o) []))))))
  have Di : Ds H x o p mk := ⟨ho, hp0, hm0, nox, npx, nmx, nop, nom, npm⟩
  have Z0 : S3 H x d.qc dx (putF "marked" (.ref mk) (putF "carriage" (.int cg) (putF "prices" (.ref p) (putF "owners" (.ref o) [])))) o p mk [] [] [] (upd (upd (upd (upd (upd (upd (upd H o (.lst [])) x (.ins d.qc dx (putF "owners" (.ref o) []))) p (.lst [])) x (.ins d.qc dx (putF "prices" (.ref p) (putF "owners" (.ref o) []))))
    x (.ins d.qc dx (putF "carriage" (.int cg) (putF "prices" (.ref p) (putF "owners" (.ref o) []))))) mk (.lst [])) x (.ins d.qc dx (putF "marked" (.ref mk) (putF "carriage" (.int cg) (putF "prices" (.ref p) (putF "owners" (.ref o) [])))))) := by
   refine ⟨b4, kad, ?_, ?_, ?_⟩
   ·rw [kam nox, kam nom, kam nox, kam nox, kam nop, kam nox, kad]
   ·rw [kam npx, kam npm, kam npx, kam npx, kad]
   ·rw [kam nmx, kad]
  have l1 : (putF "marked" (.ref mk) (putF "carriage" (.int cg) (putF "prices" (.ref p) (putF "owners" (.ref o) [])))).lookup ("owners" : Str) = some (.ref o) := by
   rw [kac, if_neg (by decide +kernel), kac, if_neg (by decide +kernel), kac, if_neg (by decide +kernel), kac, if_pos rfl]
  have l2 : (putF "marked" (.ref mk) (putF "carriage" (.int cg) (putF "prices" (.ref p) (putF "owners" (.ref o) [])))).lookup ("prices" : Str) = some (.ref p) := by
   rw [kac, if_neg (by decide +kernel), kac, if_neg (by decide +kernel), kac, if_pos rfl]
  have l3 : (putF "marked" (.ref mk) (putF "carriage" (.int cg) (putF "prices" (.ref p) (putF "owners" (.ref o) [])))).lookup ("carriage" : Str) = some (.int cg) := by
   rw [kac, if_neg (by decide +kernel), kac, if_pos rfl]
  have l4 : (putF "marked" (.ref mk) (putF "carriage" (.int cg) (putF "prices" (.ref p) (putF "owners" (.ref o) [])))).lookup ("marked" : Str) = some (.ref mk) := by
   rw [kac, if_pos rfl]
  have l5 : (putF "marked" (.ref mk) (putF "carriage" (.int cg) (putF "prices" (.ref p) (putF "owners" (.ref o) [])))).lookup ("whole" : Str) = none := by
   rw [kac, if_neg (by decide +kernel), kac, if_neg (by decide +kernel), kac, if_neg (by decide +kernel), kac, if_neg (by decide +kernel)]
   rfl
  have lfs : (putF "marked" (.ref mk) (putF "carriage" (.int cg) (putF "prices" (.ref p) (putF "owners" (.ref o) [])))).length ≤ 10 := CN (kao (kao (kao (kao (n := 0) (CC _))))) (by decide)
  generalize putF "marked" (.ref mk) (putF "carriage" (.int cg) (putF "prices" (.ref p) (putF "owners" (.ref o) []))) = fs at *
  generalize (upd (upd (upd (upd (upd (upd (upd H o (.lst [])) x (.ins d.qc dx (putF "owners" (.ref o) []))) p (.lst [])) x (.ins d.qc dx (putF "prices" (.ref p) (putF "owners" (.ref o) []))))
    x (.ins d.qc dx (putF "carriage" (.int cg) (putF "prices" (.ref p) (putF "owners" (.ref o) []))))) mk (.lst [])) x (.ins d.qc dx fs)) = Hs at *
  refine ⟨_, rfl, b, d.qh, dxb, fsb, _, rfl, Z0.bt b _ nbx hb, W.qh.cl, W.n_Basket_lines, lbl, l, _, rfl, Z0.bt l _ nlx hl, kgU (xs := ls.map V.ref) (fun i σ H' => (∃ v2 v3 v4 : Option V, σ = [some (.ref x), some (.ref b), v2, v3, v4]) ∧
   S3 H x d.qc dx fs o p mk ((own (rs.take i)).map V.int) ((prs m (rs.take i)).map V.int) (CI i (.bl false)) H') ⟨⟨none, none, none, rfl⟩, Z0⟩ (fun i σ H' _ ⟨_, Z⟩ => Z.bt l _ nlx hl) ?_ ?_⟩
  ·rintro i y t σ H1 hy ⟨⟨v2, v3, v4, rfl⟩, Z⟩ ht
   have hll := hL.len
   have hil : i < (ls.map V.ref).length := (CZ.mp hy).1
   rw [Cz] at hil
   obtain ⟨lx, el, rfl⟩ : ∃ lx, ls[i]? = some lx ∧ y = V.ref lx := by
    rw [CV] at hy
    cases e : ls[i]? with
    | none => rw [e] at hy; cases hy
    | some z => rw [e] at hy; exact ⟨z, rfl, (Option.some.inj hy).symm⟩
   obtain ⟨r, er⟩ : ∃ r, rs[i]? = some r := ⟨rs[i]'(by omega), by simp [show i < rs.length by omega]⟩
   have hr' : r.Ok := hok r (CT er)
   obtain ⟨dxl, fsl, hlx, lk1, lk2, lk3, lk4⟩ := hL.get el er
   have nlxx : lx ≠ x := ne_of hlx hx (by
    intro z
    injection z with _ _ z
    rw [z] at lk1
    cases lk1)
   have hmn0 := hr'.mn0
   have hmn1 := hr'.mn1
   have Z1 := Z.same (kak (o := .tup [.int (i : Nat), V.ref lx]) ht)
   have lo1 : ((own (rs.take i)).map V.int).length ≤ 720 := by
    rw [Cz]
    have := kh0 (rs.take i) fun r hr => hok r (SN hr)
    rw [C0] at this
    omega
   have lp1 : ((prs m (rs.take i)).map V.int).length ≤ 720 := by
    rw [Cz]
    have := khT m (rs.take i) fun r hr => hok r (SN hr)
    rw [C0] at this
    omega
   refine ⟨t, _, rfl, SqT.of kad, rfl, _, _, rfl, _, _, rfl, rfl, ?_⟩
   refine ⟨_, rfl, _, rfl, b, d.qh, dxb, fsb, _, rfl, Z1.bt b _ nbx hb, W.qh.cl, W.n_Basket_member, lbm, lx, m, r, rfl, ⟨dxl, fsl, Z1.bt lx _ nlxx hlx, lk1, lk2, lk3, lk4⟩, ?_⟩
   refine ⟨_, rfl, x, d.qc, dx, fs, _, rfl, Z1.ob, W.qc.cl, W.n_Standing_owners, l1, .inl ⟨rfl, _, SqL.of Z1.ho⟩, _, rfl, (by show 1 ≤ sizeLine; decide), fun t1 ht1 => ?_⟩
   have Z2 := Z1.same (kak (o := .lst [V.int (i : Nat)]) ht1)
   refine ⟨_, rfl, lx, d.qe, dxl, fsl, _, rfl, Z2.bt lx _ nlxx hlx, W.qe.cl, W.n_Line_many, lk3, t1, _, _, rfl, rfl, kad, by omega, by omega, CY (kau (by simp; omega)), fun t2 ht2 => ?_⟩
   have Z3 := Z2.same (kak (o := .lst (CI r.mn.toNat [V.int (i : Nat)]).flatten) ht2)
   refine ⟨o, t2, _, _, rfl, rfl, Z3.ho, kad, CY (kau (by rw [rep1, Ro]; omega)), ?_⟩
   have Z4 := Z3.setO (d := (own (rs.take i)).map V.int ++ (CI r.mn.toNat [V.int (i : Nat)]).flatten) Di
   refine ⟨_, rfl, x, d.qc, dx, fs, _, rfl, Z4.ob, W.qc.cl, W.n_Standing_prices, l2, .inl ⟨rfl, _, SqL.of Z4.hp⟩, _, rfl, (by show 1 ≤ sizeLine; decide), fun t3 ht3 => ?_⟩
   have Z5 := Z4.same (kak (o := .lst [V.int (prc m r)]) ht3)
   refine ⟨_, rfl, lx, d.qe, dxl, fsl, _, rfl, Z5.bt lx _ nlxx hlx, W.qe.cl, W.n_Line_many, lk3, t3, _, _, rfl, rfl, kad, by omega, by omega, CY (kau (by simp; omega)), fun t4 ht4 => ?_⟩
   have Z6 := Z5.same (kak (o := .lst (CI r.mn.toNat [V.int (prc m r)]).flatten) ht4)
   refine ⟨p, t4, _, _, rfl, rfl, Z6.hp, kad, CY (kau (by rw [rep1, Ro]; omega)), ?_⟩
   have Z7 := Z6.setP (d := (prs m (rs.take i)).map V.int ++ (CI r.mn.toNat [V.int (prc m r)]).flatten) Di
   refine ⟨_, rfl, x, d.qc, dx, fs, _, rfl, Z7.ob, W.qc.cl, W.n_Standing_marked, l4, .inl ⟨rfl, _, SqL.of Z7.hm⟩, mk, _, _, rfl, rfl, Z7.hm, kau (by simp; omega), ?_⟩
   have Z8 := Z7.setM (d := CI i (V.bl false) ++ [V.bl false]) Di
   refine ⟨⟨_, _, _, rfl⟩, ?_⟩
   have e1 : (own (rs.take i)).map V.int ++ (CI r.mn.toNat [V.int (i : Nat)]).flatten = (own (rs.take (i + 1))).map V.int := by
    rw [take_snoc er, kjb, CU, rep1, khO, C0, Sg (by omega)]
   have e2 : (prs m (rs.take i)).map V.int ++ (CI r.mn.toNat [V.int (prc m r)]).flatten = (prs m (rs.take (i + 1))).map V.int := by
    rw [take_snoc er, ki6, CU, rep1, khO]
   have e3 : CI i (V.bl false) ++ [V.bl false] = CI (i + 1) (V.bl false) := by rw [Sa]
   rw [← e1, ← e2, ← e3]
   exact Z8
  ·rintro σ H' ⟨⟨v2, v3, v4, rfl⟩, Z⟩
   have hll := hL.len
   have e : (ls.map V.ref).length = rs.length := by rw [Cz, hll]
   rw [e, Rh] at Z
   exact k H' o p mk Z.bt ho hp0 hm0 ⟨dx, fs, Z.ob, l1, l2, l3, l4, l5⟩ Z.ho Z.hp Z.hm ⟨dx, fs, Z.ob, lfs⟩
theorem kdp : kaq ["self"] ["self"] (kab kaT) := ⟨rfl, rfl, rfl, by decide +kernel, rfl, by decide +kernel, by decide +kernel⟩
theorem kdy (W : WB K mg d base) : FnOk P w K mg base CX0 1 d.Zf d.Zg ["self"] (kkc d.qc) := by
 refine FunD.ok W.Q8.F kdp (fun vs H Q E h => ?_) (fun cdv A outer s H vs Q E hr h => ?_)
 ·obtain ⟨x, o, p, mk, cg, ns, rfl, _⟩ := h
  rfl
 ·obtain ⟨x, o, p, mk, cg, ns, rfl, ⟨dx, fs, hx, l1, l2, l3, l4, l5⟩, hp, k⟩ := h
  refine ⟨_, kaj (kat (pe_op ka1 (kaE (kct rfl) (by rfl) W.B.sum b_sum (kaa (kap (pv 0) rfl) kah)) (kap (pv 0) rfl))), ?_⟩
  exact ⟨_, rfl, x, d.qc, dx, fs, _, rfl, hx, W.qc.cl, W.n_Standing_prices, l2, p, ns, rfl, SqL.of hp, _, rfl, x, d.qc, dx, fs, _, rfl, hx, W.qc.cl, W.n_Standing_carriage, l3, _, _, rfl, rfl, k⟩
def kla (K : CA) (CM : Addr) : Sp := fun vs H Q _ => ∃ (mA a : Addr) (M : Mks) (ps : List (Option Nat)) (kn : Nat) (mk : Bool), vs = [.ref mA, .ref a, .int kn, .bl mk] ∧ MksIs CM H mA M ∧ SqL K H a (ps.map pV) ∧ Good ps ∧ kn < ps.length ∧ Q (.bl (kHit ps M.kind kn && (!M.lone || !mk))) H
theorem kks : kaq ["marks", "parents", "kind", "marked"] ["marks", "parents", "kind", "marked"] (kab kcA) := ⟨rfl, rfl, rfl, by decide +kernel, rfl, by decide +kernel, by decide +kernel⟩
theorem kkE (W : WB K mg d base) : FnOk P w K mg base CX0 2 d.XD d.XE ["marks", "parents", "kind", "marked"] (kla K d.qg) := by
 refine FunD.ok W.Qd.F kks (fun vs H Q E h => ?_) (fun cdv A outer s H vs Q E hr h => ?_)
 ·obtain ⟨mA, a, M, ps, kn, mk, rfl, _⟩ := h
  rfl
 ·obtain ⟨mA, a, M, ps, kn, mk, rfl, ⟨dx, fs, hm, l1, l2, l3, l4, l5, l6⟩, hS, hg, hk, k⟩ := h
  have Vb := kje (P := P) (w := w) (base := base) W
  refine ⟨_, kae (kcQ (ps_if (PW.pt (kch (kbH (kap (pv 0) rfl)) (kcc (kbH (pv 3))))) (kaj (kat pe_bl)) (kaB)))
   (kaj (kat (pe_or (kci kfA (kap (pv 0) rfl) kbN (kaN _)) (khX (kan Vb hr rfl W.Qb.m W.Qb.F.kp W.Qb.b .nil pass0 (kaa (pv 1) (kaa (pv 2) (kaa (kap (pv 0) rfl) kah)))))))), ?_⟩
  refine ⟨fun σ' H' => σ' = [some (.ref mA), some (.ref a), some (.int kn), some (.bl mk)] ∧ H' = H ∧ (!M.lone || !mk) = true, ⟨_, rfl, mA, d.qg, dx, fs, _, rfl, hm, W.qg.cl, W.n_Marks_lone, l6, M.lone, rfl, ?_⟩, ?_⟩
  ·cases e : M.lone with
   | false => exact iteF (iteF ⟨rfl, rfl, rfl⟩)
   | true =>
    refine iteT ⟨_, rfl, mk, rfl, ?_⟩
    cases mk with
    | false => exact iteF ⟨rfl, rfl, rfl⟩
    | true =>
     refine iteT ?_
     rw [e, show (kHit ps M.kind kn && (!true || !true)) = false by simp] at k
     exact k
  ·rintro σ' H' ⟨rfl, rfl, hh⟩
   rw [hh, Bool.and_true] at k
   cases ek : M.kind with
   | none =>
    rw [ek] at l1 k
    refine ⟨_, rfl, mA, d.qg, dx, fs, _, rfl, hm, W.qg.cl, W.n_Marks_kind, l1, rfl, _, rfl, ?_⟩
    show if decide (V.non = V.non) = true then _ else _
    rw [show decide (V.non = V.non) = true by simp]
    exact iteT k
   | some kk =>
    rw [ek] at l1 k
    refine ⟨_, rfl, mA, d.qg, dx, fs, _, rfl, hm, W.qg.cl, W.n_Marks_kind, l1, rfl, _, rfl, ?_⟩
    show if decide (V.int (kk : Nat) = V.non) = true then _ else _
    rw [show decide (V.int (kk : Nat) = V.non) = false by simp]
    exact iteF ⟨_, rfl, _, rfl, _, rfl, mA, d.qg, dx, fs, _, rfl, hm, W.qg.cl, W.n_Marks_kind, l1, a, ps, kn, kk, rfl, hS, hg, hk, k⟩
theorem Zs : kaq ["voucher", "parents", "basket", "standing", "fitting"] ["voucher", "parents", "basket", "standing"] (kab kbZ) := ⟨rfl, rfl, rfl, by decide +kernel, rfl, by decide +kernel, by decide +kernel⟩
theorem kgH (W : WB K mg d base) : FnOk P w K mg base CX0 3 d.XB d.XC ["voucher", "parents", "basket", "standing"] (kkq K d) := by
 refine FunD.ok W.qH.F Zs (fun vs H Q E h => ?_) (fun cdv A outer s H vs Q E hr h => ?_)
 ·obtain ⟨v, a, b, x, V, ps, B, S, rfl, _⟩ := h
  rfl
 ·obtain ⟨v, a, b, x, Vc, ps, B, S, rfl, hV, hA, hB, hS, wf, vo, k⟩ := h
  obtain ⟨mA, dxv, fsv, hv, lvm, _, hM, hh, htb⟩ := id hV
  obtain ⟨l, ls, ⟨dxb, fsb, hb, lb1, lb2, lb3⟩, hl, hL⟩ := id hB
  obtain ⟨o, p, mk, ⟨dxs, fss, hx, l1, l2, l3, l4, l5⟩, ho, hp, hmk⟩ := id hS
  have Vd := kkE (P := P) (w := w) (base := base) W
  refine ⟨_, kae (kax (i := 4) Zs.nd rfl (Or.inr rfl) (kbO (N := ["line", "marked", "voucher", "parents"]) (CompScope.of (N := ["line", "marked", "voucher", "parents"]) (cap := [none, none, some 0, some 1]) (kab kbZ).names ["voucher", "parents", "basket", "standing", "fitting"] rfl rfl (by decide +kernel)) rfl (kc0 rfl W.B.zip (kaa (kap (pv 2) rfl) (kaa (kap (pv 3) rfl) kah))) (fun _ _ _ _ => kc1 (K := K) (n := 2) rfl (kaI (kas (i := 0) (show (["line", "marked", "voucher", "parents"] : List Str).Nodup by decide +kernel) rfl (Or.inl rfl)) (kaI (kas (i := 1) (show (["line", "marked", "voucher", "parents"] : List Str).Nodup by decide +kernel) rfl (Or.inl rfl)) kbR))) (fun _ _ _ _ => (kan Vd hr rfl W.Qd.m W.Qd.F.kp W.Qd.b .nil pass0 (kaa (kcu (K := K) (pv 2) rfl) (kaa (pv 3) (kaa (kcu (K := K) (pv 0) rfl) (kaa (pv 1) kah))))))))
   (kaj (kat (kja (N := ["piece", "owner", "fitting"]) (CompScope.of (N := ["piece", "owner", "fitting"]) (cap := [none, none, some 4]) (kab kbZ).names ["voucher", "parents", "basket", "standing", "fitting"] rfl rfl (by decide +kernel)) rfl (kf6 rfl W.B.enum (kaa (kap (pv 3) rfl) kah)) (fun _ _ _ _ => kc1 (K := K) (n := 2) rfl (kaI (kas (i := 0) (show (["piece", "owner", "fitting"] : List Str).Nodup by decide +kernel) rfl (Or.inl rfl)) (kaI (kas (i := 1) (show (["piece", "owner", "fitting"] : List Str).Nodup by decide +kernel) rfl (Or.inl rfl)) kbR))) (fun _ _ _ _ => kkC (kbH (pe_ix (r := rIxL K) kbx (pv 2) (pv 1) (fun _ _ => rfl)))) (fun _ _ _ _ => (pv 0))))), ?_⟩
  have np := wf.np
  have nl := wf.nl
  have lenL := hL.len
  have lenM := wf.lm
  have emin : min (ls.map V.ref).length (S.mkd.map V.bl).length = B.rs.length := by rw [Cz, Cz, lenL, lenM, RQ]
  refine ⟨_, rfl, b, d.qh, dxb, fsb, _, rfl, hb, W.qh.cl, W.n_Basket_lines, lb1, _, rfl, x, d.qc, dxs, fss, _, rfl, hx, W.qc.cl, W.n_Standing_marked, l4, l, mk, _, _, rfl, hl, hmk,
   kdV (xs := ls.map V.ref) (ys := S.mkd.map V.bl) (fun i σ zs H' => Same H H' ∧ zs = ((CP i).map fun l => hits ps (kds B) Vc.ms.kind Vc.ms.lone S.mkd l).map V.bl ∧ ∃ v0 v1 : Option V, σ = [v0, v1, some (.ref v), some (.ref a)])
    ⟨Same.refl _, rfl, none, none, rfl⟩ (by rw [emin]; exact CY (kau (by omega))) (fun i σ zs H' _ h => ⟨h.1 _ _ hl, h.1 _ _ hmk, by rw [h.2.1]; simp⟩) ?_ ?_⟩
  ·rintro i y m t σ zs H1 hy hm ⟨s1, rfl, v0, v1, rfl⟩ ht
   obtain ⟨lx, elx, rfl⟩ := kb0 hy
   obtain ⟨mv, emv, rfl⟩ := kb6 hm
   obtain ⟨r, er, hr⟩ := hL.at elx
   have s2 := s1.trans (kak (o := .tup [V.ref lx, V.bl mv]) ht)
   obtain ⟨dxl, fsl, hlx, lk1, _⟩ := hr.same s2
   have hkd := wf.kd r (CT er)
   obtain ⟨kn, ekn⟩ := Int.eq_ofNat_of_zero_le hkd.1
   have hkn : kn < ps.length := by omega
   refine ⟨t, _, rfl, SqT.of kad, rfl, _, _, rfl, _, _, rfl, rfl, ?_⟩
   refine ⟨_, rfl, v, clsOf d Vc.so, dxv, fsv, _, rfl, s2 _ _ hv, cl_of W hh, na_of W hh, lvm, _, rfl, _, rfl, lx, d.qe, dxl, fsl, _, rfl, hlx, W.qe.cl, W.n_Line_kind, lk1, _, rfl, mA, a, Vc.ms, ps, kn, mv, by rw [ekn]; rfl, hM.same s2, s2.seq hA, wf.good, hkn, s2, ?_, _, _, rfl⟩
   have e1 : hits ps (kds B) Vc.ms.kind Vc.ms.lone S.mkd i = (kHit ps Vc.ms.kind kn && (!Vc.ms.lone || !mv)) := by
    unfold hits
    have e2 : S.mkd.getD i false = mv := by rw [C5, emv]; rfl
    rw [e2, kls er, ekn, Int.toNat_natCast]
   rw [RT, CU, CU, ← e1]
   rfl
  rintro σ zs H1 ⟨s1, rfl, v0, v1, rfl⟩ D hD
  rw [emin]
  have s2 := s1.trans (kak (o := .lst (((CP B.rs.length).map fun l => hits ps (kds B) Vc.ms.kind Vc.ms.lone S.mkd l).map V.bl)) hD)
  have eD : (upd H1 D (.lst (((CP B.rs.length).map fun l => hits ps (kds B) Vc.ms.kind Vc.ms.lone S.mkd l).map V.bl))) D = some (.lst (((CP B.rs.length).map fun l => hits ps (kds B) Vc.ms.kind Vc.ms.lone S.mkd l).map V.bl)) := kad
  generalize upd H1 D (.lst (((CP B.rs.length).map fun l => hits ps (kds B) Vc.ms.kind Vc.ms.lone S.mkd l).map V.bl)) = H2 at *
  refine ⟨_, rfl, x, d.qc, dxs, fss, _, rfl, s2 _ _ hx, W.qc.cl, W.n_Standing_owners, l1, o, _, rfl, s2 _ _ ho,
   khp (xs := S.ow.map iV) (fun i σ ys H' => Same H2 H' ∧ ys = ((CP i).filter fun i => hits ps (kds B) Vc.ms.kind Vc.ms.lone S.mkd (S.ow.getD i 0)).map iV ∧ ∃ v0 v1 : Option V, σ = [v0, v1, some (.ref D)])
    ⟨Same.refl _, rfl, none, none, rfl⟩ (by rw [Cz]; exact CY (kau (by omega))) (fun i σ zs H' _ h => ⟨h.1 _ _ (s2 _ _ ho), by rw [h.2.1, Cz]; have := SG (fun i => hits ps (kds B) Vc.ms.kind Vc.ms.lone S.mkd (S.ow.getD i 0)) (CP i); simpa using this⟩) ?_ ?_⟩
  ·rintro i y t σ zs H3 hy ⟨s3, rfl, v0, v1, rfl⟩ ht
   obtain ⟨ln, eln, rfl⟩ := kb6 hy
   have hln := wf.line eln
   have s4 := s3.trans (kak (o := .tup [V.int (i : Nat), iV ln]) ht)
   refine ⟨t, _, rfl, SqT.of kad, rfl, _, _, rfl, _, _, rfl, rfl, ?_⟩
   refine ⟨_, rfl, _, rfl, D, _, _, _, rfl, rfl, SqL.of (s4 _ _ eD), kbK (v := .bl (hits ps (kds B) Vc.ms.kind Vc.ms.lone S.mkd ln)) (by rw [CV, CV, Sk hln]; rfl), _, rfl, ?_⟩
   have e1 : S.ow.getD i 0 = ln := by rw [C5, eln]; rfl
   have st := kjE (ps := ps) (kk := kds B) (kind := Vc.ms.kind) (lone := Vc.ms.lone) (S := S) (i := i)
   rw [e1] at st
   cases hh2 : hits ps (kds B) Vc.ms.kind Vc.ms.lone S.mkd ln with
   | false => exact iteF ⟨s4, by rw [st, hh2]; simp, _, _, rfl⟩
   | true => exact iteT ⟨_, rfl, s4, by rw [st, hh2, if_pos rfl, CU]; rfl, _, _, rfl⟩
  ·rintro σ zs H3 ⟨s3, rfl, v0, v1, rfl⟩ D2 hD2
   rw [Cz]
   have s4 := (s2.trans s3).trans (kak (o := .lst ((abt ps (kds B) Vc.ms.kind Vc.ms.lone S).map iV)) hD2)
   exact k _ D2 s4 (none_of (s2.trans s3) hD2) kad
def kg7 (CS : Addr) : Sp := fun vs H Q _ => ∃ (x g : Addr) (S : Stnd) (is : List Nat), vs = [.ref x, .ref g] ∧ StndIs CS H x S ∧ H g = some (.lst (is.map iV)) ∧ (∀ i ∈ is, i < S.pr.length) ∧ is.length ≤ 720 ∧
 ∀ p, H p = none → Q (.ref p) (upd H p (.lst ((qs S.pr is).map V.int)))
theorem kfr : kaq ["standing", "pieces"] ["standing", "pieces"] (kab kbo) := ⟨rfl, rfl, rfl, by decide +kernel, rfl, by decide +kernel, by decide +kernel⟩
theorem kdE (W : WB K mg d base) : FnOk P w K mg base CX0 1 d.X1 d.X2 ["standing", "pieces"] (kg7 d.qc) := by
 refine FunD.ok W.qL.F kfr (fun vs H Q E h => ?_) (fun cdv A outer s H vs Q E hr h => ?_)
 ·obtain ⟨x, g, S, is, rfl, _⟩ := h
  rfl
 ·obtain ⟨x, g, S, is, rfl, ⟨o, p, mk, ⟨dxs, fss, hx, l1, l2, l3, l4, l5⟩, ho, hp, hmk⟩, hg, hi, hl, k⟩ := h
  refine ⟨_, kaj (kat (kbO (N := ["piece", "standing"]) (CompScope.of (N := ["piece", "standing"]) (cap := [none, some 0]) (kab kbo).names ["standing", "pieces"] rfl rfl (by decide +kernel)) rfl (kby (pv 1)) (fun _ _ _ _ => kas (i := 0) (show (["piece", "standing"] : List Str).Nodup by decide +kernel) rfl (Or.inl rfl)) (fun _ _ _ _ => (pe_ix (r := rIxL K) kbx (kcu (K := K) (pv 1) rfl) (pv 0) (fun _ _ => rfl))))), ?_⟩
  refine ⟨_, rfl, g, rfl, ⟨_, SqL.of hg⟩, kbF (xs := is.map iV) (fun j σ ys H' => H' = H ∧ ys = (qs S.pr (is.take j)).map V.int ∧ ∃ v, σ = [v, some (.ref x)]) ⟨rfl, rfl, none, rfl⟩ ?_ ?_ ?_ ?_⟩
  ·rw [Cz]
   exact CY (kau (by omega))
  ·rintro j σ ys H' hj ⟨rfl, rfl, _⟩
   exact ⟨SqL.of hg, by rw [Cz, kcq, C0]; rw [Cz] at hj; omega⟩
  ·rintro j y σ ys H' hy ⟨rfl, rfl, v, rfl⟩
   obtain ⟨n, en, rfl⟩ : ∃ n, is[j]? = some n ∧ y = iV n := kb6 hy
   obtain ⟨z, ez⟩ := at_of (hi n (CT en))
   refine ⟨_, rfl, x, d.qc, dxs, fss, _, rfl, hx, W.qc.cl, W.n_Standing_prices, l2, _, rfl, p, _, _, _, rfl, rfl, SqL.of hp, kbK (by rw [CV, ez]; rfl), rfl, ?_, _, rfl⟩
   rw [RS, en]
   simp [qs, ez]
  ·rintro σ ys H' ⟨rfl, rfl, v, rfl⟩ D hD
   rw [Cz, Rh]
   exact k D hD
def kkg (CS : Addr) : Sp := fun vs H Q _ => ∃ (x g : Addr) (S : Stnd) (is : List Nat), vs = [.ref x, .ref g] ∧ StndIs CS H x S ∧ H g = some (.lst (is.map iV)) ∧ (∀ i ∈ is, i < S.pr.length) ∧ is.length ≤ 720 ∧
 ∀ H', Same H H' → Q (.int (qs S.pr is).sum) H'
theorem kdI : kaq ["standing", "pieces"] ["standing", "pieces"] (kab kaX) := ⟨rfl, rfl, rfl, by decide +kernel, rfl, by decide +kernel, by decide +kernel⟩
theorem kcC (W : WB K mg d base) : FnOk P w K mg base CX0 2 d.X3 d.X4 ["standing", "pieces"] (kkg d.qc) := by
 refine FunD.ok W.qp.F kdI (fun vs H Q E h => ?_) (fun cdv A outer s H vs Q E hr h => ?_)
 ·obtain ⟨x, g, S, is, rfl, _⟩ := h
  rfl
 ·obtain ⟨x, g, S, is, rfl, hS, hg, hi, hl, k⟩ := h
  have Xe := kdE (P := P) (w := w) (base := base) W
  refine ⟨_, kaj (kat (kaE (kct rfl) (by rfl) W.B.sum b_sum (kaa (kan Xe hr rfl W.qL.m W.qL.F.kp W.qL.b .nil pass0 (kaa (pv 0) (kaa (pv 1) kah))) kah))), ?_⟩
  exact ⟨_, rfl, _, rfl, x, g, S, is, rfl, hS, hg, hi, hl, fun p hp => ⟨p, _, rfl, SqL.of kad, k _ (kak hp)⟩⟩
theorem Xf : kaq ["voucher", "parents", "basket", "standing", "marks", "pieces"] ["voucher", "parents", "basket", "standing"] (kab kbu) := ⟨rfl, rfl, rfl, by decide +kernel, rfl, by decide +kernel, by decide +kernel⟩
theorem kfC (W : WB K mg d base) : FnOk P w K mg base CX0 4 d.XF d.XG ["voucher", "parents", "basket", "standing"] (kk9 K d) := by
 refine FunD.ok W.Qe.F Xf (fun vs H Q E h => ?_) (fun cdv A outer s H vs Q E hr h => ?_)
 ·obtain ⟨v, a, b, x, V, ps, B, S, rfl, _⟩ := h
  rfl
 ·obtain ⟨v, a, b, x, Vc, ps, B, S, rfl, hV, hA, hB, hS, wf, vo, k⟩ := h
  obtain ⟨mA, dxv, fsv, hv, lvm, _, hM, hh, htb⟩ := id hV
  obtain ⟨dxm, fsm, hm, m1, m2, m3, m4, m5, m6⟩ := id hM
  obtain ⟨l, ls, ⟨dxb, fsb, hb, lb1, lb2, lb3⟩, hl, hL⟩ := id hB
  have Xg := kgH (P := P) (w := w) (base := base) W
  have qV := kcC (P := P) (w := w) (base := base) W
  have hr2 : Room 2 _ := hr.mono (by decide)
  refine ⟨_, kae (kax (i := 4) Xf.nd rfl (Or.inl rfl) (kap (pv 0) rfl))
   (kae (kcQ (ps_if (PW.pt (kch (kbH (kap (pv 4) rfl)) (kcc (kdD (kbH (kap (pv 2) rfl)))))) (kaj (kat kce)) (kaB)))
   (kae (kax (i := 5) Xf.nd rfl (Or.inl rfl) (kan Xg hr rfl W.qH.m W.qH.F.kp W.qH.b .nil pass0 (kaa (pv 0) (kaa (pv 1) (kaa (pv 2) (kaa (pv 3) kah))))))
   (kae (ps_if (kaA op_eq (kaE ka2 (by rfl) W.B.len b_len (kaa (pv 5) kah)) kai (kaN _)) (kaj (kat kce)) (kaB))
   (kae (ps_if (kaA op_lt (kan qV hr2 rfl W.qp.m W.qp.F.kp W.qp.b .nil pass0 (kaa (pv 3) (kaa (pv 5) kah))) (kap (pv 4) rfl) (kaN _)) (kaj (kat kce)) (kaB))
   (kaj (kat kbN)))))), ?_⟩
  have np := wf.np
  have habl : ∀ i ∈ abt ps (kds B) Vc.ms.kind Vc.ms.lone S, i < S.pr.length := fun i hi => by rw [wf.lp]; exact kg4 hi
  have lab : (abt ps (kds B) Vc.ms.kind Vc.ms.lone S).length ≤ 720 := CN (ker _ _ _ _ _) np
  refine ⟨_, rfl, v, clsOf d Vc.so, dxv, fsv, _, rfl, hv, cl_of W hh, na_of W hh, lvm, ?_⟩
  refine ⟨fun σ' H' => σ' = [some (.ref v), some (.ref a), some (.ref b), some (.ref x), some (.ref mA), none] ∧ H' = H ∧ (Vc.ms.member && !B.m) = false, ⟨_, rfl, mA, d.qg, dxm, fsm, _, rfl, hm, W.qg.cl, W.n_Marks_member, m4, Vc.ms.member, rfl, ?_⟩, ?_⟩
  ·cases e : Vc.ms.member with
   | false => exact iteF (iteF ⟨rfl, rfl, rfl⟩)
   | true =>
    refine iteT ⟨_, rfl, b, d.qh, dxb, fsb, _, rfl, hb, W.qh.cl, W.n_Basket_member, lb3, B.m, rfl, ?_⟩
    cases e2 : B.m with
    | true => exact iteF ⟨rfl, rfl, rfl⟩
    | false =>
     refine iteT ?_
     have z := k H (Same.refl _)
     unfold hindM at z
     rw [e, e2, if_pos (by decide)] at z
     exact z
  ·rintro σ' H' ⟨rfl, rfl, hh2⟩
   refine ⟨_, rfl, _, rfl, _, rfl, _, rfl, v, a, b, x, Vc, ps, B, S, rfl, hV, hA, hB, hS, wf, vo, fun H1 pa s1 f1 h1 => ?_⟩
   refine ⟨_, rfl, pa, _, rfl, .inl (SqL.of h1), rfl, _, rfl, ?_⟩
   have ed : decide (V.int (((abt ps (kds B) Vc.ms.kind Vc.ms.lone S).map iV).length : Nat) = V.int 0) = decide ((abt ps (kds B) Vc.ms.kind Vc.ms.lone S).length = 0) := by
    rw [Cz]
    by_cases h0 : (abt ps (kds B) Vc.ms.kind Vc.ms.lone S).length = 0
    ·rw [h0]
     rfl
    ·rw [decide_eq_false h0]
     refine decide_eq_false fun z => h0 ?_
     injection z with z
     omega
   show if decide (V.int (((abt ps (kds B) Vc.ms.kind Vc.ms.lone S).map iV).length : Nat) = V.int 0) = true then _ else _
   rw [ed]
   by_cases h0 : (abt ps (kds B) Vc.ms.kind Vc.ms.lone S).length = 0
   ·rw [decide_eq_true h0]
    refine iteT ?_
    have z := k H1 s1
    unfold hindM at z
    rw [hh2, if_neg (by decide), if_pos h0] at z
    exact z
   ·rw [decide_eq_false h0]
    refine iteF ⟨_, rfl, _, rfl, x, pa, S, _, rfl, hS.same s1, h1, habl, lab, fun H2 s2 => ?_⟩
    have z := k H2 (s1.trans s2)
    unfold hindM at z
    rw [hh2, if_neg (by decide), if_neg h0] at z
    refine ⟨_, rfl, mA, d.qg, dxm, fsm, _, rfl, (s1.trans s2) _ _ hm, W.qg.cl, W.n_Marks_needs, m2, _, _, rfl, rfl, _, rfl, ?_⟩
    by_cases h2 : (qs S.pr (abt ps (kds B) Vc.ms.kind Vc.ms.lone S)).sum < Vc.ms.needs
    ·rw [if_pos h2] at z
     rw [decide_eq_true h2]
     exact iteT z
    ·rw [if_neg h2] at z
     rw [decide_eq_false h2]
     exact iteF z
def ki1 : Sp := fun vs H Q _ => ∃ (m : Option Int) (n : Int), vs = [oV m, .int n] ∧ Q (.int (atM m n)) H
theorem khc : kaq ["most", "number"] ["most", "number"] (kab kbL) := ⟨rfl, rfl, rfl, by decide +kernel, rfl, by decide +kernel, by decide +kernel⟩
theorem khh (W : WB K mg d base) : FnOk P w K mg base CX0 1 d.X5 d.X6 ["most", "number"] ki1 := by
 refine FunD.ok W.Qk.F khc (fun vs H Q E h => ?_) (fun cdv A outer s H vs Q E hr h => ?_)
 ·obtain ⟨m, n, rfl, _⟩ := h
  rfl
 ·obtain ⟨m, n, rfl, k⟩ := h
  refine ⟨_, kae (ps_if (kaA kfA (pv 0) kbN (kaN _)) (kaj (kat (pv 1))) (kaB))
   (kaj (kat (kaE (ken rfl) (by rfl) W.B.min b_min (kaa (pv 0) (kaa (pv 1) kah))))), ?_⟩
  cases m with
  | none =>
   refine ⟨_, rfl, rfl, _, rfl, ?_⟩
   show if decide (V.non = V.non) = true then _ else _
   rw [show decide (V.non = V.non) = true by simp]
   exact iteT ⟨_, rfl, k⟩
  | some z =>
   refine ⟨_, rfl, rfl, _, rfl, ?_⟩
   show if decide (V.int z = V.non) = true then _ else _
   rw [show decide (V.int z = V.non) = false by simp]
   refine iteF ⟨_, rfl, _, rfl, _, _, rfl, ?_⟩
   have e : atM (some z) n = if n < z then n else z := by
    show min z n = _
    split <;> omega
   rw [e] at k
   exact k
def khH (d : D) : Sp := fun vs H Q _ => ∃ (v x : Addr) (V : Vch) (S : Stnd), vs = [.ref v, .ref x] ∧ VchIs d H v V ∧ StndIs d.qc H x S ∧ Q (.int (if kb7 V.so = true then atM V.ms.most S.cg else 0)) H
theorem kc6 : kaq ["voucher", "standing"] ["voucher", "standing"] (kab kaK) := ⟨rfl, rfl, rfl, by decide +kernel, rfl, by decide +kernel, by decide +kernel⟩
theorem kcr (W : WB K mg d base) : FnOk P w K mg base CX0 2 d.XR d.XS ["voucher", "standing"] (khH d) := by
 refine FunD.ok W.qJ.F kc6 (fun vs H Q E h => ?_) (fun cdv A outer s H vs Q E hr h => ?_)
 ·obtain ⟨v, x, V, S, rfl, _⟩ := h
  rfl
 ·obtain ⟨v, x, Vc, S, rfl, ⟨mA, dxv, fsv, hv, lvm, _, ⟨dxm, fsm, hm, m1, m2, m3, m4, m5, m6⟩, hh, htb⟩, ⟨o, p, mk, ⟨dxs, fss, hx, l1, l2, l3, l4, l5⟩, ho, hp, hmk⟩, k⟩ := h
  have Ve := khh (P := P) (w := w) (base := base) W
  refine ⟨_, kae (ps_if (kbH (kaE kbJ (by rfl) W.B.isi b_isi (kaa (pv 0) (kaa (kdr (v := .ref d.qo) (by rfl) W.ZG rfl) kah)))) (kaj (kat (kan Ve hr rfl W.Qk.m W.Qk.F.kp W.Qk.b .nil pass0 (kaa (kap (kap (pv 0) rfl) rfl) (kaa (kap (pv 1) rfl) kah))))) (kaB))
   (kaj (kat kai)), ?_⟩
  have I := kjT W hh
  refine ⟨_, rfl, _, _, _, _, rfl, .inr ⟨_, rfl⟩, TyOf.ins hv (cl_of W hh) I.ha I.hn I.ht I.hm, kfL W hh, _, rfl, ?_⟩
  cases e : kb7 Vc.so with
  | false =>
   rw [e, if_neg CW] at k
   exact iteF k
  | true =>
   rw [e, if_pos rfl] at k
   exact iteT ⟨_, rfl, v, clsOf d Vc.so, dxv, fsv, _, rfl, hv, cl_of W hh, na_of W hh, lvm, mA, d.qg, dxm, fsm, _, rfl, hm, W.qg.cl, W.n_Marks_most, m3, _, rfl, x, d.qc, dxs, fss, _, rfl, hx, W.qc.cl, W.n_Standing_carriage, l3, _, _, rfl, k⟩
def kvOf (G : List (Nat × List Nat)) (gl : List Addr) : List (Key × V) := Rb (fun p r => (Sum.inl (p.1 : Int), V.ref r)) G gl
theorem kgP : ∀ {G : List (Nat × List Nat)} {gl : List Addr}, gl.length = G.length → (kvOf G gl).map Prod.snd = gl.map V.ref
 | [], [], _ => rfl
 | [], r :: gl, h => by cases h
 | p :: G, [], h => by cases h
 | p :: G, r :: gl, h => by
  have ih := kgP (G := G) (gl := gl) (by simpa using h)
  show V.ref r :: (kvOf G gl).map Prod.snd = V.ref r :: gl.map V.ref
  rw [ih]
theorem kgf : ∀ {G : List (Nat × List Nat)} {gl : List Addr} (o a : Nat), gl.length = G.length →
  (atK (kvOf G gl) (Sum.inl (o : Int)) = none ∧ ins G o a = G ++ [(o, [a])]) ∨ ∃ (j : Nat) (g : List Nat) (r : Addr), G[j]? = some (o, g) ∧ gl[j]? = some r ∧ atK (kvOf G gl) (Sum.inl (o : Int)) = some (.ref r) ∧ ins G o a = G.set j (o, g ++ [a])
 | [], gl, o, a, h => .inl ⟨rfl, rfl⟩
 | (l, g) :: G, [], o, a, h => by cases h
 | (l, g) :: G, r :: gl, o, a, h => by
  have hl : gl.length = G.length := by simpa using h
  unfold ins
  by_cases e : l = o
  ·subst e
   exact .inr ⟨0, g, r, rfl, rfl, by simp [kvOf, atK], by rw [if_pos rfl]; rfl⟩
  ·rw [if_neg e]
   have e' : ¬ ((l : Int) = (o : Int)) := fun z => e (by omega)
   have ea : atK (kvOf ((l, g) :: G) (r :: gl)) (Sum.inl (o : Int)) = atK (kvOf G gl) (Sum.inl (o : Int)) := by
    simp [kvOf, atK, Sh, e']
   rcases kgf o a hl with ⟨h1, h2⟩ | ⟨j, g', r', h1, h2, h3, h4⟩
   ·exact .inl ⟨by rw [ea]; exact h1, by rw [h2]; rfl⟩
   ·exact .inr ⟨j + 1, g', r', by simpa using h1, by simpa using h2, by rw [ea]; exact h3, by rw [h4]; rfl⟩
theorem kjm {G : List (Nat × List Nat)} {gl : List Addr} {j o : Nat} {g g' : List Nat} (h : G[j]? = some (o, g)) : kvOf (G.set j (o, g')) gl = kvOf G gl := by
 unfold kvOf
 apply List.ext_getElem?
 intro i
 rw [SM, SM]
 by_cases e : j = i
 ·subst e
  have hj := at_lt h
  rw [Sn hj, h]
  cases gl[j]? <;> rfl
 ·rw [So e]
theorem kii {G : List (Nat × List Nat)} {gl : List Addr} {o : Nat} {g : List Nat} {e : Addr} (h : gl.length = G.length) : kvOf (G ++ [(o, g)]) (gl ++ [e]) = kvOf G gl ++ [(Sum.inl (o : Int), .ref e)] := by
 unfold kvOf
 rw [List.zipWith_append h.symm]
 rfl
structure Ptd (H H' : Hp) (dd : Addr) (gl : List Addr) (G : List (Nat × List Nat)) : Prop where
 sm : Same H H'
 nd : gl.Nodup
 fg : ∀ r ∈ gl, H r = none ∧ r ≠ dd
 dk : H' dd = some (.dK (kvOf G gl))
 ls : P2 (fun r p => H' r = some (.lst (p.2.map iV))) gl G
theorem Ptd.more {H H' : Hp} {dd e : Addr} {gl : List Addr} {G : List (Nat × List Nat)} (h : Ptd H H' dd gl G) (fd : H dd = none) (he : H' e = none) {o a : Nat} :
  Ptd H (upd (upd (upd H' e (.lst [])) dd (.dK (kvOf G gl ++ [(Sum.inl (o : Int), .ref e)]))) e (.lst [iV a])) dd (gl ++ [e]) (G ++ [(o, [a])]) := by
 have e0 : H e = none := none_of h.sm he
 have ned : e ≠ dd := fun z => by rw [z, h.dk] at he; cases he
 refine ⟨kaw e0 (kaw fd (h.sm.trans (kak he)) (kcU (nx h.dk)))  (kcU (nx kad)), ?_, fun r hr => ?_, ?_, ?_⟩
 ·refine Tg.mpr ⟨h.nd, by simp, fun x hx y hy z => ?_⟩
  rw [RL] at hy
  subst hy z
  obtain ⟨i, hi⟩ := RU.mp hx
  obtain ⟨p, _, hp⟩ := h.ls.at hi
  rw [hp] at he
  cases he
 ·rcases Rk.mp hr with hr | hr
  ·exact h.fg r hr
  ·rw [RL] at hr
   subst hr
   exact ⟨e0, ned⟩
 ·rw [kam ned.symm, kad, kii h.ls.len]
 ·refine P2.snoc (P2.of h.ls.len fun i r p e1 e2 => ?_) kad
  have hp := h.ls.get e1 e2
  rw [kam (kal hp he), kam (h.fg r (CT e1)).2, kam (kal hp he)]
  exact hp
theorem Ptd.put {H H' : Hp} {dd e r : Addr} {gl : List Addr} {G : List (Nat × List Nat)} (h : Ptd H H' dd gl G) (he : H' e = none) {j o a : Nat} {g : List Nat} (h1 : G[j]? = some (o, g)) (h2 : gl[j]? = some r) :
  Ptd H (upd (upd H' e (.lst [])) r (.lst (g.map iV ++ [iV a]))) dd gl (G.set j (o, g ++ [a])) := by
 have hr := h.fg r (CT h2)
 have hrv := h.ls.get h2 h1
 refine ⟨kaw hr.1 (h.sm.trans (kak he)), h.nd, h.fg, ?_, P2.of (by rw [List.length_set]; exact h.ls.len) fun i r' p e1 e2 => ?_⟩
 ·rw [kam hr.2.symm, kam (kal h.dk he), h.dk, kjm h1]
 ·by_cases eji : j = i
  ·subst eji
   rw [h2] at e1
   cases e1
   rw [Sn (at_lt h1)] at e2
   cases e2
   rw [kad, CU]
   rfl
  ·rw [So eji] at e2
   have hp := h.ls.get e1 e2
   have hne : r' ≠ r := fun z => by
    subst z
    exact eji ((List.getElem?_inj (at_lt h2) h.nd).mp (h2.trans e1.symm))
   rw [kam hne, kam (kal hp he)]
   exact hp
def kiW (CS : Addr) : Sp := fun vs H Q _ => ∃ (x pa : Addr) (S : Stnd) (is : List Nat), vs = [.ref x, .ref pa] ∧ StndIs CS H x S ∧ H pa = some (.lst (is.map iV)) ∧ (∀ i ∈ is, i < S.ow.length) ∧ is.length ≤ 720 ∧
 ∀ (H' : Hp) (p : Addr) (gl : List Addr), Same H H' → H p = none → H' p = some (.lst (gl.map V.ref)) → P2 (fun r g => H' r = some (.lst (g.map iV))) gl ((parted (fun i => S.ow.getD i 0) is).map Prod.snd) → (∀ r ∈ gl, H r = none) → Q (.ref p) H'
theorem P2.mapR {α β γ : Type} {R : α → γ → Prop} {f : β → γ} {as : List α} {bs : List β} (h : P2 (fun a b => R a (f b)) as bs) : P2 R as (bs.map f) := by
 induction h with
 | nil => exact .nil
 | cons r t ih => exact .cons r ih
theorem Xh : kaq ["standing", "pieces", "by_line", "piece"] ["standing", "pieces"] (kab kaP) := ⟨rfl, rfl, rfl, by decide +kernel, rfl, by decide +kernel, by decide +kernel⟩
theorem kdu (W : WB K mg d base) : FnOk P w K mg base CX0 1 d.XW d.XX ["standing", "pieces"] (kiW d.qc) := by
 refine FunD.ok W.Qi.F Xh (fun vs H Q E h => ?_) (fun cdv A outer s H vs Q E hr h => ?_)
 ·obtain ⟨x, pa, S, is, rfl, _⟩ := h
  rfl
 ·obtain ⟨x, pa, S, is, rfl, ⟨o, p, mk, ⟨dxs, fss, hx, l1, l2, l3, l4, l5⟩, ho, hp, hmk⟩, hpa, hi, hl, k⟩ := h
  refine ⟨_, kae (kax (i := 2) Xh.nd rfl (Or.inl rfl) ki9)
   (kae (kbT PassesOwn.never rfl (kby (pv 1)) (kas (i := 3) Xh.nd rfl (Or.inl rfl))
   (kaj (kbC (pe_bm Ri Rz RA kbE (pe_bm Tv Tu PySem.F.type_dict_setdefault kfd (pv 2) (kaa (pe_ix (r := rIxL K) kbx (kap (pv 0) rfl) (pv 3) (fun _ _ => rfl)) (kaa (kbG kah) kah))) (kaa (pv 3) kah)))))
   (kaj (kat (kf7 rfl (by rfl) W.B.list (pv 2))))), ?_⟩
  refine fun dd hd => ?_
  have s1 := kak (o := .dK []) hd
  refine ⟨_, rfl, pa, rfl, ⟨_, SqL.of (s1 _ _ hpa)⟩, kb4 (K := K) (a := pa) (xs := is.map iV) (fun i σ H' => (∃ v3 : Option V, σ = [some (.ref x), some (.ref pa), some (.ref dd), v3]) ∧ ∃ gl, Ptd H H' dd gl (parted (fun i => S.ow.getD i 0) (is.take i)))
   ⟨⟨none, rfl⟩, [], s1, by simp, fun r hr => by simp at hr, kad, .nil⟩ (fun i σ H' _ h => SqL.of (h.2.choose_spec.sm _ _ hpa)) ?_ ?_⟩
  ·rintro i y σ H1 hy ⟨⟨v3, rfl⟩, gl, Z⟩
   obtain ⟨a, ea, rfl⟩ := kb6 hy
   have hil := at_lt ea
   obtain ⟨ln, eln⟩ := at_of (hi a (CT ea))
   have eg : S.ow.getD a 0 = ln := by rw [C5, eln]; rfl
   have enext : parted (fun i => S.ow.getD i 0) (is.take (i + 1)) = ins (parted (fun i => S.ow.getD i 0) (is.take i)) ln a := by
    rw [kbY ea, kd6, eg]
   have lenG := keG (fun i => S.ow.getD i 0) (is.take i)
   rw [C0] at lenG
   have lenK : (kvOf (parted (fun i => S.ow.getD i 0) (is.take i)) gl).length < sizeLine := by
    refine kau ?_
    unfold kvOf
    rw [Sj]
    omega
   refine ⟨_, rfl, .inr (.inr (.inl ⟨rfl, .inl ⟨_, Z.dk⟩⟩)), _, rfl, x, d.qc, dxs, fss, _, rfl, Z.sm _ _ hx, W.qc.cl, W.n_Standing_owners, l1, _, rfl, o, _, _, _, rfl, rfl, SqL.of (Z.sm _ _ ho), kbK (v := .int (ln : Nat)) (by rw [CV, eln]; rfl), by decide, fun e he => ?_⟩
   have ned : dd ≠ e := kal Z.dk he
   refine ⟨dd, kvOf (parted (fun i => S.ow.getD i 0) (is.take i)) gl, (ln : Nat), .ref e, rfl, rfl, by rw [kam ned]; exact Z.dk, lenK, fun v hv => ?_, fun hn => ?_⟩
   ·rcases kgf (G := parted (fun i => S.ow.getD i 0) (is.take i)) ln a Z.ls.len with ⟨h1, _⟩ | ⟨j, g, r, h1, h2, h3, h4⟩
    ·rw [h1] at hv
     cases hv
    ·rw [h3] at hv
     cases hv
     have hrv := Z.ls.get h2 h1
     have gl20 : g.length ≤ 720 := by
      have eg' := (kcE (fun i => S.ow.getD i 0) (is.take i)).gs ln g (CT h1)
      rw [eg']
      refine CN (SG _ _) ?_
      rw [C0]
      omega
     have hr2 : (upd H1 e (.lst [])) r = some (.lst (g.map iV)) := by rw [kam (kal hrv he)]; exact hrv
     refine ⟨.inl ⟨rfl, _, SqL.of hr2⟩, _, rfl, r, _, _, rfl, rfl, hr2, kau (by rw [Cz]; omega), ⟨_, rfl⟩, gl, ?_⟩
     rw [enext, h4]
     exact Z.put he h1 h2
   ·rcases kgf (G := parted (fun i => S.ow.getD i 0) (is.take i)) ln a Z.ls.len with ⟨_, h4⟩ | ⟨j, g, r, h1, h2, h3, h4⟩
    ·have he2 : (upd (upd H1 e (.lst [])) dd (.dK (kvOf (parted (fun i => S.ow.getD i 0) (is.take i)) gl ++ [(Sum.inl ((ln : Nat) : Int), .ref e)]))) e = some (.lst []) := by rw [kam ned.symm, kad]
     refine ⟨.inl ⟨rfl, _, SqL.of he2⟩, _, rfl, e, [], _, rfl, rfl, he2, by decide, ⟨_, rfl⟩, gl ++ [e], ?_⟩
     rw [enext, h4]
     exact Z.more hd he
    ·rw [h3] at hn
     cases hn
  ·rintro σ H1 ⟨⟨v3, rfl⟩, gl, Z⟩
   rw [Cz, Rh] at Z
   refine ⟨_, rfl, dd, _, rfl, Z.dk, fun l hl2 => ?_⟩
   rw [kgP Z.ls.len]
   refine k _ l gl (Z.sm.trans (kak hl2)) (none_of Z.sm hl2) kad (P2.mapR (f := Prod.snd) (R := fun r g => (upd H1 l (.lst (gl.map V.ref))) r = some (.lst (g.map iV))) (Z.ls.mono fun r p h => kak hl2 _ _ h)) fun r hr => (Z.fg r hr).1
def khG (d : D) : Sp := fun vs H Q _ => ∃ (x pa : Addr) (S : Stnd) (is : List Nat) (m : Nat), vs = [.ref x, .ref pa, .int m] ∧ StndIs d.qc H x S ∧ H pa = some (.lst (is.map iV)) ∧ is.Pairwise (· < ·) ∧ (∀ i ∈ is, i < S.pr.length) ∧ is.length < 64 ∧ 2 ≤ m ∧ m ≤ 20 ∧ Tbs d H ∧
 ∀ (H' : Hp) (p : Addr) (gl : List Addr), Same H H' → H p = none → H' p = some (.lst (gl.map V.ref)) → P2 (fun r g => H' r = some (.lst (g.map iV))) gl (grp m (fallP S.pr is)) → (∀ r ∈ gl, H r = none) → Q (.ref p) H'
theorem kkO {pr : List Int} {is : List Nat} {ms : List Int} (hs : is.Pairwise (· < ·)) (hp : ms.Perm (is.map fun (i : Nat) => (i : Int))) (hk : ms.Pairwise fun a b => -(pr.getD a.toNat 0) < -(pr.getD b.toNat 0) ∨ (-(pr.getD a.toNat 0) = -(pr.getD b.toNat 0) ∧ a < b)) : ms.map V.int = (fallP pr is).map iV := by
 have e : ms = (ms.map Int.toNat).map fun (i : Nat) => (i : Int) := by
  rw [C9]
  conv => lhs; rw [← List.map_id ms]
  refine Ry fun z hz => ?_
  obtain ⟨i, _, rfl⟩ := C4.mp (hp.mem_iff.mp hz)
  simp
 have hp2 : (ms.map Int.toNat).Perm is := by
  have := hp.map Int.toNat
  rw [C9] at this
  have e2 : is.map (Int.toNat ∘ fun (i : Nat) => (i : Int)) = is := by
   conv => rhs; rw [← List.map_id is]
   exact Ry fun i _ => rfl
  rwa [e2] at this
 have hk2 : (ms.map Int.toNat).Pairwise (befP pr) := by
  rw [Th]
  refine hk.imp_of_mem fun {a b} ha hb h => ?_
  obtain ⟨i, _, rfl⟩ := C4.mp (hp.mem_iff.mp ha)
  obtain ⟨j, _, rfl⟩ := C4.mp (hp.mem_iff.mp hb)
  unfold befP
  simp only [Int.toNat_natCast] at h ⊢
  omega
 rw [e, khn hs hp2 hk2, C9]
 rfl
theorem Zt : kaq ["standing", "pieces", "many", "falling"] ["standing", "pieces", "many"] (kab kaC) := ⟨rfl, rfl, rfl, by decide +kernel, rfl, by decide +kernel, by decide +kernel⟩
theorem kdv (W : WB K mg d base) : FnOk P w K mg base CX0 1 d.XY d.QS ["standing", "pieces", "many"] (khG d) := by
 refine FunD.okC W.qK.F Zt (fun vs H Q E h => ?_) (fun A outer s H vs Q E hr h => ?_)
 ·obtain ⟨x, pa, S, is, m, rfl, _⟩ := h
  rfl
 ·obtain ⟨x, pa, S, is, m, rfl, hS, hpa, hs, hi, h64, hm2, hm20, htb, k⟩ := h
  obtain ⟨o, p, mk, ⟨dxs, fss, hx, l1, l2, l3, l4, l5⟩, ho, hp, hmk⟩ := id hS
  refine ⟨_, kae (kax (i := 3) Zt.nd rfl (Or.inr rfl) (khe (N := ["piece", "standing"]) (cap := [some 0]) (pv 1) ⟨CompScope.of (N := ["piece", "standing"]) (cap := [none, some 0]) (kab kaC).names ["standing", "pieces", "many", "falling"] rfl rfl (by decide +kernel), rfl, rfl, rfl, rfl, by decide +kernel⟩ rfl hr.depth W.code_falling_groups W.ck_falling_groups W.blt (by rfl) W.B.sorted (fun _ _ _ _ _ => rfl) (fun _ _ _ _ _ => (pe_un kjF (pe_ix (r := rIxL K) kbx (kcu (K := K) (pv 1) rfl) (pv 0) (fun _ _ => rfl)))) (by rfl)))
   (kaj (kat (kbO (N := ["start", "falling", "many"]) (CompScope.of (N := ["start", "falling", "many"]) (cap := [none, some 3, some 2]) (kab kaC).names ["standing", "pieces", "many", "falling"] rfl rfl (by decide +kernel)) rfl (khd rfl W.B.range (kaa kai (kaa (pe_op ka1 (pe_op kfy (kaE ka2 (by rfl) W.B.len b_len (kaa (pv 3) kah)) (pv 2)) kai) (kaa (pv 2) kah)))) (fun _ _ _ _ => kas (i := 0) (show (["start", "falling", "many"] : List Str).Nodup by decide +kernel) rfl (Or.inl rfl)) (fun _ _ _ _ => (kgB (r := rSlL K) khL (pv 1) (kf5 (pv 0)) (kf5 (pe_op ka1 (pv 0) (pv 2)))))))), ?_⟩
  have htb' : TbAt d.tP_falling_groups H := htb
  obtain ⟨qs0, eT, _⟩ := id htb'
  have npT : ∀ {b : Addr} {u : HO}, H b = some u → (∀ ps, u ≠ .tbl ps) → b ≠ d.tP_falling_groups := fun {b u} e hn z => by
   rw [z, eT] at e
   cases e
   exact hn _ rfl
  have ei : is.map iV = (is.map fun (i : Nat) => (i : Int)).map V.int := by rw [C9]; rfl
  refine ⟨_, rfl, pa, is.map fun (i : Nat) => (i : Int), fun a => -(S.pr.getD a.toNat 0), rfl, SqL.of (by rw [← ei]; exact hpa), by rw [Cz]; exact h64, ?_, htb', npT hpa (fun ps z => by cases z), fun H2 G n hn => ?_, fun H2 l ms G f1 f2 hpm hpw => ?_⟩
  ·rw [Th]
   exact hs.imp fun {a b} h => by omega
  ·obtain ⟨i, hin, rfl⟩ := C4.mp hn
   obtain ⟨z, ez⟩ := at_of (hi i hin)
   have hx2 := G.kp _ _ (npT hx (fun ps z => by cases z)) hx
   have hp2 := G.kp _ _ (npT hp (fun ps z => by cases z)) hp
   refine ⟨_, rfl, x, d.qc, dxs, fss, _, rfl, hx2, W.qc.cl, W.n_Standing_prices, l2, _, rfl, p, _, _, _, rfl, rfl, SqL.of hp2, kbK (v := .int z) (by rw [CV, ez]; rfl), _, rfl, ?_, rfl⟩
   show V.int (-z) = V.int (-(S.pr.getD ((i : Int)).toNat 0))
   rw [Int.toNat_natCast, C5, ez]
   rfl
  have s2 := G.same htb'
  rw [kkO hs hpm hpw]
  have lf : (fallP S.pr is).length = is.length := (kb3 S.pr is).length_eq
  have s3 := s2.trans (kak (o := .lst ((fallP S.pr is).map iV)) f2)
  have el : (upd H2 l (.lst ((fallP S.pr is).map iV))) l = some (.lst ((fallP S.pr is).map iV)) := kad
  generalize upd H2 l (.lst ((fallP S.pr is).map iV)) = H3 at *
  have ecnt : (Builtin.Range.rangeSize 0 ((((fallP S.pr is).map iV).length : Int) - (m : Int) + 1) (m : Int)).toNat = (fallP S.pr is).length / m := by
   rw [Cz]
   exact kf2 (by omega)
  have lg := kgh m (fallP S.pr is)
  refine ⟨_, rfl, l, _, rfl, .inl (SqL.of el), _, rfl, _, _, rfl, rfl, _, _, rfl, rfl, _, rfl, 0, _, _, rfl, by omega, ?_, by omega, by omega, ?_⟩
  ·rw [Cz]
   omega
  rw [ecnt]
  refine kiE (n := (fallP S.pr is).length / m) (fun i σ ys H' => Same H3 H' ∧ (∃ v0 : Option V, σ = [v0, some (.ref l), some (.int m)]) ∧ ∃ gl, ys = gl.map V.ref ∧ P2 (fun r g => H' r = some (.lst (g.map iV))) gl ((grp m (fallP S.pr is)).take i) ∧ ∀ r ∈ gl, H r = none)
   ⟨Same.refl _, ⟨none, rfl⟩, [], rfl, .nil, fun r hr => by simp at hr⟩ ?_ ?_ ?_ ?_
  ·have : (grp m (fallP S.pr is)).length = (fallP S.pr is).length / m := by simp [grp]
   exact CY (kau (by omega))
  ·rintro i σ ys H' hi' ⟨_, _, gl, rfl, hP, _⟩
   rw [Cz, hP.len, C0]
   have : (grp m (fallP S.pr is)).length = (fallP S.pr is).length / m := by simp [grp]
   omega
  ·rintro i σ ys H' hi' ⟨s4, ⟨v0, rfl⟩, gl, rfl, hP, hfr⟩
   have eg : (grp m (fallP S.pr is))[i]? = some (((fallP S.pr is).drop (i * m)).take m) := by
    unfold grp
    rw [CV, Sk hi']
    rfl
   have ecut : cutV ((fallP S.pr is).map iV) (some (0 + (i : Int) * (m : Int))) (some (0 + (i : Int) * (m : Int) + (m : Int))) = (((fallP S.pr is).drop (i * m)).take m).map iV := by
    have := kkW ((fallP S.pr is).map iV) (i * m) m
    rw [show (0 : Int) + (i : Int) * (m : Int) = ((i * m : Nat) : Int) by rw [Int.zero_add, Int.natCast_mul], show ((i * m : Nat) : Int) + (m : Int) = ((i * m + m : Nat) : Int) by rw [Int.natCast_add], this, Sm, Ti]
   refine ⟨_, rfl, _, rfl, _, rfl, _, rfl, _, rfl, _, _, rfl, rfl, _, rfl, l, _, rfl, SqL.of (s4 _ _ el), fun r hr => ?_⟩
   refine ⟨s4.trans (kak hr), ⟨_, rfl⟩, gl ++ [r], by rw [CU]; rfl, ?_, fun r' hr' => ?_⟩
   ·rw [kbY eg, ecut]
    exact P2.snoc (hP.mono fun r' g e => kak hr _ _ e) kad
   ·rcases Rk.mp hr' with h | h
    ·exact hfr r' h
    ·rw [RL] at h
     rw [h]
     exact (s3.trans s4).free hr
  ·rintro σ ys H' ⟨s4, ⟨v0, rfl⟩, gl, rfl, hP, hfr⟩ D hD
   have el2 : (grp m (fallP S.pr is)).length = (fallP S.pr is).length / m := by simp [grp]
   rw [RB (by omega)] at hP
   exact k _ D gl ((s3.trans s4).trans (kak hD)) ((s3.trans s4).free hD) kad (hP.mono fun r g e => kak hD _ _ e) hfr
theorem QI : kaq ["voucher", "standing", "pieces", "groups", "lasts"] ["voucher", "standing", "pieces"] (kab kaU) := ⟨rfl, rfl, rfl, by decide +kernel, rfl, by decide +kernel, by decide +kernel⟩
theorem kex (W : WB K mg d base) : FnOk P w K mg base CX0 3 d.XT d.XU ["voucher", "standing", "pieces"] (kiQ d) := by
 refine FunD.ok W.Qh.F QI (fun vs H Q E h => ?_) (fun cdv A outer s H vs Q E hr h => ?_)
 ·obtain ⟨v, x, pa, V, ps, B, S, rfl, _⟩ := h
  rfl
 ·obtain ⟨v, x, pa, ⟨so, ms⟩, ps, B, S, rfl, ⟨mA, dxv, fsv, hv, lvm, hso, hM, hh, htb⟩, hS, hpa, wf, vo, k⟩ := h
  have qV := kcC (P := P) (w := w) (base := base) W
  have Vf := kdu (P := P) (w := w) (base := base) W
  have Zu := kdv (P := P) (w := w) (base := base) W
  have hr1 : Room 1 _ := hr.mono (by decide)
  refine ⟨_, kae (ps_if (kbH (kaE kbJ (by rfl) W.B.isi b_isi (kaa (pv 0) (kaa (kdr (v := .ref d.c_Off) (by rfl) W.g_Off rfl) kah)))) (kaj (kat (kbG (kaa (kcS (kaa (kaE (ken rfl) (by rfl) W.B.min b_min (kaa (kap (pv 0) rfl) (kaa (kan qV hr rfl W.qp.m W.qp.F.kp W.qp.b .nil pass0 (kaa (pv 1) (kaa (pv 2) kah))) kah))) (kaa (pv 2) kah))) kah)))) (kaB))
   (kae (ps_if (kbH (kaE kbJ (by rfl) W.B.isi b_isi (kaa (pv 0) (kaa (kdr (v := .ref d.qk) (by rfl) W.ZD rfl) kah)))) (kae (kax (i := 3) QI.nd rfl (Or.inl rfl) (klj (kgD (kbH (kap (pv 0) rfl)) (kan Vf hr1 rfl W.Qi.m W.Qi.F.kp W.Qi.b .nil pass0 (kaa (pv 1) (kaa (pv 2) kah))) (kbG (kaa (pv 2) kah)))))
   (kaj (kat (kbO (N := ["group", "standing", "voucher"]) (CompScope.of (N := ["group", "standing", "voucher"]) (cap := [none, some 1, some 0]) (kab kaU).names ["voucher", "standing", "pieces", "groups", "lasts"] rfl rfl (by decide +kernel)) rfl (kby (pv 3)) (fun _ _ _ _ => kas (i := 0) (show (["group", "standing", "voucher"] : List Str).Nodup by decide +kernel) rfl (Or.inl rfl)) (fun _ _ _ _ => (kcS (kaa (pe_op kd9 (pe_op kcf (kan qV hr rfl W.qp.m W.qp.F.kp W.qp.b .nil pass0 (kaa (pv 1) (kaa (pv 0) kah))) (kcu (K := K) (pv 2) rfl)) kai) (kaa (pv 0) kah)))))))) (kaB))
   (kae (ps_if (kbH (kaE kbJ (by rfl) W.B.isi b_isi (kaa (pv 0) (kaa (kdr (v := .ref d.qm) (by rfl) W.ZE rfl) kah)))) (kae (ke0 (N := ["group"]) (CompScope.plain rfl (by decide +kernel) (by decide +kernel) (by decide +kernel) (nd1 _)) rfl (kby (kan Zu hr1 rfl W.qK.m W.qK.F.kp W.qK.b .nil pass0 (kaa (pv 1) (kaa (pv 2) (kaa (kap (pv 0) rfl) kah))))) (fun _ _ _ _ => kas (i := 0) (nd1 _) rfl (Or.inl rfl)) (fun _ _ _ _ => (pe_ix (r := rIxL K) kbx (pv 0) (pe_un kjF kai) (fun _ _ => rfl))) (kas (i := 4) QI.nd rfl (Or.inl rfl)))
   (kaj (kat (kbO (N := ["last", "standing"]) (CompScope.of (N := ["last", "standing"]) (cap := [none, some 1]) (kab kaU).names ["voucher", "standing", "pieces", "groups", "lasts"] rfl rfl (by decide +kernel)) rfl (kby (pv 4)) (fun _ _ _ _ => kas (i := 0) (show (["last", "standing"] : List Str).Nodup by decide +kernel) rfl (Or.inl rfl)) (fun _ _ _ _ => (kcS (kaa (pe_ix (r := rIxL K) kbx (kcu (K := K) (pv 1) rfl) (pv 0) (fun _ _ => rfl)) (kaa (kbG (kaa (pv 0) kah)) kah)))))))) (kaB))
   (kae (ps_if (kbH (kaE kbJ (by rfl) W.B.isi b_isi (kaa (pv 0) (kaa (kdr (v := .ref d.ql) (by rfl) W.ZF rfl) kah)))) (kae (kax (i := 3) QI.nd rfl (Or.inl rfl) (kan Zu hr1 rfl W.qK.m W.qK.F.kp W.qK.b .nil pass0 (kaa (pv 1) (kaa (pv 2) (kaa (kap (pv 0) rfl) kah)))))
   (kaj (kat (kbO (N := ["group", "standing", "voucher"]) (CompScope.of (N := ["group", "standing", "voucher"]) (cap := [none, some 1, some 0]) (kab kaU).names ["voucher", "standing", "pieces", "groups", "lasts"] rfl rfl (by decide +kernel)) rfl (kby (pv 3)) (fun _ _ _ _ => kas (i := 0) (show (["group", "standing", "voucher"] : List Str).Nodup by decide +kernel) rfl (Or.inl rfl)) (fun _ _ _ _ => (kcS (kaa (kaE (kiH rfl) (by rfl) W.B.max b_max (kaa (pe_op kfy (kan qV hr rfl W.qp.m W.qp.F.kp W.qp.b .nil pass0 (kaa (pv 1) (kaa (pv 0) kah))) (kcu (K := K) (pv 2) rfl)) (kaa kai kah))) (kaa (pv 0) kah)))))))) (kaB))
   (kaj (kat (kbG kah)))))), ?_⟩
  have I := kjT W hh
  refine ⟨_, rfl, _, _, _, _, rfl, .inr ⟨_, rfl⟩, TyOf.ins hv (cl_of W hh) I.ha I.hn I.ht I.hm, kkN W hh, _, rfl, ?_⟩
  have lp := wf.lp
  have np := wf.np
  have habl : ∀ i ∈ abt ps (kds B) ms.kind ms.lone S, i < S.pr.length := fun i hi => by rw [lp]; exact kg4 hi
  have habo : ∀ i ∈ abt ps (kds B) ms.kind ms.lone S, i < S.ow.length := fun i hi => kg4 hi
  have hand := kfZ ps (kds B) ms.kind ms.lone S
  have lab : (abt ps (kds B) ms.kind ms.lone S).length ≤ 720 := CN (ker _ _ _ _ _) np
  cases so with
  | off am =>
   have qn := kco (qs_nn wf.nn (abt ps (kds B) ms.kind ms.lone S))
   have ha : 0 ≤ am ∧ am ≤ 1000000000000 := vo.so
   refine iteT ⟨_, rfl, v, d.c_Off, dxv, fsv, _, rfl, hv, W.c_Off.cl, W.n_Off_amount, hso, _, rfl, _, rfl, x, pa, S, _, rfl, hS, hpa, habl, lab, fun H1 s1 => ?_⟩
   refine ⟨_, _, rfl, _, rfl, (by show 2 ≤ sizeLine; decide), fun t ht => ⟨(by show 1 ≤ sizeLine; decide), fun l hl => ?_⟩⟩
   have emin : (if (qs S.pr (abt ps (kds B) ms.kind ms.lone S)).sum < am then (qs S.pr (abt ps (kds B) ms.kind ms.lone S)).sum else am) = min am (qs S.pr (abt ps (kds B) ms.kind ms.lone S)).sum := by
    split <;> omega
   rw [emin] at hl ⊢
   have s2 := s1.trans (kak (o := .tup [.int (min am (qs S.pr (abt ps (kds B) ms.kind ms.lone S)).sum), .ref pa]) ht)
   have s3 := s2.trans (kak (o := .lst [.ref t]) hl)
   refine k _ l [t] [(min am (qs S.pr (abt ps (kds B) ms.kind ms.lone S)).sum, abt ps (kds B) ms.kind ms.lone S)] s3 (none_of s2 hl) kad (.cons ⟨pa, kak hl _ _ kad, s3 _ _ hpa, .inl rfl⟩ .nil) ?_ ?_ ?_ (by simp) ?_
   ·intro c g hc
    rw [RL] at hc
    cases hc
    exact ⟨by omega, by omega, lab⟩
   ·simpa using hand
   ·simpa using habl
   ·simp [want]
  | share sh bl =>
   have hsh : 1 ≤ sh ∧ sh ≤ 1000 := vo.so
   refine iteF ⟨_, rfl, _, _, _, _, rfl, .inr ⟨_, rfl⟩, TyOf.ins hv (cl_of W hh) I.ha I.hn I.ht I.hm, kdg W hh, _, rfl, iteT ?_⟩
   refine ⟨fun gv H1 => ∃ (gp : Addr) (gl : List Addr) (gs : List (List Nat)), gv = .ref gp ∧ Same H H1 ∧ H gp = none ∧ H1 gp = some (.lst (gl.map V.ref)) ∧ P2 (fun r g => H1 r = some (.lst (g.map iV))) gl gs ∧ (∀ r ∈ gl, r = pa ∨ H r = none) ∧ gs.length ≤ 720 ∧ (∀ g ∈ gs, g.length ≤ 720) ∧ gs.flatten.Nodup ∧ (∀ i ∈ gs.flatten, i < S.pr.length) ∧
    spr S.pr.length gs.flatten (gs.map fun g => dl ((qs S.pr g).sum * sh / 1000) (qs S.pr g)).flatten = spr S.pr.length (abt ps (kds B) ms.kind ms.lone S) (want (.share sh bl) S.mkd.length ((abt ps (kds B) ms.kind ms.lone S).map fun i => S.ow.getD i 0) (qs S.pr (abt ps (kds B) ms.kind ms.lone S))), ?_, ?_⟩
   ·refine ⟨_, rfl, v, d.qk, dxv, fsv, _, rfl, hv, W.qk.cl, W.n_Share_by_line, hso.2, bl, rfl, ?_⟩
    cases bl with
    | true =>
     refine iteT ⟨_, rfl, _, rfl, x, pa, S, _, rfl, hS, hpa, habo, lab, fun H1 p gl s1 f1 h1 hP hg => ⟨p, gl, _, rfl, s1, f1, h1, hP, fun r hr => .inr (hg r hr), ?_, ?_, ?_, ?_, ?_⟩⟩
     ·rw [Cz]
      exact CN (keG _ _) lab
     ·intro g hg'
      rw [(kcE (fun i => S.ow.getD i 0) (abt ps (kds B) ms.kind ms.lone S)).snds] at hg'
      obtain ⟨l, _, rfl⟩ := C4.mp hg'
      exact CN (SG _ _) lab
     ·have ok := kcE (fun i => S.ow.getD i 0) (abt ps (kds B) ms.kind ms.lone S)
      rw [ok.snds]
      exact kd5 (f := fun i => S.ow.getD i 0) hand ok.nd
     ·intro i hi
      rw [(kcE (fun i => S.ow.getD i 0) (abt ps (kds B) ms.kind ms.lone S)).snds] at hi
      obtain ⟨g, hg', hi'⟩ := RV.mp hi
      obtain ⟨l, _, rfl⟩ := C4.mp hg'
      exact habl i (RI.mp hi').1
     ·refine khg (fun z => z * sh / 1000) hand fun i hi => ?_
      obtain ⟨ln, eln⟩ := at_of (habo i hi)
      rw [C5, eln, wf.lm]
      exact wf.line eln
    | false =>
     refine iteF ⟨_, rfl, (by show 1 ≤ sizeLine; decide), fun p hp => ⟨p, [pa], [abt ps (kds B) ms.kind ms.lone S], rfl, kak hp, hp, kad, .cons (kak hp _ _ hpa) .nil, fun r hr => .inl (by simpa using hr), by simp, fun g hg => ?_, by simpa using hand, by simpa using habl, by simp [want]⟩⟩
     rw [RL] at hg
     rw [hg]
     exact lab
   rintro gv H1 ⟨gp, gl, gs, rfl, s1, f1, h1, hP, hor, lgs, lg, gnd, glt, gsp⟩
   have lgl := hP.len
   have gok : ∀ g ∈ gs, ∀ i ∈ g, i < S.pr.length := fun g hg i hi => glt i (RV.mpr ⟨g, hg, hi⟩)
   refine ⟨_, rfl, gp, rfl, ⟨_, SqL.of h1⟩, kbF (xs := gl.map V.ref) (fun i σ ys H' => Same H1 H' ∧ (∃ v0 : Option V, σ = [v0, some (.ref x), some (.ref v)]) ∧ ∃ tl, ys = tl.map V.ref ∧ P2 (GrpAt H H' pa) tl ((gs.take i).map fun g => ((qs S.pr g).sum * sh / 1000, g)))
    ⟨Same.refl _, ⟨none, rfl⟩, [], rfl, .nil⟩ (by rw [Cz]; exact CY (kau (by omega))) ?_ ?_ ?_⟩
   ·rintro i σ ys H2 hi ⟨s2, _, tl, rfl, hT⟩
    refine ⟨SqL.of (s2 _ _ h1), ?_⟩
    rw [Cz, hT.len, Cz, C0]
    rw [Cz] at hi
    omega
   ·rintro i y σ ys H2 hy ⟨s2, ⟨v0, rfl⟩, tl, rfl, hT⟩
    obtain ⟨r, er, rfl⟩ := kb0 hy
    obtain ⟨g, eg, hr⟩ := hP.at er
    have s12 := s1.trans s2
    have hg := CT eg
    have sn := kco (qs_nn wf.nn g)
    have sl := khR wf (lg g hg) (gok g hg)
    refine ⟨_, rfl, _, rfl, x, r, S, g, rfl, hS.same s12, s2 _ _ hr, gok g hg, lg g hg, fun H3 s3 => ?_⟩
    have s13 := s12.trans s3
    refine ⟨_, rfl, v, d.qk, dxv, fsv, _, rfl, s13 _ _ hv, W.qk.cl, W.n_Share_share, hso.1, _, _, rfl, rfl, .inl ⟨by omega, by omega⟩, _, _, rfl, rfl, ⟨by decide, by decide⟩, _, rfl, (by show 2 ≤ sizeLine; decide), fun t ht => ?_⟩
    have s4 := kak (o := .tup [.int ((qs S.pr g).sum * sh / 1000), .ref r]) ht
    refine ⟨(s2.trans s3).trans s4, ⟨_, rfl⟩, tl ++ [t], by rw [CU]; rfl, ?_⟩
    rw [kbY eg, CU]
    refine P2.snoc (hT.mono fun t' q ⟨ga, a1, a2, a3⟩ => ⟨ga, (s3.trans s4) _ _ a1, (s3.trans s4) _ _ a2, a3⟩) ⟨r, kad, ((s2.trans s3).trans s4) _ _ hr, hor r (CT er)⟩
   ·rintro σ ys H2 ⟨s2, ⟨v0, rfl⟩, tl, rfl, hT⟩ D hD
    rw [Cz, lgl, Rh] at hT
    have s3 := kak (o := .lst (tl.map V.ref)) hD
    have e1 : (gs.map fun g => ((qs S.pr g).sum * sh / 1000, g)).map Prod.snd = gs := by
     rw [C9]
     exact List.map_id' gs
    refine k _ D tl _ ((s1.trans s2).trans s3) (none_of (s1.trans s2) hD) kad (hT.mono fun t' q ⟨ga, a1, a2, a3⟩ => ⟨ga, s3 _ _ a1, s3 _ _ a2, a3⟩) ?_ (by rw [e1]; exact gnd) (by rw [e1]; exact glt) (by rw [Cz]; exact lgs) ?_
    ·intro c g hc
     obtain ⟨g', hg', e⟩ := C4.mp hc
     cases e
     have sn := kco (qs_nn wf.nn g)
     have := keW sn hsh.1 hsh.2
     exact ⟨this.1, this.2, lg g hg'⟩
    ·rw [e1, C9]
     exact gsp
  | cheap n =>
   have hn : 2 ≤ n ∧ n ≤ 20 := vo.so
   obtain ⟨m, rfl⟩ : ∃ m : Nat, n = m := ⟨n.toNat, by omega⟩
   refine iteF ⟨_, rfl, _, _, _, _, rfl, .inr ⟨_, rfl⟩, TyOf.ins hv (cl_of W hh) I.ha I.hn I.ht I.hm, kdg W hh, _, rfl, iteF ⟨_, rfl, _, _, _, _, rfl, .inr ⟨_, rfl⟩, TyOf.ins hv (cl_of W hh) I.ha I.hn I.ht I.hm, kcK W hh, _, rfl, iteT ?_⟩⟩
   have hpw : (abt ps (kds B) ms.kind ms.lone S).Pairwise (· < ·) := R6.filter _ Te
   have l64 : (abt ps (kds B) ms.kind ms.lone S).length < 64 := RP (ker _ _ _ _ _) wf.n64
   refine ⟨_, rfl, _, rfl, _, rfl, v, d.qm, dxv, fsv, _, rfl, hv, W.qm.cl, W.n_Cheapest_many, hso, x, pa, S, _, m, rfl, hS, hpa, hpw, habl, l64, by omega, by omega, htb, fun H1 gp gl s1 f1 h1 hP0 hg => ?_⟩
   have hP : P2 (fun r g => H1 r = some (.lst (g.map iV))) gl (grp m (fallP S.pr (abt ps (kds B) ms.kind ms.lone S))) := hP0
   clear hP0
   have lgl := hP.len
   have lG := kgh m (fallP S.pr (abt ps (kds B) ms.kind ms.lone S))
   have lf : (fallP S.pr (abt ps (kds B) ms.kind ms.lone S)).length = (abt ps (kds B) ms.kind ms.lone S).length := (kb3 _ _).length_eq
   have hgr : ∀ {i : Nat} {g : List Nat}, (grp m (fallP S.pr (abt ps (kds B) ms.kind ms.lone S)))[i]? = some g → 0 < g.length ∧ g[g.length - 1]? = some (g.getLastD 0) ∧ g.getLastD 0 ∈ abt ps (kds B) ms.kind ms.lone S := fun {i g} eg => by
    obtain ⟨h1, h2, h3⟩ := kgS eg
    have h4 := kge (by omega) eg
    refine ⟨by omega, ?_, (kb3 _ _).mem_iff.mp (CT h4)⟩
    rw [h2, h3 _ (by omega)]
    exact h4
   have hla : ∀ a ∈ lasts (grp m (fallP S.pr (abt ps (kds B) ms.kind ms.lone S))), a ∈ abt ps (kds B) ms.kind ms.lone S := fun a ha => by
    obtain ⟨g, hg', rfl⟩ := C4.mp ha
    obtain ⟨j, hj⟩ := RU.mp hg'
    exact (hgr hj).2.2
   refine ⟨gp, rfl, ⟨_, SqL.of h1⟩, kbF (xs := gl.map V.ref) (fun i σ ys H' => Same H1 H' ∧ (∃ v0 : Option V, σ = [v0]) ∧ ys = ((lasts (grp m (fallP S.pr (abt ps (kds B) ms.kind ms.lone S)))).take i).map iV)
    ⟨Same.refl _, ⟨none, rfl⟩, rfl⟩ (by rw [Cz]; exact CY (kau (by omega))) ?_ ?_ ?_⟩
   ·rintro i σ ys H2 hi ⟨s2, _, rfl⟩
    refine ⟨SqL.of (s2 _ _ h1), ?_⟩
    rw [Cz, C0, kdf]
    rw [Cz] at hi
    omega
   ·rintro i y σ ys H2 hy ⟨s2, ⟨v0, rfl⟩, rfl⟩
    obtain ⟨r, er, rfl⟩ := kb0 hy
    obtain ⟨g, eg, hr⟩ := hP.at er
    obtain ⟨g0, g1, g2⟩ := hgr eg
    have al : atI (g.map iV) (-1) = some (iV (g.getLastD 0)) := kiI (by rw [Cz, CV, g1]; rfl) (by rw [Cz]; exact g0)
    refine ⟨_, rfl, 1, rfl, r, _, _, _, rfl, rfl, SqL.of (s2 _ _ hr), al, s2, ⟨_, rfl⟩, ?_⟩
    rw [kbY (r := g.getLastD 0) (by unfold lasts; rw [CV, eg]; rfl), CU]
    rfl
   rintro σ ys H2 ⟨s2, ⟨v0, rfl⟩, rfl⟩ D hD
   rw [Cz, lgl, RB (by rw [kdf]; exact CC _)]
   have s3 := s2.trans (kak (o := .lst ((lasts (grp m (fallP S.pr (abt ps (kds B) ms.kind ms.lone S)))).map iV)) hD)
   have fD : H D = none := none_of (s1.trans s2) hD
   have eD : (upd H2 D (.lst ((lasts (grp m (fallP S.pr (abt ps (kds B) ms.kind ms.lone S)))).map iV))) D = some (.lst ((lasts (grp m (fallP S.pr (abt ps (kds B) ms.kind ms.lone S)))).map iV)) := kad
   generalize upd H2 D (.lst ((lasts (grp m (fallP S.pr (abt ps (kds B) ms.kind ms.lone S)))).map iV)) = H3 at *
   obtain ⟨o, p, mk, ⟨dxs, fss, hx, l1, l2, l3, l4, l5⟩, ho, hp, hmk⟩ := id hS
   have s13 := s1.trans s3
   have lL := kdf (grp m (fallP S.pr (abt ps (kds B) ms.kind ms.lone S)))
   refine ⟨_, rfl, D, rfl, ⟨_, SqL.of eD⟩, kbF (xs := (lasts (grp m (fallP S.pr (abt ps (kds B) ms.kind ms.lone S)))).map iV) (fun i σ ys H' => Same H3 H' ∧ (∃ v0 : Option V, σ = [v0, some (.ref x)]) ∧ ∃ tl, ys = tl.map V.ref ∧ P2 (GrpAt H H' pa) tl (((lasts (grp m (fallP S.pr (abt ps (kds B) ms.kind ms.lone S)))).take i).map fun a => (S.pr.getD a 0, [a])))
    ⟨Same.refl _, ⟨none, rfl⟩, [], rfl, .nil⟩ (by rw [Cz]; exact CY (kau (by omega))) ?_ ?_ ?_⟩
   ·rintro i σ ys H4 hi ⟨s4, _, tl, rfl, hT⟩
    refine ⟨SqL.of (s4 _ _ eD), ?_⟩
    rw [Cz, hT.len, Cz, C0]
    rw [Cz] at hi
    omega
   ·rintro i y σ ys H4 hy ⟨s4, ⟨v0, rfl⟩, tl, rfl, hT⟩
    obtain ⟨a, ea, rfl⟩ := kb6 hy
    have ha := hla a (CT ea)
    obtain ⟨z, ez⟩ := at_of (habl a ha)
    have ez' : S.pr.getD a 0 = z := by rw [C5, ez]; rfl
    have s14 := s13.trans s4
    refine ⟨_, rfl, x, d.qc, dxs, fss, _, rfl, s14 _ _ hx, W.qc.cl, W.n_Standing_prices, l2, _, rfl, p, _, _, _, rfl, rfl, SqL.of (s14 _ _ hp), kbK (v := .int z) (by rw [CV, ez]; rfl), _, rfl, (by show 1 ≤ sizeLine; decide), fun q hq => ⟨(by show 2 ≤ sizeLine; decide), fun t ht => ?_⟩⟩
    have s5 := (kak (o := .lst [iV a]) hq).trans (kak (o := .tup [.int z, .ref q]) ht)
    refine ⟨s4.trans s5, ⟨_, rfl⟩, tl ++ [t], by rw [CU]; rfl, ?_⟩
    rw [kbY ea, CU]
    exact P2.snoc (hT.mono fun t' q' ⟨ga, a1, a2, a3⟩ => ⟨ga, s5 _ _ a1, s5 _ _ a2, a3⟩) ⟨q, by show upd _ _ _ _ = some (.tup [.int (S.pr.getD a 0), .ref q]); rw [ez']; exact kad, kak ht _ _ kad, .inr (none_of s14 hq)⟩
   ·rintro σ ys H4 ⟨s4, ⟨v0, rfl⟩, tl, rfl, hT⟩ D2 hD2
    rw [Cz, Rh] at hT
    have s5 := kak (o := .lst (tl.map V.ref)) hD2
    have e1 : ((lasts (grp m (fallP S.pr (abt ps (kds B) ms.kind ms.lone S)))).map fun a => (S.pr.getD a 0, [a])).map Prod.snd = (lasts (grp m (fallP S.pr (abt ps (kds B) ms.kind ms.lone S)))).map fun a => [a] := by
     rw [C9]
     rfl
    have e2 := khM (fun i => S.pr.getD i 0) (lasts (grp m (fallP S.pr (abt ps (kds B) ms.kind ms.lone S))))
    refine k _ D2 tl _ ((s13.trans s4).trans s5) (none_of (s13.trans s4) hD2) kad (hT.mono fun t' q ⟨ga, a1, a2, a3⟩ => ⟨ga, s5 _ _ a1, s5 _ _ a2, a3⟩) ?_ (by rw [e1, e2.1]; exact kgd (by omega) (kel hand)) (by rw [e1, e2.1]; exact fun i hi => habl i (hla i hi)) (by rw [Cz]; omega) ?_
    ·intro c g hc
     obtain ⟨a, ha, e⟩ := C4.mp hc
     cases e
     have q0 : (qs S.pr [a]).sum = S.pr.getD a 0 := by simp [qs]
     have q1 := kco (qs_nn wf.nn [a])
     rw [q0] at q1 ⊢
     exact ⟨q1, Int.le_refl _, by simp⟩
    ·rw [e1, e2.1, C9]
     have e3 : (lasts (grp m (fallP S.pr (abt ps (kds B) ms.kind ms.lone S)))).map ((fun p => dl p.1 (qs S.pr p.2)) ∘ fun a => (S.pr.getD a 0, [a])) = (lasts (grp m (fallP S.pr (abt ps (kds B) ms.kind ms.lone S)))).map fun a => [S.pr.getD a 0] :=
      Ry fun a _ => klx _
     rw [e3, e2.2]
     exact (kiG (by omega) hand).symm
  | bund n pc =>
   have hn : 2 ≤ n ∧ n ≤ 20 ∧ 0 ≤ pc ∧ pc ≤ 1000000000000 := vo.so
   obtain ⟨m, rfl⟩ : ∃ m : Nat, n = m := ⟨n.toNat, by omega⟩
   refine iteF ⟨_, rfl, _, _, _, _, rfl, .inr ⟨_, rfl⟩, TyOf.ins hv (cl_of W hh) I.ha I.hn I.ht I.hm, kdg W hh, _, rfl, iteF ⟨_, rfl, _, _, _, _, rfl, .inr ⟨_, rfl⟩, TyOf.ins hv (cl_of W hh) I.ha I.hn I.ht I.hm, kcK W hh, _, rfl, iteF ⟨_, rfl, _, _, _, _, rfl, .inr ⟨_, rfl⟩, TyOf.ins hv (cl_of W hh) I.ha I.hn I.ht I.hm, keL W hh, _, rfl, iteT ?_⟩⟩⟩
   have hpw : (abt ps (kds B) ms.kind ms.lone S).Pairwise (· < ·) := R6.filter _ Te
   have l64 : (abt ps (kds B) ms.kind ms.lone S).length < 64 := RP (ker _ _ _ _ _) wf.n64
   refine ⟨_, rfl, _, rfl, _, rfl, v, d.ql, dxv, fsv, _, rfl, hv, W.ql.cl, W.n_Bundle_many, hso.1, x, pa, S, _, m, rfl, hS, hpa, hpw, habl, l64, by omega, by omega, htb, fun H1 gp gl s1 f1 h1 hP0 hg => ?_⟩
   have hP : P2 (fun r g => H1 r = some (.lst (g.map iV))) gl (grp m (fallP S.pr (abt ps (kds B) ms.kind ms.lone S))) := hP0
   clear hP0
   have lgl := hP.len
   have lG := kgh m (fallP S.pr (abt ps (kds B) ms.kind ms.lone S))
   have lf : (fallP S.pr (abt ps (kds B) ms.kind ms.lone S)).length = (abt ps (kds B) ms.kind ms.lone S).length := (kb3 _ _).length_eq
   have gin : ∀ g ∈ grp m (fallP S.pr (abt ps (kds B) ms.kind ms.lone S)), ∀ i ∈ g, i ∈ abt ps (kds B) ms.kind ms.lone S := fun g hg' i hi => (kb3 _ _).mem_iff.mp (kis hg' i hi)
   have gok : ∀ g ∈ grp m (fallP S.pr (abt ps (kds B) ms.kind ms.lone S)), ∀ i ∈ g, i < S.pr.length := fun g hg' i hi => habl i (gin g hg' i hi)
   have lg : ∀ g ∈ grp m (fallP S.pr (abt ps (kds B) ms.kind ms.lone S)), g.length ≤ 720 := fun g hg' => by
    obtain ⟨j, hj⟩ := RU.mp hg'
    have := (kgS hj).2.1
    omega
   generalize egs : grp m (fallP S.pr (abt ps (kds B) ms.kind ms.lone S)) = gs at *
   refine ⟨_, rfl, gp, rfl, ⟨_, SqL.of h1⟩, kbF (xs := gl.map V.ref) (fun i σ ys H' => Same H1 H' ∧ (∃ v0 : Option V, σ = [v0, some (.ref x), some (.ref v)]) ∧ ∃ tl, ys = tl.map V.ref ∧ P2 (GrpAt H H' pa) tl ((gs.take i).map fun g => (max 0 ((qs S.pr g).sum - pc), g)))
    ⟨Same.refl _, ⟨none, rfl⟩, [], rfl, .nil⟩ (by rw [Cz]; exact CY (kau (by omega))) ?_ ?_ ?_⟩
   ·rintro i σ ys H2 hi ⟨s2, _, tl, rfl, hT⟩
    refine ⟨SqL.of (s2 _ _ h1), ?_⟩
    rw [Cz, hT.len, Cz, C0]
    rw [Cz] at hi
    omega
   ·rintro i y σ ys H2 hy ⟨s2, ⟨v0, rfl⟩, tl, rfl, hT⟩
    obtain ⟨r, er, rfl⟩ := kb0 hy
    obtain ⟨g, eg, hr⟩ := hP.at er
    have s12 := s1.trans s2
    have hg' := CT eg
    have sn := kco (qs_nn wf.nn g)
    refine ⟨_, rfl, _, rfl, x, r, S, g, rfl, hS.same s12, s2 _ _ hr, gok g hg', lg g hg', fun H3 s3 => ?_⟩
    have s13 := s12.trans s3
    refine ⟨_, rfl, v, d.ql, dxv, fsv, _, rfl, s13 _ _ hv, W.ql.cl, W.n_Bundle_price, hso.2, _, _, rfl, rfl, ?_⟩
    refine ⟨_, _, rfl, _, rfl, (by show 2 ≤ sizeLine; decide), fun t ht => ?_⟩
    have emax : (if (0 : Int) > (qs S.pr g).sum - pc then 0 else (qs S.pr g).sum - pc) = max 0 ((qs S.pr g).sum - pc) := by
     split <;> omega
    rw [emax]
    have s4 := kak (o := .tup [.int (max 0 ((qs S.pr g).sum - pc)), .ref r]) ht
    refine ⟨(s2.trans s3).trans s4, ⟨_, rfl⟩, tl ++ [t], by rw [CU]; rfl, ?_⟩
    rw [kbY eg, CU]
    refine P2.snoc (hT.mono fun t' q ⟨ga, a1, a2, a3⟩ => ⟨ga, (s3.trans s4) _ _ a1, (s3.trans s4) _ _ a2, a3⟩) ⟨r, kad, ((s2.trans s3).trans s4) _ _ hr, .inr (hg r (CT er))⟩
   ·rintro σ ys H2 ⟨s2, ⟨v0, rfl⟩, tl, rfl, hT⟩ D hD
    rw [Cz, lgl, Rh] at hT
    have s3 := kak (o := .lst (tl.map V.ref)) hD
    have e1 : (gs.map fun g => (max 0 ((qs S.pr g).sum - pc), g)).map Prod.snd = gs := by
     rw [C9]
     exact List.map_id' gs
    refine k _ D tl _ ((s1.trans s2).trans s3) (none_of (s1.trans s2) hD) kad (hT.mono fun t' q ⟨ga, a1, a2, a3⟩ => ⟨ga, s3 _ _ a1, s3 _ _ a2, a3⟩) ?_ (by rw [e1, ← egs]; exact kir (kel hand)) (by rw [e1]; intro i hi; obtain ⟨g, hg', hi'⟩ := RV.mp hi; exact gok g hg' i hi') (by rw [Cz]; omega) ?_
    ·intro c g hc
     obtain ⟨g', hg', e⟩ := C4.mp hc
     cases e
     have sn := kco (qs_nn wf.nn g)
     exact ⟨by omega, by omega, lg g hg'⟩
    ·rw [e1, C9, ← egs]
     exact (kjz (fun z => max 0 (z - pc)) hand).symm
  | carr =>
   refine iteF ⟨_, rfl, _, _, _, _, rfl, .inr ⟨_, rfl⟩, TyOf.ins hv (cl_of W hh) I.ha I.hn I.ht I.hm, kdg W hh, _, rfl, iteF ⟨_, rfl, _, _, _, _, rfl, .inr ⟨_, rfl⟩, TyOf.ins hv (cl_of W hh) I.ha I.hn I.ht I.hm, kcK W hh, _, rfl, iteF ⟨_, rfl, _, _, _, _, rfl, .inr ⟨_, rfl⟩, TyOf.ins hv (cl_of W hh) I.ha I.hn I.ht I.hm, keL W hh, _, rfl, iteF ?_⟩⟩⟩
   refine ⟨by decide, fun l hl => ?_⟩
   refine k _ l [] [] (kak hl) hl kad .nil (fun c g hc => by simp at hc) (by simp) (by simp) (by simp) ?_
   exact (spr_zero (k := 0)).trans spr_zero.symm
def kko (K : CA) (d : D) : Sp := fun vs H Q _ => ∃ (v a b x : Addr) (V : Vch) (ps : List (Option Nat)) (B : Bask) (S : Stnd), vs = [.ref v, .ref a, .ref b, .ref x] ∧ VchIs d H v V ∧ SqL K H a (ps.map pV) ∧ BaskIs d.qe d.qh H b B ∧ StndIs d.qc H x S ∧ Wf ps B S ∧ VchOk ps V ∧
 ∀ (H' : Hp) (p : Addr), Same H H' → H p = none → H' p = some (.lst ((cutM V ps (kds B) S).1.map L2.V.int)) → Q (.ref p) H'
theorem qB : kaq ["voucher", "parents", "basket", "standing", "pieces", "wanted", "cut", "group", "piece", "part", "most"] ["voucher", "parents", "basket", "standing"] (kab kaQ) := ⟨rfl, rfl, rfl, by decide +kernel, rfl, by decide +kernel, by decide +kernel⟩
theorem kcv (W : WB K mg d base) : FnOk P w K mg base CX0 4 d.XO d.XQ ["voucher", "parents", "basket", "standing"] (kko K d) := by
 refine FunD.ok W.qI.F qB (fun vs H Q E h => ?_) (fun cdv A outer s H vs Q E hr h => ?_)
 ·obtain ⟨v, a, b, x, V, ps, B, S, rfl, _⟩ := h
  rfl
 ·obtain ⟨v, a, b, x, Vc, ps, B, S, rfl, hV, hA, hB, hS, wf, vo, k⟩ := h
  have Xg := kgH (P := P) (w := w) (base := base) W
  have Vg := kex (P := P) (w := w) (base := base) W
  have Zv := kjf (P := P) (w := w) (base := base) W
  have Xe := kdE (P := P) (w := w) (base := base) W
  have hr1 : Room 1 _ := hr.mono (by decide)
  refine ⟨_, kae (kax (i := 4) qB.nd rfl (Or.inl rfl) (kan Xg hr rfl W.qH.m W.qH.F.kp W.qH.b .nil pass0 (kaa (pv 0) (kaa (pv 1) (kaa (pv 2) (kaa (pv 3) kah))))))
   (kae (ke0 (N := ["price"]) (CompScope.plain rfl (by decide +kernel) (by decide +kernel) (by decide +kernel) (nd1 _)) rfl (kby (kap (pv 3) rfl)) (fun _ _ _ _ => kas (i := 0) (nd1 _) rfl (Or.inl rfl)) (fun _ _ _ _ => kai) (kas (i := 5) qB.nd rfl (Or.inl rfl)))
   (kae (kbT PassesOwn.never rfl (kby (kan Vg hr rfl W.Qh.m W.Qh.F.kp W.Qh.b .nil pass0 (kaa (pv 0) (kaa (pv 3) (kaa (pv 4) kah))))) (kcR rfl (kaI (kas (i := 6) qB.nd rfl (Or.inl rfl)) (kaI (kas (i := 7) qB.nd rfl (Or.inl rfl)) kbR)))
   (kaj (kbT PassesOwn.never rfl (kc0 rfl W.B.zip (kaa (pv 7) (kaa (kan Zv hr1 rfl W.qG.m W.qG.F.kp W.qG.b .nil pass0 (kaa (pv 6) (kaa (kan Xe hr1 rfl W.qL.m W.qL.F.kp W.qL.b .nil pass0 (kaa (pv 3) (kaa (pv 7) kah))) kah))) kah))) (kcR rfl (kaI (kas (i := 8) qB.nd rfl (Or.inl rfl)) (kaI (kas (i := 9) qB.nd rfl (Or.inl rfl)) kbR)))
   (kaj (kjJ (pv 9) (kjL (pv 5) (pv 8) set_list))))))
   (kae (kax (i := 10) qB.nd rfl (Or.inl rfl) (kap (kap (pv 0) rfl) rfl))
   (kae (ps_if (PW.pt (kch (kaA kcF (pv 10) kbN (kaN _)) (kcc (kaA op_gt (kaE (kct rfl) (by rfl) W.B.sum b_sum (kaa (pv 5) kah)) (pv 10) (kaN _))))) (kaj (kat (kan Zv hr1 rfl W.qG.m W.qG.F.kp W.qG.b .nil pass0 (kaa (pv 10) (kaa (pv 5) kah))))) (kaB))
   (kaj (kat (pv 5))))))), ?_⟩
  have np := wf.np
  have lp := wf.lp
  refine ⟨_, rfl, _, rfl, _, rfl, _, rfl, v, a, b, x, Vc, ps, B, S, rfl, hV, hA, hB, hS, wf, vo, fun H1 pa s1 f1 h1 => ?_⟩
  have habl : ∀ i ∈ abt ps (kds B) Vc.ms.kind Vc.ms.lone S, i < S.pr.length := fun i hi => by rw [lp]; exact kg4 hi
  have hand := kfZ ps (kds B) Vc.ms.kind Vc.ms.lone S
  have lab : (abt ps (kds B) Vc.ms.kind Vc.ms.lone S).length ≤ 720 := CN (ker _ _ _ _ _) np
  obtain ⟨o, p, mk, ⟨dxs, fss, hx, l1, l2, l3, l4, l5⟩, ho, hp, hmk⟩ := id (hS.same s1)
  refine ⟨_, rfl, x, d.qc, dxs, fss, _, rfl, hx, W.qc.cl, W.n_Standing_prices, l2, p, rfl, ⟨_, SqL.of hp⟩, kbF (xs := S.pr.map V.int) (fun i σ ys H' => H' = H1 ∧ ys = (CI i (0 : Int)).map V.int ∧ ∃ v, σ = [v]) ⟨rfl, rfl, none, rfl⟩ ?_ ?_ ?_ ?_⟩
  ·rw [Cz]
   exact CY (kau (by omega))
  ·rintro i σ ys H' hi ⟨rfl, rfl, _⟩
   exact ⟨SqL.of hp, by simp⟩
  ·rintro i y σ ys H' hy ⟨rfl, rfl, v, rfl⟩
   exact ⟨rfl, by rw [Sa, CU]; rfl, _, rfl⟩
  rintro σ ys H' ⟨rfl, rfl, v0, rfl⟩ w hw
  rw [Cz]
  have s2 := s1.trans (kak (o := .lst ((CI S.pr.length (0 : Int)).map V.int)) hw)
  have hw0 : H w = none := none_of s1 hw
  have ew : (upd H' w (.lst ((CI S.pr.length (0 : Int)).map V.int))) w = some (.lst ((CI S.pr.length (0 : Int)).map V.int)) := kad
  have h1o := h1
  have h1 := kak (o := .lst ((CI S.pr.length (0 : Int)).map V.int)) hw _ _ h1
  have nw : pa ≠ w := kal h1o hw
  generalize upd H' w (.lst ((CI S.pr.length (0 : Int)).map V.int)) = H2 at *
  refine ⟨_, rfl, _, rfl, _, rfl, v, x, pa, Vc, ps, B, S, rfl, hV.same s2, hS.same s2, h1, wf, vo, fun H3 gp tl gl s3 f3 h3 hP hc hnd hlt hgl hsp => ?_⟩
  have s03 := s2.trans s3
  have e3 := s3 _ _ ew
  have ngw : gp ≠ w := fun e => by rw [e, ew] at f3; cases f3
  refine ⟨gp, rfl, ⟨_, SqL.of h3⟩, kb4 (K := K) (a := gp) (xs := tl.map V.ref) (fun i σ H' => (∃ v8 v9 v10 v11 v12 : Option V, σ = [some (.ref v), some (.ref a), some (.ref b), some (.ref x), some (.ref pa), some (.ref w), v8, v9, v10, v11, v12]) ∧ But w H3 H' ∧
    H' w = some (.lst ((spr S.pr.length ((gl.take i).map Prod.snd).flatten ((gl.take i).map fun p => dl p.1 (qs S.pr p.2)).flatten).map V.int)))
   ⟨⟨none, none, none, none, none, rfl⟩, But.refl, by rw [e3]; simp [kka]⟩ (fun i σ H' _ h => SqL.of (h.2.1 _ _ ngw h3)) ?_ ?_⟩
  ·rintro i y σ H4 hy ⟨⟨v8, v9, v10, v11, v12, rfl⟩, b4, h4⟩
   obtain ⟨t, et, rfl⟩ := kb0 hy
   obtain ⟨⟨c, g⟩, eg, ga, ht, hga, hor⟩ := hP.at et
   have hcg := hc c g (CT eg)
   have hgl' : ∀ i ∈ g, i < S.pr.length := fun j hj => hlt j (RV.mpr ⟨g, C4.mpr ⟨(c, g), CT eg, rfl⟩, hj⟩)
   have ngaw : ga ≠ w := by
    rcases hor with rfl | hor
    ·exact nw
    ·exact fun e => by rw [e, ew] at hor; cases hor
   have ntw : t ≠ w := ne_of ht e3 (by intro z; cases z)
   have htt : H4 t = some (.tup [.int c, .ref ga]) := b4 _ _ ntw ht
   have hgg : H4 ga = some (.lst (g.map iV)) := b4 _ _ ngaw hga
   refine ⟨t, _, rfl, SqT.of htt, rfl, _, _, rfl, _, _, rfl, rfl, ?_⟩
   have hS4 : StndIs d.qc H4 x S := by
    exact StndIs.same (H := H) (kgv hw0 s03 b4) hS
   have gnn := qs_nn wf.nn g
   have gsum := khR wf hcg.2.2 hgl'
   have hg720 := hcg.2.2
   refine ⟨_, rfl, _, rfl, _, rfl, _, rfl, x, ga, S, g, rfl, hS4, hgg, hgl', hg720, fun p5 hp5 => ?_⟩
   have s5 := kak (o := .lst ((qs S.pr g).map V.int)) hp5
   refine ⟨c, p5, qs S.pr g, rfl, SqL.of kad, gnn, by omega, hcg.1, by omega, by rw [kcq]; omega, fun p6 hp6 => ?_⟩
   have s6 := s5.trans (kak (o := .lst ((dl c (qs S.pr g)).map V.int)) hp6)
   have h6 : (upd (upd H4 p5 (.lst ((qs S.pr g).map V.int))) p6 (.lst ((dl c (qs S.pr g)).map V.int))) p6 = some (.lst ((dl c (qs S.pr g)).map V.int)) := kad
   have n6 : H4 p6 = none := none_of s5 hp6
   generalize upd (upd H4 p5 (.lst ((qs S.pr g).map V.int))) p6 (.lst ((dl c (qs S.pr g)).map V.int)) = H6 at *
   have b6 := b4.same s6
   have w6 := s6 _ _ h4
   have n6w : p6 ≠ w := fun e => by rw [e, h4] at n6; cases n6
   have ldl : (dl c (qs S.pr g)).length = g.length := by rw [keN, kcq]
   have emin : min (g.map iV).length ((dl c (qs S.pr g)).map V.int).length = g.length := by rw [Cz, Cz, ldl, RQ]
   have ndt : ∀ (j n : Nat), g[j]? = some n → (((gl.take i).map Prod.snd).flatten ++ g.take j ++ [n]).Nodup := fun j n hj => by
    rw [Sm]
    exact kdY hnd (i := i) (by rw [CV, eg]; rfl) hj
   have lfl : ((gl.take i).map Prod.snd).flatten.length = ((gl.take i).map fun p => dl p.1 (qs S.pr p.2)).flatten.length := by
    rw [List.length_flatten, List.length_flatten, C9, C9]
    congr 1
    refine Ry fun q _ => ?_
    show q.2.length = (dl q.1 (qs S.pr q.2)).length
    rw [keN, kcq]
   refine ⟨ga, p6, _, _, rfl, s6 _ _ hgg, h6, kgi (xs := g.map iV) (ys := (dl c (qs S.pr g)).map V.int) (fun j σ H' => (∃ v8 v9 v10 v11 v12 : Option V, σ = [some (.ref v), some (.ref a), some (.ref b), some (.ref x), some (.ref pa), some (.ref w), v8, v9, v10, v11, v12]) ∧ But w H3 H' ∧ H' ga = some (.lst (g.map iV)) ∧ H' p6 = some (.lst ((dl c (qs S.pr g)).map V.int)) ∧
     H' w = some (.lst ((spr S.pr.length (((gl.take i).map Prod.snd).flatten ++ g.take j) (((gl.take i).map fun p => dl p.1 (qs S.pr p.2)).flatten ++ (dl c (qs S.pr g)).take j)).map V.int)))
    ⟨⟨_, _, _, _, _, rfl⟩, b6, s6 _ _ hgg, h6, by rw [w6]; simp⟩ (fun j σ H' _ h => ⟨h.2.2.1, h.2.2.2.1⟩) ?_ ?_⟩
   ·rintro j y1 y2 t2 σ H7 hy1 hy2 ⟨⟨v8, v9, v10, v11, v12, rfl⟩, b7, g7, d7, w7⟩ ht2
    obtain ⟨n, en, rfl⟩ := kb6 hy1
    obtain ⟨z, ez, rfl⟩ := kb6 hy2
    have hn := hgl' n (CT en)
    have s8 := kak (o := .tup [iV n, V.int z]) ht2
    refine ⟨t2, _, rfl, SqT.of kad, rfl, _, _, rfl, _, _, rfl, rfl, ?_⟩
    refine ⟨_, rfl, _, rfl, _, rfl, w, _, _, n, rfl, rfl, s8 _ _ w7, kgg (by rw [Cz, kcX]; exact hn), ⟨_, _, _, _, _, rfl⟩, (b7.same s8).trans kaz, ?_, ?_, ?_⟩
    ·rw [kam ngaw]
     exact s8 _ _ g7
    ·rw [kam n6w]
     exact s8 _ _ d7
    ·rw [kad, ← To, kbY en, kbY ez, ← R0, ← R0]
     rw [kiO (by rw [C7, C7, lfl, C0, C0, ldl]) (ndt j n en) hn]
   ·rintro σ H7 ⟨⟨v8, v9, v10, v11, v12, rfl⟩, b7, g7, d7, w7⟩
    refine ⟨⟨_, _, _, _, _, rfl⟩, b7, ?_⟩
    rw [w7, emin, Rh, RB (Ss ldl), kbY eg]
    simp
  rintro σ H4 ⟨⟨v8, v9, v10, v11, v12, rfl⟩, b4, h4⟩
  have ltl : (tl.map V.ref).length = gl.length := by rw [Cz, hP.len]
  rw [ltl, Rh, hsp] at h4
  have s04 : Same H H4 := kgv hw0 s03 b4
  obtain ⟨mA, dxv, fsv, hv, lvm, _, ⟨dxm, fsm, hm, m1, m2, m3, m4, m5, m6⟩, hh, htb⟩ := id (hV.same s04)
  refine ⟨_, rfl, v, clsOf d Vc.so, dxv, fsv, _, rfl, hv, cl_of W hh, na_of W hh, lvm, mA, d.qg, dxm, fsm, _, rfl, hm, W.qg.cl, W.n_Marks_most, m3, ?_⟩
  have wle := khr (so := Vc.so) (n := S.mkd.length) (lines := (abt ps (kds B) Vc.ms.kind Vc.ms.lone S).map fun i => S.ow.getD i 0) (qs_nn wf.nn (abt ps (kds B) Vc.ms.kind Vc.ms.lone S)) vo.so
  have cn := kjx (V := Vc) (ps := ps) (kk := kds B) (S := S)
  have cs := fun (m : Int) (e : Vc.ms.most = some m) (h0 : 0 ≤ m) => kjw (V := Vc) (ps := ps) (kk := kds B) (S := S) lp wle e h0
  have sabs := khR wf lab habl
  generalize ewant : want Vc.so S.mkd.length ((abt ps (kds B) Vc.ms.kind Vc.ms.lone S).map fun i => S.ow.getD i 0) (qs S.pr (abt ps (kds B) Vc.ms.kind Vc.ms.lone S)) = wn at *
  have fnn : Nn (spr S.pr.length (abt ps (kds B) Vc.ms.kind Vc.ms.lone S) wn) := (kfl wf.nn wle).nn
  have fsum : (spr S.pr.length (abt ps (kds B) Vc.ms.kind Vc.ms.lone S) wn).sum ≤ 720000000000000 := by
   have h := (kfl wf.nn wle).sum
   have h2 := kdl (b := 1000000000000) (q := S.pr) fun z hz => (wf.pr z hz).2
   omega
  cases em : Vc.ms.most with
  | none =>
   refine ⟨_, rfl, rfl, _, rfl, ?_⟩
   show if (!decide (V.non = V.non)) = true then _ else _
   rw [kjP]
   refine iteF (iteF ⟨_, rfl, k _ w s04 hw0 ?_⟩)
   rw [h4, cn em]
  | some m =>
   have hm0 := vo.ms.most m em
   refine ⟨_, rfl, rfl, _, rfl, ?_⟩
   show if (!decide (V.int m = V.non)) = true then _ else _
   rw [kjQ]
   refine iteT ⟨_, rfl, w, _, rfl, SqL.of h4, _, rfl, _, _, rfl, rfl, _, rfl, ?_⟩
   by_cases hgt : (spr S.pr.length (abt ps (kds B) Vc.ms.kind Vc.ms.lone S) wn).sum > m
   ·rw [decide_eq_true hgt]
    refine iteT ⟨_, rfl, _, rfl, m, w, _, rfl, SqL.of h4, fnn, by omega, hm0.1, by omega, by rw [kcX]; omega, fun p7 hp7 => ?_⟩
    refine k _ p7 (s04.trans (kak hp7)) (none_of s04 hp7) ?_
    rw [kad, cs m em hm0.1, if_pos hgt]
   ·rw [decide_eq_false hgt]
    refine iteF ⟨_, rfl, k _ w s04 hw0 ?_⟩
    rw [h4, cs m em hm0.1, if_neg hgt]
theorem kkt : kaq ["voucher", "parents", "basket", "standing"] ["voucher", "parents", "basket", "standing"] (kab kcB) := ⟨rfl, rfl, rfl, by decide +kernel, rfl, by decide +kernel, by decide +kernel⟩
theorem kkF (W : WB K mg d base) : FnOk P w K mg base CX0 5 d.XH d.XI ["voucher", "parents", "basket", "standing"] (klb K d) := by
 refine FunD.ok W.Qf.F kkt (fun vs H Q E h => ?_) (fun cdv A outer s H vs Q E hr h => ?_)
 ·obtain ⟨v, a, b, x, V, ps, B, S, rfl, _⟩ := h
  rfl
 ·obtain ⟨v, a, b, x, Vc, ps, B, S, rfl, hV, hA, hB, hS, wf, vo, k⟩ := h
  have Xi := kcv (P := P) (w := w) (base := base) W
  have Xj := kcr (P := P) (w := w) (base := base) W
  have hr2 : Room 2 _ := hr.mono (by decide)
  refine ⟨_, kaj (kat (kcS (kaa (kan Xi hr rfl W.qI.m W.qI.F.kp W.qI.b .nil pass0 (kaa (pv 0) (kaa (pv 1) (kaa (pv 2) (kaa (pv 3) kah))))) (kaa (kan Xj hr2 rfl W.qJ.m W.qJ.F.kp W.qJ.b .nil pass0 (kaa (pv 0) (kaa (pv 3) kah))) kah)))), ?_⟩
  refine ⟨_, rfl, _, rfl, _, rfl, _, rfl, v, a, b, x, Vc, ps, B, S, rfl, hV, hA, hB, hS, wf, vo, fun H1 p s1 f1 h1 => ?_⟩
  refine ⟨_, rfl, _, rfl, v, x, Vc, S, rfl, hV.same s1, hS.same s1, (by show 2 ≤ sizeLine; decide), fun t ht => ?_⟩
  rw [← kix (ps := ps) (kk := kds B) (S := S) vo]
  refine k _ t p (s1.trans (kak ht)) (none_of s1 ht) f1 ?_ (kak ht _ _ h1)
  exact kad
theorem kjC {l : List Nat} {f g : Nat → Bool} (h : ∀ x ∈ l, f x = g x) : l.any f = l.any g := by
 induction l with
 | nil => rfl
 | cons a l ih => rw [RZ, RZ, h a Re, ih fun x hx => h x (C8 _ hx)]
theorem kgl {ow : List Nat} {cs : List Int} {i o l : Nat} (h : ow[i]? = some o) : kdh (ow.take (i + 1)) cs l = (kdh (ow.take i) cs l || (o == l && decide (0 < cs.getD i 0))) := by
 have hi := at_lt h
 unfold kdh
 rw [C0, C0, Sg (by omega), Sg (by omega), RT, List.any_append]
 congr 1
 ·refine kjC fun j hj => ?_
  have hj' : j < i := by simpa using hj
  simp only [C5, List.getElem?_take]
  rw [if_pos (by omega), if_pos hj']
 ·simp only [RZ, List.any_nil, Bool.or_false]
  rw [C5, List.getElem?_take, if_pos (by omega), h]
  rfl
def ket (d : D) : Sp := fun vs H Q _ => ∃ (v x c : Addr) (V : Vch) (S : Stnd) (cs : List Int), vs = [.ref v, .ref x, .ref c] ∧ VchIs d H v V ∧ StndIs d.qc H x S ∧ H c = some (.lst (cs.map L2.V.int)) ∧ cs.length = S.ow.length ∧ S.ow.length ≤ 720 ∧ S.mkd.length ≤ 12 ∧ (∀ l ∈ S.ow, l < S.mkd.length) ∧
 ∀ (H' : Hp) (p : Addr), Same H H' → H p = none → H' p = some (.lst (((CP S.mkd.length).map fun l => S.mkd.getD l false || (V.ms.lone && kdh S.ow cs l)).map L2.V.bl)) → Q (.ref p) H'
theorem QJ : kaq ["voucher", "standing", "piece_cuts", "marked", "owner", "cut"] ["voucher", "standing", "piece_cuts"] (kab kaY) := ⟨rfl, rfl, rfl, by decide +kernel, rfl, by decide +kernel, by decide +kernel⟩
theorem kdN (W : WB K mg d base) : FnOk P w K mg base CX0 1 d.XZ d.X0 ["voucher", "standing", "piece_cuts"] (ket d) := by
 refine FunD.ok W.Qj.F QJ (fun vs H Q E h => ?_) (fun cdv A outer s H vs Q E hr h => ?_)
 ·obtain ⟨v, x, c, V, S, cs, rfl, _⟩ := h
  rfl
 ·obtain ⟨v, x, c, Vc, S, cs, rfl, ⟨mA, dxv, fsv, hv, lvm, _, ⟨dxm, fsm, hm, m1, m2, m3, m4, m5, m6⟩, hh, htb⟩, ⟨o, p, mk, ⟨dxs, fss, hx, l1, l2, l3, l4, l5⟩, ho, hp, hmk⟩, hc, lc, lo, lmk, hw, k⟩ := h
  refine ⟨_, kae (kax (i := 3) QJ.nd rfl (Or.inl rfl) (kbM kbB (by rfl) W.B.list kcx (kaa (kap (pv 1) rfl) kah)))
   (kae (ps_if (kbH (kap (kap (pv 0) rfl) rfl)) (kaj (kbT PassesOwn.never rfl (kc0 rfl W.B.zip (kaa (kap (pv 1) rfl) (kaa (pv 2) kah))) (kcR rfl (kaI (kas (i := 4) QJ.nd rfl (Or.inl rfl)) (kaI (kas (i := 5) QJ.nd rfl (Or.inl rfl)) kbR)))
   (kaj (ps_if (kaA op_gt (pv 5) kai (kaN _)) (kaj (kjJ pe_bl (kjL (pv 3) (pv 4) set_list))) (kaB))))) (kaB))
   (kaj (kat (pv 3)))), ?_⟩
  have e0 : S.mkd.map V.bl = ((CP S.mkd.length).map fun l => S.mkd.getD l false || kdh (S.ow.take 0) cs l).map V.bl := by
   congr 1
   apply RM
   ·simp
   ·intro j h1 h2
    simp [kdh, h1]
  refine ⟨_, rfl, x, d.qc, dxs, fss, _, rfl, hx, W.qc.cl, W.n_Standing_marked, l4, mk, _, rfl, .inl (SqL.of hmk), fun q hq => ?_⟩
  have s1 := kak (o := .lst (S.mkd.map V.bl)) hq
  refine ⟨_, rfl, v, clsOf d Vc.so, dxv, fsv, _, rfl, s1 _ _ hv, cl_of W hh, na_of W hh, lvm, mA, d.qg, dxm, fsm, _, rfl, s1 _ _ hm, W.qg.cl, W.n_Marks_lone, m6, _, rfl, ?_⟩
  cases e : Vc.ms.lone with
  | false =>
   refine iteF ⟨_, rfl, k _ q s1 hq ?_⟩
   rw [e0]
   simp only [e, SV, Bool.or_false]
   rw [kad]
   congr 2
   simp [kdh]
  | true =>
   refine iteT ?_
   have emin : min (S.ow.map iV).length (cs.map V.int).length = S.ow.length := by rw [Cz, Cz, lc, RQ]
   refine ⟨_, rfl, x, d.qc, dxs, fss, _, rfl, s1 _ _ hx, W.qc.cl, W.n_Standing_owners, l1, _, rfl, o, c, _, _, rfl, s1 _ _ ho, s1 _ _ hc,
    kgi (xs := S.ow.map iV) (ys := cs.map V.int) (fun i σ H' => (∃ v4 v5 : Option V, σ = [some (.ref v), some (.ref x), some (.ref c), some (.ref q), v4, v5]) ∧ But q H H' ∧ H' q = some (.lst (((CP S.mkd.length).map fun l => S.mkd.getD l false || kdh (S.ow.take i) cs l).map V.bl)))
     ⟨⟨none, none, rfl⟩, But.of_same s1, by rw [kad, e0]⟩ (fun i σ H' _ h => ⟨h.2.1 _ _ (kal ho hq) ho, h.2.1 _ _ (kal hc hq) hc⟩) ?_ ?_⟩
   ·rintro i y z t σ H1 hy hz ⟨⟨v4, v5, rfl⟩, b1, h1⟩ ht
    obtain ⟨ln, eln, rfl⟩ := kb6 hy
    obtain ⟨cz, ecz, rfl⟩ := kb6 hz
    have hln := hw ln (CT eln)
    have st := fun l => kgl (cs := cs) (l := l) eln
    have eg : cs.getD i 0 = cz := by rw [C5, ecz]; rfl
    have tq : q ≠ t := kal h1 ht
    have b2 := b1.same (kak (o := .tup [iV ln, V.int cz]) ht)
    have h2 := kak (o := .tup [iV ln, V.int cz]) ht _ _ h1
    refine ⟨t, _, rfl, SqT.of kad, rfl, _, _, rfl, _, _, rfl, rfl, ?_⟩
    refine ⟨_, rfl, _, _, rfl, rfl, _, rfl, ?_⟩
    by_cases hc0 : cz > 0
    ·rw [decide_eq_true hc0]
     refine iteT ⟨_, rfl, _, rfl, q, _, _, ln, rfl, rfl, h2, kgg (by simpa using hln), ⟨_, _, rfl⟩, b2.trans kaz, ?_⟩
     rw [kad, ← To]
     congr 3
     apply RM
     ·simp
     ·intro j g1 g2
      have hj : j < S.mkd.length := by simpa using g1
      rw [Td]
      simp only [R7, Si]
      rw [st j, eg]
      by_cases hjl : ln = j
      ·subst hjl
       simp [hc0]
      ·rw [if_neg hjl, show (ln == j) = false by simpa using hjl]
       simp
    ·rw [decide_eq_false hc0]
     refine iteF ⟨⟨_, _, rfl⟩, b2, ?_⟩
     rw [h2]
     congr 3
     refine Ry fun l _ => ?_
     rw [st l, eg, show decide (0 < cz) = false by simpa using hc0]
     simp
   ·rintro σ H1 ⟨⟨v4, v5, rfl⟩, b1, h1⟩
    rw [emin, Rh] at h1
    refine ⟨_, rfl, k _ q (kfR b1 hq) hq ?_⟩
    rw [h1]
    simp only [e, Bool.true_and]
theorem Xk : kaq ["voucher", "parents", "basket", "standing", "piece_cuts", "left"] ["voucher", "parents", "basket", "standing"] (kab kcb) := ⟨rfl, rfl, rfl, by decide +kernel, rfl, by decide +kernel, by decide +kernel⟩
theorem kjg (W : WB K mg d base) : FnOk P w K mg base CX0 5 d.XJ d.XM ["voucher", "parents", "basket", "standing"] (kkp K d) := by
 refine FunD.ok W.Qg.F Xk (fun vs H Q E h => ?_) (fun cdv A outer s H vs Q E hr h => ?_)
 ·obtain ⟨v, a, b, x, V, ps, B, S, rfl, _⟩ := h
  rfl
 ·obtain ⟨v, a, b, x, Vc, ps, B, S, rfl, hV, hA, hB, hS, wf, vo, k⟩ := h
  have Xi := kcv (P := P) (w := w) (base := base) W
  have qW := kcd (P := P) (w := w) (base := base) W
  have Xj := kcr (P := P) (w := w) (base := base) W
  have Vh := kdN (P := P) (w := w) (base := base) W
  have hr1 : Room 1 _ := hr.mono (by decide)
  have hr2 : Room 2 _ := hr.mono (by decide)
  have hr3 : Room 3 _ := hr.mono (by decide)
  refine ⟨_, kae (kax (i := 4) Xk.nd rfl (Or.inl rfl) (kan Xi hr rfl W.qI.m W.qI.F.kp W.qI.b .nil pass0 (kaa (pv 0) (kaa (pv 1) (kaa (pv 2) (kaa (pv 3) kah))))))
   (kae (kax (i := 5) Xk.nd rfl (Or.inl rfl) (kbS (W.qQ.mk' W.qc) qW hr3 rfl W.qc.m W.qQ.b .nil pass0 (kaa (pv 2) kah)))
   (kae (kba (pv 5) (kbM kbB (by rfl) W.B.list kcx (kaa (kap (pv 3) rfl) kah)) rfl)
   (kae (kba (pv 5) (kbO (N := ["price", "cut"]) (CompScope.plain rfl (by decide +kernel) (by decide +kernel) (by decide +kernel) (show (["price", "cut"] : List Str).Nodup by decide +kernel)) rfl (kc0 rfl W.B.zip (kaa (kap (pv 3) rfl) (kaa (pv 4) kah))) (fun _ _ _ _ => kc1 (K := K) (n := 2) rfl (kaI (kas (i := 0) (show (["price", "cut"] : List Str).Nodup by decide +kernel) rfl (Or.inl rfl)) (kaI (kas (i := 1) (show (["price", "cut"] : List Str).Nodup by decide +kernel) rfl (Or.inl rfl)) kbR))) (fun _ _ _ _ => (pe_op kfy (pv 0) (pv 1)))) rfl)
   (kae (kba (pv 5) (pe_op kfy (kap (pv 3) rfl) (kan Xj hr2 rfl W.qJ.m W.qJ.F.kp W.qJ.b .nil pass0 (kaa (pv 0) (kaa (pv 3) kah)))) rfl)
   (kae (kba (pv 5) (kan Vh hr1 rfl W.Qj.m W.Qj.F.kp W.Qj.b .nil pass0 (kaa (pv 0) (kaa (pv 3) (kaa (pv 4) kah)))) rfl)
   (kaj (kat (pv 5)))))))), ?_⟩
  have np := wf.np
  have lp := wf.lp
  have lcut : (cutM Vc ps (kds B) S).1.length = S.pr.length := (kgX wf.nn wf.cg.1 vo.so fun m e => (vo.ms.most m e).1).1.1
  refine ⟨_, rfl, _, rfl, _, rfl, _, rfl, v, a, b, x, Vc, ps, B, S, rfl, hV, hA, hB, hS, wf, vo, fun H1 pc s1 f1 h1 => ?_⟩
  obtain ⟨l, ls, hb1, hl1, hL1⟩ := id (hB.same s1)
  refine ⟨_, rfl, kh8 hb1 hl1 hL1 wf.nl wf.ok fun H2 y s2 f2 dxy fsy hy ly lyw => ?_⟩
  have fy : H y = none := none_of s1 f2
  have s02 := s1.trans s2
  obtain ⟨o, p, mk, ⟨dxs, fss, hx, l1, l2, l3, l4, l5⟩, ho, hp, hmk⟩ := id hS
  refine ⟨_, rfl, x, d.qc, dxs, fss, _, rfl, s02 _ _ hx, W.qc.cl, W.n_Standing_owners, l1, o, _, rfl, .inl (SqL.of (s02 _ _ ho)), fun q1 hq1 => ?_⟩
  have n1 : q1 ≠ y := (kal hy hq1).symm
  refine ⟨_, rfl, y, d.qc, dxy, fsy, rfl, kak hq1 _ _ hy, W.qc.cl, W.n_Standing_owners, few (by omega), ?_⟩
  have s3 : Same H (upd (upd H2 q1 (.lst (S.ow.map iV))) y (.ins d.qc dxy (putF "owners" (.ref q1) fsy))) := kaw fy (s02.trans (kak hq1))
  have e3 : (upd (upd H2 q1 (.lst (S.ow.map iV))) y (.ins d.qc dxy (putF "owners" (.ref q1) fsy))) q1 = some (.lst (S.ow.map iV)) := by rw [kam n1, kad]
  have y3 : (upd (upd H2 q1 (.lst (S.ow.map iV))) y (.ins d.qc dxy (putF "owners" (.ref q1) fsy))) y = some (.ins d.qc dxy (putF "owners" (.ref q1) fsy)) := kad
  have c3 : (upd (upd H2 q1 (.lst (S.ow.map iV))) y (.ins d.qc dxy (putF "owners" (.ref q1) fsy))) pc = some (.lst ((cutM Vc ps (kds B) S).1.map V.int)) := by
   rw [kam (kal h1 f2)]
   exact kak hq1 _ _ (s2 _ _ h1)
  have f3 := CN (kao (f := "owners") (v := .ref q1) ly) (by decide : 11 ≤ 20)
  generalize upd (upd H2 q1 (.lst (S.ow.map iV))) y (.ins d.qc dxy (putF "owners" (.ref q1) fsy)) = H3 at *
  have emin : min (S.pr.map V.int).length ((cutM Vc ps (kds B) S).1.map V.int).length = S.pr.length := by rw [Cz, Cz, lcut, RQ]
  refine ⟨_, rfl, x, d.qc, dxs, fss, _, rfl, s3 _ _ hx, W.qc.cl, W.n_Standing_prices, l2, _, rfl, p, pc, _, _, rfl, s3 _ _ hp, c3,
   kdV (xs := S.pr.map V.int) (ys := (cutM Vc ps (kds B) S).1.map V.int) (fun i σ zs H' => Same H3 H' ∧ zs = ((Rb (· - ·) S.pr (cutM Vc ps (kds B) S).1).take i).map V.int ∧ ∃ v0 v1 : Option V, σ = [v0, v1])
    ⟨Same.refl _, rfl, none, none, rfl⟩ (by rw [emin]; exact CY (kau (by omega))) (fun i σ zs H' hi h => ⟨h.1 _ _ (s3 _ _ hp), h.1 _ _ c3, by rw [h.2.1, Cz, C0, Sj, lcut]; rw [emin] at hi; omega⟩) ?_ ?_⟩
  ·rintro i y1 y2 t σ zs H4 hy1 hy2 ⟨s4, rfl, v0, v1, rfl⟩ ht
   obtain ⟨z1, ez1, rfl⟩ := kb6 hy1
   obtain ⟨z2, ez2, rfl⟩ := kb6 hy2
   refine ⟨t, _, rfl, SqT.of kad, rfl, _, _, rfl, _, _, rfl, rfl, _, rfl, _, rfl, _, _, rfl, rfl, s4.trans (kak ht), ?_, _, _, rfl⟩
   rw [kbY (r := z1 - z2) (by rw [SM, ez1, ez2]), CU]
   rfl
  rintro σ zs H4 ⟨s4, rfl, v0, v1, rfl⟩ q2 hq2
  rw [emin, RB (by rw [Sj, lcut]; omega)]
  have n2 : q2 ≠ y := (kal (s4 _ _ y3) hq2).symm
  have n12 : q1 ≠ q2 := kal (s4 _ _ e3) hq2
  have s5 := kak (o := .lst ((Rb (· - ·) S.pr (cutM Vc ps (kds B) S).1).map V.int)) hq2
  refine ⟨_, rfl, y, d.qc, dxy, _, rfl, s5 _ _ (s4 _ _ y3), W.qc.cl, W.n_Standing_prices, few f3, ?_⟩
  have s6 : Same H (upd (upd H4 q2 (.lst ((Rb (· - ·) S.pr (cutM Vc ps (kds B) S).1).map V.int))) y (.ins d.qc dxy (putF "prices" (.ref q2) (putF "owners" (.ref q1) fsy)))) := kaw fy ((s3.trans s4).trans s5) (nx (s5 _ _ (s4 _ _ y3)))
  have e6 : (upd (upd H4 q2 (.lst ((Rb (· - ·) S.pr (cutM Vc ps (kds B) S).1).map V.int))) y (.ins d.qc dxy (putF "prices" (.ref q2) (putF "owners" (.ref q1) fsy)))) q1 = some (.lst (S.ow.map iV)) := by
   rw [kam n1]
   exact s5 _ _ (s4 _ _ e3)
  have p6 : (upd (upd H4 q2 (.lst ((Rb (· - ·) S.pr (cutM Vc ps (kds B) S).1).map V.int))) y (.ins d.qc dxy (putF "prices" (.ref q2) (putF "owners" (.ref q1) fsy)))) q2 = some (.lst ((Rb (· - ·) S.pr (cutM Vc ps (kds B) S).1).map V.int)) := by rw [kam n2, kad]
  have y6 : (upd (upd H4 q2 (.lst ((Rb (· - ·) S.pr (cutM Vc ps (kds B) S).1).map V.int))) y (.ins d.qc dxy (putF "prices" (.ref q2) (putF "owners" (.ref q1) fsy)))) y = some (.ins d.qc dxy (putF "prices" (.ref q2) (putF "owners" (.ref q1) fsy))) := kad
  have c6 : (upd (upd H4 q2 (.lst ((Rb (· - ·) S.pr (cutM Vc ps (kds B) S).1).map V.int))) y (.ins d.qc dxy (putF "prices" (.ref q2) (putF "owners" (.ref q1) fsy)))) pc = some (.lst ((cutM Vc ps (kds B) S).1.map V.int)) := by
   rw [kam (kal h1 f2)]
   exact s5 _ _ (s4 _ _ c3)
  have f6 := CN (kao (f := "prices") (v := .ref q2) (kao (f := "owners") (v := .ref q1) ly)) (by decide : 12 ≤ 20)
  generalize upd (upd H4 q2 (.lst ((Rb (· - ·) S.pr (cutM Vc ps (kds B) S).1).map V.int))) y (.ins d.qc dxy (putF "prices" (.ref q2) (putF "owners" (.ref q1) fsy))) = H6 at *
  refine ⟨_, rfl, x, d.qc, dxs, fss, _, rfl, s6 _ _ hx, W.qc.cl, W.n_Standing_carriage, l3, _, rfl, _, rfl, v, x, Vc, S, rfl, hV.same s6, hS.same s6, _, _, rfl, rfl, ?_⟩
  rw [← kix (ps := ps) (kk := kds B) (S := S) vo]
  refine ⟨_, rfl, y, d.qc, dxy, _, rfl, y6, W.qc.cl, W.n_Standing_carriage, few f6, ?_⟩
  have s7 : Same H (upd H6 y (.ins d.qc dxy (putF "carriage" (.int (S.cg - (cutM Vc ps (kds B) S).2)) (putF "prices" (.ref q2) (putF "owners" (.ref q1) fsy))))) := kaw fy s6
  have e7 : (upd H6 y (.ins d.qc dxy (putF "carriage" (.int (S.cg - (cutM Vc ps (kds B) S).2)) (putF "prices" (.ref q2) (putF "owners" (.ref q1) fsy))))) q1 = some (.lst (S.ow.map iV)) := by rw [kam n1]; exact e6
  have p7 : (upd H6 y (.ins d.qc dxy (putF "carriage" (.int (S.cg - (cutM Vc ps (kds B) S).2)) (putF "prices" (.ref q2) (putF "owners" (.ref q1) fsy))))) q2 = some (.lst ((Rb (· - ·) S.pr (cutM Vc ps (kds B) S).1).map V.int)) := by rw [kam n2]; exact p6
  have y7 : (upd H6 y (.ins d.qc dxy (putF "carriage" (.int (S.cg - (cutM Vc ps (kds B) S).2)) (putF "prices" (.ref q2) (putF "owners" (.ref q1) fsy))))) y = some (.ins d.qc dxy (putF "carriage" (.int (S.cg - (cutM Vc ps (kds B) S).2)) (putF "prices" (.ref q2) (putF "owners" (.ref q1) fsy)))) := kad
  have c7 : (upd H6 y (.ins d.qc dxy (putF "carriage" (.int (S.cg - (cutM Vc ps (kds B) S).2)) (putF "prices" (.ref q2) (putF "owners" (.ref q1) fsy))))) pc = some (.lst ((cutM Vc ps (kds B) S).1.map V.int)) := by rw [kam (kal h1 f2)]; exact c6
  have f7 := CN (kao (f := "carriage") (v := .int (S.cg - (cutM Vc ps (kds B) S).2)) (kao (f := "prices") (v := .ref q2) (kao (f := "owners") (v := .ref q1) ly))) (by decide : 13 ≤ 20)
  generalize upd H6 y (.ins d.qc dxy (putF "carriage" (.int (S.cg - (cutM Vc ps (kds B) S).2)) (putF "prices" (.ref q2) (putF "owners" (.ref q1) fsy)))) = H7 at *
  refine ⟨_, rfl, _, rfl, _, rfl, v, x, pc, Vc, S, _, rfl, hV.same s7, hS.same s7, c7, by rw [lcut, lp], np, by rw [wf.lm]; exact wf.nl, fun l hl => ?_, fun H8 q3 s8 f8 h8 => ?_⟩
  ·obtain ⟨i, hi⟩ := RU.mp hl
   rw [wf.lm]
   exact wf.line hi
  have n3 : q3 ≠ y := (kal y7 f8).symm
  refine ⟨_, rfl, y, d.qc, dxy, _, rfl, s8 _ _ y7, W.qc.cl, W.n_Standing_marked, few f7, ?_⟩
  refine ⟨_, rfl, k _ y (kaw fy (s7.trans s8) (nx (s8 _ _ y7))) fy ⟨q1, q2, q3, ⟨dxy, _, kad, ?_, ?_, ?_, ?_, ?_⟩, ?_, ?_, ?_⟩⟩
  ·(repeat (first | rw [kac, if_pos rfl] | rw [kac, if_neg (by decide +kernel)]))
  ·(repeat (first | rw [kac, if_pos rfl] | rw [kac, if_neg (by decide +kernel)]))
  ·(repeat (first | rw [kac, if_pos rfl] | rw [kac, if_neg (by decide +kernel)]))
   rfl
  ·(repeat (first | rw [kac, if_pos rfl] | rw [kac, if_neg (by decide +kernel)]))
  ·rw [kac, if_neg (by decide +kernel), kac, if_neg (by decide +kernel), kac, if_neg (by decide +kernel), kac, if_neg (by decide +kernel)]
   exact lyw
  ·rw [kam n1]
   exact s8 _ _ e7
  ·rw [kam n2]
   exact s8 _ _ p7
  ·rw [kam n3]
   exact h8
def khC (d : D) : Sp := fun vs H Q _ => ∃ (H0 : Hp) (x dx p vl rl : Addr) (ps vs' rs : List V) (bk : Str), vs = [.ref x, .ref p, .ref vl, .ref rl, .str bk] ∧ H0 x = none ∧ Same H0 H ∧ H x = some (.ins d.qf dx []) ∧ H0 p = some (.lst ps) ∧ H0 vl = some (.lst vs') ∧ H0 rl = some (.lst rs) ∧
 ∀ (H' : Hp) (p' vl' rl' : Addr) (fs : List (Str × V)), Same H0 H' → H0 p' = none → H0 vl' = none → H0 rl' = none → H' p' = some (.lst ps) → H' vl' = some (.lst vs') → H' rl' = some (.lst rs) → H' x = some (.ins d.qf dx fs) → fs.lookup ("parents" : Str) = some (.ref p') → fs.lookup ("vouchers" : Str) = some (.ref vl') → fs.lookup ("rules" : Str) = some (.ref rl') → fs.lookup ("back" : Str) = some (.str bk) → Q .non H'
theorem kfu : kaq ["self", "parents", "vouchers", "rules", "back"] ["self", "parents", "vouchers", "rules", "back"] (kab kbf) := ⟨rfl, rfl, rfl, by decide +kernel, rfl, by decide +kernel, by decide +kernel⟩
theorem kfF (W : WB K mg d base) : FnOk P w K mg base CX0 1 d.Zr d.Q0 ["self", "parents", "vouchers", "rules", "back"] (khC d) := by
 refine FunD.ok W.Xb.F kfu (fun vs H Q E h => ?_) (fun cdv A outer s H vs Q E hr h => ?_)
 ·obtain ⟨H0, x, dx, p, vl, rl, ps, vs', rs, bk, rfl, _⟩ := h
  rfl
 ·obtain ⟨H0, x, dx, p, vl, rl, ps, vs', rs, bk, rfl, fx, s0, hx, hp, hvl, hrl, k⟩ := h
  refine ⟨_, kae (kba (pv 0) (kbM kbB (by rfl) W.B.list kcx (kaa (pv 1) kah)) rfl)
   (kae (kba (pv 0) (kbM kbB (by rfl) W.B.list kcx (kaa (pv 2) kah)) rfl)
   (kae (kba (pv 0) (kbM kbB (by rfl) W.B.list kcx (kaa (pv 3) kah)) rfl)
   (kaj (kba (pv 0) (pv 4) rfl)))), ?_⟩
  refine ⟨_, rfl, p, _, rfl, .inl (SqL.of (s0 _ _ hp)), fun p' hp' => ?_⟩
  have n1 := kak (o := .lst ps) hp'
  have fp := s0.free hp'
  have np : p' ≠ x := (kal hx hp').symm
  have e1 : (upd H p' (.lst ps)) p' = some (.lst ps) := kad
  have s1 := s0.trans n1
  have hx1 := n1 _ _ hx
  clear n1
  generalize upd H p' (.lst ps) = H1 at *
  refine ⟨_, rfl, x, d.qf, dx, [], rfl, hx1, W.qf.cl, W.n_Till_parents, by decide, ?_⟩
  have s2 : Same H0 (upd H1 x (.ins d.qf dx (putF "parents" (.ref p') []))) := kaw fx s1 (nx hx1)
  have e2 : (upd H1 x (.ins d.qf dx (putF "parents" (.ref p') []))) p' = some (.lst ps) := by rw [kam np]; exact e1
  have hx2 : (upd H1 x (.ins d.qf dx (putF "parents" (.ref p') []))) x = some (.ins d.qf dx (putF "parents" (.ref p') [])) := kad
  generalize upd H1 x (.ins d.qf dx (putF "parents" (.ref p') [])) = H2 at *
  refine ⟨_, rfl, vl, _, rfl, .inl (SqL.of (s2 _ _ hvl)), fun v' hv' => ?_⟩
  have n3 := kak (o := .lst vs') hv'
  have fv := s2.free hv'
  have nv : v' ≠ x := (kal hx2 hv').symm
  have s3 := s2.trans n3
  have e3 := n3 _ _ e2
  have ev3 : (upd H2 v' (.lst vs')) v' = some (.lst vs') := kad
  have hx3 := n3 _ _ hx2
  clear n3
  generalize upd H2 v' (.lst vs') = H3 at *
  refine ⟨_, rfl, x, d.qf, dx, _, rfl, hx3, W.qf.cl, W.n_Till_vouchers, few (CN (kao (n := 0) (CC _)) (by decide)), ?_⟩
  have s4 : Same H0 (upd H3 x (.ins d.qf dx (putF "vouchers" (.ref v') (putF "parents" (.ref p') [])))) := kaw fx s3 (nx hx3)
  have e4 : (upd H3 x (.ins d.qf dx (putF "vouchers" (.ref v') (putF "parents" (.ref p') [])))) p' = some (.lst ps) := by rw [kam np]; exact e3
  have ev4 : (upd H3 x (.ins d.qf dx (putF "vouchers" (.ref v') (putF "parents" (.ref p') [])))) v' = some (.lst vs') := by rw [kam nv]; exact ev3
  have hx4 : (upd H3 x (.ins d.qf dx (putF "vouchers" (.ref v') (putF "parents" (.ref p') [])))) x = some (.ins d.qf dx (putF "vouchers" (.ref v') (putF "parents" (.ref p') []))) := kad
  generalize upd H3 x (.ins d.qf dx (putF "vouchers" (.ref v') (putF "parents" (.ref p') []))) = H4 at *
  refine ⟨_, rfl, rl, _, rfl, .inl (SqL.of (s4 _ _ hrl)), fun r' hr' => ?_⟩
  have n5 := kak (o := .lst rs) hr'
  have fr := s4.free hr'
  have nr : r' ≠ x := (kal hx4 hr').symm
  have s5 := s4.trans n5
  have e5 := n5 _ _ e4
  have ev5 := n5 _ _ ev4
  have er5 : (upd H4 r' (.lst rs)) r' = some (.lst rs) := kad
  have hx5 := n5 _ _ hx4
  clear n5
  generalize upd H4 r' (.lst rs) = H5 at *
  refine ⟨_, rfl, x, d.qf, dx, _, rfl, hx5, W.qf.cl, W.n_Till_rules, few (CN (kao (kao (n := 0) (CC _))) (by decide)), ?_⟩
  have s6 : Same H0 (upd H5 x (.ins d.qf dx (putF "rules" (.ref r') (putF "vouchers" (.ref v') (putF "parents" (.ref p') []))))) := kaw fx s5 (nx hx5)
  have hx6 : (upd H5 x (.ins d.qf dx (putF "rules" (.ref r') (putF "vouchers" (.ref v') (putF "parents" (.ref p') []))))) x = some (.ins d.qf dx (putF "rules" (.ref r') (putF "vouchers" (.ref v') (putF "parents" (.ref p') [])))) := kad
  refine ⟨_, rfl, _, rfl, x, d.qf, dx, _, rfl, hx6, W.qf.cl, W.n_Till_back, few (CN (kao (kao (kao (n := 0) (CC _)))) (by decide)), ?_⟩
  refine k _ p' v' r' _ (kaw fx s6 (nx hx6)) fp fv fr ?_ ?_ ?_ kad ?_ ?_ ?_ ?_
  ·rw [kam np, kam np]; exact e5
  ·rw [kam nv, kam nv]; exact ev5
  ·rw [kam nr, kam nr]; exact er5
  ·(repeat (first | rw [kac, if_pos rfl] | rw [kac, if_neg (by decide +kernel)]))
  ·(repeat (first | rw [kac, if_pos rfl] | rw [kac, if_neg (by decide +kernel)]))
  ·(repeat (first | rw [kac, if_pos rfl] | rw [kac, if_neg (by decide +kernel)]))
  ·(repeat (first | rw [kac, if_pos rfl] | rw [kac, if_neg (by decide +kernel)]))
theorem kkI {d : D} {H : Hp} {p vl rl : Addr} {T : TillD} {va ra : List Addr} {R : Addr → Hp → Prop} {E : XK} (hp : H p = some (.lst (T.ps.map pV))) (hvl : H vl = some (.lst (va.map V.ref))) (hv : P2 (fun a V => VchIs d H a V) va T.vs) (hrl : H rl = some (.lst (ra.map V.ref))) (hr : P2 (fun a r => RulIs H a r) ra T.rs)
  (k : ∀ (H' : Hp) (x : Addr), Same H H' → H x = none → TillIs d H' x T → R x H') :
  ∀ x dx, H x = none → H dx = none → dx ≠ x → khC d [.ref x, .ref p, .ref vl, .ref rl, .str T.bk] (upd (upd H dx (.own x)) x (.ins d.qf dx [])) (fun v H2 => v = .non ∧ R x H2) E :=
 fun x dx nx nd _ => ⟨H, x, dx, p, vl, rl, _, _, _, _, rfl, nx, kbQ nx nd, kad, hp, hvl, hrl, fun H' p' vl' rl' fs s f1 f2 f3 h1 h2 h3 hx l1 l2 l3 l4 => ⟨rfl, k H' x s nx ⟨dx, fs, p', vl', rl', va, ra, hx, l1, l2, l3, l4, h1, h2, hv.mono fun a V h => h.same s, h3, hr.mono fun a r h => s _ _ h⟩⟩⟩
def khD (f : List Rul → List Nat → Nat → Bool) : Sp := fun vs H Q _ => ∃ (rl u : Addr) (ra : List Addr) (rs : List Rul) (used : List Nat) (n : Nat), vs = [.ref rl, .ref u, iV n] ∧ H rl = some (.lst (ra.map V.ref)) ∧ P2 (fun a r => RulIs H a r) ra rs ∧ H u = some (.lst (used.map iV)) ∧ Q (.bl (f rs used n)) H
theorem kiK {f : Rul → Bool} {rs : List Rul} {i : Nat} {r : Rul} (e : rs[i]? = some r) (h : f r = true) : rs.any f = true := List.any_eq_true.mpr ⟨r, CT e, h⟩
theorem kj0 {f : Rul → Bool} {rs : List Rul} {n : Nat} (hn : n = rs.length) (h : ∀ r ∈ rs.take n, f r = false) : rs.any f = false := by
 rw [hn, Rh] at h
 cases e : rs.any f with
 | false => rfl
 | true =>
  obtain ⟨r, hr, e2⟩ := List.any_eq_true.mp e
  rw [h r hr] at e2
  cases e2
theorem kcl {f : Rul → Bool} {rs : List Rul} {i : Nat} {r : Rul} (e : rs[i]? = some r) (h : ∀ q ∈ rs.take i, f q = false) (hr : f r = false) : ∀ q ∈ rs.take (i + 1), f q = false := fun q hq => by
 rw [RS, e] at hq
 rcases Rk.mp hq with z | z
 ·exact h q z
 ·have e2 : q = r := by simpa using z
  rw [e2]
  exact hr
theorem QK : kaq ["rules", "used", "number", "word", "one", "other"] ["rules", "used", "number"] (kab ka4) := ⟨rfl, rfl, rfl, by decide +kernel, rfl, by decide +kernel, by decide +kernel⟩
theorem kea (W : WB K mg d base) : FnOk P w K mg base CX0 1 d.Yd d.Ye ["rules", "used", "number"] (khD keH) := by
 refine FunD.ok W.Qn.F QK (fun vs H Q E h => ?_) (fun cdv A outer s H vs Q E hr h => ?_)
 ·obtain ⟨rl, u, ra, rs, used, n, rfl, _⟩ := h
  rfl
 ·obtain ⟨rl, u, ra, rs, used, n, rfl, hrl, hr, hu, k⟩ := h
  refine ⟨_, kae (kbT PassesOwn.never rfl (kby (pv 0)) (kcR rfl (kaI (kas (i := 3) QK.nd rfl (Or.inl rfl)) (kaI (kas (i := 4) QK.nd rfl (Or.inl rfl)) (kaI (kas (i := 5) QK.nd rfl (Or.inl rfl)) kbR))))
   (kaj (ps_if (PW.pt (kch (kaA op_eq (pv 3) kce (kaN _)) (kcc (PW.pt (pw_or (PW.pt (kch (kaA op_eq (pv 4) (pv 2) (kaN _)) (kcc (kaA kcG (pv 5) (pv 1) (by with_unfolding_all rfl))))) (keE (PW.pt (kch (kaA op_eq (pv 5) (pv 2) (kaN _)) (kcc (kaA kcG (pv 4) (pv 1) (by with_unfolding_all rfl))))))))))) (kaj (kat pe_bl)) (kaB))))
   (kaj (kat pe_bl)), ?_⟩
  refine ⟨_, rfl, rl, rfl, ⟨_, SqL.of hrl⟩, kb4 (xs := ra.map V.ref) (fun i σ H' => H' = H ∧ (∀ r ∈ rs.take i, nevR used n r = false) ∧ ∃ v3 v4 v5 : Option V, σ = [some (.ref rl), some (.ref u), some (iV n), v3, v4, v5])
   ⟨rfl, (fun r hr => by simp at hr), none, none, none, rfl⟩ (fun i σ H' _ h => by rw [h.1]; exact SqL.of hrl) ?_ ?_⟩
  ·rintro i y σ H' hy ⟨rfl, hno, v3, v4, v5, rfl⟩
   obtain ⟨a, ea, rfl⟩ := kb0 hy
   obtain ⟨r, er, hra⟩ := hr.at ea
   have yes : nevR used n r = true → Q (.bl true) H' := fun e => by
    have z := kiK (f := nevR used n) er e
    unfold keH at k
    rw [z] at k
    exact k
   refine ⟨a, _, rfl, SqT.of hra, rfl, _, _, rfl, _, _, rfl, _, _, rfl, rfl, ?_⟩
   refine ⟨_, rfl, rfl, _, rfl, ?_⟩
   show if decide (V.str r.w = V.str "never") = true then _ else _
   rw [eq_str]
   by_cases hw : r.w = ("never" : Str)
   ·rw [decide_eq_true hw]
    refine iteT ⟨_, rfl, _, rfl, rfl, _, rfl, ?_⟩
    show if decide (iV r.a = iV n) = true then _ else _
    rw [kgW]
    by_cases ha : r.a = n
    ·rw [decide_eq_true ha]
     refine iteT ⟨_, rfl, _, rfl, u, _, rfl, .inl (SqL.of hu), rfl, kc5 _, _, rfl, ?_⟩
     rw [if_neg CW, kcL]
     cases hb : used.contains r.b with
     | true => exact iteT (iteT (yes (by unfold nevR; rw [decide_eq_true hw, decide_eq_true ha, hb]; rfl)))
     | false =>
      refine iteF ⟨_, rfl, _, rfl, rfl, _, rfl, ?_⟩
      show if decide (iV r.b = iV n) = true then _ else _
      rw [kgW]
      by_cases hc : r.b = n
      ·rw [decide_eq_true hc]
       refine iteT ⟨_, rfl, _, rfl, u, _, rfl, .inl (SqL.of hu), rfl, kc5 _, _, rfl, ?_⟩
       rw [if_neg CW, kcL]
       cases hd : used.contains r.a with
       | true => exact iteT (yes (by unfold nevR; rw [decide_eq_true hw, decide_eq_true ha, hb, decide_eq_true hc, hd]; rfl))
       | false => exact iteF ⟨rfl, kcl er hno (by unfold nevR; rw [decide_eq_true hw, decide_eq_true ha, hb, decide_eq_true hc, hd]; rfl), _, _, _, rfl⟩
      ·rw [decide_eq_false hc]
       exact iteF (iteF ⟨rfl, kcl er hno (by unfold nevR; rw [decide_eq_true hw, decide_eq_true ha, hb, decide_eq_false hc]; rfl), _, _, _, rfl⟩)
    ·rw [decide_eq_false ha]
     refine iteF (iteF ⟨_, rfl, _, rfl, rfl, _, rfl, ?_⟩)
     show if decide (iV r.b = iV n) = true then _ else _
     rw [kgW]
     by_cases hc : r.b = n
     ·rw [decide_eq_true hc]
      refine iteT ⟨_, rfl, _, rfl, u, _, rfl, .inl (SqL.of hu), rfl, kc5 _, _, rfl, ?_⟩
      rw [if_neg CW, kcL]
      cases hd : used.contains r.a with
      | true => exact iteT (yes (by unfold nevR; rw [decide_eq_true hw, decide_eq_false ha, decide_eq_true hc, hd]; rfl))
      | false => exact iteF ⟨rfl, kcl er hno (by unfold nevR; rw [decide_eq_true hw, decide_eq_false ha, decide_eq_true hc, hd]; rfl), _, _, _, rfl⟩
     ·rw [decide_eq_false hc]
      exact iteF (iteF ⟨rfl, kcl er hno (by unfold nevR; rw [decide_eq_true hw, decide_eq_false ha, decide_eq_false hc]; rfl), _, _, _, rfl⟩)
   ·rw [decide_eq_false hw]
    refine iteF (iteF ⟨rfl, kcl er hno ?_, _, _, _, rfl⟩)
    unfold nevR
    rw [decide_eq_false hw]
    rfl
  ·rintro σ H' ⟨rfl, hno, v3, v4, v5, rfl⟩
   have z := kj0 (by rw [Cz]; exact hr.len) hno
   unfold keH at k
   rw [z] at k
   exact k
theorem QL : kaq ["rules", "used", "number", "word", "one", "other"] ["rules", "used", "number"] (kab ka5) := ⟨rfl, rfl, rfl, by decide +kernel, rfl, by decide +kernel, by decide +kernel⟩
theorem keb (W : WB K mg d base) : FnOk P w K mg base CX0 1 d.Yf d.Yg ["rules", "used", "number"] (khD keQ) := by
 refine FunD.ok W.Qo.F QL (fun vs H Q E h => ?_) (fun cdv A outer s H vs Q E hr h => ?_)
 ·obtain ⟨rl, u, ra, rs, used, n, rfl, _⟩ := h
  rfl
 ·obtain ⟨rl, u, ra, rs, used, n, rfl, hrl, hr, hu, k⟩ := h
  refine ⟨_, kae (kbT PassesOwn.never rfl (kby (pv 0)) (kcR rfl (kaI (kas (i := 3) QL.nd rfl (Or.inl rfl)) (kaI (kas (i := 4) QL.nd rfl (Or.inl rfl)) (kaI (kas (i := 5) QL.nd rfl (Or.inl rfl)) kbR))))
   (kaj (ps_if (PW.pt (kch (kaA op_eq (pv 3) kce (kaN _)) (kch (kaA op_eq (pv 4) (pv 2) (kaN _)) (kcc (kaA kcG (pv 5) (pv 1) (by with_unfolding_all rfl)))))) (kaj (kat pe_bl)) (kaB))))
   (kaj (kat pe_bl)), ?_⟩
  refine ⟨_, rfl, rl, rfl, ⟨_, SqL.of hrl⟩, kb4 (xs := ra.map V.ref) (fun i σ H' => H' = H ∧ (∀ r ∈ rs.take i, ahdR used n r = false) ∧ ∃ v3 v4 v5 : Option V, σ = [some (.ref rl), some (.ref u), some (iV n), v3, v4, v5])
   ⟨rfl, (fun r hr => by simp at hr), none, none, none, rfl⟩ (fun i σ H' _ h => by rw [h.1]; exact SqL.of hrl) ?_ ?_⟩
  ·rintro i y σ H' hy ⟨rfl, hno, v3, v4, v5, rfl⟩
   obtain ⟨a, ea, rfl⟩ := kb0 hy
   obtain ⟨r, er, hra⟩ := hr.at ea
   have yes : ahdR used n r = true → Q (.bl true) H' := fun e => by
    have z := kiK (f := ahdR used n) er e
    unfold keQ at k
    rw [z] at k
    exact k
   refine ⟨a, _, rfl, SqT.of hra, rfl, _, _, rfl, _, _, rfl, _, _, rfl, rfl, ?_⟩
   refine ⟨_, rfl, rfl, _, rfl, ?_⟩
   show if decide (V.str r.w = V.str "ahead") = true then _ else _
   rw [eq_str]
   by_cases hw : r.w = ("ahead" : Str)
   ·rw [decide_eq_true hw]
    refine iteT ⟨_, rfl, _, rfl, rfl, _, rfl, ?_⟩
    show if decide (iV r.a = iV n) = true then _ else _
    rw [kgW]
    by_cases ha : r.a = n
    ·rw [decide_eq_true ha]
     refine iteT ⟨_, rfl, _, rfl, u, _, rfl, .inl (SqL.of hu), rfl, kc5 _, _, rfl, ?_⟩
     rw [if_neg CW, kcL]
     cases hb : used.contains r.b with
     | true => exact iteT (yes (by unfold ahdR; rw [decide_eq_true hw, decide_eq_true ha, hb]; rfl))
     | false => exact iteF ⟨rfl, kcl er hno (by unfold ahdR; rw [decide_eq_true hw, decide_eq_true ha, hb]; rfl), _, _, _, rfl⟩
    ·rw [decide_eq_false ha]
     exact iteF (iteF ⟨rfl, kcl er hno (by unfold ahdR; rw [decide_eq_true hw, decide_eq_false ha]; rfl), _, _, _, rfl⟩)
   ·rw [decide_eq_false hw]
    refine iteF (iteF ⟨rfl, kcl er hno ?_, _, _, _, rfl⟩)
    unfold ahdR
    rw [decide_eq_false hw]
    rfl
  ·rintro σ H' ⟨rfl, hno, v3, v4, v5, rfl⟩
   have z := kj0 (by rw [Cz]; exact hr.len) hno
   unfold keQ at k
   rw [z] at k
   exact k
def khI : Sp := fun vs H Q _ => ∃ (rl u : Addr) (ra : List Addr) (rs : List Rul) (order : List Nat), vs = [.ref rl, .ref u] ∧ H rl = some (.lst (ra.map V.ref)) ∧ P2 (fun a r => RulIs H a r) ra rs ∧ H u = some (.lst (order.map iV)) ∧ Q (pV (onlyM rs order)) H
theorem kgV {f : Rul → Bool} : ∀ {rs : List Rul} {i : Nat} {r : Rul}, rs[i]? = some r → f r = true → (∀ q ∈ rs.take i, f q = false) → rs.find? f = some r
 | [], i, r, e, _, _ => by simp at e
 | q :: rs, 0, r, e, h, _ => by
  have e2 : q = r := by simpa using e
  subst e2
  simp [h]
 | q :: rs, i + 1, r, e, h, hno => by
  have h1 := hno q (by simp)
  rw [List.find?_cons_of_neg (by rw [h1]; simp)]
  exact kgV (by simpa using e) h fun z hz => hno z (by simp [hz])
theorem kkU {f : Rul → Bool} {rs : List Rul} {n : Nat} (hn : n = rs.length) (h : ∀ r ∈ rs.take n, f r = false) : rs.find? f = none := by
 rw [hn, Rh] at h
 exact List.find?_eq_none.mpr fun r hr => by rw [h r hr]; simp
theorem QM : kaq ["rules", "order", "word", "one", "other"] ["rules", "order"] (kab kaJ) := ⟨rfl, rfl, rfl, by decide +kernel, rfl, by decide +kernel, by decide +kernel⟩
theorem kc9 (W : WB K mg d base) : FnOk P w K mg base CX0 1 d.Yh d.Yi ["rules", "order"] khI := by
 refine FunD.ok W.Qp.F QM (fun vs H Q E h => ?_) (fun cdv A outer s H vs Q E hr h => ?_)
 ·obtain ⟨rl, u, ra, rs, order, rfl, _⟩ := h
  rfl
 ·obtain ⟨rl, u, ra, rs, order, rfl, hrl, hr, hu, k⟩ := h
  refine ⟨_, kae (kbT PassesOwn.never rfl (kby (pv 0)) (kcR rfl (kaI (kas (i := 2) QM.nd rfl (Or.inl rfl)) (kaI (kas (i := 3) QM.nd rfl (Or.inl rfl)) (kaI (kas (i := 4) QM.nd rfl (Or.inl rfl)) kbR))))
   (kaj (ps_if (PW.pt (kch (kaA op_eq (pv 2) kce (kaN _)) (kch (kaA kcG (pv 3) (pv 1) (by with_unfolding_all rfl)) (kcc (kaA kfz (pv 4) (pv 1) (by with_unfolding_all rfl)))))) (kaj (kat (pv 3))) (kaB))))
   (kaj (kat kbN)), ?_⟩
  refine ⟨_, rfl, rl, rfl, ⟨_, SqL.of hrl⟩, kb4 (xs := ra.map V.ref) (fun i σ H' => H' = H ∧ (∀ r ∈ rs.take i, loneM order r = false) ∧ ∃ v3 v4 v5 : Option V, σ = [some (.ref rl), some (.ref u), v3, v4, v5])
   ⟨rfl, (fun r hr => by simp at hr), none, none, none, rfl⟩ (fun i σ H' _ h => by rw [h.1]; exact SqL.of hrl) ?_ ?_⟩
  ·rintro i y σ H' hy ⟨rfl, hno, v3, v4, v5, rfl⟩
   obtain ⟨a, ea, rfl⟩ := kb0 hy
   obtain ⟨r, er, hra⟩ := hr.at ea
   refine ⟨a, _, rfl, SqT.of hra, rfl, _, _, rfl, _, _, rfl, _, _, rfl, rfl, ?_⟩
   refine ⟨_, rfl, rfl, _, rfl, ?_⟩
   show if decide (V.str r.w = V.str "only") = true then _ else _
   rw [eq_str]
   by_cases hw : r.w = ("only" : Str)
   ·rw [decide_eq_true hw]
    refine iteT ⟨_, rfl, _, rfl, u, _, rfl, .inl (SqL.of hu), rfl, kc5 _, _, rfl, ?_⟩
    rw [if_neg CW, kcL]
    cases ha : order.contains r.a with
    | true =>
     refine iteT ⟨_, rfl, _, rfl, u, _, rfl, .inl (SqL.of hu), rfl, kc5 _, _, rfl, ?_⟩
     rw [if_pos rfl, kcL]
     cases hb : order.contains r.b with
     | true => exact iteF ⟨rfl, kcl er hno (by unfold loneM; rw [decide_eq_true hw, ha, hb]; rfl), _, _, _, rfl⟩
     | false =>
      refine iteT ⟨_, rfl, ?_⟩
      have z := kgV (f := loneM order) er (by unfold loneM; rw [decide_eq_true hw, ha, hb]; rfl) hno
      unfold onlyM at k
      rw [z] at k
      exact k
    | false => exact iteF (iteF ⟨rfl, kcl er hno (by unfold loneM; rw [decide_eq_true hw, ha]; rfl), _, _, _, rfl⟩)
   ·rw [decide_eq_false hw]
    refine iteF (iteF ⟨rfl, kcl er hno ?_, _, _, _, rfl⟩)
    unfold loneM
    rw [decide_eq_false hw]
    rfl
  ·rintro σ H' ⟨rfl, hno, v3, v4, v5, rfl⟩
   have z := kkU (by rw [Cz]; exact hr.len) hno
   unfold onlyM at k
   rw [z] at k
   exact k
def kiP (d : D) : Sp := fun vs H Q _ => ∃ (t h u : Addr) (T : TillD) (hand : List Int) (used : List Nat) (n : Nat) (V : Vch), vs = [.ref t, .ref h, .ref u, iV n] ∧ TillIs d H t T ∧ H h = some (.lst (hand.map L2.V.int)) ∧ H u = some (.lst (used.map iV)) ∧ T.vs[n]? = some V ∧ hand.length = T.vs.length ∧ Q (sV (wordM V T.rs hand used n)) H
theorem kdH : kaq ["till", "hand", "used", "number"] ["till", "hand", "used", "number"] (kab kaW) := ⟨rfl, rfl, rfl, by decide +kernel, rfl, by decide +kernel, by decide +kernel⟩
theorem kdM (W : WB K mg d base) : FnOk P w K mg base CX0 2 d.Yb d.Yc ["till", "hand", "used", "number"] (kiP d) := by
 refine FunD.ok W.Qm.F kdH (fun vs H Q E h => ?_) (fun cdv A outer s H vs Q E hr h => ?_)
 ·obtain ⟨t, h, u, T, hand, used, n, V, rfl, _⟩ := h
  rfl
 ·obtain ⟨t, h, u, T, hand, used, n, Vc, rfl, hT, hh, hu, hn, hl, k⟩ := h
  obtain ⟨dx, fs, p, vl, rl, va, ra, ht, t1, t2, t3, t4, hp, hvl, hva, hrl, hra⟩ := hT
  have Vi := kea (P := P) (w := w) (base := base) W
  have Vj := keb (P := P) (w := w) (base := base) W
  refine ⟨_, kae (ps_if (kaA op_gt (pe_op ka1 (pe_bm Ri PySem.F.slot_list_count PySem.F.type_list_count kjh (pv 2) (kaa (pv 3) kah)) kai) (pe_ix (r := rIxL K) kbx (pv 1) (pv 3) (fun _ _ => rfl)) (kaN _)) (kaj (kat kce)) (kaB))
   (kae (ps_if (PW.pt (kch (kbH (kap (kap (pe_ix (r := rIxL K) kbx (kap (pv 0) rfl) (pv 3) (fun _ _ => rfl)) rfl) rfl)) (kcc (kaA kcG (pv 3) (pv 2) (by with_unfolding_all rfl))))) (kaj (kat kce)) (kaB))
   (kae (ps_if (kbH (kan Vi hr rfl W.Qn.m W.Qn.F.kp W.Qn.b .nil pass0 (kaa (kap (pv 0) rfl) (kaa (pv 2) (kaa (pv 3) kah))))) (kaj (kat kce)) (kaB))
   (kae (ps_if (kbH (kan Vj hr rfl W.Qo.m W.Qo.F.kp W.Qo.b .nil pass0 (kaa (kap (pv 0) rfl) (kaa (pv 2) (kaa (pv 3) kah))))) (kaj (kat kce)) (kaB))
   (kaj (kat kbN))))), ?_⟩
  obtain ⟨v, ev⟩ := at_of (xs := va) (i := n) (by rw [hva.len]; exact at_lt hn)
  obtain ⟨Vc', eV', hV⟩ := hva.at ev
  rw [hn] at eV'
  cases eV'
  obtain ⟨mA, dxv, fsv, hv, lvm, _, ⟨dxm, fsm, hm, m1, m2, m3, m4, m5, m6⟩, hh', _⟩ := id hV
  obtain ⟨z, ez⟩ := at_of (xs := hand) (i := n) (by rw [hl]; exact at_lt hn)
  have eu : H u = some (.lst ((used.map fun (i : Nat) => (i : Int)).map V.int)) := by rw [hu, C9]; rfl
  have eg : hand.getD n 0 = z := by rw [C5, ez]; rfl
  refine ⟨_, rfl, .inl ⟨rfl, _, SqL.of hu⟩, _, rfl, u, _, _, rfl, rfl, eu, _, _, rfl, rfl, _, rfl, _, rfl, h, _, _, _, rfl, rfl, SqL.of hh, kbK (v := .int z) (by rw [CV, ez]; rfl), _, _, rfl, rfl, _, rfl, ?_⟩
  rw [kkX]
  unfold wordM at k
  rw [eg] at k
  by_cases c1 : z < (used.count n : Int) + 1
  ·rw [if_pos c1] at k
   rw [show decide ((used.count n : Int) + 1 > z) = true from decide_eq_true c1]
   exact iteT k
  rw [if_neg c1] at k
  rw [show decide ((used.count n : Int) + 1 > z) = false from decide_eq_false c1]
  refine iteF ?_
  refine ⟨_, rfl, t, d.qf, dx, fs, _, rfl, ht, W.qf.cl, W.n_Till_vouchers, t2, _, rfl, vl, _, _, _, rfl, rfl, SqL.of hvl, kbK (v := .ref v) (by rw [CV, ev]; rfl), v, clsOf d Vc.so, dxv, fsv, _, rfl, hv, cl_of W hh', na_of W hh', lvm, mA, d.qg, dxm, fsm, _, rfl, hm, W.qg.cl, W.n_Marks_once, m5, Vc.ms.once, rfl, ?_⟩
  cases ho : Vc.ms.once with
  | true =>
   rw [ho, Bool.true_and] at k
   refine iteT ⟨_, rfl, _, rfl, u, _, rfl, .inl (SqL.of hu), rfl, kc5 _, _, rfl, ?_⟩
   rw [if_neg CW, kcL]
   cases hc : used.contains n with
   | true =>
    rw [hc, if_pos rfl] at k
    exact iteT k
   | false =>
    rw [hc, if_neg CW] at k
    refine iteF ?_
    refine ⟨_, rfl, t, d.qf, dx, fs, _, rfl, ht, W.qf.cl, W.n_Till_rules, t3, _, rfl, _, rfl, rl, u, ra, T.rs, used, n, rfl, hrl, hra, hu, _, rfl, ?_⟩
    cases h1 : keH T.rs used n with
    | true =>
     rw [h1, if_pos rfl] at k
     exact iteT k
    | false =>
     rw [h1, if_neg CW] at k
     refine iteF ⟨_, rfl, t, d.qf, dx, fs, _, rfl, ht, W.qf.cl, W.n_Till_rules, t3, _, rfl, _, rfl, rl, u, ra, T.rs, used, n, rfl, hrl, hra, hu, _, rfl, ?_⟩
     cases h2 : keQ T.rs used n with
     | true =>
      rw [h2, if_pos rfl] at k
      exact iteT k
     | false =>
      rw [h2, if_neg CW] at k
      exact iteF k
  | false =>
   rw [ho, SV, if_neg CW] at k
   refine iteF (iteF ?_)
   refine ⟨_, rfl, t, d.qf, dx, fs, _, rfl, ht, W.qf.cl, W.n_Till_rules, t3, _, rfl, _, rfl, rl, u, ra, T.rs, used, n, rfl, hrl, hra, hu, _, rfl, ?_⟩
   cases h1 : keH T.rs used n with
   | true =>
    rw [h1, if_pos rfl] at k
    exact iteT k
   | false =>
    rw [h1, if_neg CW] at k
    refine iteF ⟨_, rfl, t, d.qf, dx, fs, _, rfl, ht, W.qf.cl, W.n_Till_rules, t3, _, rfl, _, rfl, rl, u, ra, T.rs, used, n, rfl, hrl, hra, hu, _, rfl, ?_⟩
    cases h2 : keQ T.rs used n with
    | true =>
     rw [h2, if_pos rfl] at k
     exact iteT k
    | false =>
     rw [h2, if_neg CW] at k
     exact iteF k
def kjI (d : D) : Sp := fun vs H Q _ => ∃ (H0 : Hp) (w dx t b h : Addr) (hand : List Int) (B : Bask), vs = [.ref w, .ref t, .ref b, .ref h] ∧ H0 w = none ∧ Same H0 H ∧ H w = some (.ins d.c_Way dx []) ∧ H0 h = some (.lst (hand.map V.int)) ∧ BaskIs d.qe d.qh H0 b B ∧ B.rs.length ≤ 12 ∧ (∀ r ∈ B.rs, r.Ok) ∧
 ∀ (H' : Hp) (x : Addr), Same H0 H' → H0 x = none → WayAt d 5 H' w t b x hand [] → StndIs d.qc H' x (stnd0 B) → Q .non H'
theorem kf3 : kaq ["self", "till", "basket", "hand"] ["self", "till", "basket", "hand"] (kab kbD) := ⟨rfl, rfl, rfl, by decide +kernel, rfl, by decide +kernel, by decide +kernel⟩
theorem kc3 (W : WB K mg d base) : FnOk P w K mg base CX0 4 d.Zh d.Zi ["self", "till", "basket", "hand"] (kjI d) := by
 refine FunD.ok W.qR.F kf3 (fun vs H Q E h => ?_) (fun cdv A outer s H vs Q E hr h => ?_)
 ·obtain ⟨H0, wy, dx, t, b, h, hand, B, rfl, _⟩ := h
  rfl
 ·obtain ⟨H0, wy, dx, t, b, h, hand, B, rfl, fw, s0, hw, hh, hb, hB, hok, k⟩ := h
  have qW := kcd (P := P) (w := w) (base := base) W
  refine ⟨_, kae (kba (pv 0) (pv 1) rfl)
   (kae (kba (pv 0) (pv 2) rfl)
   (kae (kba (pv 0) (kbM kbB (by rfl) W.B.list kcx (kaa (pv 3) kah)) rfl)
   (kae (kba (pv 0) (kbG kah) rfl)
   (kaj (kba (pv 0) (kbS (W.qQ.mk' W.qc) qW hr rfl W.qc.m W.qQ.b .nil pass0 (kaa (pv 2) kah)) rfl))))), ?_⟩
  refine ⟨_, rfl, _, rfl, wy, d.c_Way, dx, [], rfl, hw, W.c_Way.cl, W.n_Way_till, by decide, ?_⟩
  have s1 : Same H0 (upd H wy (.ins d.c_Way dx (putF "till" (.ref t) []))) := kaw fw s0 (nx hw)
  have hw1 : (upd H wy (.ins d.c_Way dx (putF "till" (.ref t) []))) wy = some (.ins d.c_Way dx (putF "till" (.ref t) [])) := kad
  generalize upd H wy (.ins d.c_Way dx (putF "till" (.ref t) [])) = H1 at *
  refine ⟨_, rfl, _, rfl, wy, d.c_Way, dx, _, rfl, hw1, W.c_Way.cl, W.n_Way_basket, few (CN (kao (n := 0) (CC _)) (by decide)), ?_⟩
  have s2 : Same H0 (upd H1 wy (.ins d.c_Way dx (putF "basket" (.ref b) (putF "till" (.ref t) [])))) := kaw fw s1 (nx hw1)
  have hw2 : (upd H1 wy (.ins d.c_Way dx (putF "basket" (.ref b) (putF "till" (.ref t) [])))) wy = some (.ins d.c_Way dx (putF "basket" (.ref b) (putF "till" (.ref t) []))) := kad
  generalize upd H1 wy (.ins d.c_Way dx (putF "basket" (.ref b) (putF "till" (.ref t) []))) = H2 at *
  refine ⟨_, rfl, h, _, rfl, .inl (SqL.of (s2 _ _ hh)), fun h' hh' => ?_⟩
  have n3 := kak (o := .lst (hand.map V.int)) hh'
  have nh : h' ≠ wy := (kal hw2 hh').symm
  have s3 := s2.trans n3
  have e3 : (upd H2 h' (.lst (hand.map V.int))) h' = some (.lst (hand.map V.int)) := kad
  have hw3 := n3 _ _ hw2
  clear n3
  generalize upd H2 h' (.lst (hand.map V.int)) = H3 at *
  refine ⟨_, rfl, wy, d.c_Way, dx, _, rfl, hw3, W.c_Way.cl, W.n_Way_hand, few (CN (kao (kao (n := 0) (CC _))) (by decide)), ?_⟩
  have s4 : Same H0 (upd H3 wy (.ins d.c_Way dx (putF "hand" (.ref h') (putF "basket" (.ref b) (putF "till" (.ref t) []))))) := kaw fw s3 (nx hw3)
  have e4 : (upd H3 wy (.ins d.c_Way dx (putF "hand" (.ref h') (putF "basket" (.ref b) (putF "till" (.ref t) []))))) h' = some (.lst (hand.map V.int)) := by rw [kam nh]; exact e3
  have hw4 : (upd H3 wy (.ins d.c_Way dx (putF "hand" (.ref h') (putF "basket" (.ref b) (putF "till" (.ref t) []))))) wy = some (.ins d.c_Way dx (putF "hand" (.ref h') (putF "basket" (.ref b) (putF "till" (.ref t) [])))) := kad
  generalize upd H3 wy (.ins d.c_Way dx (putF "hand" (.ref h') (putF "basket" (.ref b) (putF "till" (.ref t) [])))) = H4 at *
  refine ⟨by decide, fun u hu => ?_⟩
  have n5 := kak (o := .lst []) hu
  have nu : u ≠ wy := (kal hw4 hu).symm
  have s5 := s4.trans n5
  have e5 := n5 _ _ e4
  have eu5 : (upd H4 u (.lst [])) u = some (.lst (([] : List Nat).map iV)) := kad
  have hw5 := n5 _ _ hw4
  clear n5
  generalize upd H4 u (.lst []) = H5 at *
  refine ⟨_, rfl, wy, d.c_Way, dx, _, rfl, hw5, W.c_Way.cl, W.n_Way_used, few (CN (kao (kao (kao (n := 0) (CC _)))) (by decide)), ?_⟩
  have s6 : Same H0 (upd H5 wy (.ins d.c_Way dx (putF "used" (.ref u) (putF "hand" (.ref h') (putF "basket" (.ref b) (putF "till" (.ref t) [])))))) := kaw fw s5 (nx hw5)
  have e6 : (upd H5 wy (.ins d.c_Way dx (putF "used" (.ref u) (putF "hand" (.ref h') (putF "basket" (.ref b) (putF "till" (.ref t) [])))))) h' = some (.lst (hand.map V.int)) := by rw [kam nh]; exact e5
  have eu6 : (upd H5 wy (.ins d.c_Way dx (putF "used" (.ref u) (putF "hand" (.ref h') (putF "basket" (.ref b) (putF "till" (.ref t) [])))))) u = some (.lst (([] : List Nat).map iV)) := by rw [kam nu]; exact eu5
  have hw6 : (upd H5 wy (.ins d.c_Way dx (putF "used" (.ref u) (putF "hand" (.ref h') (putF "basket" (.ref b) (putF "till" (.ref t) [])))))) wy = some (.ins d.c_Way dx (putF "used" (.ref u) (putF "hand" (.ref h') (putF "basket" (.ref b) (putF "till" (.ref t) []))))) := kad
  generalize upd H5 wy (.ins d.c_Way dx (putF "used" (.ref u) (putF "hand" (.ref h') (putF "basket" (.ref b) (putF "till" (.ref t) []))))) = H6 at *
  refine ⟨_, rfl, kkJ (hb.same s6) hB hok fun H7 x s7 f7 hx => ?_⟩
  have hw7 := s7 _ _ hw6
  have fx : H0 x = none := s6.free f7
  have nxw : x ≠ wy := (kal hw6 f7).symm
  refine ⟨_, rfl, wy, d.c_Way, dx, _, rfl, hw7, W.c_Way.cl, W.n_Way_standing, few (CN (kao (kao (kao (kao (n := 0) (CC _))))) (by decide)), ?_⟩
  refine k _ x (kaw fw (s6.trans s7) (nx hw7)) fx ⟨dx, _, h', u, kad, ?_, ?_, ?_, ?_, ?_, ?_, ?_, ?_, ?_, ?_, ?_, ?_⟩ ?_
  ·(repeat (first | rw [kac, if_pos rfl] | rw [kac, if_neg (by decide +kernel)]))
  ·(repeat (first | rw [kac, if_pos rfl] | rw [kac, if_neg (by decide +kernel)]))
  ·(repeat (first | rw [kac, if_pos rfl] | rw [kac, if_neg (by decide +kernel)]))
  ·(repeat (first | rw [kac, if_pos rfl] | rw [kac, if_neg (by decide +kernel)]))
  ·(repeat (first | rw [kac, if_pos rfl] | rw [kac, if_neg (by decide +kernel)]))
  ·(repeat (first | rw [kac, if_pos rfl] | rw [kac, if_neg (by decide +kernel)]))
   rfl
  ·(repeat (first | rw [kac, if_pos rfl] | rw [kac, if_neg (by decide +kernel)]))
   rfl
  ·(repeat (first | rw [kac, if_pos rfl] | rw [kac, if_neg (by decide +kernel)]))
   rfl
  ·(repeat (first | rw [kac, if_pos rfl] | rw [kac, if_neg (by decide +kernel)]))
   rfl
  ·exact CN (kao (kao (kao (kao (kao (n := 0) (CC _)))))) (by decide)
  ·rw [kam nh]; exact s7 _ _ e6
  ·rw [kam nu]; exact s7 _ _ eu6
  ·obtain ⟨o, pp, mm, ⟨dxs, fss, hxs, q⟩, ho, hpp, hmm⟩ := hx
   exact ⟨o, pp, mm, ⟨dxs, fss, by rw [kam nxw]; exact hxs, q⟩, by rw [kam (ne_of ho hw7 (by intro z; cases z))]; exact ho, by rw [kam (ne_of hpp hw7 (by intro z; cases z))]; exact hpp, by rw [kam (ne_of hmm hw7 (by intro z; cases z))]; exact hmm⟩
theorem kh7 {d : D} {H : Hp} {t b h : Addr} {hand : List Int} {B : Bask} {R : Addr → Hp → Prop} {E : XK} (hh : H h = some (.lst (hand.map V.int))) (hb : BaskIs d.qe d.qh H b B) (hB : B.rs.length ≤ 12) (hok : ∀ r ∈ B.rs, r.Ok)
  (k : ∀ (H' : Hp) (w x : Addr), Same H H' → H w = none → H x = none → WayAt d 5 H' w t b x hand [] → StndIs d.qc H' x (stnd0 B) → R w H') :
  ∀ w dx, H w = none → H dx = none → dx ≠ w → kjI d [.ref w, .ref t, .ref b, .ref h] (upd (upd H dx (.own w)) w (.ins d.c_Way dx [])) (fun v H2 => v = .non ∧ R w H2) E :=
 fun w dx nw nd _ => ⟨H, w, dx, t, b, h, hand, B, rfl, nw, kbQ nw nd, kad, hh, hb, hB, hok, fun H' x s f hW hx => ⟨rfl, k H' w x s nw f hW hx⟩⟩
def khB (d : D) : Sp := fun vs H Q _ => ∃ (wy t b x : Addr) (T : TillD) (B : Bask) (S : Stnd) (hand : List Int) (used : List Nat) (n : Nat) (V : Vch), vs = [.ref wy, iV n] ∧ WayIs d H wy t b x hand used ∧ TillIs d H t T ∧ BaskIs d.qe d.qh H b B ∧ StndIs d.qc H x S ∧ Wf T.ps B S ∧ VchOk T.ps V ∧ T.vs[n]? = some V ∧ hand.length = T.vs.length ∧ ∀ (H' : Hp), Same H H' → Q (dueM V T B hand used S n) H'
theorem Zw : kaq ["self", "number", "word"] ["self", "number"] (kab ka9) := ⟨rfl, rfl, rfl, by decide +kernel, rfl, by decide +kernel, by decide +kernel⟩
theorem kcI (W : WB K mg d base) : FnOk P w K mg base CX0 5 d.Zj d.Zk ["self", "number"] (khB d) := by
 refine FunD.ok W.qT.F Zw (fun vs H Q E h => ?_) (fun cdv A outer s H vs Q E hr h => ?_)
 ·obtain ⟨wy, t, b, x, T, B, S, hand, used, n, V, rfl, _⟩ := h
  rfl
 ·obtain ⟨wy, t, b, x, T, B, S, hand, used, n, Vc, rfl, hW, hT, hB, hS, wf, vo, hn, hl, k⟩ := h
  obtain ⟨dxw, fsw, h, u, hw, w1, w2, w3, w4, w5, w6, w7, w8, w9, w10, hh, hu⟩ := id hW
  obtain ⟨dx, fs, p, vl, rl, va, ra, ht, t1, t2, t3, t4, hp, hvl, hva, hrl, hra⟩ := id hT
  have Vk := kdM (P := P) (w := w) (base := base) W
  have Vl := kfC (P := P) (w := w) (base := base) W
  have hr2 : Room 2 _ := hr.mono (by decide)
  refine ⟨_, kae (kax (i := 2) Zw.nd rfl (Or.inl rfl) (kan Vk hr2 rfl W.Qm.m W.Qm.F.kp W.Qm.b .nil pass0 (kaa (kap (pv 0) rfl) (kaa (kap (pv 0) rfl) (kaa (kap (pv 0) rfl) (kaa (pv 1) kah))))))
   (kae (ps_if (kaA kcF (pv 2) kbN (kaN _)) (kaj (kat (pv 2))) (kaB))
   (kaj (kat (kan Vl hr rfl W.Qe.m W.Qe.F.kp W.Qe.b .nil pass0 (kaa (pe_ix (r := rIxL K) kbx (kap (kap (pv 0) rfl) rfl) (pv 1) (fun _ _ => rfl)) (kaa (kap (kap (pv 0) rfl) rfl) (kaa (kap (pv 0) rfl) (kaa (kap (pv 0) rfl) kah)))))))), ?_⟩
  obtain ⟨v, ev⟩ := at_of (xs := va) (i := n) (by rw [hva.len]; exact at_lt hn)
  obtain ⟨Vc', eV', hV⟩ := hva.at ev
  rw [hn] at eV'
  cases eV'
  refine ⟨_, rfl, wy, d.c_Way, dxw, fsw, _, rfl, hw, W.c_Way.cl, W.n_Way_till, w1, _, rfl, wy, d.c_Way, dxw, fsw, _, rfl, hw, W.c_Way.cl, W.n_Way_hand, w3, _, rfl, wy, d.c_Way, dxw, fsw, _, rfl, hw, W.c_Way.cl, W.n_Way_used, w4, _, rfl, t, h, u, T, hand, used, n, Vc, rfl, hT, hh, hu, hn, hl, ?_⟩
  unfold dueM at k
  cases e : wordM Vc T.rs hand used n with
  | some z =>
   rw [e] at k
   refine ⟨_, rfl, rfl, _, rfl, ?_⟩
   show if (!decide (V.str z = V.non)) = true then _ else _
   rw [show (!decide (V.str z = V.non)) = true by simp]
   exact iteT ⟨_, rfl, k H (Same.refl _)⟩
  | none =>
   rw [e] at k
   refine ⟨_, rfl, rfl, _, rfl, ?_⟩
   show if (!decide (V.non = V.non)) = true then _ else _
   rw [show (!decide (V.non = V.non)) = false by simp]
   refine iteF ⟨_, rfl, wy, d.c_Way, dxw, fsw, _, rfl, hw, W.c_Way.cl, W.n_Way_till, w1, t, d.qf, dx, fs, _, rfl, ht, W.qf.cl, W.n_Till_vouchers, t2, _, rfl, vl, _, _, _, rfl, rfl, SqL.of hvl, kbK (v := .ref v) (by rw [CV, ev]; rfl), ?_⟩
   refine ⟨_, rfl, wy, d.c_Way, dxw, fsw, _, rfl, hw, W.c_Way.cl, W.n_Way_till, w1, t, d.qf, dx, fs, _, rfl, ht, W.qf.cl, W.n_Till_parents, t1, _, rfl, wy, d.c_Way, dxw, fsw, _, rfl, hw, W.c_Way.cl, W.n_Way_basket, w2, _, rfl, wy, d.c_Way, dxw, fsw, _, rfl, hw, W.c_Way.cl, W.n_Way_standing, w5, ?_⟩
   exact ⟨v, p, b, x, Vc, T.ps, B, S, rfl, hV, SqL.of hp, hB, hS, wf, vo, k⟩
def ki0 (d : D) : Sp := fun vs H Q _ => ∃ (wy t b x : Addr) (T : TillD) (B : Bask) (S : Stnd) (hand : List Int) (used : List Nat) (n : Nat) (V : Vch), vs = [.ref wy, iV n] ∧ WayIs d H wy t b x hand used ∧ TillIs d H t T ∧ BaskIs d.qe d.qh H b B ∧ StndIs d.qc H x S ∧ Wf T.ps B S ∧ VchOk T.ps V ∧ T.vs[n]? = some V ∧ used.length < 64 ∧
 ∀ (H' : Hp) (wy' x' : Addr), Same H H' → H wy' = none → WayIs d H' wy' t b x' hand (used ++ [n]) → StndIs d.qc H' x' (aftM V T.ps (kds B) S) → Q (.ref wy') H'
theorem Zx : kaq ["self", "number", "further"] ["self", "number"] (kab kbn) := ⟨rfl, rfl, rfl, by decide +kernel, rfl, by decide +kernel, by decide +kernel⟩
theorem kda (W : WB K mg d base) : FnOk P w K mg base CX0 6 d.Zl d.Zm ["self", "number"] (ki0 d) := by
 refine FunD.ok W.qU.F Zx (fun vs H Q E h => ?_) (fun cdv A outer s H vs Q E hr h => ?_)
 ·obtain ⟨wy, t, b, x, T, B, S, hand, used, n, V, rfl, _⟩ := h
  rfl
 ·obtain ⟨wy, t, b, x, T, B, S, hand, used, n, Vc, rfl, hW, hT, hB, hS, wf, vo, hn, hl, k⟩ := h
  obtain ⟨dxw, fsw, h, u, hw, w1, w2, w3, w4, w5, w6, w7, w8, w9, w10, hh, hu⟩ := id hW
  obtain ⟨dx, fs, p, vl, rl, va, ra, ht, t1, t2, t3, t4, hp, hvl, hva, hrl, hra⟩ := id hT
  have qX := kc3 (P := P) (w := w) (base := base) W
  have Vm := kjg (P := P) (w := w) (base := base) W
  refine ⟨_, kae (kax (i := 2) Zx.nd rfl (Or.inl rfl) (kbS (W.qR.mk' W.c_Way) qX hr rfl W.c_Way.m W.qR.b .nil pass0 (kaa (kap (pv 0) rfl) (kaa (kap (pv 0) rfl) (kaa (kap (pv 0) rfl) kah)))))
   (kae (kba (pv 2) (pe_op kh2 (kap (pv 0) rfl) (kbG (kaa (pv 1) kah))) rfl)
   (kae (kba (pv 2) (kan Vm hr rfl W.Qg.m W.Qg.F.kp W.Qg.b .nil pass0 (kaa (pe_ix (r := rIxL K) kbx (kap (kap (pv 0) rfl) rfl) (pv 1) (fun _ _ => rfl)) (kaa (kap (kap (pv 0) rfl) rfl) (kaa (kap (pv 0) rfl) (kaa (kap (pv 0) rfl) kah))))) rfl)
   (kaj (kat (pv 2))))), ?_⟩
  obtain ⟨v, ev⟩ := at_of (xs := va) (i := n) (by rw [hva.len]; exact at_lt hn)
  obtain ⟨Vc', eV', hV⟩ := hva.at ev
  rw [hn] at eV'
  cases eV'
  refine ⟨_, rfl, wy, d.c_Way, dxw, fsw, _, rfl, hw, W.c_Way.cl, W.n_Way_till, w1, _, rfl, wy, d.c_Way, dxw, fsw, _, rfl, hw, W.c_Way.cl, W.n_Way_basket, w2, _, rfl, wy, d.c_Way, dxw, fsw, _, rfl, hw, W.c_Way.cl, W.n_Way_hand, w3, kh7 hh hB wf.nl wf.ok fun H1 y x1 s1 fy fx1 hy hx1 => ?_⟩
  obtain ⟨dxy, fsy, h1, u1, hyy, y1, y2, y3, y4, y5, y6, y7, y8, y9, y10, hh1, hu1⟩ := hy
  refine ⟨_, rfl, wy, d.c_Way, dxw, fsw, _, rfl, s1 _ _ hw, W.c_Way.cl, W.n_Way_used, w4, _, rfl, (by show 1 ≤ sizeLine; decide), fun q1 hq1 => ?_⟩
  have n2 := kak (o := .lst [iV n]) hq1
  have eq1 : (upd H1 q1 (.lst [iV n])) q1 = some (.lst [iV n]) := kad
  have s2 := s1.trans n2
  have hy2 := n2 _ _ hyy
  have hh2 := n2 _ _ hh1
  clear n2
  generalize upd H1 q1 (.lst [iV n]) = H2 at *
  refine ⟨u, q1, _, _, rfl, rfl, s2 _ _ hu, eq1, CY (kau (by rw [Cz]; show _ + 1 ≤ 1000; omega)), fun q2 hq2 => ?_⟩
  have n3 := kak (o := .lst (used.map iV ++ [iV n])) hq2
  have eq2 : (upd H2 q2 (.lst (used.map iV ++ [iV n]))) q2 = some (.lst ((used ++ [n]).map iV)) := by rw [kad, CU]; rfl
  have s3 := s2.trans n3
  have hy3 := n3 _ _ hy2
  have hh3 := n3 _ _ hh2
  have nq2 : q2 ≠ y := (kal hy2 hq2).symm
  clear n3
  generalize upd H2 q2 (.lst (used.map iV ++ [iV n])) = H3 at *
  have nh1 : h1 ≠ y := ne_of hh3 hy3 (by intro z; cases z)
  refine ⟨_, rfl, y, d.c_Way, dxy, fsy, rfl, hy3, W.c_Way.cl, W.n_Way_used, few (CN y10 (by decide)), ?_⟩
  have s4 : Same H (upd H3 y (.ins d.c_Way dxy (putF "used" (.ref q2) fsy))) := kaw fy s3 (nx hy3)
  have eq4 : (upd H3 y (.ins d.c_Way dxy (putF "used" (.ref q2) fsy))) q2 = some (.lst ((used ++ [n]).map iV)) := by rw [kam nq2]; exact eq2
  have hh4 : (upd H3 y (.ins d.c_Way dxy (putF "used" (.ref q2) fsy))) h1 = some (.lst (hand.map V.int)) := by rw [kam nh1]; exact hh3
  have hy4 : (upd H3 y (.ins d.c_Way dxy (putF "used" (.ref q2) fsy))) y = some (.ins d.c_Way dxy (putF "used" (.ref q2) fsy)) := kad
  generalize upd H3 y (.ins d.c_Way dxy (putF "used" (.ref q2) fsy)) = H4 at *
  refine ⟨_, rfl, wy, d.c_Way, dxw, fsw, _, rfl, s4 _ _ hw, W.c_Way.cl, W.n_Way_till, w1, t, d.qf, dx, fs, _, rfl, s4 _ _ ht, W.qf.cl, W.n_Till_vouchers, t2, _, rfl, vl, _, _, _, rfl, rfl, SqL.of (s4 _ _ hvl), kbK (v := .ref v) (by rw [CV, ev]; rfl), ?_⟩
  refine ⟨_, rfl, wy, d.c_Way, dxw, fsw, _, rfl, s4 _ _ hw, W.c_Way.cl, W.n_Way_till, w1, t, d.qf, dx, fs, _, rfl, s4 _ _ ht, W.qf.cl, W.n_Till_parents, t1, _, rfl, wy, d.c_Way, dxw, fsw, _, rfl, s4 _ _ hw, W.c_Way.cl, W.n_Way_basket, w2, _, rfl, wy, d.c_Way, dxw, fsw, _, rfl, s4 _ _ hw, W.c_Way.cl, W.n_Way_standing, w5, ?_⟩
  refine ⟨v, p, b, x, Vc, T.ps, B, S, rfl, hV.same s4, SqL.of (s4 _ _ hp), hB.same s4, hS.same s4, wf, vo, fun H5 x' s5 f5 hx' => ?_⟩
  have hy5 := s5 _ _ hy4
  have hh5 := s5 _ _ hh4
  have eq5 := s5 _ _ eq4
  have nx' : x' ≠ y := (kal hy4 f5).symm
  refine ⟨_, rfl, y, d.c_Way, dxy, _, rfl, hy5, W.c_Way.cl, W.n_Way_standing, few (CN (kao y10) (by decide)), ?_⟩
  refine ⟨_, rfl, k _ y x' (kaw fy (s4.trans s5) (nx hy5)) fy ⟨dxy, _, h1, q2, kad, ?_, ?_, ?_, ?_, ?_, ?_, ?_, ?_, ?_, ?_, ?_, ?_⟩ ?_⟩
  ·(repeat (first | rw [kac, if_pos rfl] | rw [kac, if_neg (by decide +kernel)]))
   exact y1
  ·(repeat (first | rw [kac, if_pos rfl] | rw [kac, if_neg (by decide +kernel)]))
   exact y2
  ·(repeat (first | rw [kac, if_pos rfl] | rw [kac, if_neg (by decide +kernel)]))
   exact y3
  ·(repeat (first | rw [kac, if_pos rfl] | rw [kac, if_neg (by decide +kernel)]))
  ·(repeat (first | rw [kac, if_pos rfl] | rw [kac, if_neg (by decide +kernel)]))
  ·(repeat (first | rw [kac, if_pos rfl] | rw [kac, if_neg (by decide +kernel)]))
   exact y6
  ·(repeat (first | rw [kac, if_pos rfl] | rw [kac, if_neg (by decide +kernel)]))
   exact y7
  ·(repeat (first | rw [kac, if_pos rfl] | rw [kac, if_neg (by decide +kernel)]))
   exact y8
  ·(repeat (first | rw [kac, if_pos rfl] | rw [kac, if_neg (by decide +kernel)]))
   exact y9
  ·exact CN (kao (kao y10)) (by decide)
  ·rw [kam nh1]; exact hh5
  ·rw [kam nq2]; exact eq5
  ·obtain ⟨o, pp, mm, ⟨dxs, fss, hxs, q⟩, ho, hpp, hmm⟩ := hx'
   exact ⟨o, pp, mm, ⟨dxs, fss, by rw [kam nx']; exact hxs, q⟩, by rw [kam (ne_of ho hy5 (by intro z; cases z))]; exact ho, by rw [kam (ne_of hpp hy5 (by intro z; cases z))]; exact hpp, by rw [kam (ne_of hmm hy5 (by intro z; cases z))]; exact hmm⟩
def kki (d : D) : Sp := fun vs H Q _ => ∃ (wy t b x : Addr) (T : TillD) (hand : List Int) (used : List Nat), vs = [.ref wy] ∧ WayIs d H wy t b x hand used ∧ TillIs d H t T ∧ Q (.bl (onlyM T.rs used).isNone) H
theorem kdJ : kaq ["self"] ["self"] (kab kaZ) := ⟨rfl, rfl, rfl, by decide +kernel, rfl, by decide +kernel, by decide +kernel⟩
theorem kdO (W : WB K mg d base) : FnOk P w K mg base CX0 2 d.Zn d.Zo ["self"] (kki d) := by
 refine FunD.ok W.Q9.F kdJ (fun vs H Q E h => ?_) (fun cdv A outer s H vs Q E hr h => ?_)
 ·obtain ⟨wy, t, b, x, T, hand, used, rfl, _⟩ := h
  rfl
 ·obtain ⟨wy, t, b, x, T, hand, used, rfl, hW, hT, k⟩ := h
  obtain ⟨dxw, fsw, h, u, hw, w1, w2, w3, w4, w5, w6, w7, w8, w9, w10, hh, hu⟩ := id hW
  obtain ⟨dx, fs, p, vl, rl, va, ra, ht, t1, t2, t3, t4, hp, hvl, hva, hrl, hra⟩ := id hT
  have Vn := kc9 (P := P) (w := w) (base := base) W
  refine ⟨_, kaj (kat (kci kfA (kan Vn hr rfl W.Qp.m W.Qp.F.kp W.Qp.b .nil pass0 (kaa (kap (kap (pv 0) rfl) rfl) (kaa (kap (pv 0) rfl) kah))) kbN (kaN _))), ?_⟩
  refine ⟨_, rfl, wy, d.c_Way, dxw, fsw, _, rfl, hw, W.c_Way.cl, W.n_Way_till, w1, t, d.qf, dx, fs, _, rfl, ht, W.qf.cl, W.n_Till_rules, t3, _, rfl, wy, d.c_Way, dxw, fsw, _, rfl, hw, W.c_Way.cl, W.n_Way_used, w4, rl, u, ra, T.rs, used, rfl, hrl, hra, hu, rfl, ?_⟩
  cases e : onlyM T.rs used with
  | none =>
   rw [e] at k
   show Q (.bl (decide (V.non = V.non))) H
   rw [show decide (V.non = V.non) = true by simp]
   exact k
  | some z =>
   rw [e] at k
   show Q (.bl (decide (V.int (z : Int) = V.non))) H
   rw [show decide (V.int (z : Int) = V.non) = false by simp]
   exact k
def walkM (T : TillD) (B : Bask) (hand : List Int) : List Nat → List Nat → Stnd → List Nat × Stnd
 | [], used, S => (used, S)
 | n :: ns, used, S => match T.vs[n]? with
  | none => (used, S)
  | some V => if dueM V T B hand used S n = .non then walkM T B hand ns (used ++ [n]) (aftM V T.ps (kds B) S) else (used, S)
def kkd (d : D) : Sp := fun vs H Q _ => ∃ (t b h o : Addr) (T : TillD) (B : Bask) (hand : List Int) (order : List Nat), vs = [.ref t, .ref b, .ref h, .ref o] ∧ TillIs d H t T ∧ kdi T ∧ BaskIs d.qe d.qh H b B ∧ Wf T.ps B (stnd0 B) ∧ H h = some (.lst (hand.map V.int)) ∧ H o = some (.lst (order.map iV)) ∧ hand.length = T.vs.length ∧ (∀ n ∈ order, n < T.vs.length) ∧ order.length < 64 ∧
 ∀ (H' : Hp) (wy x : Addr), Same H H' → H wy = none → WayIs d H' wy t b x hand (walkM T B hand order [] (stnd0 B)).1 → StndIs d.qc H' x (walkM T B hand order [] (stnd0 B)).2 → Wf T.ps B (walkM T B hand order [] (stnd0 B)).2 → Q (.ref wy) H'
theorem QN : kaq ["till", "basket", "hand", "order", "way", "number"] ["till", "basket", "hand", "order"] (kab kbV) := ⟨rfl, rfl, rfl, by decide +kernel, rfl, by decide +kernel, by decide +kernel⟩
theorem kh3 (W : WB K mg d base) : FnOk P w K mg base CX0 7 d.X9 d.Ya ["till", "basket", "hand", "order"] (kkd d) := by
 refine FunD.ok W.Ql.F QN (fun vs H Q E h => ?_) (fun cdv A outer s H vs Q E hr h => ?_)
 ·obtain ⟨t, b, h, o, T, B, hand, order, rfl, _⟩ := h
  rfl
 ·obtain ⟨t, b, h, o, T, B, hand, order, rfl, hT, tok, hB, wf0, hh, ho, hl, hlt, h64, k⟩ := h
  have qX := kc3 (P := P) (w := w) (base := base) W
  have Xl := kcI (P := P) (w := w) (base := base) W
  have Xm := kda (P := P) (w := w) (base := base) W
  have hr5 : Room 5 _ := hr.mono (by decide)
  refine ⟨_, kae (kax (i := 4) QN.nd rfl (Or.inl rfl) (kbS (W.qR.mk' W.c_Way) qX hr5 rfl W.c_Way.m W.qR.b .nil pass0 (kaa (pv 0) (kaa (pv 1) (kaa (pv 2) kah)))))
   (kae (kbT PassesOwn.never rfl (kby (pv 3)) (kas (i := 5) QN.nd rfl (Or.inl rfl))
   (kae (ps_if (kaA kcF (ke2 (pv 4) W.c_Way.cl W.qT.me Xl hr5 W.qT.b .nil pass0 (kaa (pv 5) kah)) kbN (kaN _)) (kaj (kat (pv 4))) (kaB))
   (kaj (kax (i := 4) QN.nd rfl (Or.inl rfl) (ke2 (pv 4) W.c_Way.cl W.qU.me Xm hr W.qU.b .nil pass0 (kaa (pv 5) kah))))))
   (kaj (kat (pv 4)))), ?_⟩
  generalize eR : walkM T B hand order [] (stnd0 B) = R at k
  refine ⟨_, rfl, _, rfl, _, rfl, kh7 hh hB wf0.nl wf0.ok fun H1 y0 x0 s1 fy0 fx0 hy0 hx0 => ?_⟩
  refine ⟨_, rfl, o, rfl, ⟨_, SqL.of (s1 _ _ ho)⟩, kb4 (xs := order.map iV) (fun i σ H' => Same H H' ∧ ∃ (y x : Addr) (used : List Nat) (S : Stnd) (v5 : Option V), WayIs d H' y t b x hand used ∧ H y = none ∧ StndIs d.qc H' x S ∧ Wf T.ps B S ∧ used.length = i ∧ walkM T B hand (order.drop i) used S = R ∧ σ = [some (.ref t), some (.ref b), some (.ref h), some (.ref o), some (.ref y), v5])
   ⟨s1, y0, x0, [], _, none, hy0.most (by decide), fy0, hx0, wf0, rfl, eR, rfl⟩ (fun i σ H' _ h => SqL.of (h.1 _ _ ho)) ?_ ?_⟩
  ·rintro i yv σ H' hyv ⟨sI, y, x, used, S, v5, hY, fy, hx, wf, hul, hwalk, rfl⟩
   obtain ⟨n, en, rfl⟩ : ∃ n, order[i]? = some n ∧ yv = iV n := kb6 hyv
   have hi := at_lt en
   obtain ⟨Vc, hV⟩ := at_of (hlt n (CT en))
   have vo := tok.vs Vc (CT hV)
   have ed : order.drop i = n :: order.drop (i + 1) := by
    obtain ⟨h1, h2⟩ := CZ.mp en
    rw [TJ h1, h2]
   rw [ed] at hwalk
   have hwk := hwalk
   unfold walkM at hwk
   rw [hV] at hwk
   simp only at hwk
   obtain ⟨dxw, fsw, hd, u, hw, w1, w2, w3, w4, w5, w6, w7, w8, w9, w10, hh', hu⟩ := id hY
   refine ⟨_, rfl, y, dxw, fsw, rfl, hw, w6, _, rfl, y, t, b, x, T, B, S, hand, used, n, Vc, rfl, hY, hT.same sI, hB.same sI, hx, wf, vo, hV, hl, fun H2 s2 => ⟨rfl, _, rfl, ?_⟩⟩
   have s02 := sI.trans s2
   by_cases hn : dueM Vc T B hand used S n = .non
   ·rw [if_pos hn] at hwk
    rw [hn]
    rw [show (!decide (V.non = V.non)) = false by simp]
    refine iteF ⟨_, rfl, y, dxw, fsw, rfl, s2 _ _ hw, w7, _, rfl, y, t, b, x, T, B, S, hand, used, n, Vc, rfl, hY.same s2, hT.same s02, hB.same s02, hx.same s2, wf, vo, hV, by omega, fun H3 y' x' s3 fy' hY' hx' => ?_⟩
    exact ⟨s02.trans s3, y', x', used ++ [n], _, _, hY', s02.free fy', hx', wf.after vo, by rw [C7, hul]; rfl, hwk, rfl⟩
   ·rw [if_neg hn] at hwk
    rw [show (!decide (dueM Vc T B hand used S n = V.non)) = true by simp [hn]]
    refine iteT ⟨_, rfl, k H2 y x s02 fy ?_ ?_ ?_⟩
    ·rw [← hwk]; exact hY.same s2
    ·rw [← hwk]; exact hx.same s2
    ·rw [← hwk]; exact wf
  ·rintro σ H' ⟨sI, y, x, used, S, v5, hY, fy, hx, wf, hul, hwalk, rfl⟩
   rw [Cz, List.drop_length] at hwalk
   have hwk := hwalk
   unfold walkM at hwk
   refine ⟨_, rfl, k H' y x sI fy ?_ ?_ ?_⟩
   ·rw [← hwk]; exact hY
   ·rw [← hwk]; exact hx
   ·rw [← hwk]; exact wf
def kcW (T : TillD) (B : Bask) (hand : List Int) (order : List Nat) : Option (Nat × L2.V) :=
 let r := walkM T B hand order [] (stnd0 B)
 if r.1.length < order.length then match T.vs[order.getD r.1.length 0]? with
  | none => none
  | some V => some (r.1.length, dueM V T B hand r.1 r.2 (order.getD r.1.length 0))
 else if (onlyM T.rs r.1).isNone = true then none else some (r.1.length, .str "only")
def FltIs (H : Hp) (v : L2.V) : Option (Nat × L2.V) → Prop
 | none => v = .non
 | some (k, z) => ∃ a, v = .ref a ∧ H a = some (.tup [iV k, z])
def kkm (d : D) : Sp := fun vs H Q _ => ∃ (t b h o : Addr) (T : TillD) (B : Bask) (hand : List Int) (order : List Nat), vs = [.ref t, .ref b, .ref h, .ref o] ∧ TillIs d H t T ∧ kdi T ∧ BaskIs d.qe d.qh H b B ∧ Wf T.ps B (stnd0 B) ∧ H h = some (.lst (hand.map V.int)) ∧ H o = some (.lst (order.map iV)) ∧ hand.length = T.vs.length ∧ (∀ n ∈ order, n < T.vs.length) ∧ order.length < 64 ∧
 ∀ (H' : Hp) (v : L2.V), Same H H' → FltIs H' v (kcW T B hand order) → Q v H'
theorem Xn : kaq ["till", "basket", "hand", "order", "way", "place"] ["till", "basket", "hand", "order"] (kab kb9) := ⟨rfl, rfl, rfl, by decide +kernel, rfl, by decide +kernel, by decide +kernel⟩
theorem ke4 (W : WB K mg d base) : FnOk P w K mg base CX0 8 d.X7 d.X8 ["till", "basket", "hand", "order"] (kkm d) := by
 refine FunD.ok W.qu.F Xn (fun vs H Q E h => ?_) (fun cdv A outer s H vs Q E hr h => ?_)
 ·obtain ⟨t, b, h, o, T, B, hand, order, rfl, _⟩ := h
  rfl
 ·obtain ⟨t, b, h, o, T, B, hand, order, rfl, hT, tok, hB, wf0, hh, ho, hl, hlt, h64, k⟩ := h
  have Vo := kh3 (P := P) (w := w) (base := base) W
  have Xl := kcI (P := P) (w := w) (base := base) W
  have Vp := kdO (P := P) (w := w) (base := base) W
  have hr2 : Room 2 _ := hr.mono (by decide)
  have hr5 : Room 5 _ := hr.mono (by decide)
  refine ⟨_, kae (kax (i := 4) Xn.nd rfl (Or.inl rfl) (kan Vo hr rfl W.Ql.m W.Ql.F.kp W.Ql.b .nil pass0 (kaa (pv 0) (kaa (pv 1) (kaa (pv 2) (kaa (pv 3) kah))))))
   (kae (kax (i := 5) Xn.nd rfl (Or.inl rfl) (kaE ka2 (by rfl) W.B.len b_len (kaa (kap (pv 4) rfl) kah)))
   (kae (ps_if (kaA op_lt (pv 5) (kaE ka2 (by rfl) W.B.len b_len (kaa (pv 3) kah)) (kaN _)) (kaj (kat (kcS (kaa (pv 5) (kaa (ke2 (pv 4) W.c_Way.cl W.qT.me Xl hr5 W.qT.b .nil pass0 (kaa (pe_ix (r := rIxL K) kbx (pv 3) (pv 5) (fun _ _ => rfl)) kah)) kah))))) (kaB))
   (kae (ps_if (kdD (kbH (kgC (pv 4) W.c_Way.cl W.Q9.me Vp hr2 W.Q9.b .nil pass0))) (kaj (kat (kcS (kaa (pv 5) (kaa kce kah))))) (kaB))
   (kaj (kat kbN))))), ?_⟩
  refine ⟨_, rfl, _, rfl, _, rfl, _, rfl, t, b, h, o, T, B, hand, order, rfl, hT, tok, hB, wf0, hh, ho, hl, hlt, h64, fun H1 y x s1 fy hY hx wf => ?_⟩
  unfold kcW at k
  simp only at k
  generalize walkM T B hand order [] (stnd0 B) = r at *
  obtain ⟨used, S⟩ := r
  simp only at *
  obtain ⟨dxw, fsw, hd, u, hw, w1, w2, w3, w4, w5, w6, w7, w8, w9, w10, hh', hu⟩ := id hY
  refine ⟨_, rfl, y, d.c_Way, dxw, fsw, _, rfl, hw, W.c_Way.cl, W.n_Way_used, w4, u, _, rfl, .inl (SqL.of hu), ?_⟩
  rw [Cz]
  refine ⟨_, rfl, _, rfl, o, _, rfl, .inl (SqL.of (s1 _ _ ho)), _, _, rfl, rfl, _, rfl, ?_⟩
  rw [Cz]
  by_cases hlen : used.length < order.length
  ·rw [if_pos hlen] at k
   rw [show decide ((used.length : Int) < (order.length : Int)) = true by simp; exact hlen]
   obtain ⟨n, en⟩ := at_of hlen
   have eg : order.getD used.length 0 = n := by rw [C5, en]; rfl
   obtain ⟨Vc, hV⟩ := at_of (hlt n (CT en))
   rw [eg, hV] at k
   have vo := tok.vs Vc (CT hV)
   refine iteT ⟨_, rfl, _, rfl, y, dxw, fsw, rfl, hw, w6, _, rfl, _, rfl, o, _, _, _, rfl, rfl, SqL.of (s1 _ _ ho), kbK (v := iV n) (by rw [CV, en]; rfl), y, t, b, x, T, B, S, hand, used, n, Vc, rfl, hY, hT.same s1, hB.same s1, hx, wf, vo, hV, hl, fun H2 s2 => ?_⟩
   refine ⟨(by show 2 ≤ sizeLine; decide), fun q hq => ?_⟩
   exact k _ _ ((s1.trans s2).trans (kak hq)) ⟨q, rfl, kad⟩
  ·rw [if_neg hlen] at k
   rw [show decide ((used.length : Int) < (order.length : Int)) = false by simp; omega]
   refine iteF ⟨_, rfl, y, dxw, fsw, rfl, hw, w8, y, t, b, x, T, hand, used, rfl, hY, hT.same s1, _, rfl, ?_⟩
   cases e : (onlyM T.rs used).isNone with
   | true =>
    rw [e, if_pos rfl] at k
    exact iteF (k H1 _ s1 rfl)
   | false =>
    rw [e, if_neg CW] at k
    refine iteT ⟨_, rfl, (by show 2 ≤ sizeLine; decide), fun q hq => ?_⟩
    exact k _ _ (s1.trans (kak hq)) ⟨q, rfl, kad⟩
structure Step where
 n : Nat
 cs : List Int
 c : Int
def StepIs (H : Hp) (a : Addr) (s : Step) : Prop := ∃ l, H a = some (.tup [iV s.n, .ref l, .int s.c]) ∧ H l = some (.lst (s.cs.map V.int))
theorem StepIs.same {H H' : Hp} {a : Addr} {t : Step} (s : Same H H') : StepIs H a t → StepIs H' a t := fun ⟨l, h1, h2⟩ => ⟨l, s _ _ h1, s _ _ h2⟩
def StepN (H0 H : Hp) (a : Addr) (s : Step) : Prop := H0 a = none ∧ ∃ l, H0 l = none ∧ H a = some (.tup [iV s.n, .ref l, .int s.c]) ∧ H l = some (.lst (s.cs.map V.int))
theorem StepN.same {H0 H H' : Hp} {a : Addr} {t : Step} (s : Same H H') : StepN H0 H a t → StepN H0 H' a t := fun ⟨f, l, g, h1, h2⟩ => ⟨f, l, g, s _ _ h1, s _ _ h2⟩
theorem StepN.but {H0 H H' : Hp} {a x : Addr} {t : Step} (b : But x H H') (hx : H0 x ≠ none) : StepN H0 H a t → StepN H0 H' a t := fun ⟨f, l, g, h1, h2⟩ => ⟨f, l, g, b _ _ (fun e => hx (e ▸ f)) h1, b _ _ (fun e => hx (e ▸ g)) h2⟩
structure BillD where
 order : List Nat
 steps : List Step
 pr : List Int
 cg : Int
 total : Int
def BillIs (d : D) (H0 H : Hp) (b : Addr) (B : BillD) : Prop := ∃ (dx : Addr) (fs : List (Str × V)) (o s p : Addr) (sa : List Addr), H b = some (.ins d.qi dx fs) ∧ fs.lookup ("order" : Str) = some (.ref o) ∧ fs.lookup ("steps" : Str) = some (.ref s) ∧ fs.lookup ("prices" : Str) = some (.ref p) ∧ fs.lookup ("carriage" : Str) = some (.int B.cg) ∧ fs.lookup ("total" : Str) = some (.int B.total) ∧
 H0 b = none ∧ H0 o = none ∧ H0 s = none ∧ H0 p = none ∧ H o = some (.lst (B.order.map iV)) ∧ H s = some (.lst (sa.map V.ref)) ∧ P2 (fun a t => StepN H0 H a t) sa B.steps ∧ H p = some (.lst (B.pr.map V.int))
theorem BillIs.same {d : D} {H0 H H' : Hp} {b : Addr} {B : BillD} (z : Same H H') : BillIs d H0 H b B → BillIs d H0 H' b B := fun ⟨dx, fs, o, s, p, sa, h1, h2, h3, h4, h5, h6, f1, f2, f3, f4, h7, h8, h9, h10⟩ =>
 ⟨dx, fs, o, s, p, sa, z _ _ h1, h2, h3, h4, h5, h6, f1, f2, f3, f4, z _ _ h7, z _ _ h8, h9.mono fun a t h => h.same z, z _ _ h10⟩
theorem BillIs.but {d : D} {H0 H H' : Hp} {b x : Addr} {B : BillD} (z : But x H H') (hx : H0 x ≠ none) : BillIs d H0 H b B → BillIs d H0 H' b B := fun ⟨dx, fs, o, s, p, sa, h1, h2, h3, h4, h5, h6, f1, f2, f3, f4, h7, h8, h9, h10⟩ =>
 ⟨dx, fs, o, s, p, sa, z _ _ (fun e => hx (e ▸ f1)) h1, h2, h3, h4, h5, h6, f1, f2, f3, f4, z _ _ (fun e => hx (e ▸ f2)) h7, z _ _ (fun e => hx (e ▸ f3)) h8, h9.mono fun a t h => h.but z hx, z _ _ (fun e => hx (e ▸ f4)) h10⟩
def khJ (d : D) : Sp := fun vs H Q _ => ∃ (H0 : Hp) (b dx o s x : Addr) (order : List Nat) (steps : List Step) (S : Stnd) (sa : List Addr), vs = [.ref b, .ref o, .ref s, .ref x] ∧ H0 b = none ∧ Same H0 H ∧ H b = some (.ins d.qi dx []) ∧ H0 o = some (.lst (order.map iV)) ∧ H0 s = some (.lst (sa.map V.ref)) ∧ P2 (fun a t => StepIs H0 a t) sa steps ∧ steps.length < 64 ∧ StndIs d.qc H0 x S ∧
 ∀ H', Same H0 H' → BillIs d H0 H' b ⟨order, steps, S.pr, S.cg, S.pr.sum + S.cg⟩ → Q .non H'
theorem kfw : kaq ["self", "order", "steps", "standing"] ["self", "order", "steps", "standing"] (kab kbw) := ⟨rfl, rfl, rfl, by decide +kernel, rfl, by decide +kernel, by decide +kernel⟩
theorem kfH (W : WB K mg d base) : FnOk P w K mg base CX0 2 d.Zp d.Zq ["self", "order", "steps", "standing"] (khJ d) := by
 refine FunD.ok W.Xa.F kfw (fun vs H Q E h => ?_) (fun cdv A outer s H vs Q E hr h => ?_)
 ·obtain ⟨H0, b, dx, o, s, x, order, steps, S, sa, rfl, _⟩ := h
  rfl
 ·obtain ⟨H0, b, dx, o, st, x, order, steps, S, sa, rfl, fb, s0, hb, ho, hst, hsa, h64, hS, kk⟩ := h
  obtain ⟨ow, pp, mm, ⟨dxs, fss, hxs, l1, l2, l3, l4, l5⟩, how, hpp, hmm⟩ := id hS
  have Vq := kdy (P := P) (w := w) (base := base) W
  refine ⟨_, kae (kba (pv 0) (kbM kbB (by rfl) W.B.list kcx (kaa (pv 1) kah)) rfl)
   (kae (kba (pv 0) (kbO (N := ["number", "piece_cuts", "carriage_cut"]) (CompScope.plain rfl (by decide +kernel) (by decide +kernel) (by decide +kernel) (show (["number", "piece_cuts", "carriage_cut"] : List Str).Nodup by decide +kernel)) rfl (kby (pv 2)) (fun _ _ _ _ => kc1 (K := K) (n := 3) rfl (kaI (kas (i := 0) (show (["number", "piece_cuts", "carriage_cut"] : List Str).Nodup by decide +kernel) rfl (Or.inl rfl)) (kaI (kas (i := 1) (show (["number", "piece_cuts", "carriage_cut"] : List Str).Nodup by decide +kernel) rfl (Or.inl rfl)) (kaI (kas (i := 2) (show (["number", "piece_cuts", "carriage_cut"] : List Str).Nodup by decide +kernel) rfl (Or.inl rfl)) kbR)))) (fun _ _ _ _ => (kcS (kaa (pv 0) (kaa (kbM (r := kkv K) kbB (by rfl) W.B.list kcx (kaa (pv 1) kah)) (kaa (pv 2) kah)))))) rfl)
   (kae (kba (pv 0) (kbM kbB (by rfl) W.B.list kcx (kaa (kap (pv 3) rfl) kah)) rfl)
   (kae (kba (pv 0) (kap (pv 3) rfl) rfl)
   (kaj (kba (pv 0) (kgC (pv 3) W.qc.cl W.Q8.me Vq hr W.Q8.b .nil pass0) rfl))))), ?_⟩
  refine ⟨_, rfl, o, _, rfl, .inl (SqL.of (s0 _ _ ho)), fun o' ho' => ?_⟩
  have n1 := kak (o := .lst (order.map iV)) ho'
  have fo := s0.free ho'
  have no : o' ≠ b := (kal hb ho').symm
  have e1 : (upd H o' (.lst (order.map iV))) o' = some (.lst (order.map iV)) := kad
  have s1 := s0.trans n1
  have hb1 := n1 _ _ hb
  clear n1
  generalize upd H o' (.lst (order.map iV)) = H1 at *
  refine ⟨_, rfl, b, d.qi, dx, [], rfl, hb1, W.qi.cl, W.n_Bill_order, by decide, ?_⟩
  have s2 : Same H0 (upd H1 b (.ins d.qi dx (putF "order" (.ref o') []))) := kaw fb s1 (nx hb1)
  have e2 : (upd H1 b (.ins d.qi dx (putF "order" (.ref o') []))) o' = some (.lst (order.map iV)) := by rw [kam no]; exact e1
  have hb2 : (upd H1 b (.ins d.qi dx (putF "order" (.ref o') []))) b = some (.ins d.qi dx (putF "order" (.ref o') [])) := kad
  generalize upd H1 b (.ins d.qi dx (putF "order" (.ref o') [])) = H2 at *
  refine ⟨_, rfl, st, rfl, ⟨_, SqL.of (s2 _ _ hst)⟩, kbF (xs := sa.map V.ref) (fun i σ ys H' => Same H2 H' ∧ ∃ (ta : List Addr) (v0 v1 v2 : Option V), ys = ta.map V.ref ∧ P2 (fun a t => StepN H0 H' a t) ta (steps.take i) ∧ σ = [v0, v1, v2])
   ⟨Same.refl _, [], none, none, none, rfl, .nil, rfl⟩ (by rw [Cz, hsa.len]; exact CY (kau (by omega))) ?_ ?_ ?_⟩
  ·rintro i σ ys H' hi ⟨s3, ta, v0, v1, v2, rfl, hT, rfl⟩
   refine ⟨SqL.of (s3 _ _ (s2 _ _ hst)), ?_⟩
   rw [Cz, hT.len, C0]
   rw [Cz, hsa.len] at hi
   omega
  ·rintro i y σ ys H' hy ⟨s3, ta, v0, v1, v2, rfl, hT, rfl⟩
   obtain ⟨a, ea, rfl⟩ := kb0 hy
   obtain ⟨t, et, l, ha, hl⟩ := hsa.at ea
   have s03 := s2.trans s3
   refine ⟨a, _, rfl, SqT.of (s03 _ _ ha), rfl, _, _, rfl, _, _, rfl, _, _, rfl, rfl, ?_⟩
   refine ⟨_, rfl, _, rfl, l, _, rfl, .inl (SqL.of (s03 _ _ hl)), fun l' hl' => ⟨_, rfl, (by show 3 ≤ sizeLine; decide), fun q hq => ?_⟩⟩
   have n4 := kak (o := .lst (t.cs.map V.int)) hl'
   have n5 := kak (o := .tup [iV t.n, V.ref l', V.int t.c]) hq
   refine ⟨s3.trans (n4.trans n5), ta ++ [q], _, _, _, by rw [CU]; rfl, ?_, rfl⟩
   rw [kbY et]
   exact P2.snoc (hT.mono fun a t h => h.same (n4.trans n5)) ⟨s03.free (n4.free hq), l', s03.free hl', kad, n5 _ _ kad⟩
  rintro σ ys H3 ⟨s3, ta, v0, v1, v2, rfl, hT, rfl⟩ sp hsp
  rw [Cz, hsa.len, Rh] at hT
  have n4 := kak (o := .lst (ta.map V.ref)) hsp
  have s03 := s2.trans s3
  have fsp := s03.free hsp
  have hb3 := s3 _ _ hb2
  have nsp : sp ≠ b := (kal hb3 hsp).symm
  have s4 := s03.trans n4
  have e4 := n4 _ _ (s3 _ _ e2)
  have es4 : (upd H3 sp (.lst (ta.map V.ref))) sp = some (.lst (ta.map V.ref)) := kad
  have hT4 : P2 (fun a t => StepN H0 (upd H3 sp (.lst (ta.map V.ref))) a t) ta steps := hT.mono fun a t h => h.same n4
  have hb4 := n4 _ _ hb3
  clear n4
  generalize upd H3 sp (.lst (ta.map V.ref)) = H4 at *
  refine ⟨_, rfl, b, d.qi, dx, _, rfl, hb4, W.qi.cl, W.n_Bill_steps, few (CN (kao (n := 0) (CC _)) (by decide)), ?_⟩
  have b5 : But b H4 (upd H4 b (.ins d.qi dx (putF "steps" (.ref sp) (putF "order" (.ref o') [])))) := kaz (nx hb4)
  have s5 : Same H0 (upd H4 b (.ins d.qi dx (putF "steps" (.ref sp) (putF "order" (.ref o') [])))) := kaw fb s4 (nx hb4)
  have e5 : (upd H4 b (.ins d.qi dx (putF "steps" (.ref sp) (putF "order" (.ref o') [])))) o' = some (.lst (order.map iV)) := by rw [kam no]; exact e4
  have es5 : (upd H4 b (.ins d.qi dx (putF "steps" (.ref sp) (putF "order" (.ref o') [])))) sp = some (.lst (ta.map V.ref)) := by rw [kam nsp]; exact es4
  have hb5 : (upd H4 b (.ins d.qi dx (putF "steps" (.ref sp) (putF "order" (.ref o') [])))) b = some (.ins d.qi dx (putF "steps" (.ref sp) (putF "order" (.ref o') []))) := kad
  have stepb : ∀ {H5 : Hp}, But b H4 H5 → P2 (fun a t => StepN H0 H5 a t) ta steps := fun {H5} bt => hT4.mono fun a t ⟨f, l, g, h1, h2⟩ => ⟨f, l, g, bt _ _ (ne_of h1 hb4 (by intro z; cases z)) h1, bt _ _ (ne_of h2 hb4 (by intro z; cases z)) h2⟩
  generalize upd H4 b (.ins d.qi dx (putF "steps" (.ref sp) (putF "order" (.ref o') []))) = H5 at *
  refine ⟨_, rfl, x, d.qc, dxs, fss, _, rfl, s5 _ _ hxs, W.qc.cl, W.n_Standing_prices, l2, pp, _, rfl, .inl (SqL.of (s5 _ _ hpp)), fun p' hp' => ?_⟩
  have n6 := kak (o := .lst (S.pr.map V.int)) hp'
  have fp := s5.free hp'
  have np : p' ≠ b := (kal hb5 hp').symm
  have s6 := s5.trans n6
  have b6 := b5.same n6
  have e6 := n6 _ _ e5
  have es6 := n6 _ _ es5
  have ep6 : (upd H5 p' (.lst (S.pr.map V.int))) p' = some (.lst (S.pr.map V.int)) := kad
  have hb6 := n6 _ _ hb5
  clear n6
  generalize upd H5 p' (.lst (S.pr.map V.int)) = H6 at *
  refine ⟨_, rfl, b, d.qi, dx, _, rfl, hb6, W.qi.cl, W.n_Bill_prices, few (CN (kao (kao (n := 0) (CC _))) (by decide)), ?_⟩
  have b7 : But b H4 (upd H6 b (.ins d.qi dx (putF "prices" (.ref p') (putF "steps" (.ref sp) (putF "order" (.ref o') []))))) := b6.trans (kaz (nx hb6))
  have s7 : Same H0 (upd H6 b (.ins d.qi dx (putF "prices" (.ref p') (putF "steps" (.ref sp) (putF "order" (.ref o') []))))) := kaw fb s6 (nx hb6)
  have e7 : (upd H6 b (.ins d.qi dx (putF "prices" (.ref p') (putF "steps" (.ref sp) (putF "order" (.ref o') []))))) o' = some (.lst (order.map iV)) := by rw [kam no]; exact e6
  have es7 : (upd H6 b (.ins d.qi dx (putF "prices" (.ref p') (putF "steps" (.ref sp) (putF "order" (.ref o') []))))) sp = some (.lst (ta.map V.ref)) := by rw [kam nsp]; exact es6
  have ep7 : (upd H6 b (.ins d.qi dx (putF "prices" (.ref p') (putF "steps" (.ref sp) (putF "order" (.ref o') []))))) p' = some (.lst (S.pr.map V.int)) := by rw [kam np]; exact ep6
  have hb7 : (upd H6 b (.ins d.qi dx (putF "prices" (.ref p') (putF "steps" (.ref sp) (putF "order" (.ref o') []))))) b = some (.ins d.qi dx (putF "prices" (.ref p') (putF "steps" (.ref sp) (putF "order" (.ref o') [])))) := kad
  generalize upd H6 b (.ins d.qi dx (putF "prices" (.ref p') (putF "steps" (.ref sp) (putF "order" (.ref o') [])))) = H7 at *
  refine ⟨_, rfl, x, d.qc, dxs, fss, _, rfl, s7 _ _ hxs, W.qc.cl, W.n_Standing_carriage, l3, _, rfl, b, d.qi, dx, _, rfl, hb7, W.qi.cl, W.n_Bill_carriage, few (CN (kao (kao (kao (n := 0) (CC _)))) (by decide)), ?_⟩
  have s8 : Same H0 (upd H7 b (.ins d.qi dx (putF "carriage" (.int S.cg) (putF "prices" (.ref p') (putF "steps" (.ref sp) (putF "order" (.ref o') [])))))) := kaw fb s7 (nx hb7)
  have hb8 : (upd H7 b (.ins d.qi dx (putF "carriage" (.int S.cg) (putF "prices" (.ref p') (putF "steps" (.ref sp) (putF "order" (.ref o') [])))))) b = some (.ins d.qi dx (putF "carriage" (.int S.cg) (putF "prices" (.ref p') (putF "steps" (.ref sp) (putF "order" (.ref o') []))))) := kad
  refine ⟨_, rfl, x, dxs, fss, rfl, s8 _ _ hxs, l5, x, ow, pp, mm, S.cg, S.pr, rfl, ⟨dxs, fss, s8 _ _ hxs, l1, l2, l3, l4, l5⟩, s8 _ _ hpp, _, rfl, b, d.qi, dx, _, rfl, hb8, W.qi.cl, W.n_Bill_total, few (CN (kao (kao (kao (kao (n := 0) (CC _))))) (by decide)), ?_⟩
  refine kk _ (kaw fb s8 (nx hb8)) ⟨dx, _, o', sp, p', ta, kad, ?_, ?_, ?_, ?_, ?_, fb, fo, fsp, fp, ?_, ?_, stepb ((b7.trans (kaz (nx hb7))).trans (kaz (nx hb8))), ?_⟩
  ·(repeat (first | rw [kac, if_pos rfl] | rw [kac, if_neg (by decide +kernel)]))
  ·(repeat (first | rw [kac, if_pos rfl] | rw [kac, if_neg (by decide +kernel)]))
  ·(repeat (first | rw [kac, if_pos rfl] | rw [kac, if_neg (by decide +kernel)]))
  ·(repeat (first | rw [kac, if_pos rfl] | rw [kac, if_neg (by decide +kernel)]))
  ·(repeat (first | rw [kac, if_pos rfl] | rw [kac, if_neg (by decide +kernel)]))
  ·rw [kam no, kam no]; exact e7
  ·rw [kam nsp, kam nsp]; exact es7
  ·rw [kam np, kam np]; exact ep7
theorem kkL {d : D} {H : Hp} {o s x : Addr} {order : List Nat} {steps : List Step} {S : Stnd} {sa : List Addr} {R : Addr → Hp → Prop} {E : XK} (ho : H o = some (.lst (order.map iV))) (hs : H s = some (.lst (sa.map V.ref))) (hsa : P2 (fun a t => StepIs H a t) sa steps) (h64 : steps.length < 64) (hS : StndIs d.qc H x S)
  (k : ∀ (H' : Hp) (b : Addr), Same H H' → BillIs d H H' b ⟨order, steps, S.pr, S.cg, S.pr.sum + S.cg⟩ → R b H') :
  ∀ b dx, H b = none → H dx = none → dx ≠ b → khJ d [.ref b, .ref o, .ref s, .ref x] (upd (upd H dx (.own b)) b (.ins d.qi dx [])) (fun v H2 => v = .non ∧ R b H2) E :=
 fun b dx nb nd _ => ⟨H, b, dx, o, s, x, order, steps, S, sa, rfl, nb, kbQ nb nd, kad, ho, hs, hsa, h64, hS, fun H' z hB => ⟨rfl, k H' b z hB⟩⟩
theorem kdq {H : Hp} {sp o : Addr} {xs : List Addr} {ys : List V} (hsp : H sp = some (.lst (xs.map V.ref))) (h0 : xs ≠ []) (ho : H o = some (.lst ys)) (hy : ∀ y ∈ ys, ∀ r, y ≠ V.ref r) : o ≠ sp := fun z => by
 rw [z, hsp] at ho
 injection ho with ho
 injection ho with ho
 cases xs with
 | nil => exact h0 rfl
 | cons r xs => exact hy (V.ref r) (by rw [← ho]; simp) r rfl
theorem StndIs.butR {C sp x : Addr} {H H' : Hp} {S : Stnd} {xs : List Addr} (b : But sp H H') (hsp : H sp = some (.lst (xs.map V.ref))) (h0 : xs ≠ []) : StndIs C H x S → StndIs C H' x S := fun ⟨o, p, mk, ⟨dx, fs, hx, q⟩, ho, hp, hm⟩ =>
 ⟨o, p, mk, ⟨dx, fs, b _ _ (ne_of hx hsp (by intro z; cases z)) hx, q⟩,
  b _ _ (kdq hsp h0 ho fun y hy r e => by obtain ⟨n, _, rfl⟩ := C4.mp hy; cases e) ho,
  b _ _ (kdq hsp h0 hp fun y hy r e => by obtain ⟨n, _, rfl⟩ := C4.mp hy; cases e) hp,
  b _ _ (kdq hsp h0 hm fun y hy r e => by obtain ⟨n, _, rfl⟩ := C4.mp hy; cases e) hm⟩
theorem WayAt.butR {d : D} {m : Nat} {sp w t b x : Addr} {H H' : Hp} {hand : List Int} {used : List Nat} {xs : List Addr} (z : But sp H H') (hsp : H sp = some (.lst (xs.map V.ref))) (h0 : xs ≠ []) : WayAt d m H w t b x hand used → WayAt d m H' w t b x hand used := fun ⟨dx, fs, h, u, h1, h2, h3, h4, h5, h6, h7, h8, h9, h10, h11, h12, h13⟩ =>
 ⟨dx, fs, h, u, z _ _ (ne_of h1 hsp (by intro z; cases z)) h1, h2, h3, h4, h5, h6, h7, h8, h9, h10, h11,
  z _ _ (kdq hsp h0 h12 fun y hy r e => by obtain ⟨n, _, rfl⟩ := C4.mp hy; cases e) h12,
  z _ _ (kdq hsp h0 h13 fun y hy r e => by obtain ⟨n, _, rfl⟩ := C4.mp hy; cases e) h13⟩
def billM (T : TillD) (B : Bask) : List Nat → Stnd → List Step × Stnd
 | [], S => ([], S)
 | n :: ns, S => match T.vs[n]? with
  | none => ([], S)
  | some V => (⟨n, (cutM V T.ps (kds B) S).1, (cutM V T.ps (kds B) S).2⟩ :: (billM T B ns (aftM V T.ps (kds B) S)).1, (billM T B ns (aftM V T.ps (kds B) S)).2)
def kg1 (T : TillD) (B : Bask) (order : List Nat) : BillD := ⟨order, (billM T B order (stnd0 B)).1, (billM T B order (stnd0 B)).2.pr, (billM T B order (stnd0 B)).2.cg, (billM T B order (stnd0 B)).2.pr.sum + (billM T B order (stnd0 B)).2.cg⟩
def kiU (d : D) : Sp := fun vs H Q _ => ∃ (t b h o : Addr) (T : TillD) (B : Bask) (hand : List Int) (order : List Nat), vs = [.ref t, .ref b, .ref h, .ref o] ∧ TillIs d H t T ∧ kdi T ∧ BaskIs d.qe d.qh H b B ∧ Wf T.ps B (stnd0 B) ∧ H h = some (.lst (hand.map V.int)) ∧ H o = some (.lst (order.map iV)) ∧ hand.length = T.vs.length ∧ (∀ n ∈ order, n < T.vs.length) ∧ order.length < 64 ∧ kcW T B hand order = none ∧
 ∀ (H0 H' : Hp) (bl : Addr), Same H H0 → Same H0 H' → BillIs d H0 H' bl (kg1 T B order) → Q (.ref bl) H'
theorem qS : kaq ["till", "basket", "hand", "order", "due", "way", "steps", "number", "told"] ["till", "basket", "hand", "order"] (kab kbW) := ⟨rfl, rfl, rfl, by decide +kernel, rfl, by decide +kernel, by decide +kernel⟩
theorem kh4 (W : WB K mg d base) : FnOk P w K mg base CX0 9 d.Yj d.Yk ["till", "basket", "hand", "order"] (kiU d) := by
 refine FunD.ok W.Qq.F qS (fun vs H Q E h => ?_) (fun cdv A outer s H vs Q E hr h => ?_)
 ·obtain ⟨t, b, h, o, T, B, hand, order, rfl, _⟩ := h
  rfl
 ·obtain ⟨t, b, h, o, T, B, hand, order, rfl, hT, tok, hB, wf0, hh, ho, hl, hlt, h64, hf, kk⟩ := h
  have qY := ke4 (P := P) (w := w) (base := base) W
  have qX := kc3 (P := P) (w := w) (base := base) W
  have Vr := kkF (P := P) (w := w) (base := base) W
  have Xm := kda (P := P) (w := w) (base := base) W
  have Vt := kfH (P := P) (w := w) (base := base) W
  have hr3 : Room 3 _ := hr.mono (by decide)
  have hr5 : Room 5 _ := hr.mono (by decide)
  have hr6 : Room 6 _ := hr.mono (by decide)
  refine ⟨_, kae (kax (i := 4) qS.nd rfl (Or.inl rfl) (kan qY hr rfl W.qu.m W.qu.F.kp W.qu.b .nil pass0 (kaa (pv 0) (kaa (pv 1) (kaa (pv 2) (kaa (pv 3) kah))))))
   (kae (ps_if (kaA kcF (pv 4) kbN (kaN _)) (kaj (ps_no)) (kaB))
   (kae (kax (i := 5) qS.nd rfl (Or.inl rfl) (kbS (W.qR.mk' W.c_Way) qX hr5 rfl W.c_Way.m W.qR.b .nil pass0 (kaa (pv 0) (kaa (pv 1) (kaa (pv 2) kah)))))
   (kae (kax (i := 6) qS.nd rfl (Or.inl rfl) (kbG kah))
   (kae (kbT PassesOwn.never rfl (kby (pv 3)) (kas (i := 7) qS.nd rfl (Or.inl rfl))
   (kae (kax (i := 8) qS.nd rfl (Or.inl rfl) (kan Vr hr5 rfl W.Qf.m W.Qf.F.kp W.Qf.b .nil pass0 (kaa (pe_ix (r := rIxL K) kbx (kap (pv 0) rfl) (pv 7) (fun _ _ => rfl)) (kaa (kap (pv 0) rfl) (kaa (pv 1) (kaa (kap (pv 5) rfl) kah))))))
   (kae (kbC (pe_bm Ri Rz RA kbE (pv 6) (kaa (kcS (kaa (pv 7) (kaa (pe_ix (r := rIxT K) kgQ (pv 8) kai (fun _ _ => rfl)) (kaa (pe_ix (r := rIxT K) kgQ (pv 8) kai (fun _ _ => rfl)) kah)))) kah)))
   (kaj (kax (i := 5) qS.nd rfl (Or.inl rfl) (ke2 (pv 5) W.c_Way.cl W.qU.me Xm hr6 W.qU.b .nil pass0 (kaa (pv 7) kah)))))))
   (kaj (kat (kbS (W.Xa.mk' W.qi) Vt hr3 rfl W.qi.m W.Xa.b .nil pass0 (kaa (pv 3) (kaa (pv 6) (kaa (kap (pv 5) rfl) kah)))))))))), ?_⟩
  refine ⟨_, rfl, _, rfl, _, rfl, _, rfl, t, b, h, o, T, B, hand, order, rfl, hT, tok, hB, wf0, hh, ho, hl, hlt, h64, fun H1 v s1 hF => ?_⟩
  rw [hf] at hF
  have ev : v = .non := hF
  subst ev
  refine ⟨_, rfl, rfl, _, rfl, ?_⟩
  show if (!decide (V.non = V.non)) = true then _ else _
  rw [show (!decide (V.non = V.non)) = false by simp]
  refine iteF ⟨_, rfl, _, rfl, _, rfl, kh7 (s1 _ _ hh) (hB.same s1) wf0.nl wf0.ok fun H2 y0 x0 s2 fy0 fx0 hy0 hx0 => ?_⟩
  have s02 := s1.trans s2
  refine ⟨by decide, fun sp fsp => ?_⟩
  have n3 := kak (o := .lst []) fsp
  have esp0 : (upd H2 sp (.lst [])) sp = some (.lst (([] : List Addr).map V.ref)) := kad
  generalize upd H2 sp (.lst []) = H3 at *
  have fsp0 := s02.free fsp
  generalize eR : billM T B order (stnd0 B) = R at *
  refine ⟨_, rfl, o, rfl, ⟨_, SqL.of ((s02.trans n3) _ _ ho)⟩, kb4 (xs := order.map iV) (fun i σ H' => Same H2 H' ∧ ∃ (y x : Addr) (used : List Nat) (S : Stnd) (sa : List Addr) (st : List Step) (v7 v8 : Option V), WayIs d H' y t b x hand used ∧ StndIs d.qc H' x S ∧ (sa = [] → WayIs d H2 y t b x hand used ∧ StndIs d.qc H2 x S) ∧ Wf T.ps B S ∧ used.length = i ∧ H' sp = some (.lst (sa.map V.ref)) ∧ P2 (fun a t => StepIs H' a t) sa st ∧ st.length = i ∧ st ++ (billM T B (order.drop i) S).1 = R.1 ∧ (billM T B (order.drop i) S).2 = R.2 ∧ σ = [some (.ref t), some (.ref b), some (.ref h), some (.ref o), some .non, some (.ref y), some (.ref sp), v7, v8])
   ⟨n3, y0, x0, [], _, [], [], none, none, (hy0.most (by decide)).same n3, hx0.same n3, (fun _ => ⟨hy0.most (by decide), hx0⟩), wf0, rfl, esp0, .nil, rfl, by rw [Sx, eR]; rfl, by rw [Sx, eR], rfl⟩ (fun i σ H' _ h => SqL.of ((s02.trans h.1) _ _ ho)) ?_ ?_⟩
  ·rintro i yv σ H' hyv ⟨sI, y, x, used, S, sa, st, v7, v8, hY, hx, h2, wf, hul, hsp, hsa, hsl, hR1, hR2, rfl⟩
   obtain ⟨n, en, rfl⟩ : ∃ n, order[i]? = some n ∧ yv = iV n := kb6 hyv
   have hi := at_lt en
   obtain ⟨Vc, hV⟩ := at_of (hlt n (CT en))
   have vo := tok.vs Vc (CT hV)
   have ed : order.drop i = n :: order.drop (i + 1) := by
    obtain ⟨z1, z2⟩ := CZ.mp en
    rw [TJ z1, z2]
   rw [ed] at hR1 hR2
   unfold billM at hR1 hR2
   rw [hV] at hR1 hR2
   simp only at hR1 hR2
   have s0I := s02.trans sI
   obtain ⟨dxw, fsw, hd, u, hw, w1, w2, w3, w4, w5, w6, w7, w8, w9, w10, hh', hu⟩ := id hY
   obtain ⟨dx, fs, p, vl, rl, va, ra, ht, t1, t2, t3, t4, hp, hvl, hva, hrl, hra⟩ := id (hT.same s0I)
   obtain ⟨vv, evv⟩ := at_of (xs := va) (i := n) (by rw [hva.len]; exact at_lt hV)
   obtain ⟨Vc', eV', hVv⟩ := hva.at evv
   rw [hV] at eV'
   cases eV'
   refine ⟨_, rfl, t, d.qf, dx, fs, _, rfl, ht, W.qf.cl, W.n_Till_vouchers, t2, _, rfl, vl, _, _, _, rfl, rfl, SqL.of hvl, kbK (v := .ref vv) (by rw [CV, evv]; rfl), ?_⟩
   refine ⟨_, rfl, t, d.qf, dx, fs, _, rfl, ht, W.qf.cl, W.n_Till_parents, t1, _, rfl, _, rfl, y, d.c_Way, dxw, fsw, _, rfl, hw, W.c_Way.cl, W.n_Way_standing, w5, ?_⟩
   refine ⟨vv, p, b, x, Vc, T.ps, B, S, rfl, hVv, SqL.of hp, hB.same s0I, hx, wf, vo, fun H4 tt pc s4 ft fpc htt hpc => ?_⟩
   have hsp4 := s4 _ _ hsp
   refine ⟨_, rfl, .inl ⟨rfl, _, SqL.of hsp4⟩, _, rfl, _, rfl, tt, _, _, _, rfl, rfl, SqT.of htt, rfl, _, rfl, tt, _, _, _, rfl, rfl, SqT.of htt, rfl, (by show 3 ≤ sizeLine; decide), fun q hq => ?_⟩
   have n5 := kak (o := .tup [iV n, V.ref pc, V.int (cutM Vc T.ps (kds B) S).2]) hq
   have eq5 : (upd H4 q (.tup [iV n, V.ref pc, V.int (cutM Vc T.ps (kds B) S).2])) q = some (.tup [iV n, V.ref pc, V.int (cutM Vc T.ps (kds B) S).2]) := kad
   have s5 := s4.trans n5
   have hsp5 := n5 _ _ hsp4
   have hpc5 := n5 _ _ hpc
   have npc : pc ≠ sp := (kal hsp fpc).symm
   clear n5
   generalize upd H4 q (.tup [iV n, V.ref pc, V.int (cutM Vc T.ps (kds B) S).2]) = H5 at *
   refine ⟨sp, _, _, rfl, rfl, hsp5, kau (by rw [Cz, hsa.len]; omega), ?_⟩
   have b6 : But sp H5 (upd H5 sp (.lst (sa.map V.ref ++ [V.ref q]))) := kaz (nx hsp5)
   have s6 : Same H2 (upd H5 sp (.lst (sa.map V.ref ++ [V.ref q]))) := kaw fsp (sI.trans s5) (nx hsp5)
   have esp6 : (upd H5 sp (.lst (sa.map V.ref ++ [V.ref q]))) sp = some (.lst ((sa ++ [q]).map V.ref)) := by rw [kad, CU]; rfl
   generalize upd H5 sp (.lst (sa.map V.ref ++ [V.ref q])) = H6 at *
   have hYx : WayIs d H6 y t b x hand used ∧ StndIs d.qc H6 x S := by
    by_cases h0 : sa = []
    ·exact ⟨(h2 h0).1.same s6, (h2 h0).2.same s6⟩
    ·exact ⟨(hY.same s5).butR b6 hsp5 h0, (hx.same s5).butR b6 hsp5 h0⟩
   have hst : P2 (fun a t => StepIs H6 a t) (sa ++ [q]) (st ++ [⟨n, (cutM Vc T.ps (kds B) S).1, (cutM Vc T.ps (kds B) S).2⟩]) := by
    refine P2.snoc ?_ ⟨pc, b6 _ _ (ne_of eq5 hsp5 (by intro z; cases z)) eq5, b6 _ _ npc hpc5⟩
    by_cases h0 : sa = []
    ·subst h0
     cases hsa
     exact .nil
    ·refine hsa.mono fun a t ⟨l, g1, g2⟩ => ?_
     have g1' := s5 _ _ g1
     have g2' := s5 _ _ g2
     refine ⟨l, b6 _ _ (ne_of g1' hsp5 (by intro z; cases z)) g1', b6 _ _ ?_ g2'⟩
     exact kdq hsp5 h0 g2' fun y hy r e => by obtain ⟨n, _, rfl⟩ := C4.mp hy; cases e
   have s06 := s02.trans s6
   obtain ⟨dxw', fsw', hd', u', hw', _, _, _, _, _, _, w7', _⟩ := id hYx.1
   refine ⟨_, rfl, y, dxw', fsw', rfl, hw', w7', _, rfl, y, t, b, x, T, B, S, hand, used, n, Vc, rfl, hYx.1, hT.same s06, hB.same s06, hYx.2, wf, vo, hV, by omega, fun H7 y' x' s7 fy' hY' hx' => ?_⟩
   refine ⟨s6.trans s7, y', x', used ++ [n], _, sa ++ [q], _, _, _, hY', hx', (fun e => by simp at e), wf.after vo, by rw [C7, hul]; rfl, s7 _ _ esp6, hst.mono fun a t h => h.same s7, by rw [C7, hsl]; rfl, ?_, hR2, rfl⟩
   rw [R0]
   exact hR1
  ·rintro σ H' ⟨sI, y, x, used, S, sa, st, v7, v8, hY, hx, h2, wf, hul, hsp, hsa, hsl, hR1, hR2, rfl⟩
   rw [Cz, List.drop_length] at hR1 hR2
   unfold billM at hR1 hR2
   have e1 : st = R.1 := by simpa using hR1
   have e2 : S = R.2 := hR2
   obtain ⟨dxw, fsw, hd, u, hw, w1, w2, w3, w4, w5, w6, w7, w8, w9, w10, hh', hu⟩ := id hY
   rw [Cz] at hsl
   refine ⟨_, rfl, _, rfl, _, rfl, y, d.c_Way, dxw, fsw, _, rfl, hw, W.c_Way.cl, W.n_Way_standing, w5, kkL ((s02.trans sI) _ _ ho) hsp hsa (by omega) hx fun H8 bl s8 hBl => ?_⟩
   refine kk H' H8 bl (s02.trans sI) s8 ?_
   unfold kg1
   rw [eR, ← e1, ← e2]
   exact hBl
def segs : List Nat → List Int → List Int
 | [], _ => []
 | m :: ms, as => (as.take m).sum :: segs ms (as.drop m)
def mans (rs : List Row) : List Nat := rs.map fun r => r.mn.toNat
theorem kcp : ∀ (ms : List Nat) (as : List Int), (segs ms as).length = ms.length
 | [], _ => rfl
 | m :: ms, as => by show (segs ms (as.drop m)).length + 1 = ms.length + 1; rw [kcp ms]
def lsum (ow : List Nat) (as : List Int) (l : Nat) : Int := ((ow.zip as).map fun p => if p.1 = l then p.2 else 0).sum
theorem kic {ow : List Nat} {as : List Int} {i o : Nat} {a : Int} (h1 : ow[i]? = some o) (h2 : as[i]? = some a) (l : Nat) : lsum (ow.take (i + 1)) (as.take (i + 1)) l = lsum (ow.take i) (as.take i) l + if o = l then a else 0 := by
 have hl1 : i < ow.length := (CZ.mp h1).1
 have hl2 : i < as.length := (CZ.mp h2).1
 unfold lsum
 rw [take_snoc h1, take_snoc h2, SH (by rw [C0, C0]; omega), CU, RH]
 simp
theorem kgM : ∀ (m k : Nat) (as : List Int), as.length = m → lsum (CI m k) as k = as.sum
 | 0, k, as, h => by
  have : as = [] := TK.mp h
  subst this
  rfl
 | m + 1, k, [], h => by cases h
 | m + 1, k, a :: as, h => by
  have ih := kgM m k as (by simpa using h)
  unfold lsum at ih ⊢
  rw [RJ, SL, C1, Rx, ih, Rx, if_pos rfl]
theorem kga : ∀ (ow : List Nat) (as : List Int) (l : Nat), (∀ o ∈ ow, o ≠ l) → lsum ow as l = 0
 | [], _, l, _ => rfl
 | o :: ow, [], l, _ => rfl
 | o :: ow, a :: as, l, h => by
  have ih := kga ow as l fun x hx => h x (C8 _ hx)
  unfold lsum at ih ⊢
  rw [SL, C1, Rx, ih, if_neg (h o Re)]
  rfl
theorem kgN {o1 o2 : List Nat} {as : List Int} {l : Nat} (h : o1.length ≤ as.length) : lsum (o1 ++ o2) as l = lsum o1 (as.take o1.length) l + lsum o2 (as.drop o1.length) l := by
 unfold lsum
 conv => lhs; rw [← R9 o1.length as]
 rw [SH (by rw [C0]; omega), CU, RH]
theorem kiw : ∀ (rs : List Row) (k : Nat), ∀ o ∈ ((rs.zipIdx k).map fun p => CI p.1.mn.toNat p.2).flatten, k ≤ o
 | [], k, o, h => by simp at h
 | r :: rs, k, o, h => by
  rw [R8, C1, Rf, Rk] at h
  rcases h with h | h
  ·rw [(SO.mp h).2]; exact CC _
  ·have := kiw rs (k + 1) o h
   omega
theorem keI : ∀ (rs : List Row) (k : Nat) (as : List Int), as.length = ((rs.zipIdx k).map fun p => CI p.1.mn.toNat p.2).flatten.length → (CP rs.length).map (fun l => lsum ((rs.zipIdx k).map fun p => CI p.1.mn.toNat p.2).flatten as (k + l)) = segs (mans rs) as
 | [], k, as, _ => rfl
 | r :: rs, k, as, h => by
  rw [R8, C1, Rf] at h ⊢
  rw [C7, Ro] at h
  change as.length = r.mn.toNat + _ at h
  have ih := keI rs (k + 1) (as.drop r.mn.toNat) (by rw [RY, h]; simp)
  show _ = (as.take r.mn.toNat).sum :: segs (mans rs) (as.drop r.mn.toNat)
  have hle : (CI r.mn.toNat k).length ≤ as.length := by rw [Ro, h]; omega
  rw [Rv, List.range_succ_eq_map, C1, C9, ← ih]
  congr 1
  ·rw [kgN hle, Ro, Nat.add_zero, kgM _ _ _ (by rw [C0, h]; omega), kga _ _ _ fun o ho => by have := kiw rs (k + 1) o ho; omega]
   omega
  ·refine Ry fun l _ => ?_
   show lsum _ as (k + (l + 1)) = _
   rw [kgN hle, Ro, kga _ _ _ fun o ho => by rw [(SO.mp ho).2]; omega, Int.zero_add, show k + (l + 1) = k + 1 + l by omega]
theorem kid (rs : List Row) (as : List Int) (h : as.length = (ownN rs).length) : (CP rs.length).map (lsum (ownN rs) as) = segs (mans rs) as := by
 have := keI rs 0 as h
 simp only [Sz] at this
 exact this
theorem khx : ∀ (a b : List Int), a.length = b.length → (Rb (· - ·) a b).sum = a.sum - b.sum
 | [], [], _ => rfl
 | [], _ :: _, h => by cases h
 | _ :: _, [], h => by cases h
 | x :: a, y :: b, h => by
  rw [List.zipWith_cons_cons, Rx, Rx, Rx, khx a b (by simpa using h)]
  omega
theorem kgt : ∀ (ms : List Nat) (a b : List Int), a.length = b.length → segs ms (Rb (· - ·) a b) = Rb (· - ·) (segs ms a) (segs ms b)
 | [], a, b, _ => rfl
 | m :: ms, a, b, h => by
  show ((Rb (· - ·) a b).take m).sum :: segs ms ((Rb (· - ·) a b).drop m) = ((a.take m).sum - (b.take m).sum) :: Rb (· - ·) (segs ms (a.drop m)) (segs ms (b.drop m))
  rw [List.take_zipWith, List.drop_zipWith, khx _ _ (by rw [C0, C0, h]), kgt ms _ _ (by rw [RY, RY, h])]
theorem kgs : ∀ (ms : List Nat) (as : List Int), as.length ≤ ms.sum → (segs ms as).sum = as.sum
 | [], as, h => by
  have : as = [] := TK.mp (by simpa using h)
  subst this
  rfl
 | m :: ms, as, h => by
  show ((as.take m).sum :: segs ms (as.drop m)).sum = _
  rw [Rx, kgs ms _ (by rw [RY]; rw [Rx] at h; omega), ← RH, R9]
theorem kgu (m : Bool) : ∀ (rs : List Row), (∀ r ∈ rs, r.Ok) → segs (mans rs) (prs m rs) = rs.map fun r => prc m r * r.mn
 | [], _ => rfl
 | r :: rs, h => by
  have ih := kgu m rs fun x hx => h x (C8 _ hx)
  have h2 := (h r Re).mn0
  unfold prs at ih ⊢
  rw [C1, Rf]
  show ((CI r.mn.toNat (prc m r) ++ _).take r.mn.toNat).sum :: segs (mans rs) ((CI r.mn.toNat (prc m r) ++ _).drop r.mn.toNat) = (prc m r * r.mn) :: _
  rw [List.take_append_of_le_length (by rw [Ro]; exact CC _), RB (by rw [Ro]; exact CC _), kj7, List.drop_append_of_le_length (by rw [Ro]; exact CC _), Tn (by rw [Ro]; exact CC _), R5, ih]
  rw [show ((r.mn.toNat : Nat) : Int) = r.mn by omega]
theorem kfx : ∀ (rs : List Row) (k : Nat), ((rs.zipIdx k).map fun p => CI p.1.mn.toNat p.2).flatten.length = (mans rs).sum
 | [], k => rfl
 | r :: rs, k => by
  rw [R8, C1, Rf, C7, Ro, kfx rs (k + 1)]
  rfl
theorem kgF (rs : List Row) : (ownN rs).length = (mans rs).sum := kfx rs 0
def kk6 (d : D) : Sp := fun vs H Q _ => ∃ (b a : Addr) (B : Bask) (as : List Int), vs = [.ref b, .ref a] ∧ BaskIs d.qe d.qh H b B ∧ B.rs.length ≤ 12 ∧ (∀ r ∈ B.rs, r.Ok) ∧ (ownN B.rs).length ≤ 720 ∧ H a = some (.lst (as.map V.int)) ∧ as.length = (ownN B.rs).length ∧ ∀ (H' : Hp) (p : Addr), Same H H' → H p = none → H' p = some (.lst ((segs (mans B.rs) as).map V.int)) → Q (.ref p) H'
theorem QO : kaq ["basket", "amounts", "sums", "owner", "amount"] ["basket", "amounts"] (kab ka3) := ⟨rfl, rfl, rfl, by decide +kernel, rfl, by decide +kernel, by decide +kernel⟩
theorem kcH (W : WB K mg d base) : FnOk P w K mg base CX0 4 d.Yp d.Yq ["basket", "amounts"] (kk6 d) := by
 refine FunD.ok W.qM.F QO (fun vs H Q E h => ?_) (fun cdv A outer s H vs Q E hr h => ?_)
 ·obtain ⟨b, a, B, as, rfl, _⟩ := h
  rfl
 ·obtain ⟨b, a, B, as, rfl, hB, h12, hok, h720, ha, hla, k⟩ := h
  obtain ⟨l, ls, ⟨dxb, fsb, hb, lbl, lbc, lbm⟩, hl, hL⟩ := id hB
  have qW := kcd (P := P) (w := w) (base := base) W
  refine ⟨_, kae (ke0 (N := ["line"]) (CompScope.plain rfl (by decide +kernel) (by decide +kernel) (by decide +kernel) (nd1 _)) rfl (kby (kap (pv 0) rfl)) (fun _ _ _ _ => kas (i := 0) (nd1 _) rfl (Or.inl rfl)) (fun _ _ _ _ => kai) (kas (i := 2) QO.nd rfl (Or.inl rfl)))
   (kae (kbT PassesOwn.never rfl (kc0 rfl W.B.zip (kaa (kap (kbS (W.qQ.mk' W.qc) qW hr rfl W.qc.m W.qQ.b .nil pass0 (kaa (pv 0) kah)) rfl) (kaa (pv 1) kah))) (kcR rfl (kaI (kas (i := 3) QO.nd rfl (Or.inl rfl)) (kaI (kas (i := 4) QO.nd rfl (Or.inl rfl)) kbR)))
   (kaj (kkz (pv 2) (pv 3) kjt (pv 4) kjU set_list)))
   (kaj (kat (pv 2)))), ?_⟩
  have hll := hL.len
  refine ⟨_, rfl, b, d.qh, dxb, fsb, _, rfl, hb, W.qh.cl, W.n_Basket_lines, lbl, l, rfl, ⟨_, SqL.of hl⟩, kbF (xs := ls.map V.ref) (fun i σ ys H' => H' = H ∧ ys = (CI i (0 : Int)).map V.int ∧ ∃ v, σ = [v]) ⟨rfl, rfl, none, rfl⟩ (by rw [Cz, hll]; exact CY (kau (by omega))) ?_ ?_ ?_⟩
  ·rintro i σ ys H' hi ⟨rfl, rfl, _⟩
   exact ⟨SqL.of hl, by simp⟩
  ·rintro i y σ ys H' hy ⟨rfl, rfl, v, rfl⟩
   refine ⟨rfl, ?_, _, rfl⟩
   rw [Sa, CU]
   rfl
  ·rintro σ ys H' ⟨rfl, rfl, v, rfl⟩ q hq
   rw [Cz, hll]
   have e0 : (CI B.rs.length (0 : Int)) = (CP B.rs.length).map (lsum ((ownN B.rs).take 0) (as.take 0)) := by
    apply RM
    ·simp
    ·intro j h1 h2
     simp [lsum]
   rw [e0]
   have n1 := kak (o := .lst (((CP B.rs.length).map (lsum ((ownN B.rs).take 0) (as.take 0))).map V.int)) hq
   have e1 : (upd H' q (.lst (((CP B.rs.length).map (lsum ((ownN B.rs).take 0) (as.take 0))).map V.int))) q = some (.lst (((CP B.rs.length).map (lsum ((ownN B.rs).take 0) (as.take 0))).map V.int)) := kad
   generalize upd H' q (.lst (((CP B.rs.length).map (lsum ((ownN B.rs).take 0) (as.take 0))).map V.int)) = H1 at *
   obtain ⟨l', ls', hb1, hb2, hb3⟩ := hB.same n1
   refine ⟨_, rfl, kgK hb1 hb2 hb3 h12 hok fun H2 x o p mk s2 fx fo _ _ hS ho hp hmk => ?_⟩
   obtain ⟨dxs, fss, hxx, l1, l2, l3, l4, l5⟩ := hS
   have s12 := n1.trans s2
   have emin : min ((ownN B.rs).map iV).length (as.map V.int).length = (ownN B.rs).length := by rw [Cz, Cz, hla, RQ]
   have bq : But q H2 H2 := But.of_same (Same.refl _)
   have noq : o ≠ q := (kal e1 fo).symm
   have naq : a ≠ q := kal ha hq
   have ho' : H2 o = some (.lst ((ownN B.rs).map iV)) := by
    rw [ho, kdT]
   refine ⟨x, d.qc, dxs, fss, _, rfl, hxx, W.qc.cl, W.n_Standing_owners, l1, _, rfl, o, a, _, _, rfl, ho', s12 _ _ ha,
    kgi (xs := (ownN B.rs).map iV) (ys := as.map V.int) (fun i σ H'' => (∃ v3 v4 : Option V, σ = [some (.ref b), some (.ref a), some (.ref q), v3, v4]) ∧ But q H2 H'' ∧ H'' q = some (.lst (((CP B.rs.length).map (lsum ((ownN B.rs).take i) (as.take i))).map V.int)))
     ⟨⟨none, none, rfl⟩, bq, s2 _ _ e1⟩ (fun i σ H'' _ h => ⟨h.2.1 _ _ noq ho', h.2.1 _ _ naq (s12 _ _ ha)⟩) ?_ ?_⟩
   ·rintro i y z t σ H3 hy hz ⟨⟨v3, v4, rfl⟩, b3, h3⟩ ht
    obtain ⟨ln, eln, rfl⟩ := kb6 hy
    obtain ⟨cz, ecz, rfl⟩ := kb6 hz
    have hln := kh1 B.rs (CT eln)
    have b4 := b3.same (kak (o := .tup [iV ln, V.int cz]) ht)
    have h4 := kak (o := .tup [iV ln, V.int cz]) ht _ _ h3
    refine ⟨t, _, rfl, SqT.of kad, rfl, _, _, rfl, _, _, rfl, rfl, ?_⟩
    have eat : ((CP B.rs.length).map (lsum ((ownN B.rs).take i) (as.take i)))[ln]? = some (lsum ((ownN B.rs).take i) (as.take i) ln) := by
     rw [CV, Sk hln]
     rfl
    refine ⟨_, rfl, _, rfl, q, _, _, _, rfl, rfl, SqL.of h4, kbK (v := .int (lsum ((ownN B.rs).take i) (as.take i) ln)) (by rw [CV, eat]; rfl), _, rfl, _, _, rfl, rfl, q, _, _, ln, rfl, rfl, h4, kgg (by simpa using hln), ⟨_, _, rfl⟩, b4.trans (kaz (nx h4)), ?_⟩
    rw [kad, ← To]
    congr 3
    apply RM
    ·simp
    ·intro j g1 g2
     rw [Td]
     simp only [R7, Si]
     rw [kic eln ecz]
     by_cases hjl : ln = j
     ·subst hjl
      rw [if_pos rfl, if_pos rfl]
     ·rw [if_neg hjl, if_neg hjl, Int.add_zero]
   ·rintro σ H3 ⟨⟨v3, v4, rfl⟩, b3, h3⟩
    rw [emin, Rh, show as.take (ownN B.rs).length = as by rw [← hla, Rh], kid _ _ hla] at h3
    exact ⟨_, rfl, k H3 q (kfR (But.of_same s12 |>.trans b3) hq) hq h3⟩
def kkj (d : D) : Sp := fun vs H Q _ => ∃ (b bl : Addr) (B : Bask) (D : BillD) (H0 : Hp), vs = [.ref b, .ref bl] ∧ BaskIs d.qe d.qh H b B ∧ B.rs.length ≤ 12 ∧ (∀ r ∈ B.rs, r.Ok) ∧ (ownN B.rs).length ≤ 720 ∧ BillIs d H0 H bl D ∧ (∀ s ∈ D.steps, s.cs.length = (ownN B.rs).length) ∧ D.steps.length < 64 ∧ ∀ (H' : Hp) (p : Addr) (qs : List Addr), Same H H' → H p = none → p ∉ qs → (∀ q ∈ qs, H q = none) → H' p = some (.lst (qs.map V.ref)) → P2 (fun q (s : Step) => H' q = some (.lst ((segs (mans B.rs) s.cs).map V.int))) qs D.steps → Q (.ref p) H'
theorem kfs : kaq ["basket", "bill"] ["basket", "bill"] (kab kbp) := ⟨rfl, rfl, rfl, by decide +kernel, rfl, by decide +kernel, by decide +kernel⟩
theorem kfB (W : WB K mg d base) : FnOk P w K mg base CX0 5 d.Yl d.Ym ["basket", "bill"] (kkj d) := by
 refine FunD.ok W.Qr.F kfs (fun vs H Q E h => ?_) (fun cdv A outer s H vs Q E hr h => ?_)
 ·obtain ⟨b, bl, B, D, H0, rfl, _⟩ := h
  rfl
 ·obtain ⟨b, bl, B, D, H0, rfl, hB, h12, hok, h720, ⟨dx, fs, o, sp, pp, sa, hb1, h2, h3, h4, h5, h6, f1, f2, f3, f4, h7, h8, h9, h10⟩, hcs, h64, k⟩ := h
  have Xo := kcH (P := P) (w := w) (base := base) W
  refine ⟨_, kaj (kat (kbO (N := ["number", "piece_cuts", "carriage_cut", "basket"]) (CompScope.of (N := ["number", "piece_cuts", "carriage_cut", "basket"]) (cap := [none, none, none, some 0]) (kab kbp).names ["basket", "bill"] rfl rfl (by decide +kernel)) rfl (kby (kap (pv 1) rfl)) (fun _ _ _ _ => kc1 (K := K) (n := 3) rfl (kaI (kas (i := 0) (show (["number", "piece_cuts", "carriage_cut", "basket"] : List Str).Nodup by decide +kernel) rfl (Or.inl rfl)) (kaI (kas (i := 1) (show (["number", "piece_cuts", "carriage_cut", "basket"] : List Str).Nodup by decide +kernel) rfl (Or.inl rfl)) (kaI (kas (i := 2) (show (["number", "piece_cuts", "carriage_cut", "basket"] : List Str).Nodup by decide +kernel) rfl (Or.inl rfl)) kbR)))) (fun _ _ _ _ => (kan Xo hr rfl W.qM.m W.qM.F.kp W.qM.b .nil pass0 (kaa (pv 3) (kaa (pv 1) kah)))))), ?_⟩
  have lsa := h9.len
  refine ⟨_, rfl, bl, d.qi, dx, fs, _, rfl, hb1, W.qi.cl, W.n_Bill_steps, h3, sp, rfl, ⟨_, SqL.of h8⟩, kbF (xs := sa.map V.ref) (fun i σ ys H' => Same H H' ∧ ∃ (qs : List Addr) (v0 v1 v2 : Option V), ys = qs.map V.ref ∧ (∀ q ∈ qs, H q = none) ∧ P2 (fun q (s : Step) => H' q = some (.lst ((segs (mans B.rs) s.cs).map V.int))) qs (D.steps.take i) ∧ σ = [v0, v1, v2, some (.ref b)])
   ⟨Same.refl _, [], none, none, none, rfl, (fun q hq => by simp at hq), .nil, rfl⟩ (by rw [Cz, lsa]; exact CY (kau (by omega))) ?_ ?_ ?_⟩
  ·rintro i σ ys H' hi ⟨s1, qs, v0, v1, v2, rfl, fq, hq, rfl⟩
   exact ⟨SqL.of (s1 _ _ h8), by have := hq.len; rw [Cz, this, C0]; rw [Cz, lsa] at hi; omega⟩
  ·rintro i y σ ys H' hy ⟨s1, qs, v0, v1, v2, rfl, fq, hq, rfl⟩
   obtain ⟨a, ea, rfl⟩ := kb0 hy
   obtain ⟨s, es, _, lc, _, hga, hlc⟩ := h9.at ea
   refine ⟨a, _, rfl, SqT.of (s1 _ _ hga), rfl, _, _, rfl, _, _, rfl, _, _, rfl, rfl, ?_⟩
   refine ⟨_, rfl, _, rfl, b, lc, B, s.cs, rfl, hB.same s1, h12, hok, h720, s1 _ _ hlc, hcs s (CT es), fun H2 q s2 f2 e2 => ⟨s1.trans s2, qs ++ [q], _, _, _, by rw [CU]; rfl, ?_, ?_, rfl⟩⟩
   ·intro x hx
    rcases Rk.mp hx with hx | hx
    ·exact fq x hx
    ·rw [RL.mp hx]
     exact s1.free f2
   ·rw [take_snoc es]
    exact P2.snoc (hq.mono fun q s e => s2 _ _ e) e2
  ·rintro σ ys H' ⟨s1, qs, v0, v1, v2, rfl, fq, hq, rfl⟩ p hp
   rw [Cz, lsa, Rh] at hq
   have n2 := kak (o := .lst (qs.map V.ref)) hp
   refine k _ p qs (s1.trans n2) (s1.free hp) (fun hm => ?_) fq kad (hq.mono fun q s e => n2 _ _ e)
   obtain ⟨j, hj⟩ := RU.mp hm
   obtain ⟨_, _, he⟩ := hq.at hj
   rw [he] at hp
   cases hp
def kiR (d : D) : Sp := fun vs H Q _ => ∃ (b bl : Addr) (B : Bask) (D : BillD) (H0 : Hp), vs = [.ref b, .ref bl] ∧ BaskIs d.qe d.qh H b B ∧ B.rs.length ≤ 12 ∧ (∀ r ∈ B.rs, r.Ok) ∧ (ownN B.rs).length ≤ 720 ∧ BillIs d H0 H bl D ∧ D.pr.length = (ownN B.rs).length ∧ ∀ (H' : Hp) (p : Addr), Same H H' → H p = none → H' p = some (.lst ((segs (mans B.rs) D.pr).map V.int)) → Q (.ref p) H'
theorem keu : kaq ["basket", "bill"] ["basket", "bill"] (kab kbb) := ⟨rfl, rfl, rfl, by decide +kernel, rfl, by decide +kernel, by decide +kernel⟩
theorem kez (W : WB K mg d base) : FnOk P w K mg base CX0 5 d.Yn d.Yo ["basket", "bill"] (kiR d) := by
 refine FunD.ok W.Qs.F keu (fun vs H Q E h => ?_) (fun cdv A outer s H vs Q E hr h => ?_)
 ·obtain ⟨b, bl, B, D, H0, rfl, _⟩ := h
  rfl
 ·obtain ⟨b, bl, B, D, H0, rfl, hB, h12, hok, h720, ⟨dx, fs, o, sp, pp, sa, hb1, h2, h3, h4, h5, h6, f1, f2, f3, f4, h7, h8, h9, h10⟩, hlp, k⟩ := h
  have Xo := kcH (P := P) (w := w) (base := base) W
  refine ⟨_, kaj (kat (kan Xo hr rfl W.qM.m W.qM.F.kp W.qM.b .nil pass0 (kaa (pv 0) (kaa (kap (pv 1) rfl) kah)))), ?_⟩
  exact ⟨_, rfl, _, rfl, bl, d.qi, dx, fs, _, rfl, hb1, W.qi.cl, W.n_Bill_prices, h4, b, pp, B, D.pr, rfl, hB, h12, hok, h720, h10, hlp, fun H' p s f e => k H' p s f e⟩
def kiZ (K : CA) : Sp := fun vs H Q _ => ∃ (a : Addr) (ns : List Int) (n : Int), vs = [.ref a, .int n] ∧ SqL K H a (ns.map V.int) ∧ 0 ≤ n ∧ ∀ z : Int, Q (.int z) H
theorem kdZ : kaq ["_law_script", "_law_k"] ["_law_script", "_law_k"] (kab ka8) := ⟨rfl, rfl, rfl, by decide +kernel, rfl, by decide +kernel, by decide +kernel⟩
theorem kee (W : WB K mg d base) : FnOk P w K mg base CX0 1 d.Yr d.Ys ["_law_script", "_law_k"] (kiZ K) := by
 refine FunD.ok W.Qt.F kdZ (fun vs H Q E h => ?_) (fun cdv A outer s H vs Q E hr h => ?_)
 ·obtain ⟨a, ns, n, rfl, _⟩ := h
  rfl
 ·obtain ⟨a, ns, n, rfl, hS, n0, kk⟩ := h
  refine ⟨_, kae (ps_if (kaA op_lt (pv 1) (kaE ka2 (by rfl) W.B.len b_len (kaa (pv 0) kah)) (kaN _)) (kaj (kat (pe_ix (r := rIxL K) kbx (pv 0) (pv 1) (fun _ _ => rfl)))) (kaB))
   (kaj (kat kai)), ?_⟩
  obtain ⟨m, rfl⟩ := Int.eq_ofNat_of_zero_le n0
  refine ⟨_, rfl, _, rfl, a, _, rfl, .inl hS, _, _, rfl, rfl, _, rfl, ite2 (fun h => ?_) (fun _ => kk 0)⟩
  have hn : m < ns.length := by
   have : (m : Int) < ((ns.map V.int).length : Nat) := by simpa using h
   rw [Cz] at this
   omega
  obtain ⟨z, ez⟩ := at_of hn
  exact ⟨_, rfl, _, rfl, a, _, _, _, rfl, rfl, hS, kbK (v := .int z) (by rw [CV, ez]; rfl), kk z⟩
def kk7 (K : CA) : Sp := fun vs H Q _ => ∃ (a : Addr) (ns : List Int) (k t m : Int), vs = [.ref a, .int k, .int t, .int m] ∧ SqL K H a (ns.map V.int) ∧ (0 ≤ k ∧ k ≤ 1000) ∧ (0 ≤ t ∧ t ≤ 1000) ∧ 0 < m ∧ ∀ z : Int, 0 ≤ z → z < m → Q (.int z) H
theorem Xp : kaq ["_law_script", "_law_k", "_law_salt", "_law_many", "_law_cell", "_law_mixed"] ["_law_script", "_law_k", "_law_salt", "_law_many"] (kab kbv) := ⟨rfl, rfl, rfl, by decide +kernel, rfl, by decide +kernel, by decide +kernel⟩
theorem kbz (W : WB K mg d base) : FnOk P w K mg base CX0 2 d.Yt d.Yu ["_law_script", "_law_k", "_law_salt", "_law_many"] (kk7 K) := by
 refine FunD.ok W.qd.F Xp (fun vs H Q E h => ?_) (fun cdv A outer s H vs Q E hr h => ?_)
 ·obtain ⟨a, ns, k, t, m, rfl, _⟩ := h
  rfl
 ·obtain ⟨a, ns, k, t, m, rfl, hS, hk, ht, hm, kk⟩ := h
  have Vu := kee (P := P) (w := w) (base := base) W
  refine ⟨_, kae (kax (i := 4) Xp.nd rfl (Or.inl rfl) (pe_op ka1 (pe_op kd8 (kan Vu hr rfl W.Qt.m W.Qt.F.kp W.Qt.b .nil pass0 (kaa (pv 0) (kaa (pv 1) kah))) kai) kai))
   (kae (kax (i := 5) Xp.nd rfl (Or.inl rfl) (pe_op kd8 (pe_op kcf (pv 4) (pe_op ka1 (pe_op ka1 kai (pe_op kcf (pe_op kcf kai (pv 1)) (pv 1))) (pe_op kcf (pe_op kcf kai (pv 2)) (pv 2)))) kai))
   (kaj (kat (pe_op kd8 (pe_op kd9 (pe_op kd8 (pe_op kcf (pv 5) (pv 5)) kai) kai) (pv 3))))), ?_⟩
  refine ⟨_, rfl, _, rfl, a, ns, k, rfl, hS, hk.1, fun z => ⟨_, _, rfl, rfl, (by show (0 : Int) < 1000003; decide), _, _, rfl, rfl, ?_⟩⟩
  refine ⟨_, rfl, _, rfl, _, _, rfl, rfl, .inl ⟨by decide, by decide⟩, _, rfl, _, _, rfl, rfl, .inr ⟨by omega, by omega⟩, _, _, rfl, rfl, _, rfl, _, _, rfl, rfl, .inl ⟨by decide, by decide⟩, _, rfl, _, _, rfl, rfl, .inr ⟨by omega, by omega⟩, _, _, rfl, rfl, _, _, rfl, rfl, .inl ⟨by omega, by omega⟩, _, _, rfl, rfl, (by show (0 : Int) < 2147483647; decide), ?_⟩
  generalize hx : (z % 1000003 + 1) * (48271 + 1000 * k * k + 69621 * t * t) % 2147483647 = x
  have x0 : 0 ≤ x ∧ x < 2147483647 := by omega
  refine ⟨_, rfl, _, rfl, _, _, rfl, rfl, .inl ⟨by omega, by omega⟩, _, _, rfl, rfl, (by show (0 : Int) < 2147483629; decide), _, _, rfl, rfl, ⟨by decide, by decide⟩, _, rfl, _, _, rfl, rfl, hm, ?_⟩
  exact kk _ (Int.emod_nonneg _ (by omega)) (Int.emod_lt_of_pos _ hm)
def kiV (K : CA) : Sp := fun vs H Q _ => ∃ (a : Addr) (ns : List Int) (k t : Int), vs = [.ref a, .int k, .int t] ∧ SqL K H a (ns.map V.int) ∧ (0 ≤ k ∧ k ≤ 1000) ∧ (0 ≤ t ∧ t ≤ 900) ∧ ∀ z : Int, 0 ≤ z → z ≤ 1000000000000 → Q (.int z) H
theorem Zy : kaq ["_law_script", "_law_k", "_law_salt", "_law_how"] ["_law_script", "_law_k", "_law_salt"] (kab kbj) := ⟨rfl, rfl, rfl, by decide +kernel, rfl, by decide +kernel, by decide +kernel⟩
theorem ke7 (W : WB K mg d base) : FnOk P w K mg base CX0 3 d.Yv d.Yw ["_law_script", "_law_k", "_law_salt"] (kiV K) := by
 refine FunD.ok W.qw.F Zy (fun vs H Q E h => ?_) (fun cdv A outer s H vs Q E hr h => ?_)
 ·obtain ⟨a, ns, k, t, rfl, _⟩ := h
  rfl
 ·obtain ⟨a, ns, k, t, rfl, hS, hk, ht, kk⟩ := h
  have qj := kbz (P := P) (w := w) (base := base) W
  refine ⟨_, kae (kax (i := 3) Zy.nd rfl (Or.inl rfl) (kan qj hr rfl W.qd.m W.qd.F.kp W.qd.b .nil pass0 (kaa (pv 0) (kaa (pv 1) (kaa (pv 2) (kaa kai kah))))))
   (kae (ps_if (kaA op_lt (pv 3) kai (kaN _)) (kaj (kat (kan qj hr rfl W.qd.m W.qd.F.kp W.qd.b .nil pass0 (kaa (pv 0) (kaa (pv 1) (kaa (pe_op ka1 (pv 2) kai) (kaa kai kah))))))) (kaB))
   (kae (ps_if (kaA op_eq (pv 3) kai (kaN _)) (kaj (kat (pe_op kcf kai (kan qj hr rfl W.qd.m W.qd.F.kp W.qd.b .nil pass0 (kaa (pv 0) (kaa (pv 1) (kaa (pe_op ka1 (pv 2) kai) (kaa kai kah)))))))) (kaB))
   (kaj (kat (pe_op ka1 (pe_op kcf (kan qj hr rfl W.qd.m W.qd.F.kp W.qd.b .nil pass0 (kaa (pv 0) (kaa (pv 1) (kaa (pe_op ka1 (pv 2) kai) (kaa kai kah))))) kai) (kan qj hr rfl W.qd.m W.qd.F.kp W.qd.b .nil pass0 (kaa (pv 0) (kaa (pv 1) (kaa (pe_op ka1 (pv 2) kai) (kaa kai kah)))))))))), ?_⟩
  refine ⟨_, rfl, _, rfl, _, rfl, a, ns, k, t, 4, rfl, hS, hk, ⟨by omega, by omega⟩, by decide, fun w w0 w1 => ?_⟩
  refine ⟨_, rfl, _, _, rfl, rfl, _, rfl, ite2 (fun _ => ?_) (fun _ => ?_)⟩
  ·exact ⟨_, rfl, _, rfl, _, rfl, _, _, rfl, rfl, a, ns, k, t + 1, 10, rfl, hS, hk, ⟨by omega, by omega⟩, by decide, fun z z0 z1 => kk z z0 (by omega)⟩
  refine ⟨_, rfl, rfl, _, rfl, ite2 (fun _ => ?_) (fun _ => ?_)⟩
  ·exact ⟨_, rfl, _, rfl, _, rfl, _, _, rfl, rfl, a, ns, k, t + 1, 40, rfl, hS, hk, ⟨by omega, by omega⟩, by decide, fun z z0 z1 => ⟨_, _, rfl, rfl, .inl ⟨by decide, by decide⟩, kk _ (by omega) (by omega)⟩⟩
  exact ⟨_, rfl, _, rfl, _, rfl, _, _, rfl, rfl, a, ns, k, t + 1, 1000000, rfl, hS, hk, ⟨by omega, by omega⟩, by decide, fun z z0 z1 => ⟨_, _, rfl, rfl, .inr ⟨by decide, by decide⟩, _, rfl, _, rfl, _, rfl, _, _, rfl, rfl, a, ns, k, t + 2, 1000001, rfl, hS, hk, ⟨by omega, by omega⟩, by decide, fun y y0 y1 => ⟨_, _, rfl, rfl, kk _ (by omega) (by omega)⟩⟩⟩
def kk8 (K : CA) : Sp := fun vs H Q _ => ∃ (a : Addr) (ns : List Int), vs = [.ref a] ∧ SqL K H a (ns.map V.int) ∧ ∀ (H' : Hp) (p : Addr) (ps : List (Option Nat)), Same H H' → H p = none → H' p = some (.lst (ps.map pV)) → Good ps → ps.length ≤ 20 → 0 < ps.length → Q (.ref p) H'
theorem Xq : kaq ["_law_script", "_law_parents_here", "_law_j"] ["_law_script"] (kab ka7) := ⟨rfl, rfl, rfl, by decide +kernel, rfl, by decide +kernel, by decide +kernel⟩
theorem ked (W : WB K mg d base) : FnOk P w K mg base CX0 3 d.Yx d.Yy ["_law_script"] (kk8 K) := by
 refine FunD.ok W.Qu.F Xq (fun vs H Q E h => ?_) (fun cdv A outer s H vs Q E hr h => ?_)
 ·obtain ⟨a, ns, rfl, _⟩ := h
  rfl
 ·obtain ⟨a, ns, rfl, hS, kk⟩ := h
  have qj := kbz (P := P) (w := w) (base := base) W
  refine ⟨_, kae (kax (i := 1) Xq.nd rfl (Or.inl rfl) (kbG kah))
   (kae (kbT PassesOwn.never rfl (kb5 rfl W.B.range (kaa (pe_op ka1 kai (kan qj hr rfl W.qd.m W.qd.F.kp W.qd.b .nil pass0 (kaa (pv 0) (kaa kai (kaa kai (kaa kai kah)))))) kah)) (kas (i := 2) Xq.nd rfl (Or.inl rfl))
   (kaj (ps_if (PW.pt (pw_or (kaA op_eq (pv 2) kai (kaN _)) (keE (kaA op_eq (kan qj hr rfl W.qd.m W.qd.F.kp W.qd.b .nil pass0 (kaa (pv 0) (kaa kai (kaa (pe_op ka1 kai (pv 2)) (kaa kai kah))))) kai (kaN _))))) (kaj (kbC (pe_bm Ri Rz RA kbE (pv 1) (kaa kbN kah)))) (kaj (kbC (pe_bm Ri Rz RA kbE (pv 1) (kaa (kan qj hr rfl W.qd.m W.qd.F.kp W.qd.b .nil pass0 (kaa (pv 0) (kaa kai (kaa (pe_op ka1 kai (pv 2)) (kaa (pv 2) kah))))) kah)))))))
   (kaj (kat (pv 1)))), ?_⟩
  refine ⟨by decide, fun p hp => ?_⟩
  have s1 := kak (o := .lst []) hp
  have hp1 : (upd H p (.lst [])) p = some (.lst (([] : List (Option Nat)).map pV)) := kad
  generalize upd H p (.lst []) = H1 at *
  refine ⟨_, rfl, a, ns, 0, 1, 6, rfl, s1.seq hS, ⟨by decide, by decide⟩, ⟨by decide, by decide⟩, by decide, fun m m0 m1 => ⟨_, _, rfl, rfl, _, rfl, by omega, by omega, ?_⟩⟩
  refine kcw (fun i σ H' => Same H H' ∧ ∃ (ps : List (Option Nat)) (v2 : Option V), σ = [some (.ref a), some (.ref p), v2] ∧ H' p = some (.lst (ps.map pV)) ∧ ps.length = i ∧ Good ps)
   ⟨s1, [], none, rfl, hp1, rfl, kjr⟩ ?_ ?_
  ·rintro i σ H' hi ⟨s2, ps, v2, rfl, hp2, hl, hg⟩
   rw [Int.zero_add]
   have hi6 : i < 7 := by omega
   have fin : ∀ (o : Option Nat) (v2 : Option V), (∀ k, o = some k → k < ps.length) → khQ (.ref p) [pV o] H' (fun _ H1 => Same H H1 ∧ ∃ (ps' : List (Option Nat)) (v2' : Option V), ([some (.ref a), some (.ref p), v2] : St) = [some (.ref a), some (.ref p), v2'] ∧ H1 p = some (.lst (ps'.map pV)) ∧ ps'.length = i + 1 ∧ Good ps') := by
    intro o v2 h
    refine ⟨p, _, _, rfl, rfl, hp2, kau (by rw [Cz]; omega), kaw hp s2, ps ++ [o], v2, rfl, ?_, by simp [hl], kiv hg h⟩
    rw [kad]
    simp
   refine ⟨_, rfl, rfl, _, rfl, ite2 (fun _ => iteT ⟨_, rfl, .inl ⟨rfl, _, SqL.of hp2⟩, fin none _ (fun k e => by cases e)⟩) (fun h0 => ?_)⟩
   refine ⟨_, rfl, _, rfl, _, _, rfl, rfl, a, ns, 0, 10 + (i : Int), 3, rfl, s2.seq hS, ⟨by decide, by decide⟩, ⟨by omega, by omega⟩, by decide, fun y y0 y1 => ⟨rfl, _, rfl, ite2 (fun _ => ⟨_, rfl, .inl ⟨rfl, _, SqL.of hp2⟩, fin none _ (fun k e => by cases e)⟩) (fun _ => ?_)⟩⟩
   have hi0 : 0 < i := by
    rcases Nat.eq_zero_or_pos i with e | e
    ·exact absurd (by rw [e]; decide) h0
    ·exact e
   refine ⟨_, rfl, .inl ⟨rfl, _, SqL.of hp2⟩, _, rfl, _, rfl, _, _, rfl, rfl, _, rfl, a, ns, 0, 20 + (i : Int), (i : Int), rfl, s2.seq hS, ⟨by decide, by decide⟩, ⟨by omega, by omega⟩, by omega, fun y y0 y1 => ?_⟩
   obtain ⟨n, en⟩ := Int.eq_ofNat_of_zero_le y0
   have q := fin (some n) (some (.int i)) (fun k e => by cases e; omega)
   rw [show pV (some n) = V.int y by rw [en]; rfl] at q
   exact q
  ·rintro σ H' ⟨s2, ps, v2, rfl, hp2, hl, hg⟩
   exact ⟨_, rfl, kk H' p ps s2 hp hp2 hg (by omega) (by omega)⟩
def kg8 : Sp := fun vs H Q _ => ∃ n : Int, vs = [.int n, .int n] ∧ Q (.bl true) H
theorem kdn : kaq ["_law_found", "_law_due"] ["_law_found", "_law_due"] (kab kaR) := ⟨rfl, rfl, rfl, by decide +kernel, rfl, by decide +kernel, by decide +kernel⟩
theorem kdw (W : WB K mg d base) : FnOk P w K mg base CX0 1 d.YU d.YV ["_law_found", "_law_due"] kg8 := by
 refine FunD.ok W.QE.F kdn (fun vs H Q E h => ?_) (fun cdv A outer s H vs Q E hr h => ?_)
 ·obtain ⟨n, rfl, _⟩ := h
  rfl
 ·obtain ⟨n, rfl, kk⟩ := h
  refine ⟨_, kaj (kat (kjM (kaE kbJ (by rfl) W.B.isi b_isi (kaa (pv 0) (kaa (ke3 (v := .ty "int") (by rfl) W.B.int b_int rfl) kah))) (kjM (kli (kaE kbJ (by rfl) W.B.isi b_isi (kaa (pv 0) (kaa (ke3 (v := .ty "bool") (by rfl) W.B.bool klB rfl) kah)))) (khX (kci op_eq (pv 0) (pv 1) (kaN _)))))), ?_⟩
  refine ⟨_, rfl, _, _, _, _, rfl, .inl ⟨_, rfl⟩, TyOf.int _, kcs _ _, _, rfl, iteT ⟨_, rfl, _, _, _, _, rfl, .inl ⟨_, rfl⟩, TyOf.int _, kfK _, _, rfl, _, rfl, iteT ⟨_, rfl, _, rfl, rfl, ?_⟩⟩⟩
  show Q (.bl (decide (V.int n = V.int n))) H
  rw [show decide (V.int n = V.int n) = true by simp]
  exact kk
def wrth (rs : List Row) : List Int := rs.map fun r => r.pr * r.mn
def kkb (d : D) : Sp := fun vs H Q _ => ∃ (b : Addr) (B : Bask), vs = [.ref b] ∧ BaskIs d.qe d.qh H b B ∧ B.rs.length ≤ 12 ∧ (∀ r ∈ B.rs, r.Ok) ∧ ∀ (H' : Hp), Same H H' → 0 ≤ (wrth B.rs).sum → Q (.int (wrth B.rs).sum) H'
theorem keX : kaq ["_law_basket_here"] ["_law_basket_here"] (kab kbh) := ⟨rfl, rfl, rfl, by decide +kernel, rfl, by decide +kernel, by decide +kernel⟩
theorem ke5 (W : WB K mg d base) : FnOk P w K mg base CX0 1 d.YJ d.YK ["_law_basket_here"] (kkb d) := by
 refine FunD.ok W.Qz.F keX (fun vs H Q E h => ?_) (fun cdv A outer s H vs Q E hr h => ?_)
 ·obtain ⟨b, B, rfl, _⟩ := h
  rfl
 ·obtain ⟨b, B, rfl, hB, h12, hok, kk⟩ := h
  obtain ⟨l, ls, ⟨dxb, fsb, hb, lb1, lb2, lb3⟩, hl, hL⟩ := id hB
  refine ⟨_, kaj (kat (kaE (kct rfl) (by rfl) W.B.sum b_sum (kaa (kbO (N := ["_law_line"]) (CompScope.plain rfl (by decide +kernel) (by decide +kernel) (by decide +kernel) (nd1 _)) rfl (kby (kap (pv 0) rfl)) (fun _ _ _ _ => kas (i := 0) (nd1 _) rfl (Or.inl rfl)) (fun _ _ _ _ => (pe_op kcf (kcu (K := K) (pv 0) rfl) (kcu (K := K) (pv 0) rfl)))) kah))), ?_⟩
  refine ⟨_, rfl, b, d.qh, dxb, fsb, _, rfl, hb, W.qh.cl, W.n_Basket_lines, lb1, l, rfl, ⟨_, SqL.of hl⟩, kbF (xs := ls.map V.ref) (fun i σ ys H' => H' = H ∧ ys = ((wrth B.rs).take i).map V.int ∧ ∃ v0 : Option V, σ = [v0]) ⟨rfl, rfl, none, rfl⟩ (by rw [Cz, hL.len]; exact CY (kau (by omega))) ?_ ?_ ?_⟩
  ·rintro i σ ys H' hi ⟨rfl, rfl, v0, rfl⟩
   refine ⟨SqL.of hl, ?_⟩
   rw [Cz, C0]
   unfold wrth
   rw [Cz, hL.len] at hi
   rw [Cz]
   omega
  ·rintro i y σ ys H' hy ⟨rfl, rfl, v0, rfl⟩
   obtain ⟨a, ea, rfl⟩ := kb0 hy
   obtain ⟨r, er, dxl, fsl, ha, q1, q2, q3, q4⟩ := hL.at ea
   have ro := hok r (CT er)
   refine ⟨_, rfl, a, d.qe, dxl, fsl, _, rfl, ha, W.qe.cl, W.n_Line_price, q2, _, rfl, a, d.qe, dxl, fsl, _, rfl, ha, W.qe.cl, W.n_Line_many, q3, _, _, rfl, rfl, .inl ⟨by have := ro.pr0; omega, by have := ro.pr1; omega⟩, rfl, ?_, _, rfl⟩
   rw [kbY (r := r.pr * r.mn) (by unfold wrth; rw [CV, er]; rfl), CU]
   rfl
  ·rintro σ ys H' ⟨rfl, rfl, v0, rfl⟩ D hD
   rw [Cz, RB (by unfold wrth; rw [Cz, hL.len]; exact CC _)]
   refine ⟨D, _, rfl, SqL.of kad, kk _ (kak hD) (kco fun z hz => ?_)⟩
   obtain ⟨r, hr, rfl⟩ := C4.mp hz
   have ro := hok r hr
   exact Int.mul_nonneg ro.pr0 ro.mn0
theorem at5N {a b c e f : V} {i : Int} (h0 : 0 ≤ i) (h5 : i < 5) : ∃ v, atI [a, b, c, e, f] i = some v ∧ (v = a ∨ v = b ∨ v = c ∨ v = e ∨ v = f) := by
 obtain ⟨n, rfl⟩ := Int.eq_ofNat_of_zero_le h0
 have hn : n < 5 := by omega
 match n, hn with
 | 0, _ => exact ⟨a, rfl, .inl rfl⟩
 | 1, _ => exact ⟨b, rfl, .inr (.inl rfl)⟩
 | 2, _ => exact ⟨c, rfl, .inr (.inr (.inl rfl))⟩
 | 3, _ => exact ⟨e, rfl, .inr (.inr (.inr (.inl rfl)))⟩
 | 4, _ => exact ⟨f, rfl, .inr (.inr (.inr (.inr rfl)))⟩
def kkk (K : CA) : Sp := fun vs H Q _ => ∃ (a : Addr) (ns : List Int) (m : Nat), vs = [.ref a, iV m] ∧ SqL K H a (ns.map V.int) ∧ m ≤ 8 ∧ ∀ (H' : Hp) (h : Addr) (hand : List Int), Same H H' → H h = none → H' h = some (.lst (hand.map V.int)) → hand.length = m → Q (.ref h) H'
theorem kft : kaq ["_law_script", "_law_many"] ["_law_script", "_law_many"] (kab kbr) := ⟨rfl, rfl, rfl, by decide +kernel, rfl, by decide +kernel, by decide +kernel⟩
theorem kfE (W : WB K mg d base) : FnOk P w K mg base CX0 3 d.YN d.YO ["_law_script", "_law_many"] (kkk K) := by
 refine FunD.ok W.QB.F kft (fun vs H Q E h => ?_) (fun cdv A outer s H vs Q E hr h => ?_)
 ·obtain ⟨a, ns, m, rfl, _⟩ := h
  rfl
 ·obtain ⟨a, ns, m, rfl, hS, hm, kk⟩ := h
  have qj := kbz (P := P) (w := w) (base := base) W
  refine ⟨_, kaj (kat (kbO (N := ["_law_j", "_law_script"]) (CompScope.of (N := ["_law_j", "_law_script"]) (cap := [none, some 0]) (kab kbr).names ["_law_script", "_law_many"] rfl rfl (by decide +kernel)) rfl (kb5 rfl W.B.range (kaa (pv 1) kah)) (fun _ _ _ _ => kas (i := 0) (show (["_law_j", "_law_script"] : List Str).Nodup by decide +kernel) rfl (Or.inl rfl)) (fun _ _ _ _ => (pe_ix (r := rIxL K) kbx (kbG (kaa kai (kaa kai (kaa kai (kaa kai (kaa kai kah)))))) (kan qj hr rfl W.qd.m W.qd.F.kp W.qd.b .nil pass0 (kaa (pv 1) (kaa kai (kaa (pe_op ka1 kai (pv 0)) (kaa kai kah))))) (fun _ _ => rfl))))), ?_⟩
  refine ⟨_, rfl, _, rfl, by omega, by omega, ?_⟩
  rw [Int.toNat_natCast]
  refine keO (fun i σ ys H' => Same H H' ∧ ∃ (hand : List Int) (v0 : Option V), ys = hand.map V.int ∧ hand.length = i ∧ σ = [v0, some (.ref a)])
   ⟨Same.refl _, [], none, rfl, rfl, rfl⟩ (CY (kau (by omega))) (fun i σ ys H' hi h => by obtain ⟨_, o, v0, rfl, hl, _⟩ := h; rw [Cz]; exact hl) ?_ ?_
  ·rintro i σ ys H' hi ⟨s1, hand, v0, rfl, hl, rfl⟩
   rw [Int.zero_add]
   refine ⟨(by show 5 ≤ sizeLine; decide), fun l hl' => ?_⟩
   have n2 := kak (o := .lst [V.int 1, V.int 1, V.int 2, V.int 0, V.int 3]) hl'
   refine ⟨_, rfl, _, rfl, _, _, rfl, rfl, a, ns, 7, 1 + (i : Int), 5, rfl, (s1.trans n2).seq hS, ⟨by decide, by decide⟩, ⟨by omega, by omega⟩, by decide, fun z z0 z1 => ?_⟩
   obtain ⟨v, e, hv⟩ := at5N (a := .int 1) (b := .int 1) (c := .int 2) (e := .int 0) (f := .int 3) z0 z1
   obtain ⟨k, rfl⟩ : ∃ k : Int, v = .int k := by rcases hv with rfl | rfl | rfl | rfl | rfl <;> exact ⟨_, rfl⟩
   exact ⟨l, _, _, _, rfl, rfl, SqL.of kad, e, s1.trans n2, hand ++ [k], _, by rw [CU]; rfl, by simp [hl], rfl⟩
  ·rintro σ ys H' ⟨s1, hand, v0, rfl, hl, rfl⟩ D hD
   exact kk _ D hand (s1.trans (kak hD)) (s1.free hD) kad hl
def kkl (d : D) : Sp := fun vs H Q _ => ∃ (t b h o : Addr) (T : TillD) (B : Bask) (hand : List Int) (order : List Nat), vs = [.ref t, .ref b, .ref h, .ref o] ∧ TillIs d H t T ∧ kdi T ∧ BaskIs d.qe d.qh H b B ∧ Wf T.ps B (stnd0 B) ∧ H h = some (.lst (hand.map V.int)) ∧ H o = some (.lst (order.map iV)) ∧ hand.length = T.vs.length ∧ (∀ n ∈ order, n < T.vs.length) ∧ order.length < 64 ∧
 ∀ (H' : Hp) (g : Bool), Same H H' → Q (.bl g) H'
theorem kiy {T : TillD} {B : Bask} {hand : List Int} {order : List Nat} {k : Nat} {z : L2.V} (hf : kcW T B hand order = some (k, z)) : (∃ s, z = .str s) ∨ z = .non := by
 unfold kcW at hf
 simp only at hf
 split at hf
 ·split at hf
  ·cases hf
  ·injection hf with hf
   injection hf with _ hz
   subst hz
   unfold dueM
   split
   ·exact .inl ⟨_, rfl⟩
   ·unfold hindM
    split
    ·exact .inl ⟨_, rfl⟩
    ·split
     ·exact .inl ⟨_, rfl⟩
     ·split
      ·exact .inl ⟨_, rfl⟩
      ·exact .inr rfl
 ·split at hf
  ·cases hf
  ·injection hf with hf
   injection hf with _ hz
   exact .inl ⟨_, hz.symm⟩
theorem Zz : kaq ["_law_till_here", "_law_basket_here", "_law_hand_here", "_law_order_here", "_law_found"] ["_law_till_here", "_law_basket_here", "_law_hand_here", "_law_order_here"] (kab kbm) := ⟨rfl, rfl, rfl, by decide +kernel, rfl, by decide +kernel, by decide +kernel⟩
theorem kfa (W : WB K mg d base) : FnOk P w K mg base CX0 9 d.YQ d.YR ["_law_till_here", "_law_basket_here", "_law_hand_here", "_law_order_here"] (kkl d) := by
 refine FunD.ok W.QC.F Zz (fun vs H Q E h => ?_) (fun cdv A outer s H vs Q E hr h => ?_)
 ·obtain ⟨t, b, h, o, T, B, hand, order, rfl, _⟩ := h
  rfl
 ·obtain ⟨t, b, h, o, T, B, hand, order, rfl, hT, tok, hB, wf0, hh, ho, hl, hlt, h64, kk⟩ := h
  have qY := ke4 (P := P) (w := w) (base := base) W
  refine ⟨_, kae (kax (i := 4) Zz.nd rfl (Or.inl rfl) (kan qY hr rfl W.qu.m W.qu.F.kp W.qu.b .nil pass0 (kaa (pv 0) (kaa (pv 1) (kaa (pv 2) (kaa (pv 3) kah))))))
   (kaj (kat (pe_or (kci kfA (pv 4) kbN (kaN _)) (khX (kci op_eq (pe_ix (r := rIxT K) kgQ (pv 4) kai (fun _ _ => rfl)) kce (kaN _)))))), ?_⟩
  refine ⟨_, rfl, _, rfl, _, rfl, _, rfl, t, b, h, o, T, B, hand, order, rfl, hT, tok, hB, wf0, hh, ho, hl, hlt, h64, fun H1 v s1 hF => ?_⟩
  cases e : kcW T B hand order with
  | none =>
   rw [e] at hF
   have ev : v = .non := hF
   subst ev
   refine ⟨_, rfl, rfl, _, rfl, ?_⟩
   show if decide (V.non = V.non) = true then _ else _
   rw [show decide (V.non = V.non) = true by simp]
   exact iteT (kk H1 _ s1)
  | some p =>
   obtain ⟨k, z⟩ := p
   rw [e] at hF
   obtain ⟨a, rfl, ha⟩ := hF
   refine ⟨_, rfl, rfl, _, rfl, ?_⟩
   show if decide (V.ref a = V.non) = true then _ else _
   rw [show decide (V.ref a = V.non) = false by simp]
   refine iteF ⟨_, rfl, a, _, _, _, rfl, rfl, SqT.of ha, rfl, ?_, kk H1 _ s1⟩
   rcases kiy e with ⟨s, rfl⟩ | rfl <;> rfl
theorem kiz {T : TillD} {B : Bask} {hand : List Int} : kcW T B hand [] = none := by
 have e : onlyM T.rs [] = none := by
  unfold onlyM
  rw [List.find?_eq_none.mpr fun r _ => by unfold loneM; simp]
  rfl
 have ew : walkM T B hand [] [] (stnd0 B) = ([], stnd0 B) := rfl
 unfold kcW
 rw [ew]
 simp [e]
def kiX (K : CA) (d : D) : Sp := fun vs H Q _ => ∃ (a t b h : Addr) (ns : List Int) (k : Int) (T : TillD) (B : Bask) (hand : List Int), vs = [.ref a, .int k, .ref t, .ref b, .ref h] ∧ SqL K H a (ns.map V.int) ∧ (0 ≤ k ∧ k ≤ 900) ∧ TillIs d H t T ∧ kdi T ∧ 0 < T.vs.length ∧ BaskIs d.qe d.qh H b B ∧ Wf T.ps B (stnd0 B) ∧ H h = some (.lst (hand.map V.int)) ∧ hand.length = T.vs.length ∧
 ∀ (H' : Hp) (o : Addr) (order : List Nat), Same H H' → H o = none → H' o = some (.lst (order.map iV)) → (∀ n ∈ order, n < T.vs.length) → order.length ≤ 8 → kcW T B hand order = none → Q (.ref o) H'
theorem QP : kaq ["_law_script", "_law_k", "_law_till_here", "_law_basket_here", "_law_hand_here", "_law_order_here", "_law_j", "_law_number"] ["_law_script", "_law_k", "_law_till_here", "_law_basket_here", "_law_hand_here"] (kab kbk) := ⟨rfl, rfl, rfl, by decide +kernel, rfl, by decide +kernel, by decide +kernel⟩
theorem ke8 (W : WB K mg d base) : FnOk P w K mg base CX0 10 d.YS d.YT ["_law_script", "_law_k", "_law_till_here", "_law_basket_here", "_law_hand_here"] (kiX K d) := by
 refine FunD.ok W.QD.F QP (fun vs H Q E h => ?_) (fun cdv A outer s H vs Q E hr h => ?_)
 ·obtain ⟨a, t, b, h, ns, k, T, B, hand, rfl, _⟩ := h
  rfl
 ·obtain ⟨a, t, b, h, ns, k, T, B, hand, rfl, hS, hk, hT, tok, hv0, hB, wf0, hh, hl, kk⟩ := h
  have qj := kbz (P := P) (w := w) (base := base) W
  have Vv := kfa (P := P) (w := w) (base := base) W
  have qY := ke4 (P := P) (w := w) (base := base) W
  have hr2 : Room 2 _ := hr.mono (by decide)
  have hr8 : Room 8 _ := hr.mono (by decide)
  refine ⟨_, kae (kax (i := 5) QP.nd rfl (Or.inl rfl) (kbG kah))
   (kae (kbT PassesOwn.never rfl (kb5 rfl W.B.range (kaa kai kah)) (kas (i := 6) QP.nd rfl (Or.inl rfl))
   (kae (kax (i := 7) QP.nd rfl (Or.inl rfl) (kan qj hr2 rfl W.qd.m W.qd.F.kp W.qd.b .nil pass0 (kaa (pv 0) (kaa (pe_op ka1 (pv 1) (pv 6)) (kaa kai (kaa (kaE ka2 (by rfl) W.B.len b_len (kaa (kap (pv 2) rfl) kah)) kah))))))
   (kaj (ps_if (kbH (kan Vv hr rfl W.QC.m W.QC.F.kp W.QC.b .nil pass0 (kaa (pv 2) (kaa (pv 3) (kaa (pv 4) (kaa (pe_op kh2 (pv 5) (kbG (kaa (pv 7) kah))) kah)))))) (kaj (kbC (pe_bm Ri Rz RA kbE (pv 5) (kaa (pv 7) kah)))) (kaB)))))
   (kae (kgy PassesOwn.never (kaA kcF (kan qY hr8 rfl W.qu.m W.qu.F.kp W.qu.b .nil pass0 (kaa (pv 2) (kaa (pv 3) (kaa (pv 4) (kaa (pv 5) kah))))) kbN (kaN _))
   (kaj (kbC (klk Ri PySem.F.slot_list_pop PySem.F.type_list_pop klm (pv 5)))))
   (kaj (kat (pv 5))))), ?_⟩
  refine ⟨by decide, fun o fo => ?_⟩
  have s1 := kak (o := .lst []) fo
  have eo1 : (upd H o (.lst [])) o = some (.lst (([] : List Nat).map iV)) := kad
  generalize upd H o (.lst []) = H1 at *
  refine ⟨_, rfl, by decide, by decide, kcw (fun i σ H' => Same H H' ∧ ∃ (order : List Nat) (v6 v7 : Option V), H' o = some (.lst (order.map iV)) ∧ (∀ n ∈ order, n < T.vs.length) ∧ order.length ≤ i ∧ σ = [some (.ref a), some (.int k), some (.ref t), some (.ref b), some (.ref h), some (.ref o), v6, v7])
   ⟨s1, [], none, none, eo1, (fun n hn => by simp at hn), CC _, rfl⟩ ?_ ?_⟩
  ·rintro i σ H' hi ⟨s2, order, v6, v7, eo, hlt, hle, rfl⟩
   have hi8 : i < 8 := hi
   rw [Int.zero_add]
   obtain ⟨dx, fs, p, vl, rl, va, ra, ht, t1, t2, t3, t4, hp, hvl, hva, hrl, hra⟩ := id (hT.same s2)
   have lva := hva.len
   refine ⟨_, rfl, _, rfl, _, rfl, _, _, rfl, rfl, _, rfl, t, d.qf, dx, fs, _, rfl, ht, W.qf.cl, W.n_Till_vouchers, t2, vl, _, rfl, .inl (SqL.of hvl), a, ns, k + (i : Int), 1, _, rfl, s2.seq hS, ⟨by omega, by omega⟩, ⟨by decide, by decide⟩, (by rw [Cz]; omega), fun z z0 z1 => ?_⟩
   rw [Cz, lva] at z1
   obtain ⟨n, rfl⟩ := Int.eq_ofNat_of_zero_le z0
   have hn : n < T.vs.length := by omega
   refine ⟨_, rfl, _, rfl, _, rfl, _, rfl, _, rfl, (by show 1 ≤ sizeLine; decide), fun q1 hq1 => ?_⟩
   have n3 := kak (o := .lst [V.int (n : Int)]) hq1
   refine ⟨o, q1, _, _, rfl, rfl, n3 _ _ eo, kad, CY (kau (by rw [Cz]; show _ + 1 ≤ 1000; omega)), fun q2 hq2 => ?_⟩
   have n4 := kak (o := .lst (order.map iV ++ [V.int (n : Int)])) hq2
   have eq2 : (upd (upd H' q1 (.lst [V.int (n : Int)])) q2 (.lst (order.map iV ++ [V.int (n : Int)]))) q2 = some (.lst ((order ++ [n]).map iV)) := by rw [kad, CU]; rfl
   have s34 := n3.trans n4
   generalize upd (upd H' q1 (.lst [V.int (n : Int)])) q2 (.lst (order.map iV ++ [V.int (n : Int)])) = H4 at *
   have s4 := s2.trans s34
   have eo4 := s34 _ _ eo
   have hlt' : ∀ m ∈ order ++ [n], m < T.vs.length := fun m hm => by
    rcases Rk.mp hm with h | h
    ·exact hlt m h
    ·have : m = n := by simpa using h
     omega
   refine ⟨t, b, h, q2, T, B, hand, order ++ [n], rfl, hT.same s4, tok, hB.same s4, wf0, s4 _ _ hh, eq2, hl, hlt', by rw [C7]; show _ + 1 < 64; omega, fun H5 g s5 => ⟨g, rfl, ?_⟩⟩
   have s05 := s4.trans s5
   have eo5 := s5 _ _ eo4
   cases g with
   | true =>
    refine iteT ⟨_, rfl, .inl ⟨rfl, _, SqL.of eo5⟩, _, rfl, o, _, _, rfl, rfl, eo5, kau (by rw [Cz]; omega), ?_⟩
    refine ⟨kaw fo s05 (nx eo5), order ++ [n], _, _, ?_, hlt', by rw [C7]; show _ + 1 ≤ _; omega, rfl⟩
    rw [kad, CU]
    rfl
   | false => exact iteF ⟨s05, order, _, _, eo5, hlt, by omega, rfl⟩
  ·rintro σ H' ⟨s2, order, v6, v7, eo, hlt, hle, rfl⟩
   have hle8 : order.length ≤ 8 := hle
   refine kgp (fun σ H' => Same H H' ∧ ∃ (order : List Nat) (v6 v7 : Option V), H' o = some (.lst (order.map iV)) ∧ (∀ n ∈ order, n < T.vs.length) ∧ order.length ≤ 8 ∧ σ = [some (.ref a), some (.int k), some (.ref t), some (.ref b), some (.ref h), some (.ref o), v6, v7])
    (fun _ H' => match H' o with | some (.lst xs) => xs.length | _ => 0) ⟨s2, order, v6, v7, eo, hlt, hle8, rfl⟩ ?_ ?_
   ·rintro σ H3 ⟨s3, order, v6, v7, eo3, hlt, hle, rfl⟩
    refine ⟨_, rfl, _, rfl, _, rfl, _, rfl, t, b, h, o, T, B, hand, order, rfl, hT.same s3, tok, hB.same s3, wf0, s3 _ _ hh, eo3, hl, hlt, by omega, fun H4 v s4 hF => ⟨rfl, _, rfl, ?_⟩⟩
    have eo4 := s4 _ _ eo3
    cases e : kcW T B hand order with
    | none =>
     rw [e] at hF
     have ev : v = .non := hF
     subst ev
     rw [show (!decide (V.non = V.non)) = false by simp]
     exact iteF ⟨_, rfl, kk H4 o order (s3.trans s4) fo eo4 hlt hle e⟩
    | some pz =>
     obtain ⟨kz, z⟩ := pz
     rw [e] at hF
     obtain ⟨fa, rfl, hfa⟩ := hF
     rw [show (!decide (V.ref fa = V.non)) = true by simp]
     have h0 : order ≠ [] := fun z => by
      rw [z, kiz] at e
      cases e
     have hpos : 0 < order.length := List.length_pos_iff.mpr h0
     obtain ⟨y, ey⟩ := at_of (xs := order) (i := order.length - 1) (by omega)
     refine iteT ⟨_, rfl, .inl ⟨rfl, _, SqL.of eo4⟩, o, _, iV y, rfl, rfl, eo4, (by rw [Cz, CV, ey]; rfl), ?_⟩
     rw [← List.map_dropLast]
     refine ⟨⟨kaw fo (s3.trans s4) (nx eo4), order.dropLast, _, _, kad, fun n hn => hlt n ((List.dropLast_sublist order).subset hn), by rw [S7]; omega, rfl⟩, ?_⟩
     show (match (upd H4 o _) o with | some (.lst xs) => xs.length | _ => 0) < (match H3 o with | some (.lst xs) => xs.length | _ => 0)
     rw [kad, eo3]
     show (order.dropLast.map iV).length < (order.map iV).length
     rw [Cz, Cz, S7]
     omega
   ·rintro σ H' Q' Q'' hq ⟨x0, g0, x1, g1, x2, g2, x3, g3, t', b', h', o', T', B', hd', od', e, a1, a2, a3, a4, a5, a6, a7, a8, a9, kz⟩
    refine ⟨x0, g0, x1, g1, x2, g2, x3, g3, t', b', h', o', T', B', hd', od', e, a1, a2, a3, a4, a5, a6, a7, a8, a9, fun H1 v z1 hF => ?_⟩
    obtain ⟨r, c, e2, q⟩ := kz H1 v z1 hF
    exact ⟨r, c, e2, hq _ _ q⟩
def khE : Sp := fun vs H Q _ => ∃ (x y : Addr) (zs : List Int), vs = [.ref x, .ref y] ∧ H x = some (.lst (zs.map V.int)) ∧ H y = some (.lst (zs.map V.int)) ∧ zs.length ≤ 720 ∧ ∀ H', Same H H' → Q (.bl true) H'
theorem kcY : kaq ["_law_found", "_law_due"] ["_law_found", "_law_due"] (kab kaD) := ⟨rfl, rfl, rfl, by decide +kernel, rfl, by decide +kernel, by decide +kernel⟩
theorem kck (W : WB K mg d base) : FnOk P w K mg base CX0 2 d.YW d.YX ["_law_found", "_law_due"] khE := by
 refine FunD.ok W.qN.F kcY (fun vs H Q E h => ?_) (fun cdv A outer s H vs Q E hr h => ?_)
 ·obtain ⟨x, y, zs, rfl, _⟩ := h
  rfl
 ·obtain ⟨x, y, zs, rfl, hx, hy, h720, kk⟩ := h
  have Vw := kdw (P := P) (w := w) (base := base) W
  refine ⟨_, kae (ps_if (PW.pt (pw_or (kdD (kbH (kaE kbJ (by rfl) W.B.isi b_isi (kaa (pv 0) (kaa (ke3 (v := .ty "list") (by rfl) W.B.list kcx rfl) kah))))) (keE (kaA op_ne (kaE ka2 (by rfl) W.B.len b_len (kaa (pv 0) kah)) (kaE ka2 (by rfl) W.B.len b_len (kaa (pv 1) kah)) (kaN _))))) (kaj (kat pe_bl)) (kaB))
   (kaj (kat (kaE (kgY rfl) (by rfl) W.B.all b_all (kaa (kbO (N := ["_law_one", "_law_other"]) (CompScope.plain rfl (by decide +kernel) (by decide +kernel) (by decide +kernel) (show (["_law_one", "_law_other"] : List Str).Nodup by decide +kernel)) rfl (kc0 rfl W.B.zip (kaa (pv 0) (kaa (pv 1) kah))) (fun _ _ _ _ => kc1 (K := K) (n := 2) rfl (kaI (kas (i := 0) (show (["_law_one", "_law_other"] : List Str).Nodup by decide +kernel) rfl (Or.inl rfl)) (kaI (kas (i := 1) (show (["_law_one", "_law_other"] : List Str).Nodup by decide +kernel) rfl (Or.inl rfl)) kbR))) (fun _ _ _ _ => (kan Vw hr rfl W.QE.m W.QE.F.kp W.QE.b .nil pass0 (kaa (pv 0) (kaa (pv 1) kah))))) kah)))), ?_⟩
  refine ⟨_, rfl, _, _, _, _, rfl, .inl ⟨_, rfl⟩, TyOf.lst hx, kcs _ _, _, rfl, iteF ?_⟩
  refine ⟨_, rfl, x, _, rfl, .inl (SqL.of hx), _, rfl, y, _, rfl, .inl (SqL.of hy), rfl, _, rfl, ?_⟩
  rw [show (!decide (V.int (((zs.map V.int).length : Nat) : Int) = V.int (((zs.map V.int).length : Nat) : Int))) = false by simp]
  have em : min (zs.map V.int).length (zs.map V.int).length = zs.length := by rw [RQ, Cz]
  refine iteF ⟨_, rfl, _, rfl, x, y, _, _, rfl, hx, hy, kdV (xs := zs.map V.int) (ys := zs.map V.int) (fun i σ ws H' => Same H H' ∧ ws = (CI i true).map V.bl ∧ ∃ v0 v1 : Option V, σ = [v0, v1])
   ⟨Same.refl _, rfl, none, none, rfl⟩ (by rw [em]; exact CY (kau (by omega))) (fun i σ ws H' hi h => ⟨h.1 _ _ hx, h.1 _ _ hy, by rw [h.2.1]; simp⟩) ?_ ?_⟩
  ·rintro i y1 y2 t σ ws H' hy1 hy2 ⟨s1, rfl, v0, v1, rfl⟩ ht
   obtain ⟨z1, ez1, rfl⟩ := kb6 hy1
   obtain ⟨z2, ez2, rfl⟩ := kb6 hy2
   rw [ez1] at ez2
   cases ez2
   refine ⟨t, _, rfl, SqT.of kad, rfl, _, _, rfl, _, _, rfl, rfl, _, rfl, _, rfl, z1, rfl, s1.trans (kak ht), ?_, _, _, rfl⟩
   rw [Sa, CU]
   rfl
  ·rintro σ ws H' ⟨s1, rfl, v0, v1, rfl⟩ D hD
   rw [em]
   refine ⟨D, CI zs.length true, rfl, SqL.of kad, ?_⟩
   rw [show (CI zs.length true).all id = true by simp]
   exact kk _ (s1.trans (kak hD))
def kiT (K : CA) : Sp := fun vs H Q _ => ∃ (a : Addr) (ns : List Int) (m : Nat), vs = [.ref a, iV m] ∧ SqL K H a (ns.map V.int) ∧ 0 < m ∧ ∀ (H' : Hp) (l : Addr) (ra : List Addr) (rs : List Rul), Same H H' → H l = none → H' l = some (.lst (ra.map V.ref)) → P2 (fun a r => RulIs H' a r) ra rs → rs.length ≤ 20 → Q (.ref l) H'
theorem QQ : kaq ["_law_script", "_law_many", "_law_rules_here", "_law_j", "_law_word"] ["_law_script", "_law_many"] (kab kbi) := ⟨rfl, rfl, rfl, by decide +kernel, rfl, by decide +kernel, by decide +kernel⟩
theorem ke6 (W : WB K mg d base) : FnOk P w K mg base CX0 3 d.YH d.YI ["_law_script", "_law_many"] (kiT K) := by
 refine FunD.ok W.Qy.F QQ (fun vs H Q E h => ?_) (fun cdv A outer s H vs Q E hr h => ?_)
 ·obtain ⟨a, ns, m, rfl, _⟩ := h
  rfl
 ·obtain ⟨a, ns, m, rfl, hS, hm, kk⟩ := h
  have qj := kbz (P := P) (w := w) (base := base) W
  refine ⟨_, kae (kax (i := 2) QQ.nd rfl (Or.inl rfl) (kbG kah))
   (kae (kbT PassesOwn.never rfl (kb5 rfl W.B.range (kaa (kan qj hr rfl W.qd.m W.qd.F.kp W.qd.b .nil pass0 (kaa (pv 0) (kaa kai (kaa kai (kaa kai kah))))) kah)) (kas (i := 3) QQ.nd rfl (Or.inl rfl))
   (kae (kax (i := 4) QQ.nd rfl (Or.inl rfl) (pe_ix (r := rIxL K) kbx (kbG (kaa kce (kaa kce (kaa kce kah)))) (kan qj hr rfl W.qd.m W.qd.F.kp W.qd.b .nil pass0 (kaa (pv 0) (kaa kai (kaa (pe_op ka1 kai (pv 3)) (kaa kai kah))))) (fun _ _ => rfl)))
   (kaj (kbC (pe_bm Ri Rz RA kbE (pv 2) (kaa (kcS (kaa (pv 4) (kaa (kan qj hr rfl W.qd.m W.qd.F.kp W.qd.b .nil pass0 (kaa (pv 0) (kaa kai (kaa (pe_op ka1 kai (pv 3)) (kaa (pv 1) kah))))) (kaa (kan qj hr rfl W.qd.m W.qd.F.kp W.qd.b .nil pass0 (kaa (pv 0) (kaa kai (kaa (pe_op ka1 kai (pv 3)) (kaa (pv 1) kah))))) kah)))) kah))))))
   (kaj (kat (pv 2)))), ?_⟩
  refine ⟨by decide, fun l fl => ?_⟩
  have s1 := kak (o := .lst []) fl
  have el1 : (upd H l (.lst [])) l = some (.lst (([] : List Addr).map V.ref)) := kad
  generalize upd H l (.lst []) = H1 at *
  refine ⟨_, rfl, a, ns, 5, 1, 4, rfl, s1.seq hS, ⟨by decide, by decide⟩, ⟨by decide, by decide⟩, by decide, fun c c0 c1 => ⟨_, rfl, by omega, by omega, ?_⟩⟩
  refine kcw (fun i σ H' => Same H H' ∧ ∃ (ra : List Addr) (rs : List Rul) (v3 v4 : Option V), H' l = some (.lst (ra.map V.ref)) ∧ P2 (fun a r => RulIs H' a r) ra rs ∧ rs.length = i ∧ σ = [some (.ref a), some (iV m), some (.ref l), v3, v4])
   ⟨s1, [], [], none, none, el1, .nil, rfl, rfl⟩ ?_ ?_
  ·rintro i σ H' hi ⟨s2, ra, rs, v3, v4, el, hr, hlen, rfl⟩
   have hi4 : i < 4 := by omega
   rw [Int.zero_add]
   refine ⟨(by show 3 ≤ sizeLine; decide), fun q1 hq1 => ?_⟩
   have n3 := kak (o := .lst [V.str "only", V.str "never", V.str "ahead"]) hq1
   have e3 : (upd H' q1 (.lst [V.str "only", V.str "never", V.str "ahead"])) q1 = some (.lst [V.str "only", V.str "never", V.str "ahead"]) := kad
   have el3 := n3 _ _ el
   have s3 := s2.trans n3
   have hr3 : P2 (fun a r => RulIs (upd H' q1 (.lst [V.str "only", V.str "never", V.str "ahead"])) a r) ra rs := hr.mono fun a r h => n3 _ _ h
   clear n3
   generalize upd H' q1 (.lst [V.str "only", V.str "never", V.str "ahead"]) = H3 at *
   refine ⟨_, rfl, _, rfl, _, _, rfl, rfl, a, ns, 5, 10 + (i : Int), 3, rfl, s3.seq hS, ⟨by decide, by decide⟩, ⟨by omega, by omega⟩, by decide, fun z z0 z1 => ?_⟩
   obtain ⟨v, ev, hv⟩ : ∃ v, atI [V.str "only", V.str "never", V.str "ahead"] z = some v ∧ ∃ w : Str, v = .str w := by
    obtain ⟨n, rfl⟩ := Int.eq_ofNat_of_zero_le z0
    have hn : n < 3 := by omega
    match n, hn with
    | 0, _ => exact ⟨_, rfl, _, rfl⟩
    | 1, _ => exact ⟨_, rfl, _, rfl⟩
    | 2, _ => exact ⟨_, rfl, _, rfl⟩
   obtain ⟨wd, rfl⟩ := hv
   refine ⟨q1, _, _, _, rfl, rfl, SqL.of e3, ev, ?_⟩
   refine ⟨_, rfl, .inl ⟨rfl, _, SqL.of el3⟩, _, rfl, _, rfl, _, rfl, _, _, rfl, rfl, _, rfl, a, ns, 5, 20 + (i : Int), (m : Int), rfl, s3.seq hS, ⟨by decide, by decide⟩, ⟨by omega, by omega⟩, by omega, fun x x0 x1 => ?_⟩
   refine ⟨_, rfl, _, rfl, _, _, rfl, rfl, _, rfl, a, ns, 5, 30 + (i : Int), (m : Int), rfl, s3.seq hS, ⟨by decide, by decide⟩, ⟨by omega, by omega⟩, by omega, fun y y0 y1 => ⟨(by show 3 ≤ sizeLine; decide), fun q hq => ?_⟩⟩
   obtain ⟨xn, rfl⟩ := Int.eq_ofNat_of_zero_le x0
   obtain ⟨yn, rfl⟩ := Int.eq_ofNat_of_zero_le y0
   have n4 := kak (o := .tup [V.str wd, V.int (xn : Int), V.int (yn : Int)]) hq
   have e4 : (upd H3 q (.tup [V.str wd, V.int (xn : Int), V.int (yn : Int)])) q = some (.tup [V.str wd, V.int (xn : Int), V.int (yn : Int)]) := kad
   have el4 := n4 _ _ el3
   have s4 := s3.trans n4
   have hr4 : P2 (fun a r => RulIs (upd H3 q (.tup [V.str wd, V.int (xn : Int), V.int (yn : Int)])) a r) ra rs := hr3.mono fun a r h => n4 _ _ h
   clear n4
   generalize upd H3 q (.tup [V.str wd, V.int (xn : Int), V.int (yn : Int)]) = H4 at *
   refine ⟨l, _, _, rfl, rfl, el4, kau (by rw [Cz, hr.len]; omega), ?_⟩
   have b5 : But l H4 (upd H4 l (.lst (ra.map V.ref ++ [V.ref q]))) := kaz (nx el4)
   refine ⟨kaw fl s4 (nx el4), ra ++ [q], rs ++ [⟨wd, xn, yn⟩], _, _, by rw [kad, CU]; rfl, P2.snoc (hr4.mono fun a r h => b5 _ _ (ne_of h el4 (by intro z; cases z)) h) (b5 _ _ (ne_of e4 el4 (by intro z; cases z)) e4), by rw [C7, hlen]; rfl, rfl⟩
  ·rintro σ H' ⟨s2, ra, rs, v3, v4, el, hr, hlen, rfl⟩
   exact ⟨_, rfl, kk H' l ra rs s2 fl el hr (by omega)⟩
def ki2 (K : CA) : Sp := fun vs H Q _ => ∃ (a : Addr) (ns : List Int) (k t w : Int), vs = [.ref a, .int k, .int t, .int w] ∧ SqL K H a (ns.map V.int) ∧ (0 ≤ k ∧ k ≤ 1000) ∧ (0 ≤ t ∧ t ≤ 900) ∧ 0 ≤ w ∧ ∀ (H' : Hp) (z : Int), Same H H' → 0 ≤ z → z ≤ 1000000000000 → Q (.int z) H'
theorem Xr : kaq ["_law_script", "_law_k", "_law_salt", "_law_worth_here", "_law_how", "_law_some_here"] ["_law_script", "_law_k", "_law_salt", "_law_worth_here"] (kab kbe) := ⟨rfl, rfl, rfl, by decide +kernel, rfl, by decide +kernel, by decide +kernel⟩
theorem kcT (W : WB K mg d base) : FnOk P w K mg base CX0 3 d.YB d.YC ["_law_script", "_law_k", "_law_salt", "_law_worth_here"] (ki2 K) := by
 refine FunD.ok W.qq.F Xr (fun vs H Q E h => ?_) (fun cdv A outer s H vs Q E hr h => ?_)
 ·obtain ⟨a, ns, k, t, w, rfl, _⟩ := h
  rfl
 ·obtain ⟨a, ns, k, t, wo, rfl, hS, hk, ht, hw, kk⟩ := h
  have qj := kbz (P := P) (w := w) (base := base) W
  refine ⟨_, kae (kax (i := 4) Xr.nd rfl (Or.inl rfl) (kan qj hr rfl W.qd.m W.qd.F.kp W.qd.b .nil pass0 (kaa (pv 0) (kaa (pv 1) (kaa (pv 2) (kaa kai kah))))))
   (kae (kax (i := 5) Xr.nd rfl (Or.inl rfl) (kbG (kaa (kan qj hr rfl W.qd.m W.qd.F.kp W.qd.b .nil pass0 (kaa (pv 0) (kaa (pv 1) (kaa (pe_op ka1 (pv 2) kai) (kaa kai kah))))) (kaa (pv 3) (kaa (pe_op ka1 (pv 3) kai) (kaa (pe_op kd9 (pv 3) kai) (kaa (pe_op kd9 (pv 3) kai) kah)))))))
   (kae (kbC (pe_bm Ri Rz RA kbE (pv 5) (kaa (kan qj hr rfl W.qd.m W.qd.F.kp W.qd.b .nil pass0 (kaa (pv 0) (kaa (pv 1) (kaa (pe_op ka1 (pv 2) kai) (kaa kai kah))))) kah)))
   (kaj (kat (kaE (ken rfl) (by rfl) W.B.min b_min (kaa kai (kaa (pe_ix (r := rIxL K) kbx (pv 5) (pv 4) (fun _ _ => rfl)) kah))))))), ?_⟩
  refine ⟨_, rfl, _, rfl, _, rfl, a, ns, k, t, 6, rfl, hS, hk, ⟨by omega, by omega⟩, by decide, fun c c0 c1 => ?_⟩
  refine ⟨_, rfl, _, rfl, _, rfl, _, _, rfl, rfl, a, ns, k, t + 1, 10, rfl, hS, hk, ⟨by omega, by omega⟩, by decide, fun x x0 x1 => ⟨_, rfl, _, rfl, _, _, rfl, rfl, _, rfl, _, _, rfl, rfl, ⟨by decide, by decide⟩, _, rfl, _, _, rfl, rfl, ⟨by decide, by decide⟩, (by show 5 ≤ sizeLine; decide), fun l fl => ?_⟩⟩
  have s1 := kak (o := .lst [V.int x, V.int wo, V.int (wo + 1), V.int (wo / 2), V.int (wo / 5)]) fl
  have e1 : (upd H l (.lst [V.int x, V.int wo, V.int (wo + 1), V.int (wo / 2), V.int (wo / 5)])) l = some (.lst ([x, wo, wo + 1, wo / 2, wo / 5].map V.int)) := kad
  generalize upd H l (.lst [V.int x, V.int wo, V.int (wo + 1), V.int (wo / 2), V.int (wo / 5)]) = H1 at *
  refine ⟨_, rfl, .inl ⟨rfl, _, SqL.of e1⟩, _, rfl, _, rfl, _, rfl, _, _, rfl, rfl, a, ns, k, t + 1, 1000000, rfl, s1.seq hS, hk, ⟨by omega, by omega⟩, by decide, fun y y0 y1 => ⟨l, _, _, rfl, rfl, e1, kau (by show 5 ≤ 1000; decide), ?_⟩⟩
  have s2 : Same H (upd H1 l (.lst ([x, wo, wo + 1, wo / 2, wo / 5].map V.int ++ [V.int y]))) := kaw fl s1 (nx e1)
  have e2 : (upd H1 l (.lst ([x, wo, wo + 1, wo / 2, wo / 5].map V.int ++ [V.int y]))) l = some (.lst ([x, wo, wo + 1, wo / 2, wo / 5, y].map V.int)) := kad
  generalize upd H1 l (.lst ([x, wo, wo + 1, wo / 2, wo / 5].map V.int ++ [V.int y])) = H2 at *
  obtain ⟨z, ez, hz⟩ := pickI (zs := [x, wo, wo + 1, wo / 2, wo / 5, y]) (m := c) c0 (by show _ < (6 : Int); exact c1)
  have hz0 : 0 ≤ z := by
   simp only [C6, RC, or_false] at hz
   omega
  refine ⟨_, rfl, _, rfl, l, _, _, _, rfl, rfl, SqL.of e2, ez, _, _, rfl, kk H2 _ s2 ?_ ?_⟩
  ·split <;> omega
  ·split <;> omega
def MkV (d : D) (H : Hp) (v : V) (M : Mks) : Prop := (v = .non ∧ M = mks0) ∨ ∃ mA, v = .ref mA ∧ MksIs d.qg H mA M
theorem MkV.same {d : D} {H H' : Hp} {v : V} {M : Mks} (s : Same H H') : MkV d H v M → MkV d H' v M
 | .inl h => .inl h
 | .inr ⟨mA, e, h⟩ => .inr ⟨mA, e, h.same s⟩
def kiY (K : CA) (d : D) : Sp := fun vs H Q _ => ∃ (a : Addr) (ns : List Int) (k w : Int) (ps : List (Option Nat)), vs = [.ref a, .int k, iV ps.length, .int w] ∧ SqL K H a (ns.map V.int) ∧ (0 ≤ k ∧ k ≤ 1000) ∧ 0 < ps.length ∧ 0 ≤ w ∧ ∀ (H' : Hp) (v : V) (M : Mks), Same H H' → MkV d H' v M → MksOk ps M → Q v H'
theorem qC : kaq ["_law_script", "_law_k", "_law_kinds", "_law_worth_here", "_law_kind", "_law_least", "_law_bound", "_law_bits"] ["_law_script", "_law_k", "_law_kinds", "_law_worth_here"] (kab kbl) := ⟨rfl, rfl, rfl, by decide +kernel, rfl, by decide +kernel, by decide +kernel⟩
theorem ke9 (W : WB K mg d base) : FnOk P w K mg base CX0 4 d.YD d.YE ["_law_script", "_law_k", "_law_kinds", "_law_worth_here"] (kiY K d) := by
 refine FunD.ok W.Qw.F qC (fun vs H Q E h => ?_) (fun cdv A outer s H vs Q E hr h => ?_)
 ·obtain ⟨a, ns, k, w, ps, rfl, _⟩ := h
  rfl
 ·obtain ⟨a, ns, k, wo, ps, rfl, hS, hk, hp0, hw, kk⟩ := h
  have qj := kbz (P := P) (w := w) (base := base) W
  have qZ := kcT (P := P) (w := w) (base := base) W
  have Xd := kdb (P := P) (w := w) (base := base) W
  have hr2 : Room 2 _ := hr.mono (by decide)
  refine ⟨_, kae (ps_if (kaA op_eq (kan qj hr2 rfl W.qd.m W.qd.F.kp W.qd.b .nil pass0 (kaa (pv 0) (kaa (pv 1) (kaa kai (kaa kai kah))))) kai (kaN _)) (kaj (kat kbN)) (kaB))
   (kae (kax (i := 4) qC.nd rfl (Or.inl rfl) kbN)
   (kae (kcQ (ps_if (kaA op_eq (kan qj hr2 rfl W.qd.m W.qd.F.kp W.qd.b .nil pass0 (kaa (pv 0) (kaa (pv 1) (kaa kai (kaa kai kah))))) kai (kaN _)) (kaj (kax (i := 4) qC.nd rfl (Or.inl rfl) (kan qj hr2 rfl W.qd.m W.qd.F.kp W.qd.b .nil pass0 (kaa (pv 0) (kaa (pv 1) (kaa kai (kaa (pv 2) kah))))))) (kaB)))
   (kae (kax (i := 5) qC.nd rfl (Or.inl rfl) kai)
   (kae (kcQ (ps_if (kaA op_eq (kan qj hr2 rfl W.qd.m W.qd.F.kp W.qd.b .nil pass0 (kaa (pv 0) (kaa (pv 1) (kaa kai (kaa kai kah))))) kai (kaN _)) (kaj (kax (i := 5) qC.nd rfl (Or.inl rfl) (kan qZ hr rfl W.qq.m W.qq.F.kp W.qq.b .nil pass0 (kaa (pv 0) (kaa (pv 1) (kaa kai (kaa (pv 3) kah))))))) (kaB)))
   (kae (kax (i := 6) qC.nd rfl (Or.inl rfl) kbN)
   (kae (kcQ (ps_if (kaA op_eq (kan qj hr2 rfl W.qd.m W.qd.F.kp W.qd.b .nil pass0 (kaa (pv 0) (kaa (pv 1) (kaa kai (kaa kai kah))))) kai (kaN _)) (kaj (kax (i := 6) qC.nd rfl (Or.inl rfl) (kan qZ hr rfl W.qq.m W.qq.F.kp W.qq.b .nil pass0 (kaa (pv 0) (kaa (pv 1) (kaa kai (kaa (pv 3) kah))))))) (kaB)))
   (kae (kax (i := 7) qC.nd rfl (Or.inl rfl) (kan qj hr2 rfl W.qd.m W.qd.F.kp W.qd.b .nil pass0 (kaa (pv 0) (kaa (pv 1) (kaa kai (kaa kai kah))))))
   (kaj (kat (kbS (W.QG.mk' W.qg) Xd hr2 rfl W.qg.m W.QG.b .nil pass0 (kaa (pv 4) (kaa (pv 5) (kaa (pv 6) (kaa (kci op_eq (pe_op kd8 (pv 7) kai) kai (kaN _)) (kaa (kci op_eq (pe_op kd8 (pv 7) kai) kai (kaN _)) (kaa (kci op_eq (pe_op kd8 (pv 7) kai) kai (kaN _)) kah)))))))))))))))), ?_⟩
  refine ⟨_, rfl, _, rfl, a, ns, k, 1, 3, rfl, hS, hk, ⟨by decide, by decide⟩, by decide, fun c c0 c1 => ⟨rfl, _, rfl, ite2 (fun _ => ?_) (fun _ => ?_)⟩⟩
  ·exact kk H _ mks0 (Same.refl _) (.inl ⟨rfl, rfl⟩) ⟨(fun k e => by cases e), ⟨by decide, by decide⟩, (fun m e => by cases e)⟩
  refine ⟨fun σ H' => H' = H ∧ ∃ kd : Option Nat, (∀ k, kd = some k → k < ps.length) ∧ σ = [some (.ref a), some (.int k), some (iV ps.length), some (.int wo), some (pV kd), none, none, none], ?_, ?_⟩
  ·refine ⟨_, rfl, _, rfl, a, ns, k, 2, 3, rfl, hS, hk, ⟨by decide, by decide⟩, by decide, fun c c0 c1 => ⟨rfl, _, rfl, ite2 (fun _ => ?_) (fun _ => ⟨rfl, none, (fun k e => by cases e), rfl⟩)⟩⟩
   refine ⟨_, rfl, _, rfl, _, rfl, a, ns, k, 3, _, rfl, hS, hk, ⟨by decide, by decide⟩, (by show (0 : Int) < (ps.length : Int); omega), fun z z0 z1 => ?_⟩
   obtain ⟨n, rfl⟩ := Int.eq_ofNat_of_zero_le z0
   exact ⟨rfl, some n, (fun k e => by cases e; have : (n : Int) < (ps.length : Int) := z1; omega), rfl⟩
  rintro σ H' ⟨rfl, kd, hkd, rfl⟩
  refine ⟨fun σ H1 => Same H' H1 ∧ ∃ nd : Int, (0 ≤ nd ∧ nd ≤ 1000000000000) ∧ σ = [some (.ref a), some (.int k), some (iV ps.length), some (.int wo), some (pV kd), some (.int nd), none, none], ?_, ?_⟩
  ·refine ⟨_, rfl, _, rfl, a, ns, k, 4, 4, rfl, hS, hk, ⟨by decide, by decide⟩, by decide, fun c c0 c1 => ⟨rfl, _, rfl, ite2 (fun _ => ?_) (fun _ => ⟨Same.refl _, 0, ⟨by decide, by decide⟩, rfl⟩)⟩⟩
   exact ⟨_, rfl, _, rfl, _, rfl, a, ns, k, 5, wo, rfl, hS, hk, ⟨by decide, by decide⟩, hw, fun H1 z s1 z0 z1 => ⟨s1, z, ⟨z0, z1⟩, rfl⟩⟩
  rintro σ H1 ⟨s1, nd, hnd, rfl⟩
  refine ⟨fun σ H2 => Same H1 H2 ∧ ∃ mo : Option Int, (∀ m, mo = some m → 0 ≤ m ∧ m ≤ 1000000000000) ∧ σ = [some (.ref a), some (.int k), some (iV ps.length), some (.int wo), some (pV kd), some (.int nd), some (oV mo), none], ?_, ?_⟩
  ·refine ⟨_, rfl, _, rfl, a, ns, k, 8, 3, rfl, s1.seq hS, hk, ⟨by decide, by decide⟩, by decide, fun c c0 c1 => ⟨rfl, _, rfl, ite2 (fun _ => ?_) (fun _ => ⟨Same.refl _, none, (fun m e => by cases e), rfl⟩)⟩⟩
   exact ⟨_, rfl, _, rfl, _, rfl, a, ns, k, 9, wo, rfl, s1.seq hS, hk, ⟨by decide, by decide⟩, hw, fun H2 z s2 z0 z1 => ⟨s2, some z, (fun m e => by cases e; exact ⟨z0, z1⟩), rfl⟩⟩
  rintro σ H2 ⟨s2, mo, hmo, rfl⟩
  have s12 := s1.trans s2
  refine ⟨_, rfl, _, rfl, a, ns, k, 12, 60, rfl, s12.seq hS, hk, ⟨by decide, by decide⟩, by decide, fun bt b0 b1 => ?_⟩
  refine ⟨_, rfl, _, rfl, _, rfl, _, rfl, _, _, rfl, rfl, (by show (0 : Int) < 5; decide), rfl, _, rfl, _, _, rfl, rfl, (by show (0 : Int) < 4; decide), rfl, _, rfl, _, _, rfl, rfl, (by show (0 : Int) < 3; decide), rfl, ?_⟩
  generalize decide (V.int (bt % 5) = V.int 0) = m1
  generalize decide (V.int (bt % 4) = V.int 0) = m2
  generalize decide (V.int (bt % 3) = V.int 0) = m3
  exact kgL (M := ⟨kd, nd, mo, m1, m2, m3⟩) fun H3 mA s3 f3 hM => kk H3 _ _ (s12.trans s3) (.inr ⟨mA, rfl, hM⟩) ⟨hkd, hnd, hmo⟩
theorem kef {d : D} {H : Hp} {so : Srt} {is : Srt → Prop} {mv : V} {M : Mks} {R : Addr → Hp → Prop} {E : XK} (hi : is so) (hh : here so = true) (hM : MkV d H mv M) (k : ∀ (H' : Hp) (x : Addr), Same H H' → H x = none → VchIs d H' x ⟨so, M⟩ → R x H') (htb : Tbs d H := by assumption) :
  ∀ x dx, H x = none → H dx = none → dx ≠ x → kdC (clsOf d so) d.qg is (.ref x :: (keU so ++ [mv])) (upd (upd H dx (.own x)) x (.ins (clsOf d so) dx [])) (fun v H2 => v = .non ∧ R x H2) E := by
 rcases hM with ⟨rfl, rfl⟩ | ⟨mA, rfl, h⟩
 ·exact kkH hi hh k htb
 ·exact kln hi hh h k htb
def kk5 (K : CA) (d : D) : Sp := fun vs H Q _ => ∃ (a : Addr) (ns : List Int) (k w : Int) (ps : List (Option Nat)), vs = [.ref a, .int k, iV ps.length, .int w] ∧ SqL K H a (ns.map V.int) ∧ (0 ≤ k ∧ k ≤ 1000) ∧ 0 < ps.length ∧ 0 ≤ w ∧ Tbs d H ∧ ∀ (H' : Hp) (v : Addr) (V : Vch), Same H H' → H v = none → VchIs d H' v V → VchOk ps V → Q (.ref v) H'
theorem QR : kaq ["_law_script", "_law_k", "_law_kinds", "_law_worth_here", "_law_marks_here", "_law_how", "_law_share"] ["_law_script", "_law_k", "_law_kinds", "_law_worth_here"] (kab ka6) := ⟨rfl, rfl, rfl, by decide +kernel, rfl, by decide +kernel, by decide +kernel⟩
theorem kec (W : WB K mg d base) : FnOk P w K mg base CX0 6 d.YF d.YG ["_law_script", "_law_k", "_law_kinds", "_law_worth_here"] (kk5 K d) := by
 refine FunD.ok W.Qx.F QR (fun vs H Q E h => ?_) (fun cdv A outer s H vs Q E hr h => ?_)
 ·obtain ⟨a, ns, k, w, ps, rfl, _⟩ := h
  rfl
 ·obtain ⟨a, ns, k, wo, ps, rfl, hS, hk, hp0, hw, htb0, kk⟩ := h
  have Vx := ke9 (P := P) (w := w) (base := base) W
  have qj := kbz (P := P) (w := w) (base := base) W
  have Vy := kf8 (P := P) (w := w) (base := base) W
  have qZ := kcT (P := P) (w := w) (base := base) W
  have Vz := kfb (P := P) (w := w) (base := base) W
  have VA := kdP (P := P) (w := w) (base := base) W
  have VB := keC (P := P) (w := w) (base := base) W
  have VC := kdQ (P := P) (w := w) (base := base) W
  have hr2 : Room 2 _ := hr.mono (by decide)
  have hr3 : Room 3 _ := hr.mono (by decide)
  have hr4 : Room 4 _ := hr.mono (by decide)
  refine ⟨_, kae (kax (i := 4) QR.nd rfl (Or.inl rfl) (kan Vx hr4 rfl W.Qw.m W.Qw.F.kp W.Qw.b .nil pass0 (kaa (pv 0) (kaa (pv 1) (kaa (pv 2) (kaa (pv 3) kah))))))
   (kae (kax (i := 5) QR.nd rfl (Or.inl rfl) (kan qj hr2 rfl W.qd.m W.qd.F.kp W.qd.b .nil pass0 (kaa (pv 0) (kaa (pv 1) (kaa kai (kaa kai kah))))))
   (kae (ps_if (kaA op_eq (pv 5) kai (kaN _)) (kaj (kat (kbS (W.Q1.mk' W.c_Off) Vy hr rfl W.c_Off.m W.Q1.b .nil pass0 (kaa (kan qZ hr3 rfl W.qq.m W.qq.F.kp W.qq.b .nil pass0 (kaa (pv 0) (kaa (pv 1) (kaa kai (kaa (pv 3) kah))))) (kaa (pv 4) kah))))) (kaB))
   (kae (ps_if (kaA op_eq (pv 5) kai (kaN _)) (kae (kax (i := 6) QR.nd rfl (Or.inl rfl) (pe_ix (r := rIxL K) kbx (kbG (kaa kai (kaa kai (kaa (pe_op ka1 kai (kan qj hr2 rfl W.qd.m W.qd.F.kp W.qd.b .nil pass0 (kaa (pv 0) (kaa (pv 1) (kaa kai (kaa kai kah)))))) kah)))) (kan qj hr2 rfl W.qd.m W.qd.F.kp W.qd.b .nil pass0 (kaa (pv 0) (kaa (pv 1) (kaa kai (kaa kai kah))))) (fun _ _ => rfl)))
   (kaj (kat (kbS (W.Q2.mk' W.qk) Vz hr rfl W.qk.m W.Q2.b .nil pass0 (kaa (pv 6) (kaa (kci op_eq (kan qj hr2 rfl W.qd.m W.qd.F.kp W.qd.b .nil pass0 (kaa (pv 0) (kaa (pv 1) (kaa kai (kaa kai kah))))) kai (kaN _)) (kaa (pv 4) kah))))))) (kaB))
   (kae (ps_if (kaA op_eq (pv 5) kai (kaN _)) (kaj (kat (kbS (W.Q3.mk' W.qm) VA hr rfl W.qm.m W.Q3.b .nil pass0 (kaa (pe_op ka1 kai (kan qj hr2 rfl W.qd.m W.qd.F.kp W.qd.b .nil pass0 (kaa (pv 0) (kaa (pv 1) (kaa kai (kaa (pe_ix (r := rIxL K) kbx (kbG (kaa kai (kaa kai kah))) (kan qj hr2 rfl W.qd.m W.qd.F.kp W.qd.b .nil pass0 (kaa (pv 0) (kaa (pv 1) (kaa kai (kaa kai kah))))) (fun _ _ => rfl)) kah)))))) (kaa (pv 4) kah))))) (kaB))
   (kae (ps_if (kaA op_eq (pv 5) kai (kaN _)) (kaj (kat (kbS (W.Q4.mk' W.ql) VB hr rfl W.ql.m W.Q4.b .nil pass0 (kaa (pe_op ka1 kai (kan qj hr2 rfl W.qd.m W.qd.F.kp W.qd.b .nil pass0 (kaa (pv 0) (kaa (pv 1) (kaa kai (kaa kai kah)))))) (kaa (kan qZ hr3 rfl W.qq.m W.qq.F.kp W.qq.b .nil pass0 (kaa (pv 0) (kaa (pv 1) (kaa kai (kaa (pe_op kd9 (pv 3) kai) kah))))) (kaa (pv 4) kah)))))) (kaB))
   (kaj (kat (kbS (W.Q5.mk' W.qo) VC hr rfl W.qo.m W.Q5.b .nil pass0 (kaa (pv 4) kah))))))))), ?_⟩
  refine ⟨_, rfl, _, rfl, _, rfl, _, rfl, a, ns, k, wo, ps, rfl, hS, hk, hp0, hw, fun H1 mv M s1 hM mok => ?_⟩
  refine ⟨_, rfl, _, rfl, a, ns, k, 20, 5, rfl, s1.seq hS, hk, ⟨by decide, by decide⟩, by decide, fun c c0 c1 => ?_⟩
  have fin : ∀ {so : Srt} {H2 : Hp}, Same H H2 → SrtOk so → ∀ (H3 : Hp) (x : Addr), Same H2 H3 → H2 x = none → VchIs d H3 x ⟨so, M⟩ → Q (.ref x) H3 := fun {so H2} z ho H3 x s3 f3 hV => kk H3 x _ (z.trans s3) (z.free f3) hV ⟨ho, mok⟩
  refine ⟨_, rfl, rfl, _, rfl, ite2 (fun _ => ?_) (fun _ => ?_)⟩
  ·refine ⟨_, rfl, _, rfl, _, rfl, a, ns, k, 21, wo, rfl, s1.seq hS, hk, ⟨by decide, by decide⟩, hw, fun H2 z s2 z0 z1 => ⟨_, rfl, kef (so := .off z) ⟨_, rfl⟩ rfl (hM.same s2) (fin (s1.trans s2) ⟨z0, z1⟩) (Tbs.same (s1.trans s2) htb0)⟩⟩
  refine ⟨_, rfl, rfl, _, rfl, ite2 (fun _ => ?_) (fun _ => ?_)⟩
  ·refine ⟨_, rfl, _, rfl, a, ns, k, 23, 1000, rfl, s1.seq hS, hk, ⟨by decide, by decide⟩, by decide, fun x x0 x1 => ⟨_, _, rfl, rfl, (by show 3 ≤ sizeLine; decide), fun l hl => ?_⟩⟩
   have n2 := kak (o := .lst [V.int 1, V.int 1000, V.int (1 + x)]) hl
   refine ⟨_, rfl, _, rfl, a, ns, k, 24, 3, rfl, (s1.trans n2).seq hS, hk, ⟨by decide, by decide⟩, by decide, fun y y0 y1 => ?_⟩
   obtain ⟨z, ez, hz⟩ := pickI (zs := [1, 1000, 1 + x]) (m := y) y0 (by show _ < (3 : Int); exact y1)
   have hz : 1 ≤ z ∧ z ≤ 1000 := by
    simp only [C6, RC, or_false] at hz
    omega
   refine ⟨l, _, _, _, rfl, rfl, SqL.of kad, ez, ?_⟩
   refine ⟨_, rfl, _, rfl, _, rfl, a, ns, k, 25, 2, rfl, (s1.trans n2).seq hS, hk, ⟨by decide, by decide⟩, by decide, fun b b0 b1 => ⟨rfl, _, rfl, kef (so := .share z _) ⟨_, _, rfl⟩ rfl (hM.same n2) (fin (s1.trans n2) hz) (Tbs.same (s1.trans n2) htb0)⟩⟩
  refine ⟨_, rfl, rfl, _, rfl, ite2 (fun _ => ?_) (fun _ => ?_)⟩
  ·refine ⟨_, rfl, _, rfl, (by show 2 ≤ sizeLine; decide), fun l hl => ?_⟩
   have n2 := kak (o := .lst [V.int 3, V.int 19]) hl
   refine ⟨_, rfl, _, rfl, a, ns, k, 27, 2, rfl, (s1.trans n2).seq hS, hk, ⟨by decide, by decide⟩, by decide, fun y y0 y1 => ?_⟩
   obtain ⟨z, ez, hz⟩ := pickI (zs := [3, 19]) (m := y) y0 (by show _ < (2 : Int); exact y1)
   have hz : 0 < z ∧ z ≤ 19 := by
    simp only [C6, RC, or_false] at hz
    omega
   refine ⟨l, _, _, _, rfl, rfl, SqL.of kad, ez, a, ns, k, 26, z, rfl, (s1.trans n2).seq hS, hk, ⟨by decide, by decide⟩, hz.1, fun x x0 x1 => ⟨_, _, rfl, rfl, _, rfl, kef (so := .cheap (2 + x)) ⟨_, rfl⟩ rfl (hM.same n2) (fin (s1.trans n2) ⟨by omega, by omega⟩) (Tbs.same (s1.trans n2) htb0)⟩⟩
  refine ⟨_, rfl, rfl, _, rfl, ite2 (fun _ => ?_) (fun _ => ?_)⟩
  ·refine ⟨_, rfl, _, rfl, a, ns, k, 28, 4, rfl, s1.seq hS, hk, ⟨by decide, by decide⟩, by decide, fun x x0 x1 => ⟨_, _, rfl, rfl, _, rfl, _, rfl, _, rfl, _, _, rfl, rfl, ⟨by decide, by decide⟩, a, ns, k, 30, wo / 3, rfl, s1.seq hS, hk, ⟨by decide, by decide⟩, by omega, fun H2 z s2 z0 z1 => ⟨_, rfl, kef (so := .bund (2 + x) z) ⟨_, _, rfl⟩ rfl (hM.same s2) (fin (s1.trans s2) ⟨by omega, by omega, z0, z1⟩) (Tbs.same (s1.trans s2) htb0)⟩⟩⟩
  exact ⟨_, rfl, kef (so := .carr) (is := fun so => so = .carr) rfl rfl hM (fin s1 trivial) (Tbs.same s1 htb0)⟩
def kkf (K : CA) (d : D) : Sp := fun vs H Q _ => ∃ (a p b : Addr) (ns : List Int) (ps : List (Option Nat)) (B : Bask) (bk : Str), vs = [.ref a, .ref p, .ref b, .str bk] ∧ SqL K H a (ns.map V.int) ∧ H p = some (.lst (ps.map pV)) ∧ 0 < ps.length ∧ BaskIs d.qe d.qh H b B ∧ B.rs.length ≤ 12 ∧ (∀ r ∈ B.rs, r.Ok) ∧ Tbs d H ∧ ∀ (H' : Hp) (t : Addr) (vs : List Vch) (rs : List Rul), Same H H' → H t = none → TillIs d H' t ⟨ps, vs, rs, bk⟩ → kdi ⟨ps, vs, rs, bk⟩ → 0 < vs.length → Q (.ref t) H'
theorem Xs : kaq ["_law_script", "_law_parents_here", "_law_basket_here", "_law_back", "_law_many", "_law_vouchers"] ["_law_script", "_law_parents_here", "_law_basket_here", "_law_back"] (kab kbq) := ⟨rfl, rfl, rfl, by decide +kernel, rfl, by decide +kernel, by decide +kernel⟩
theorem kfD (W : WB K mg d base) : FnOk P w K mg base CX0 7 d.YL d.YM ["_law_script", "_law_parents_here", "_law_basket_here", "_law_back"] (kkf K d) := by
 refine FunD.ok W.QA.F Xs (fun vs H Q E h => ?_) (fun cdv A outer s H vs Q E hr h => ?_)
 ·obtain ⟨a, p, b, ns, ps, B, bk, rfl, _⟩ := h
  rfl
 ·obtain ⟨a, p, b, ns, ps, B, bk, rfl, hS, hp, hp0, hB, h12, hok, htb0, kk⟩ := h
  have qj := kbz (P := P) (w := w) (base := base) W
  have VD := kec (P := P) (w := w) (base := base) W
  have VE := ke5 (P := P) (w := w) (base := base) W
  have VF := kfF (P := P) (w := w) (base := base) W
  have VG := ke6 (P := P) (w := w) (base := base) W
  have hr1 : Room 1 _ := hr.mono (by decide)
  have hr2 : Room 2 _ := hr.mono (by decide)
  have hr3 : Room 3 _ := hr.mono (by decide)
  refine ⟨_, kae (kax (i := 4) Xs.nd rfl (Or.inl rfl) (pe_op ka1 kai (kan qj hr2 rfl W.qd.m W.qd.F.kp W.qd.b .nil pass0 (kaa (pv 0) (kaa kai (kaa kai (kaa kai kah)))))))
   (kae (ke0 (N := ["_law_j", "_law_script", "_law_parents_here", "_law_basket_here"]) (CompScope.of (N := ["_law_j", "_law_script", "_law_parents_here", "_law_basket_here"]) (cap := [none, some 0, some 1, some 2]) (kab kbq).names ["_law_script", "_law_parents_here", "_law_basket_here", "_law_back", "_law_many", "_law_vouchers"] rfl rfl (by decide +kernel)) rfl (kb5 rfl W.B.range (kaa (pv 4) kah)) (fun _ _ _ _ => kas (i := 0) (show (["_law_j", "_law_script", "_law_parents_here", "_law_basket_here"] : List Str).Nodup by decide +kernel) rfl (Or.inl rfl)) (fun _ _ _ _ => (kan VD hr rfl W.Qx.m W.Qx.F.kp W.Qx.b .nil pass0 (kaa (pv 1) (kaa (pe_op ka1 kai (pv 0)) (kaa (kaE (r := kkw K) ka2 (by rfl) W.B.len b_len (kaa (pv 2) kah)) (kaa (kan VE hr1 rfl W.Qz.m W.Qz.F.kp W.Qz.b .nil pass0 (kaa (pv 3) kah)) kah)))))) (kas (i := 5) Xs.nd rfl (Or.inl rfl)))
   (kaj (kat (kbS (W.Xb.mk' W.qf) VF hr2 rfl W.qf.m W.Xb.b .nil pass0 (kaa (pv 1) (kaa (pv 5) (kaa (kan VG hr3 rfl W.Qy.m W.Qy.F.kp W.Qy.b .nil pass0 (kaa (pv 0) (kaa (pv 4) kah))) (kaa (pv 3) kah)))))))), ?_⟩
  refine ⟨_, rfl, a, ns, 0, 2, 4, rfl, hS, ⟨by decide, by decide⟩, ⟨by decide, by decide⟩, by decide, fun z z0 z1 => ⟨_, _, rfl, rfl, ?_⟩⟩
  obtain ⟨zn, rfl⟩ := Int.eq_ofNat_of_zero_le z0
  dsimp only
  rw [show (1 : Int) + (zn : Int) = ((1 + zn : Nat) : Int) by omega]
  have hm : 1 + zn ≤ 4 := by omega
  have hm0 : 0 < 1 + zn := by omega
  generalize 1 + zn = m at *
  refine ⟨_, rfl, _, rfl, by omega, by omega, ?_⟩
  rw [Int.toNat_natCast]
  refine keO (fun i σ ys H' => Same H H' ∧ ∃ (va : List Addr) (Vs : List Vch) (v0 : Option V), ys = va.map V.ref ∧ P2 (fun a V => VchIs d H' a V) va Vs ∧ (∀ V ∈ Vs, VchOk ps V) ∧ Vs.length = i ∧ σ = [v0, some (.ref a), some (.ref p), some (.ref b)])
   ⟨Same.refl _, [], [], none, rfl, .nil, (fun V hV => by simp at hV), rfl, rfl⟩ (CY (kau (by omega))) (fun i σ ys H' hi h => by obtain ⟨_, va, Vs, v0, rfl, hP, _, hl, _⟩ := h; rw [Cz, hP.len]; exact hl) ?_ ?_
  ·rintro i σ ys H' hi ⟨s1, va, Vs, v0, rfl, hP, hvo, hl, rfl⟩
   rw [Int.zero_add]
   refine ⟨_, rfl, _, rfl, _, _, rfl, rfl, _, rfl, p, _, rfl, .inl (SqL.of (s1 _ _ hp)), _, rfl, b, B, rfl, hB.same s1, h12, hok, fun H3 s3 hw => ?_⟩
   have s13 := s1.trans s3
   refine ⟨a, ns, 1 + (i : Int), _, ps, (by rw [Cz]; rfl), s13.seq hS, ⟨by omega, by omega⟩, hp0, hw, Tbs.same s13 htb0, fun H4 v Vc s4 f4 hV vo => ?_⟩
   refine ⟨s13.trans s4, va ++ [v], Vs ++ [Vc], _, by rw [CU]; rfl, P2.snoc (hP.mono fun a V h => (h.same s3).same s4) hV, fun V hV' => ?_, by simp [hl], rfl⟩
   rcases Rk.mp hV' with h | h
   ·exact hvo V h
   ·have e : V = Vc := by simpa using h
    rw [e]
    exact vo
  ·rintro σ ys H' ⟨s1, va, Vs, v0, rfl, hP, hvo, hl, rfl⟩ D hD
   have n2 := kak (o := .lst (va.map V.ref)) hD
   have s2 := s1.trans n2
   have eD : (upd H' D (.lst (va.map V.ref))) D = some (.lst (va.map V.ref)) := kad
   have hP2 : P2 (fun a c => VchIs d (upd H' D (.lst (va.map V.ref))) a c) va Vs := hP.mono fun a c h => h.same n2
   clear n2
   generalize upd H' D (.lst (va.map V.ref)) = H2 at *
   refine ⟨_, rfl, _, rfl, _, rfl, _, rfl, a, ns, m, rfl, s2.seq hS, hm0, fun H5 rl ra rs s5 f5 h5 hr hlen => ⟨_, rfl, kkI (T := ⟨ps, Vs, rs, bk⟩) ((s2.trans s5) _ _ hp) (s5 _ _ eD) (hP2.mono fun a V h => h.same s5) h5 hr fun H6 t s6 f6 hT => ?_⟩⟩
   have s26 := (s2.trans s5).trans s6
   exact kk H6 t Vs rs s26 ((s2.trans s5).free f6) hT ⟨hvo, by show Vs.length ≤ 8; omega⟩ (by omega)
theorem P2.ins {α β : Type} {R : α → β → Prop} {a : α} {b : β} (hab : R a b) : ∀ {as : List α} {bs : List β}, P2 R as bs → ∀ k, P2 R (as.take k ++ a :: as.drop k) (bs.take k ++ b :: bs.drop k)
 | _, _, .nil, k => by
  cases k <;> exact .cons hab .nil
 | _, _, .cons h t, 0 => .cons hab (.cons h t)
 | _, _, .cons h t, k + 1 => .cons h (P2.ins hab t k)
theorem P2.app {α β : Type} {R : α → β → Prop} {as' : List α} {bs' : List β} (h' : P2 R as' bs') : ∀ {as : List α} {bs : List β}, P2 R as bs → P2 R (as ++ as') (bs ++ bs')
 | _, _, .nil => h'
 | _, _, .cons h t => .cons h (P2.app h' t)
theorem P2.tk {α β : Type} {R : α → β → Prop} : ∀ {as : List α} {bs : List β}, P2 R as bs → ∀ k, P2 R (as.take k) (bs.take k)
 | _, _, .nil, k => by
  rw [List.take_nil, List.take_nil]
  exact .nil
 | _, _, .cons _ _, 0 => .nil
 | _, _, .cons h t, k + 1 => .cons h (P2.tk t k)
theorem kgE : ∀ (rs : List Row) (k : Nat), (∀ r ∈ rs, 0 ≤ r.mn) → (((rs.zipIdx k).map fun p => CI p.1.mn.toNat p.2).flatten.length : Int) = (rs.map fun r => r.mn).sum
 | [], _, _ => by simp
 | r :: rs, k, h => by
  have h1 := h r Re
  have ih := kgE rs (k + 1) fun q hq => h q (C8 _ hq)
  rw [R8, C1, Rf, C7, Ro, C1, Rx]
  simp only
  omega
theorem khZ (rs : List Row) (h : ∀ r ∈ rs, 0 ≤ r.mn) : ((ownN rs).length : Int) = (rs.map fun r => r.mn).sum := kgE rs 0 h
theorem kjo {α : Type} {a x : α} {l : List α} {k : Nat} (h : x ∈ l.take k ++ a :: l.drop k) : x = a ∨ x ∈ l := by
 rcases Rk.mp h with h | h
 ·exact .inr (SN h)
 ·rcases C6.mp h with h | h
  ·exact .inl h
  ·exact .inr (List.mem_of_mem_drop h)
theorem kj8 {r : Row} {rs : List Row} {k : Nat} : ((rs.take k ++ r :: rs.drop k).map fun r => r.mn).sum = (rs.map fun r => r.mn).sum + r.mn := by
 have e : (rs.map fun r => r.mn).sum = ((rs.take k).map fun r => r.mn).sum + ((rs.drop k).map fun r => r.mn).sum := by
  rw [← RH, ← CU, R9]
 rw [e, CU, C1, RH, Rx]
 omega
def klc (K : CA) (CL CB : Addr) : Sp := fun vs H Q _ => ∃ (a : Addr) (ns : List Int) (n : Nat), vs = [.ref a, iV n] ∧ SqL K H a (ns.map V.int) ∧ 0 < n ∧
 ∀ (H' : Hp) (b : Addr) (B : Bask), Same H H' → H b = none → BaskIs CL CB H' b B → B.rs.length ≤ 12 → (∀ r ∈ B.rs, r.Ok) → (∀ r ∈ B.rs, 0 ≤ r.kd ∧ r.kd < (n : Int)) → 0 ≤ B.cg ∧ B.cg ≤ 1000000000000 → (ownN B.rs).length < 64 → Q (.ref b) H'
theorem qr : kaq ["_law_script", "_law_kinds", "_law_lines", "_law_wide", "_law_salt", "_law_j", "_law_many", "_law_extra", "_law_price_here", "_law_pieces"] ["_law_script", "_law_kinds"] (kab kbd) := ⟨rfl, rfl, rfl, by decide +kernel, rfl, by decide +kernel, by decide +kernel⟩
theorem keB (W : WB K mg d base) : FnOk P w K mg base CX0 4 d.Yz d.YA ["_law_script", "_law_kinds"] (klc K d.qe d.qh) := by
 refine FunD.ok W.Qv.F qr (fun vs H Q E h => ?_) (fun cdv A outer s H vs Q E hr h => ?_)
 ·obtain ⟨a, ns, n, rfl, _⟩ := h
  rfl
 ·obtain ⟨a, ns, n, rfl, hS, hn0, kk⟩ := h
  have qj := kbz (P := P) (w := w) (base := base) W
  have Xt := ke7 (P := P) (w := w) (base := base) W
  have VH := kfG (P := P) (w := w) (base := base) W
  have VI := keD (P := P) (w := w) (base := base) W
  have hr2 : Room 2 _ := hr.mono (by decide)
  refine ⟨_, kae (kax (i := 2) qr.nd rfl (Or.inl rfl) (kbG kah))
   (kae (kax (i := 3) qr.nd rfl (Or.inl rfl) (kci op_eq (kan qj hr2 rfl W.qd.m W.qd.F.kp W.qd.b .nil pass0 (kaa (pv 0) (kaa kai (kaa kai (kaa kai kah))))) kai (kaN _)))
   (kae (kax (i := 4) qr.nd rfl (Or.inl rfl) (pe_op kcf kai (kbM kfP (by rfl) W.B.int b_int (kaa (pv 3) kah))))
   (kae (kbT PassesOwn.never rfl (kb5 rfl W.B.range (kaa (pe_ix (r := rIxL K) kbx (kbG (kaa (kan qj hr2 rfl W.qd.m W.qd.F.kp W.qd.b .nil pass0 (kaa (pv 0) (kaa kai (kaa kai (kaa kai kah))))) (kaa (pe_op ka1 kai (kan qj hr2 rfl W.qd.m W.qd.F.kp W.qd.b .nil pass0 (kaa (pv 0) (kaa kai (kaa kai (kaa kai kah)))))) kah))) (kbM kfP (by rfl) W.B.int b_int (kaa (pv 3) kah)) (fun _ _ => rfl)) kah)) (kas (i := 5) qr.nd rfl (Or.inl rfl))
   (kae (kax (i := 6) qr.nd rfl (Or.inl rfl) (pe_op ka1 kai (kan qj hr2 rfl W.qd.m W.qd.F.kp W.qd.b .nil pass0 (kaa (pv 0) (kaa kai (kaa (pe_op ka1 kai (pv 5)) (kaa kai kah)))))))
   (kae (kcQ (ps_if (kaA op_lt (kan qj hr2 rfl W.qd.m W.qd.F.kp W.qd.b .nil pass0 (kaa (pv 0) (kaa kai (kaa (pe_op ka1 kai (pv 5)) (kaa kai kah))))) kai (kaN _)) (kaj (kax (i := 6) qr.nd rfl (Or.inl rfl) (pe_ix (r := rIxL K) kbx (kbG (kaa kai (kaa kai kah))) (kan qj hr2 rfl W.qd.m W.qd.F.kp W.qd.b .nil pass0 (kaa (pv 0) (kaa kai (kaa (pe_op ka1 kai (pv 5)) (kaa kai kah))))) (fun _ _ => rfl)))) (kaB)))
   (kae (kcQ (ps_if (kbH (pv 3)) (kaj (kax (i := 6) qr.nd rfl (Or.inl rfl) (kan qj hr2 rfl W.qd.m W.qd.F.kp W.qd.b .nil pass0 (kaa (pv 0) (kaa kai (kaa (pe_op ka1 (pe_op ka1 (pv 4) kai) (pv 5)) (kaa kai kah))))))) (kaB)))
   (kae (kax (i := 7) qr.nd rfl (Or.inl rfl) kbN)
   (kae (kcQ (ps_if (kaA op_eq (kan qj hr2 rfl W.qd.m W.qd.F.kp W.qd.b .nil pass0 (kaa (pv 0) (kaa kai (kaa (pe_op ka1 (pe_op ka1 (pv 4) kai) (pv 5)) (kaa kai kah))))) kai (kaN _)) (kaj (kax (i := 7) qr.nd rfl (Or.inl rfl) (kan Xt hr rfl W.qw.m W.qw.F.kp W.qw.b .nil pass0 (kaa (pv 0) (kaa kai (kaa (pe_op ka1 (pe_op ka1 (pv 4) kai) (pe_op kcf kai (pv 5))) kah)))))) (kaB)))
   (kae (kax (i := 8) qr.nd rfl (Or.inl rfl) (kan Xt hr rfl W.qw.m W.qw.F.kp W.qw.b .nil pass0 (kaa (pv 0) (kaa kai (kaa (pe_op ka1 (pe_op ka1 (pv 4) kai) (pe_op kcf kai (pv 5))) kah)))))
   (kaj (kbC (pe_bm Ri Rz RA kbE (pv 2) (kaa (kbS (W.Q6.mk' W.qe) VH hr2 rfl W.qe.m W.Q6.b .nil pass0 (kaa (kan qj hr2 rfl W.qd.m W.qd.F.kp W.qd.b .nil pass0 (kaa (pv 0) (kaa kai (kaa (pe_op ka1 (pe_op ka1 (pv 4) kai) (pv 5)) (kaa (pv 1) kah))))) (kaa (pv 8) (kaa (pv 6) (kaa (pv 7) kah))))) kah)))))))))))
   (kae (kax (i := 9) qr.nd rfl (Or.inl rfl) (kaE (kct rfl) (by rfl) W.B.sum b_sum (kaa (kbO (N := ["_law_line"]) (CompScope.plain rfl (by decide +kernel) (by decide +kernel) (by decide +kernel) (nd1 _)) rfl (kby (pe_op kh2 (pv 2) (kgB khL (pv 2) kkB (kf5 kai)))) (fun _ _ _ _ => kas (i := 0) (nd1 _) rfl (Or.inl rfl)) (fun _ _ _ _ => (kcu (K := K) (pv 0) rfl))) kah)))
   (kae (kcQ (ps_if (PW.pt (kch (ki5 op_lt op_lt kai (kaE ka2 (by rfl) W.B.len b_len (kaa (pv 2) kah)) kai) (kch (kaA op_lt (pv 9) kai (kaN _)) (kcc (kaA op_eq (kan qj hr2 rfl W.qd.m W.qd.F.kp W.qd.b .nil pass0 (kaa (pv 0) (kaa kai (kaa kai (kaa kai kah))))) kai (kaN _)))))) (kaj (kbC (pe_bm Ri PySem.F.slot_list_insert PySem.F.type_list_insert kh6 (pv 2) (kaa (kan qj hr2 rfl W.qd.m W.qd.F.kp W.qd.b .nil pass0 (kaa (pv 0) (kaa kai (kaa kai (kaa (pe_op ka1 (kaE ka2 (by rfl) W.B.len b_len (kaa (pv 2) kah)) kai) kah))))) (kaa (pe_ix (r := rIxL K) kbx (pv 2) kai (fun _ _ => rfl)) kah))))) (kaB)))
   (kaj (kat (kbS (W.Q7.mk' W.qh) VI hr2 rfl W.qh.m W.Q7.b .nil pass0 (kaa (pv 2) (kaa (kan Xt hr rfl W.qw.m W.qw.F.kp W.qw.b .nil pass0 (kaa (pv 0) (kaa kai (kaa kai kah)))) (kaa (kci op_eq (kan qj hr2 rfl W.qd.m W.qd.F.kp W.qd.b .nil pass0 (kaa (pv 0) (kaa kai (kaa kai (kaa kai kah))))) kai (kaN _)) kah))))))))))), ?_⟩
  refine ⟨by decide, fun l fl => ?_⟩
  have s1 := kak (o := .lst []) fl
  have el1 : (upd H l (.lst [])) l = some (.lst (([] : List Addr).map V.ref)) := kad
  generalize upd H l (.lst []) = H1 at *
  refine ⟨_, rfl, a, ns, 6, 99, 16, rfl, s1.seq hS, ⟨by decide, by decide⟩, ⟨by decide, by decide⟩, by decide, fun w0 _ _ => ⟨rfl, ?_⟩⟩
  generalize decide (V.int w0 = V.int 0) = wd
  refine ⟨_, rfl, .inr ⟨wd, rfl, _, _, rfl, rfl, .inl ⟨by decide, by decide⟩, ?_⟩⟩
  dsimp only
  have hsl : 0 ≤ 200 * (if wd = true then (1 : Int) else 0) ∧ 200 * (if wd = true then (1 : Int) else 0) ≤ 200 := by split <;> omega
  generalize 200 * (if wd = true then (1 : Int) else 0) = sl at *
  refine ⟨_, rfl, a, ns, 6, 1, 5, rfl, s1.seq hS, ⟨by decide, by decide⟩, ⟨by decide, by decide⟩, by decide, fun x x0 x1 => ⟨_, rfl, a, ns, 6, 1, 5, rfl, s1.seq hS, ⟨by decide, by decide⟩, ⟨by decide, by decide⟩, by decide, fun y y0 y1 => ⟨_, _, rfl, rfl, (by show 2 ≤ sizeLine; decide), fun q0 hq0 => ?_⟩⟩⟩
  have n2 := kak (o := .lst [V.int x, V.int (8 + y)]) hq0
  obtain ⟨c, ec, hc0, hc1, hcw⟩ : ∃ c : Int, atI [V.int x, V.int (8 + y)] (if wd = true then (1 : Int) else 0) = some (.int c) ∧ 0 ≤ c ∧ c ≤ 12 ∧ (wd = false → c ≤ 4) := by
   cases wd with
   | true => exact ⟨8 + y, rfl, by omega, by omega, fun e => by cases e⟩
   | false => exact ⟨x, rfl, by omega, by omega, fun _ => by omega⟩
  refine ⟨_, rfl, .inr ⟨wd, rfl, q0, _, _, _, rfl, rfl, SqL.of kad, ec, _, rfl, by omega, by omega, ?_⟩⟩
  have s2 := s1.trans n2
  have el2 := n2 _ _ el1
  clear n2
  generalize upd H1 q0 (.lst [V.int x, V.int (8 + y)]) = H2 at *
  refine kcw (fun i σ H' => Same H H' ∧ ∃ (ls : List Addr) (rs : List Row) (v5 v6 v7 v8 : Option V), H' l = some (.lst (ls.map V.ref)) ∧ Lines d.qe H' ls rs ∧ rs.length = i ∧ (∀ r ∈ rs, r.Ok) ∧ (∀ r ∈ rs, 0 ≤ r.kd ∧ r.kd < (n : Int)) ∧ (rs.map fun r => r.mn).sum ≤ (if wd = true then 1 else 15) * (i : Int) ∧ σ = [some (.ref a), some (iV n), some (.ref l), some (.bl wd), some (.int sl), v5, v6, v7, v8, none])
   ⟨s2, [], [], none, none, none, none, el2, .nil, rfl, (fun r hr => by simp at hr), (fun r hr => by simp at hr), by simp, rfl⟩ ?_ ?_
  ·rintro i σ H' hi ⟨s3, ls, rs, v5, v6, v7, v8, el, hL, hlen, hok, hkd, hsum, rfl⟩
   have hi12 : i < 12 := by omega
   rw [Int.zero_add]
   refine ⟨_, rfl, _, rfl, _, _, rfl, rfl, a, ns, 6, 10 + (i : Int), 4, rfl, s3.seq hS, ⟨by decide, by decide⟩, ⟨by omega, by omega⟩, by decide, fun m0 m00 m01 => ⟨_, _, rfl, rfl, ?_⟩⟩
   refine ⟨fun σ H4 => Same H' H4 ∧ ∃ m : Int, 0 ≤ m ∧ m ≤ 15 ∧ σ = [some (.ref a), some (iV n), some (.ref l), some (.bl wd), some (.int sl), some (.int (i : Int)), some (.int m), v7, v8, none], ?_, ?_⟩
   ·refine ⟨_, rfl, _, rfl, _, _, rfl, rfl, a, ns, 6, 20 + (i : Int), 8, rfl, s3.seq hS, ⟨by decide, by decide⟩, ⟨by omega, by omega⟩, by decide, fun t t0 t1 => ⟨_, _, rfl, rfl, _, rfl, ite2 (fun _ => ?_) (fun _ => ⟨Same.refl _, 1 + m0, by omega, by omega, rfl⟩)⟩⟩
    refine ⟨(by show 2 ≤ sizeLine; decide), fun q hq => ?_⟩
    have n4 := kak (o := .lst [V.int 0, V.int 15]) hq
    refine ⟨_, rfl, _, rfl, _, _, rfl, rfl, a, ns, 6, 25 + (i : Int), 2, rfl, (s3.trans n4).seq hS, ⟨by decide, by decide⟩, ⟨by omega, by omega⟩, by decide, fun u u0 u1 => ?_⟩
    obtain ⟨z, ez, hz⟩ := pickI (zs := [0, 15]) (m := u) u0 (by show _ < (2 : Int); exact u1)
    have hz : 0 ≤ z ∧ z ≤ 15 := by
     simp only [C6, RC, or_false] at hz
     omega
    exact ⟨q, _, _, _, rfl, rfl, SqL.of kad, ez, n4, z, hz.1, hz.2, rfl⟩
   rintro σ H4 ⟨s4, m1, m10, m11, rfl⟩
   have s34 := s3.trans s4
   refine ⟨fun σ H5 => H5 = H4 ∧ ∃ m : Int, 0 ≤ m ∧ m ≤ (if wd = true then 1 else 15) ∧ σ = [some (.ref a), some (iV n), some (.ref l), some (.bl wd), some (.int sl), some (.int (i : Int)), some (.int m), v7, v8, none], ?_, ?_⟩
   ·refine ⟨_, rfl, wd, rfl, ?_⟩
    cases wd with
    | true =>
     exact iteT ⟨_, rfl, _, rfl, _, _, rfl, rfl, _, rfl, _, _, rfl, rfl, a, ns, 6, sl + 10 + (i : Int), 2, rfl, s34.seq hS, ⟨by decide, by decide⟩, ⟨by omega, by omega⟩, by decide, fun u u0 u1 => ⟨rfl, u, u0, by show u ≤ 1; omega, rfl⟩⟩
    | false => exact iteF ⟨rfl, m1, m10, m11, rfl⟩
   rintro σ H5 ⟨rfl, m, hm0, hm1, rfl⟩
   have hm60 : m ≤ 60 := by
    split at hm1 <;> omega
   refine ⟨fun σ H6 => H6 = H5 ∧ ∃ ex : Option Int, (∀ z, ex = some z → 0 ≤ z ∧ z ≤ 1000000000000) ∧ σ = [some (.ref a), some (iV n), some (.ref l), some (.bl wd), some (.int sl), some (.int (i : Int)), some (.int m), some (oV ex), v8, none], ?_, ?_⟩
   ·refine ⟨_, rfl, _, rfl, _, _, rfl, rfl, _, rfl, _, _, rfl, rfl, a, ns, 6, sl + 30 + (i : Int), 3, rfl, s34.seq hS, ⟨by decide, by decide⟩, ⟨by omega, by omega⟩, by decide, fun u u0 u1 => ⟨rfl, _, rfl, ite2 (fun _ => ?_) (fun _ => ⟨rfl, none, (fun z e => by cases e), rfl⟩)⟩⟩
    exact ⟨_, rfl, _, rfl, _, _, rfl, rfl, _, rfl, _, _, rfl, rfl, .inl ⟨by decide, by decide⟩, _, _, rfl, rfl, a, ns, 6, sl + 40 + 3 * (i : Int), rfl, s34.seq hS, ⟨by decide, by decide⟩, ⟨by omega, by omega⟩, fun z z0 z1 => ⟨rfl, some z, (fun y e => by cases e; exact ⟨z0, z1⟩), rfl⟩⟩
   rintro σ H6 ⟨rfl, ex, hex, rfl⟩
   refine ⟨_, rfl, _, rfl, _, _, rfl, rfl, _, rfl, _, _, rfl, rfl, .inl ⟨by decide, by decide⟩, _, _, rfl, rfl, a, ns, 6, sl + 80 + 3 * (i : Int), rfl, s34.seq hS, ⟨by decide, by decide⟩, ⟨by omega, by omega⟩, fun pz pz0 pz1 => ?_⟩
   have el6 := s4 _ _ el
   refine ⟨_, rfl, .inl ⟨rfl, _, SqL.of el6⟩, _, rfl, _, rfl, _, _, rfl, rfl, _, rfl, _, _, rfl, rfl, _, rfl, a, ns, 6, sl + 60 + (i : Int), (n : Int), rfl, s34.seq hS, ⟨by decide, by decide⟩, ⟨by omega, by omega⟩, by omega, fun kd kd0 kd1 => ⟨_, rfl, _, rfl, _, rfl, kkK (r := ⟨kd, pz, m, ex⟩) fun H7 ln s7 f7 hln => ?_⟩⟩
   have el7 := s7 _ _ el6
   have s37 := s34.trans s7
   refine ⟨l, _, _, rfl, rfl, el7, kau (by rw [Cz, hL.len]; omega), ?_⟩
   refine ⟨kaw fl s37 (nx el7), ls ++ [ln], rs ++ [⟨kd, pz, m, ex⟩], _, _, _, _, by rw [kad, CU]; rfl, P2.snoc ((Lines.same (s4.trans s7) hL).set el7) (hln.set el7), by rw [C7, hlen]; rfl, fun r hr => ?_, fun r hr => ?_, ?_, rfl⟩
   ·rcases Rk.mp hr with h | h
    ·exact hok r h
    ·have e : r = ⟨kd, pz, m, ex⟩ := by simpa using h
     rw [e]
     exact ⟨pz0, pz1, hm0, hm60, hex⟩
   ·rcases Rk.mp hr with h | h
    ·exact hkd r h
    ·have e : r = ⟨kd, pz, m, ex⟩ := by simpa using h
     rw [e]
     exact ⟨kd0, kd1⟩
   ·rw [CU, RH]
    show _ + (m + 0) ≤ _
    cases wd with
    | true => simp only [if_true] at hsum hm1 ⊢; omega
    | false => simp only [Rw, if_false] at hsum hm1 ⊢; omega
  ·rintro σ H' ⟨s3, ls, rs, v5, v6, v7, v8, el, hL, hlen, hok, hkd, hsum, rfl⟩
   have hlen12 : rs.length ≤ 12 := by omega
   have hs60 : (rs.map fun r => r.mn).sum ≤ 60 := by
    cases wd with
    | true => simp only [if_true] at hsum; omega
    | false =>
     simp only [Rw, if_false] at hsum
     have := hcw rfl
     omega
   have hown := khZ rs fun r hr => (hok r hr).mn0
   refine ⟨_, rfl, _, rfl, _, rfl, l, _, rfl, SqL.of el, fun q1 hq1 => ?_⟩
   have ecut : cutV (ls.map V.ref) none (some 1) = (ls.take 1).map V.ref := by
    show cutV (ls.map V.ref) none (some ((1 : Nat) : Int)) = _
    rw [kly, Sm]
   rw [ecut]
   have n4 := kak (o := .lst ((ls.take 1).map V.ref)) hq1
   have e4 : (upd H' q1 (.lst ((ls.take 1).map V.ref))) q1 = some (.lst ((ls.take 1).map V.ref)) := kad
   have el4 := n4 _ _ el
   have hL4 := Lines.same n4 hL
   have s4 := s3.trans n4
   clear n4
   generalize upd H' q1 (.lst ((ls.take 1).map V.ref)) = H4 at *
   refine ⟨l, q1, _, _, rfl, rfl, el4, e4, CY (kau (by rw [Cz, Cz, C0, hL.len]; omega)), fun q2 hq2 => ?_⟩
   rw [← CU]
   have n5 := kak (o := .lst ((ls ++ ls.take 1).map V.ref)) hq2
   have e5 : (upd H4 q2 (.lst ((ls ++ ls.take 1).map V.ref))) q2 = some (.lst ((ls ++ ls.take 1).map V.ref)) := kad
   have el5 := n5 _ _ el4
   have hL5 := Lines.same n5 hL4
   have s5 := s4.trans n5
   clear n5
   generalize upd H4 q2 (.lst ((ls ++ ls.take 1).map V.ref)) = H5 at *
   have hLL : P2 (LineAt d.qe H5) (ls ++ ls.take 1) (rs ++ rs.take 1) := P2.app (P2.tk hL5 1) hL5
   refine ⟨q2, rfl, ⟨_, SqL.of e5⟩, kbF (xs := (ls ++ ls.take 1).map V.ref) (fun i σ ys H'' => H'' = H5 ∧ ys = (((rs ++ rs.take 1).map fun r => r.mn).take i).map V.int ∧ ∃ v, σ = [v]) ⟨rfl, rfl, none, rfl⟩ (by rw [Cz, hLL.len, C7, C0]; exact CY (kau (by omega))) ?_ ?_ ?_⟩
   ·rintro j σ ys H'' hj ⟨rfl, rfl, v, rfl⟩
    refine ⟨SqL.of e5, ?_⟩
    rw [Cz, C0, Cz]
    rw [Cz, hLL.len] at hj
    omega
   ·rintro j y σ ys H'' hy ⟨rfl, rfl, v, rfl⟩
    obtain ⟨la, ea, rfl⟩ := kb0 hy
    obtain ⟨r, er, dxl, fsl, ha, g1, g2, g3, g4⟩ := hLL.at ea
    refine ⟨_, rfl, la, d.qe, dxl, fsl, _, rfl, ha, W.qe.cl, W.n_Line_many, g3, rfl, ?_, _, rfl⟩
    rw [kbY (r := r.mn) (by rw [CV, er]; rfl), CU (f := V.int)]
    rfl
   rintro σ ys H'' ⟨rfl, rfl, v, rfl⟩ D hD
   rw [Cz, hLL.len, RB (by rw [Cz]; exact CC _)]
   have n6 := kak (o := .lst (((rs ++ rs.take 1).map fun r => r.mn).map V.int)) hD
   refine ⟨D, _, rfl, SqL.of kad, ?_⟩
   have el6 := n6 _ _ el5
   have hL6 := Lines.same n6 hL5
   have s6 := s5.trans n6
   clear n6
   generalize upd H'' D (.lst (((rs ++ rs.take 1).map fun r => r.mn).map V.int)) = H6 at *
   generalize hpc : ((rs ++ rs.take 1).map fun r => r.mn).sum = pc at *
   refine ⟨fun σ H7 => Same H H7 ∧ ∃ (ls' : List Addr) (rs' : List Row), H7 l = some (.lst (ls'.map V.ref)) ∧ Lines d.qe H7 ls' rs' ∧ rs'.length ≤ 12 ∧ (∀ r ∈ rs', r.Ok) ∧ (∀ r ∈ rs', 0 ≤ r.kd ∧ r.kd < (n : Int)) ∧ (ownN rs').length < 64 ∧ σ = [some (.ref a), some (iV n), some (.ref l), some (.bl wd), some (.int sl), v5, v6, v7, v8, some (.int pc)], ?_, ?_⟩
   ·have plain : Same H H6 ∧ ∃ (ls' : List Addr) (rs' : List Row), H6 l = some (.lst (ls'.map V.ref)) ∧ Lines d.qe H6 ls' rs' ∧ rs'.length ≤ 12 ∧ (∀ r ∈ rs', r.Ok) ∧ (∀ r ∈ rs', 0 ≤ r.kd ∧ r.kd < (n : Int)) ∧ (ownN rs').length < 64 ∧ ([some (.ref a), some (iV n), some (.ref l), some (.bl wd), some (.int sl), v5, v6, v7, v8, some (.int pc)] : St) = [some (.ref a), some (iV n), some (.ref l), some (.bl wd), some (.int sl), v5, v6, v7, v8, some (.int pc)] := ⟨s6, ls, rs, el6, hL6, hlen12, hok, hkd, by omega, rfl⟩
    refine ⟨_, rfl, l, _, rfl, .inl (SqL.of el6), _, _, rfl, rfl, _, rfl, ?_⟩
    refine ite2 (fun h1 => ?_) (fun _ => ⟨_, rfl, iteF (iteF plain)⟩)
    have hl0 : 0 < ls.length := by
     have : (0 : Int) < ((ls.map V.ref).length : Nat) := by simpa using h1
     rw [Cz] at this
     omega
    refine ⟨_, _, rfl, rfl, _, rfl, ite2 (fun h2 => ?_) (fun _ => iteF plain)⟩
    have hl12 : ls.length < 12 := by
     have : ((ls.map V.ref).length : Int) < 12 := by simpa using h2
     rw [Cz] at this
     omega
    refine ⟨_, rfl, _, _, rfl, rfl, _, rfl, ite2 (fun h3 => ?_) (fun _ => iteF plain)⟩
    have hp61 : pc < 61 := by simpa using h3
    refine ⟨_, rfl, a, ns, 6, 98, 3, rfl, s6.seq hS, ⟨by decide, by decide⟩, ⟨by decide, by decide⟩, by decide, fun u u0 u1 => ⟨rfl, _, rfl, ite2 (fun _ => ?_) (fun _ => plain)⟩⟩
    obtain ⟨l0, el0⟩ := at_of hl0
    obtain ⟨r0, er0, hr0⟩ := hL6.at el0
    have e0s : (rs.take 1).map (fun r => r.mn) = [r0.mn] := by
     rw [kbY er0]
     rfl
    have hpc' : (rs.map fun r => r.mn).sum + r0.mn = pc := by
     rw [← hpc, CU, RH, e0s]
     simp
    refine ⟨_, rfl, .inl ⟨rfl, _, SqL.of el6⟩, _, rfl, _, rfl, l, _, rfl, .inl (SqL.of el6), _, _, rfl, rfl, a, ns, 6, 97, _, rfl, s6.seq hS, ⟨by decide, by decide⟩, ⟨by decide, by decide⟩, (by show (0 : Int) < _; omega), fun k k0 k1 => ?_⟩
    refine ⟨_, rfl, l, _, _, _, rfl, rfl, SqL.of el6, kbK (j := 0) (v := .ref l0) (by rw [CV, el0]; rfl), l, _, k, _, rfl, rfl, el6, k0, by omega, kau (by rw [Cz]; omega), ?_⟩
    rw [← Sm, ← Ti]
    have el7 : (upd H6 l (.lst ((ls.take k.toNat).map V.ref ++ V.ref l0 :: (ls.drop k.toNat).map V.ref))) l = some (.lst ((ls.take k.toNat ++ l0 :: ls.drop k.toNat).map V.ref)) := by
     rw [kad, CU, C1]
    have hmem : ∀ r ∈ rs.take k.toNat ++ r0 :: rs.drop k.toNat, r ∈ rs := fun r hr => by
     rcases kjo hr with e | e
     ·rw [e]; exact CT er0
     ·exact e
    have hown7 := khZ (rs.take k.toNat ++ r0 :: rs.drop k.toNat) fun r hr => (hok r (hmem r hr)).mn0
    rw [kj8] at hown7
    refine ⟨kaw fl s6 (nx el6), ls.take k.toNat ++ l0 :: ls.drop k.toNat, rs.take k.toNat ++ r0 :: rs.drop k.toNat, el7, P2.ins (hr0.set el6) (Lines.set el6 hL6) k.toNat, ?_, fun r hr => hok r (hmem r hr), fun r hr => hkd r (hmem r hr), by omega, rfl⟩
    have l1 := hL6.len
    rw [C7, Rv, C0, RY]
    omega
   rintro σ H7 ⟨s7, ls', rs', el7, hL7, h12, hok7, hkd7, h64, rfl⟩
   refine ⟨_, rfl, _, rfl, a, ns, 6, 90, rfl, s7.seq hS, ⟨by decide, by decide⟩, ⟨by decide, by decide⟩, fun cg cg0 cg1 => ⟨_, rfl, a, ns, 6, 95, 2, rfl, s7.seq hS, ⟨by decide, by decide⟩, ⟨by decide, by decide⟩, by decide, fun mb mb0 mb1 => ⟨rfl, kkM (SqL.of el7) fun H8 b l' s8 f8 f8' hl' hb => ?_⟩⟩⟩
   exact kk H8 b ⟨rs', cg, _⟩ (s7.trans s8) (s7.free f8) ⟨l', ls', hb, hl', Lines.same s8 hL7⟩ h12 hok7 hkd7 ⟨cg0, cg1⟩ h64
theorem kfq : ∀ (ms : List Nat) (m : Nat) (as : List Int), segs (ms ++ [m]) as = segs ms as ++ [((as.drop ms.sum).take m).sum]
 | [], m, as => by rw [R5, List.sum_nil, Sx]; rfl
 | n :: ms, m, as => by
  show (as.take n).sum :: segs (ms ++ [m]) (as.drop n) = ((as.take n).sum :: segs ms (as.drop n)) ++ _
  rw [kfq ms m, List.drop_drop, Rx, SC]
theorem kia {rs : List Row} {i : Nat} {r : Row} (h : rs[i]? = some r) : mans (rs.take (i + 1)) = mans (rs.take i) ++ [r.mn.toNat] := by
 rw [take_snoc h]
 unfold mans
 rw [CU]
 rfl
theorem kib (rs : List Row) (i : Nat) : (mans (rs.take i)).sum ≤ (mans rs).sum := by
 conv => rhs; rw [← R9 i rs]
 unfold mans
 rw [CU, RH]
 omega
def kiS (d : D) : Sp := fun vs H Q _ => ∃ (b a : Addr) (B : Bask) (as : List Int), vs = [.ref b, .ref a] ∧ BaskIs d.qe d.qh H b B ∧ B.rs.length ≤ 12 ∧ (∀ r ∈ B.rs, r.Ok) ∧ H a = some (.lst (as.map V.int)) ∧ as.length = (ownN B.rs).length ∧ ∀ (H' : Hp) (p : Addr), Same H H' → H p = none → H' p = some (.lst ((segs (mans B.rs) as).map V.int)) → Q (.ref p) H'
theorem qD : kaq ["_law_basket_here", "_law_numbers", "_law_told", "_law_at", "_law_line", "_law_worth_here", "_law_piece"] ["_law_basket_here", "_law_numbers"] (kab kbc) := ⟨rfl, rfl, rfl, by decide +kernel, rfl, by decide +kernel, by decide +kernel⟩
theorem keA (W : WB K mg d base) : FnOk P w K mg base CX0 1 d.YY d.YZ ["_law_basket_here", "_law_numbers"] (kiS d) := by
 refine FunD.ok W.qO.F qD (fun vs H Q E h => ?_) (fun cdv A outer s H vs Q E hr h => ?_)
 ·obtain ⟨b, a, B, as, rfl, _⟩ := h
  rfl
 ·obtain ⟨b, a, B, as, rfl, ⟨l, ls, ⟨dxb, fsb, hb, lbl, lbc, lbm⟩, hl, hL⟩, h12, hok, ha, hla, k⟩ := h
  refine ⟨_, kae (kax (i := 2) qD.nd rfl (Or.inl rfl) (kbG kah))
   (kae (kax (i := 3) qD.nd rfl (Or.inl rfl) kai)
   (kae (kbT PassesOwn.never rfl (kby (kap (pv 0) rfl)) (kas (i := 4) qD.nd rfl (Or.inl rfl))
   (kae (kax (i := 5) qD.nd rfl (Or.inl rfl) kai)
   (kae (kbT PassesOwn.never rfl (kb5 rfl W.B.range (kaa (kap (pv 4) rfl) kah)) (kas (i := 6) qD.nd rfl (Or.inl rfl))
   (kae (kax (i := 5) qD.nd rfl (Or.inl rfl) (pe_op ka1 (pv 5) (pe_ix (r := rIxL K) kbx (pv 1) (pv 3) (fun _ _ => rfl))))
   (kaj (kax (i := 3) qD.nd rfl (Or.inl rfl) (pe_op ka1 (pv 3) kai)))))
   (kaj (kbC (pe_bm Ri Rz RA kbE (pv 2) (kaa (pv 5) kah)))))))
   (kaj (kat (pv 2))))), ?_⟩
  have hll := hL.len
  rw [kgF] at hla
  refine ⟨by decide, fun p fp => ?_⟩
  have n0 := kak (o := .lst []) fp
  have e0 : (upd H p (.lst [])) p = some (.lst ((segs (mans (B.rs.take 0)) as).map V.int)) := kad
  generalize upd H p (.lst []) = H0 at *
  refine ⟨_, rfl, b, d.qh, dxb, fsb, _, rfl, n0 _ _ hb, W.qh.cl, W.n_Basket_lines, lbl, l, rfl, ⟨_, SqL.of (n0 _ _ hl)⟩, kb4 (xs := ls.map V.ref) (fun i σ H' => Same H H' ∧ ∃ (v4 v5 v6 : Option V), H' p = some (.lst ((segs (mans (B.rs.take i)) as).map V.int)) ∧ σ = [some (.ref b), some (.ref a), some (.ref p), some (.int ((mans (B.rs.take i)).sum : Nat)), v4, v5, v6])
   ⟨n0, none, none, none, e0, rfl⟩ (fun i σ H' _ h => SqL.of (h.1 _ _ hl)) ?_ ?_⟩
  ·rintro i y σ H1 hy ⟨s1, v4, v5, v6, ep, rfl⟩
   obtain ⟨lx, el, rfl⟩ := kb0 hy
   have hi : i < B.rs.length := by
    have := at_lt el
    omega
   obtain ⟨r, er⟩ := at_of hi
   have hr' : r.Ok := hok r (CT er)
   obtain ⟨dxl, fsl, hlx, lk1, lk2, lk3, lk4⟩ := hL.get el er
   have hmn0 := hr'.mn0
   have hmn1 := hr'.mn1
   have hm1 := kib B.rs (i + 1)
   have hms := kia er
   rw [hms, RH, ← hla] at hm1
   have hm2 : (mans (B.rs.take i)).sum + r.mn.toNat ≤ as.length := by simpa using hm1
   have ln1 : (segs (mans (B.rs.take i)) as).length ≤ 12 := by
    rw [kcp]
    unfold mans
    rw [Cz, C0]
    omega
   refine ⟨_, rfl, lx, d.qe, dxl, fsl, _, rfl, s1 _ _ hlx, W.qe.cl, W.n_Line_many, lk3, r.mn, rfl, by omega, by omega, kcw (fun j σ H' => H' = H1 ∧ ∃ v6 : Option V, σ = [some (.ref b), some (.ref a), some (.ref p), some (.int (((mans (B.rs.take i)).sum + j : Nat) : Int)), some (.ref lx), some (.int ((as.drop (mans (B.rs.take i)).sum).take j).sum), v6])
    ⟨rfl, v6, rfl⟩ ?_ ?_⟩
   ·rintro j σ H' hj ⟨rfl, v6, rfl⟩
    rw [Int.zero_add]
    have hj' : (mans (B.rs.take i)).sum + j < as.length := by omega
    obtain ⟨z, ez⟩ := at_of hj'
    have ed : (as.drop (mans (B.rs.take i)).sum)[j]? = some z := by rw [List.getElem?_drop]; exact ez
    refine ⟨_, rfl, _, rfl, _, rfl, a, _, _, _, rfl, rfl, SqL.of (s1 _ _ ha), kbK (v := .int z) (by rw [CV, ez]; rfl), _, _, rfl, rfl, ?_⟩
    refine ⟨_, rfl, _, _, rfl, rfl, rfl, some (.int (j : Int)), ?_⟩
    have hs : ((as.drop (mans (B.rs.take i)).sum).take (j + 1)).sum = ((as.drop (mans (B.rs.take i)).sum).take j).sum + z := by
     rw [take_snoc ed, RH]
     simp
    have hn : (((mans (B.rs.take i)).sum + (j + 1) : Nat) : Int) = (((mans (B.rs.take i)).sum + j : Nat) : Int) + 1 := by omega
    rw [hs, hn]
    rfl
   ·rintro σ H' ⟨rfl, v6, rfl⟩
    refine ⟨_, rfl, .inl ⟨rfl, _, SqL.of ep⟩, _, rfl, p, _, _, rfl, rfl, ep, kau (by rw [Cz]; omega), kaw fp s1 (nx ep), some (.ref lx), some (.int ((as.drop (mans (B.rs.take i)).sum).take r.mn.toNat).sum), v6, ?_, ?_⟩
    ·rw [kad, hms, kfq, CU]
     rfl
    ·have hn : (mans (B.rs.take (i + 1))).sum = (mans (B.rs.take i)).sum + r.mn.toNat := by
      rw [hms, RH]
      simp
     rw [hn]
  ·rintro σ H' ⟨s1, v4, v5, v6, ep, rfl⟩
   rw [Cz, hll, Rh] at ep
   exact ⟨_, rfl, k H' p s1 fp ep⟩
def kes (H : Hp) (qs : List Addr) (zss : List (List Int)) : Prop := P2 (fun q (zs : List Int) => H q = some (.lst (zs.map V.int))) qs zss
def kg9 : Sp := fun vs H Q _ => ∃ (x y : Addr) (qs rs : List Addr) (zss : List (List Int)), vs = [.ref x, .ref y] ∧ H x = some (.lst (qs.map V.ref)) ∧ H y = some (.lst (rs.map V.ref)) ∧ kes H qs zss ∧ kes H rs zss ∧ zss.length < 64 ∧ (∀ zs ∈ zss, zs.length ≤ 720) ∧ ∀ H', Same H H' → Q (.bl true) H'
theorem kdo : kaq ["_law_found", "_law_due"] ["_law_found", "_law_due"] (kab kaS) := ⟨rfl, rfl, rfl, by decide +kernel, rfl, by decide +kernel, by decide +kernel⟩
theorem kdx (W : WB K mg d base) : FnOk P w K mg base CX0 3 d.Y0 d.Y1 ["_law_found", "_law_due"] kg9 := by
 refine FunD.ok W.QF.F kdo (fun vs H Q E h => ?_) (fun cdv A outer s H vs Q E hr h => ?_)
 ·obtain ⟨x, y, qs, rs, zss, rfl, _⟩ := h
  rfl
 ·obtain ⟨x, y, qs, rs, zss, rfl, hx, hy, hq, hr1, h64, h720, kk⟩ := h
  have Xu := kck (P := P) (w := w) (base := base) W
  refine ⟨_, kae (ps_if (PW.pt (pw_or (kdD (kbH (kaE kbJ (by rfl) W.B.isi b_isi (kaa (pv 0) (kaa (ke3 (v := .ty "list") (by rfl) W.B.list kcx rfl) kah))))) (keE (kaA op_ne (kaE ka2 (by rfl) W.B.len b_len (kaa (pv 0) kah)) (kaE ka2 (by rfl) W.B.len b_len (kaa (pv 1) kah)) (kaN _))))) (kaj (kat pe_bl)) (kaB))
   (kaj (kat (kaE (kgY rfl) (by rfl) W.B.all b_all (kaa (kbO (N := ["_law_one", "_law_other"]) (CompScope.plain rfl (by decide +kernel) (by decide +kernel) (by decide +kernel) (show (["_law_one", "_law_other"] : List Str).Nodup by decide +kernel)) rfl (kc0 rfl W.B.zip (kaa (pv 0) (kaa (pv 1) kah))) (fun _ _ _ _ => kc1 (K := K) (n := 2) rfl (kaI (kas (i := 0) (show (["_law_one", "_law_other"] : List Str).Nodup by decide +kernel) rfl (Or.inl rfl)) (kaI (kas (i := 1) (show (["_law_one", "_law_other"] : List Str).Nodup by decide +kernel) rfl (Or.inl rfl)) kbR))) (fun _ _ _ _ => (kan Xu hr rfl W.qN.m W.qN.F.kp W.qN.b .nil pass0 (kaa (pv 0) (kaa (pv 1) kah))))) kah)))), ?_⟩
  have l1 := P2.len hq
  have l2 := P2.len hr1
  refine ⟨_, rfl, _, _, _, _, rfl, .inl ⟨_, rfl⟩, TyOf.lst hx, kcs _ _, _, rfl, iteF ?_⟩
  refine ⟨_, rfl, x, _, rfl, .inl (SqL.of hx), _, rfl, y, _, rfl, .inl (SqL.of hy), rfl, _, rfl, ?_⟩
  rw [Cz, Cz, l1, l2]
  rw [show (!decide (V.int ((zss.length : Nat) : Int) = V.int ((zss.length : Nat) : Int))) = false by simp]
  have em : min (qs.map V.ref).length (rs.map V.ref).length = zss.length := by rw [Cz, Cz, l1, l2, RQ]
  refine iteF ⟨_, rfl, _, rfl, x, y, _, _, rfl, hx, hy, kdV (xs := qs.map V.ref) (ys := rs.map V.ref) (fun i σ ws H' => Same H H' ∧ ws = (CI i true).map V.bl ∧ ∃ v0 v1 : Option V, σ = [v0, v1])
   ⟨Same.refl _, rfl, none, none, rfl⟩ (by rw [em]; exact CY (kau (by omega))) (fun i σ ws H' hi h => ⟨h.1 _ _ hx, h.1 _ _ hy, by rw [h.2.1]; simp⟩) ?_ ?_⟩
  ·rintro i y1 y2 t σ ws H' hy1 hy2 ⟨s1, rfl, v0, v1, rfl⟩ ht
   obtain ⟨q, eq, rfl⟩ := kb0 hy1
   obtain ⟨r, er, rfl⟩ := kb0 hy2
   obtain ⟨zs, e1, g1⟩ := P2.at hq eq
   obtain ⟨zs', e2, g2⟩ := P2.at hr1 er
   rw [e1] at e2
   cases e2
   have n2 := kak (o := .tup [V.ref q, V.ref r]) ht
   have s2 := s1.trans n2
   refine ⟨t, _, rfl, SqT.of kad, rfl, _, _, rfl, _, _, rfl, rfl, _, rfl, _, rfl, q, r, zs, rfl, s2 _ _ g1, s2 _ _ g2, h720 zs (CT e1), fun H3 s3 => ⟨s2.trans s3, ?_, _, _, rfl⟩⟩
   rw [Sa, CU]
   rfl
  ·rintro σ ws H' ⟨s1, rfl, v0, v1, rfl⟩ D hD
   rw [em]
   refine ⟨D, CI zss.length true, rfl, SqL.of kad, ?_⟩
   rw [show (CI zss.length true).all id = true by simp]
   exact kk _ (s1.trans (kak hD))
theorem kg3 {T : TillD} {B : Bask} {n : Nat} {ms : List Nat} {S : Stnd} {Vc : Vch} (e : T.vs[n]? = some Vc) : billM T B (n :: ms) S = (⟨n, (cutM Vc T.ps (kds B) S).1, (cutM Vc T.ps (kds B) S).2⟩ :: (billM T B ms (aftM Vc T.ps (kds B) S)).1, (billM T B ms (aftM Vc T.ps (kds B) S)).2) := by
 conv => lhs; unfold billM
 rw [e]
theorem kg2 {T : TillD} {B : Bask} {n : Nat} {ms : List Nat} {S : Stnd} (e : T.vs[n]? = none) : billM T B (n :: ms) S = ([], S) := by
 conv => lhs; unfold billM
 rw [e]
theorem kj1 {α β γ : Type} {R : α → γ → Prop} (f : β → γ) : ∀ {as : List α} {bs : List β}, P2 (fun a b => R a (f b)) as bs → P2 R as (bs.map f)
 | _, _, .nil => .nil
 | _, _, .cons r t => .cons r (kj1 f t)
theorem kfX {T : TillD} {B : Bask} (tok : kdi T) : ∀ (ns : List Nat) (S : Stnd), Wf T.ps B S → (∀ s ∈ (billM T B ns S).1, s.cs.length = S.pr.length) ∧ (billM T B ns S).2.pr.length = S.pr.length ∧ (billM T B ns S).1.length ≤ ns.length
 | [], S, _ => ⟨(fun s h => by cases h), rfl, CC _⟩
 | n :: ms, S, wf => by
  cases e : T.vs[n]? with
  | none => rw [kg2 e]; exact ⟨(fun s h => by cases h), rfl, Rl _⟩
  | some Vc =>
   have vo := tok.vs Vc (CT e)
   have cl := kgX (V := Vc) (ps := T.ps) (kk := kds B) wf.nn wf.cg.1 vo.so fun m e => (vo.ms.most m e).1
   rw [kg3 e]
   have ih := kfX tok ms _ (wf.after vo)
   have la : (aftM Vc T.ps (kds B) S).pr.length = S.pr.length := by
    show (Rb _ _ _).length = _
    rw [Sj, cl.1.1, RQ]
   refine ⟨fun s hs => ?_, ih.2.1.trans la, Nat.succ_le_succ ih.2.2⟩
   rcases C6.mp hs with rfl | hs
   ·exact cl.1.1
   ·exact (ih.1 s hs).trans la
theorem kgT : ∀ (a b : List Int) (l : Nat), a.length = b.length → (Rb (· - ·) a b).getD l 0 = a.getD l 0 - b.getD l 0
 | [], [], l, _ => by simp
 | [], _ :: _, _, h => by cases h
 | _ :: _, [], _, h => by cases h
 | x :: a, y :: b, 0, _ => rfl
 | x :: a, y :: b, l + 1, h => kgT a b l (by simpa using h)
theorem kfW {T : TillD} {B : Bask} (tok : kdi T) (ks : List Nat) (l : Nat) : ∀ (ns : List Nat) (S : Stnd), Wf T.ps B S → (segs ks (billM T B ns S).2.pr).getD l 0 + ((billM T B ns S).1.map fun s => (segs ks s.cs).getD l 0).sum = (segs ks S.pr).getD l 0
 | [], S, _ => Int.add_zero _
 | n :: ms, S, wf => by
  cases e : T.vs[n]? with
  | none => rw [kg2 e]; exact Int.add_zero _
  | some Vc =>
   have vo := tok.vs Vc (CT e)
   have cl := kgX (V := Vc) (ps := T.ps) (kk := kds B) wf.nn wf.cg.1 vo.so fun m e => (vo.ms.most m e).1
   rw [kg3 e]
   have ih := kfW tok ks l ms _ (wf.after vo)
   have ea : (aftM Vc T.ps (kds B) S).pr = Rb (· - ·) S.pr (cutM Vc T.ps (kds B) S).1 := rfl
   rw [ea, kgt _ _ _ cl.1.1.symm, kgT _ _ _ (by rw [kcp, kcp])] at ih
   show (segs ks (billM T B ms (aftM Vc T.ps (kds B) S)).2.pr).getD l 0 + ((segs ks (cutM Vc T.ps (kds B) S).1).getD l 0 :: _).sum = _
   rw [Rx]
   show _ + (_ + ((billM T B ms (aftM Vc T.ps (kds B) S)).1.map fun s => (segs ks s.cs).getD l 0).sum) = _
   omega
def kfm (d : D) : Sp := fun vs H Q _ => ∃ (b bl : Addr) (T : TillD) (B : Bask) (order : List Nat) (H0 : Hp), vs = [.ref b, .ref bl] ∧ BaskIs d.qe d.qh H b B ∧ kdi T ∧ Wf T.ps B (stnd0 B) ∧ BillIs d H0 H bl (kg1 T B order) ∧ order.length < 64 ∧ ∀ H', Same H H' → Q (.bl true) H'
theorem qE : kaq ["_law_basket_here", "_law_bill", "_law_off", "_law_left", "_law_at", "_law_line", "_law_price_here", "_law_row"] ["_law_basket_here", "_law_bill"] (kab kay) := ⟨rfl, rfl, rfl, by decide +kernel, rfl, by decide +kernel, by decide +kernel⟩
theorem kc2 (W : WB K mg d base) : FnOk P w K mg base CX0 6 d.Y2 d.Y3 ["_law_basket_here", "_law_bill"] (kfm d) := by
 refine FunD.ok W.qP.F qE (fun vs H Q E h => ?_) (fun cdv A outer s H vs Q E hr h => ?_)
 ·obtain ⟨b, bl, T, B, order, H0, rfl, _⟩ := h
  rfl
 ·obtain ⟨b, bl, T, B, order, H0, rfl, hB, tok, wf0, hBl, h64, kk⟩ := h
  obtain ⟨l, ls, ⟨dxb, fsb, hb, lbl, lbc, lbm⟩, hl, hL⟩ := id hB
  obtain ⟨dx, fs, o, sp, pp, sa, hb1, h2, h3, h4, h5, h6, f1, f2, f3, f4, h7, h8, h9, h10⟩ := id hBl
  have VJ := kfB (P := P) (w := w) (base := base) W
  have VL := kez (P := P) (w := w) (base := base) W
  have VM := kdx (P := P) (w := w) (base := base) W
  have ZA := keA (P := P) (w := w) (base := base) W
  have Xu := kck (P := P) (w := w) (base := base) W
  have hr1 : Room 1 _ := hr.mono (by decide)
  have hr2 : Room 2 _ := hr.mono (by decide)
  have hr3 : Room 3 _ := hr.mono (by decide)
  refine ⟨_, kae (kax (i := 2) qE.nd rfl (Or.inl rfl) (kan VJ hr rfl W.Qr.m W.Qr.F.kp W.Qr.b .nil pass0 (kaa (pv 0) (kaa (pv 1) kah))))
   (kae (kax (i := 3) qE.nd rfl (Or.inl rfl) (kan VL hr rfl W.Qs.m W.Qs.F.kp W.Qs.b .nil pass0 (kaa (pv 0) (kaa (pv 1) kah))))
   (kae (ps_if (kdD (kbH (kan VM hr3 rfl W.QF.m W.QF.F.kp W.QF.b .nil pass0 (kaa (pv 2) (kaa (kbO (N := ["_law_step", "_law_basket_here"]) (CompScope.of (N := ["_law_step", "_law_basket_here"]) (cap := [none, some 0]) (kab kay).names ["_law_basket_here", "_law_bill", "_law_off", "_law_left", "_law_at", "_law_line", "_law_price_here", "_law_row"] rfl rfl (by decide +kernel)) rfl (kby (kap (pv 1) rfl)) (fun _ _ _ _ => kas (i := 0) (show (["_law_step", "_law_basket_here"] : List Str).Nodup by decide +kernel) rfl (Or.inl rfl)) (fun _ _ _ _ => (kan ZA hr1 rfl W.qO.m W.qO.F.kp W.qO.b .nil pass0 (kaa (pv 1) (kaa (pe_ix (r := rIxT K) kgQ (pv 0) kai (fun _ _ => rfl)) kah))))) kah))))) (kaj (kat pe_bl)) (kaB))
   (kae (ps_if (PW.pt (pw_or (kdD (kbH (kan Xu hr2 rfl W.qN.m W.qN.F.kp W.qN.b .nil pass0 (kaa (pv 3) (kaa (kan ZA hr1 rfl W.qO.m W.qO.F.kp W.qO.b .nil pass0 (kaa (pv 0) (kaa (kap (pv 1) rfl) kah))) kah))))) (keE (kaA op_ne (pe_op ka1 (kaE (kct rfl) (by rfl) W.B.sum b_sum (kaa (pv 3) kah)) (kap (pv 1) rfl)) (kap (pv 1) rfl) (kaN _))))) (kaj (kat pe_bl)) (kaB))
   (kae (kbT PassesOwn.never rfl (kf6 rfl W.B.enum (kaa (kap (pv 0) rfl) kah)) (kcR rfl (kaI (kas (i := 4) qE.nd rfl (Or.inr rfl)) (kaI (kas (i := 5) qE.nd rfl (Or.inl rfl)) kbR)))
   (kae (kax (i := 6) qE.nd rfl (Or.inl rfl) (kap (pv 5) rfl))
   (kae (kcQ (ps_if (PW.pt (kch (kbH (kap (pv 0) rfl)) (kcc (kaA kcF (kap (pv 5) rfl) kbN (kaN _))))) (kaj (kax (i := 6) qE.nd rfl (Or.inl rfl) (kap (pv 5) rfl))) (kaB)))
   (kaj (ps_if (kaA op_ne (pe_op ka1 (pe_ix (r := rIxL K) kbx (pv 3) (pv 4) (fun _ _ => rfl)) (kaE (kct rfl) (by rfl) W.B.sum b_sum (kaa (kbO (N := ["_law_row", "_law_at"]) (CompScope.of (N := ["_law_row", "_law_at"]) (cap := [none, some 4]) (kab kay).names ["_law_basket_here", "_law_bill", "_law_off", "_law_left", "_law_at", "_law_line", "_law_price_here", "_law_row"] rfl rfl (by decide +kernel)) rfl (kby (pv 2)) (fun _ _ _ _ => kas (i := 0) (show (["_law_row", "_law_at"] : List Str).Nodup by decide +kernel) rfl (Or.inl rfl)) (fun _ _ _ _ => (pe_ix (r := rIxL K) kbx (pv 0) (pv 1) (fun _ _ => rfl)))) kah))) (pe_op kcf (pv 6) (kap (pv 5) rfl)) (kaN _)) (kaj (kat pe_bl)) (kaB))))))
   (kae (kbT PassesOwn.never rfl (kby (pv 2)) (kas (i := 7) qE.nd rfl (Or.inl rfl))
   (kaj (kbC (pe_bm Ri Rz RA kbE (pv 7) (kaa kai kah)))))
   (kae (kbC (pe_bm Ri Rz RA kbE (pv 2) (kaa kbN kah)))
   (kae (kbC (pe_bm Ri Rz RA kbE (pv 3) (kaa kai kah)))
   (kaj (kat pe_bl))))))))), ?_⟩
  have hll := hL.len
  have h12 := wf0.nl
  have hok := wf0.ok
  have lens := kfX tok order (stnd0 B) wf0
  have sgs := fun l => kfW tok (mans B.rs) l order (stnd0 B) wf0
  have l0 : (stnd0 B).pr.length = (ownN B.rs).length := wf0.lp
  have h720 : (ownN B.rs).length ≤ 720 := wf0.np
  generalize eR : billM T B order (stnd0 B) = R at *
  have eD : kg1 T B order = ⟨order, R.1, R.2.pr, R.2.cg, R.2.pr.sum + R.2.cg⟩ := by rw [← eR]; rfl
  rw [eD] at h5 h6 h9 h10 hBl
  have lsa : sa.length = R.1.length := h9.len
  have lst' : R.1.length < 64 := by omega
  have hcs : ∀ s ∈ R.1, s.cs.length = (ownN B.rs).length := fun s hs => (lens.1 s hs).trans l0
  have hpr : R.2.pr.length = (ownN B.rs).length := lens.2.1.trans l0
  refine ⟨_, rfl, _, rfl, b, bl, B, ⟨order, R.1, R.2.pr, R.2.cg, R.2.pr.sum + R.2.cg⟩, H0, rfl, hB, h12, hok, h720, hBl, hcs, lst', fun H1 p qs s1 fp np fq ep hq => ?_⟩
  refine ⟨_, rfl, _, rfl, b, bl, B, ⟨order, R.1, R.2.pr, R.2.cg, R.2.pr.sum + R.2.cg⟩, H0, rfl, hB.same s1, h12, hok, h720, hBl.same s1, hpr, fun H2 lf s2 flf elf => ?_⟩
  have s12 := s1.trans s2
  have lq : qs.length = R.1.length := hq.len
  refine ⟨_, rfl, _, rfl, bl, d.qi, dx, fs, _, rfl, s12 _ _ hb1, W.qi.cl, W.n_Bill_steps, h3, sp, rfl, ⟨_, SqL.of (s12 _ _ h8)⟩, kbF (xs := sa.map V.ref) (fun i σ ys H' => Same H2 H' ∧ ∃ (rs : List Addr) (v0 : Option V), ys = rs.map V.ref ∧ kes H' rs ((R.1.take i).map fun s => segs (mans B.rs) s.cs) ∧ σ = [v0, some (.ref b)])
   ⟨Same.refl _, [], none, rfl, .nil, rfl⟩ (by rw [Cz, lsa]; exact CY (kau (by omega))) ?_ ?_ ?_⟩
  ·rintro i σ ys H' hi ⟨s3, rs, v0, rfl, hrs, rfl⟩
   exact ⟨SqL.of (s3 _ _ (s12 _ _ h8)), by have := P2.len hrs; rw [Cz, this, Cz, C0]; rw [Cz, lsa] at hi; omega⟩
  ·rintro i y σ ys H' hy ⟨s3, rs, v0, rfl, hrs, rfl⟩
   obtain ⟨a, ea, rfl⟩ := kb0 hy
   obtain ⟨s, es, _, lc, _, hga, hlc⟩ := h9.at ea
   have s13 := s12.trans s3
   refine ⟨_, rfl, _, rfl, a, _, _, _, rfl, rfl, SqT.of (s13 _ _ hga), rfl, b, lc, B, s.cs, rfl, hB.same s13, h12, hok, s13 _ _ hlc, hcs s (CT es), fun H4 q s4 f4 e4 => ⟨s3.trans s4, rs ++ [q], _, by rw [CU]; rfl, ?_, rfl⟩⟩
   rw [take_snoc es, CU]
   exact P2.snoc (P2.mono hrs fun q zs e => s4 _ _ e) e4
  ·rintro σ ys H3 ⟨s3, rs, v0, rfl, hrs, rfl⟩ D hD
   rw [Cz, lsa, Rh] at hrs
   have n4 := kak (o := .lst (rs.map V.ref)) hD
   have eD4 : (upd H3 D (.lst (rs.map V.ref))) D = some (.lst (rs.map V.ref)) := kad
   have hrs4 : kes (upd H3 D (.lst (rs.map V.ref))) rs (R.1.map fun s => segs (mans B.rs) s.cs) := P2.mono hrs fun q zs e => n4 _ _ e
   generalize upd H3 D (.lst (rs.map V.ref)) = H4 at *
   have s24 := s3.trans n4
   have s14 := s2.trans s24
   have hq4 : kes H4 qs (R.1.map fun s => segs (mans B.rs) s.cs) := by
    exact kj1 (R := fun q (zs : List Int) => H4 q = some (.lst (zs.map V.int))) (fun s : Step => segs (mans B.rs) s.cs) (hq.mono fun q s e => s14 _ _ e)
   have hls : ∀ zs ∈ R.1.map (fun s => segs (mans B.rs) s.cs), zs.length ≤ 12 := fun zs hz => by
    obtain ⟨s, _, rfl⟩ := C4.mp hz
    rw [kcp]
    unfold mans
    rw [Cz]
    exact h12
   refine ⟨p, D, qs, rs, _, rfl, s14 _ _ ep, eD4, hq4, hrs4, by rw [Cz]; omega, fun zs hz => by have := hls zs hz; omega, fun H5 s5 => ⟨_, rfl, iteF ?_⟩⟩
   have s05 := (s12.trans s24).trans s5
   have ehp : (segs (mans B.rs) R.2.pr).length ≤ 720 := by
    rw [kcp]
    unfold mans
    rw [Cz]
    omega
   refine ⟨_, rfl, _, rfl, _, rfl, bl, d.qi, dx, fs, _, rfl, s05 _ _ hb1, W.qi.cl, W.n_Bill_prices, h4, b, pp, B, R.2.pr, rfl, hB.same s05, h12, hok, s05 _ _ h10, hpr, fun H6 q6 s6 f6 e6 => ?_⟩
   have s26 := (s24.trans s5).trans s6
   refine ⟨lf, q6, segs (mans B.rs) R.2.pr, rfl, s26 _ _ elf, e6, ehp, fun H7 s7 => ⟨_, rfl, iteF ?_⟩⟩
   have s27 := s26.trans s7
   have s07 := s12.trans s27
   refine ⟨_, rfl, lf, _, rfl, SqL.of (s27 _ _ elf), _, rfl, bl, d.qi, dx, fs, _, rfl, s07 _ _ hb1, W.qi.cl, W.n_Bill_carriage, h5, _, _, rfl, rfl, _, rfl, bl, d.qi, dx, fs, _, rfl, s07 _ _ hb1, W.qi.cl, W.n_Bill_total, h6, rfl, _, rfl, ?_⟩
   rw [kgs _ _ (by rw [hpr, kgF]; exact CC _)]
   rw [show (!decide (V.int (R.2.pr.sum + R.2.cg) = V.int (R.2.pr.sum + R.2.cg))) = false by simp]
   refine iteF ?_
   have hb7 := s07 _ _ hb
   have hl7 := s07 _ _ hl
   have elf7 := s27 _ _ elf
   have ep7 := (s2.trans s27) _ _ ep
   have hq7 : kes H7 qs (R.1.map fun s => segs (mans B.rs) s.cs) := P2.mono hq4 fun q zs e => ((s5.trans s6).trans s7) _ _ e
   have lqq : qs.length = R.1.length := lq
   refine ⟨_, rfl, b, d.qh, dxb, fsb, _, rfl, hb7, W.qh.cl, W.n_Basket_lines, lbl, l, _, rfl, hl7, kgU (xs := ls.map V.ref) (fun i σ H' => Same H7 H' ∧ ∃ v4 v5 v6 v7 : Option V, σ = [some (.ref b), some (.ref bl), some (.ref p), some (.ref lf), v4, v5, v6, v7])
    ⟨Same.refl _, none, none, none, none, rfl⟩ (fun i σ H' _ h => h.1 _ _ hl7) ?_ ?_⟩
   ·rintro i y t σ H8 hy ⟨s8, v4, v5, v6, v7, rfl⟩ ht
    obtain ⟨lx, el, rfl⟩ := kb0 hy
    have hi : i < B.rs.length := by
     have := at_lt el
     omega
    obtain ⟨r, er⟩ := at_of hi
    have hr' : r.Ok := hok r (CT er)
    obtain ⟨dxl, fsl, hlx, lk1, lk2, lk3, lk4⟩ := hL.get el er
    have n9 := kak (o := .tup [V.int (i : Nat), V.ref lx]) ht
    have u9 : (upd H8 t (.tup [V.int (i : Nat), V.ref lx])) t = some (.tup [V.int (i : Nat), V.ref lx]) := kad
    refine ⟨t, _, rfl, SqT.of u9, rfl, _, _, rfl, _, _, rfl, rfl, ?_⟩
    have s79 := s8.trans n9
    generalize upd H8 t (.tup [V.int (i : Nat), V.ref lx]) = H9 at *
    have s09 := s07.trans s79
    refine ⟨_, rfl, lx, d.qe, dxl, fsl, _, rfl, s09 _ _ hlx, W.qe.cl, W.n_Line_price, lk2, ?_⟩
    refine ⟨fun σ H' => H' = H9 ∧ σ = [some (.ref b), some (.ref bl), some (.ref p), some (.ref lf), some (.int (i : Nat)), some (.ref lx), some (.int (prc B.m r)), v7], ?_, ?_⟩
    ·refine ⟨_, rfl, b, d.qh, dxb, fsb, _, rfl, s09 _ _ hb, W.qh.cl, W.n_Basket_member, lbm, _, rfl, ?_⟩
     cases em : B.m with
     | false => exact iteF (iteF ⟨rfl, rfl⟩)
     | true =>
      refine iteT ⟨_, rfl, lx, d.qe, dxl, fsl, _, rfl, s09 _ _ hlx, W.qe.cl, W.n_Line_special, lk4, rfl, _, rfl, ?_⟩
      cases e : r.ex with
      | none =>
       show if (!decide (V.non = V.non)) = true then _ else _
       rw [show (!decide (V.non = V.non)) = false by simp]
       refine iteF ⟨rfl, ?_⟩
       rw [show prc true r = r.pr by unfold prc; rw [if_pos rfl, e]; rfl]
       rfl
      | some z =>
       show if (!decide (V.int z = V.non)) = true then _ else _
       rw [show (!decide (V.int z = V.non)) = true by simp]
       rw [e] at lk4
       have lk5 : fsl.lookup ("special" : Str) = some (V.int z) := lk4
       refine iteT ⟨_, rfl, lx, d.qe, dxl, fsl, _, rfl, s09 _ _ hlx, W.qe.cl, W.n_Line_special, lk5, rfl, ?_⟩
       rw [show prc true r = z by unfold prc; rw [if_pos rfl, e]; rfl]
       rfl
    ·rintro σ H' ⟨rfl, rfl⟩
     have lsg : ∀ xs : List Int, (segs (mans B.rs) xs).length = B.rs.length := fun xs => by
      rw [kcp]
      unfold mans
      rw [Cz]
     have gat : ∀ xs : List Int, (segs (mans B.rs) xs)[i]? = some ((segs (mans B.rs) xs).getD i 0) := fun xs => by
      rw [C5, RK (by rw [lsg]; exact hi)]
      rfl
     refine ⟨_, rfl, _, rfl, lf, _, _, _, rfl, rfl, SqL.of (s79 _ _ elf7), kbK (v := .int ((segs (mans B.rs) R.2.pr).getD i 0)) (by rw [CV, gat]; rfl), ?_⟩
     refine ⟨_, rfl, p, rfl, ⟨_, SqL.of (s79 _ _ ep7)⟩, kbF (xs := qs.map V.ref) (fun m σ ys H'' => H'' = H' ∧ ys = ((R.1.take m).map fun s => (segs (mans B.rs) s.cs).getD i 0).map V.int ∧ ∃ v, σ = [v, some (.int (i : Nat))]) ⟨rfl, rfl, none, rfl⟩ (by rw [Cz, lqq]; exact CY (kau (by omega))) ?_ ?_ ?_⟩
     ·rintro m σ ys H'' hm ⟨rfl, rfl, _⟩
      exact ⟨SqL.of (s79 _ _ ep7), by rw [Cz, Cz, C0]; rw [Cz, lqq] at hm; omega⟩
     ·rintro m y σ ys H'' hy' ⟨rfl, rfl, v, rfl⟩
      obtain ⟨q, eq, rfl⟩ := kb0 hy'
      obtain ⟨zs, ez, hz⟩ := P2.at hq7 eq
      rw [CV] at ez
      obtain ⟨sx, esx, rfl⟩ : ∃ sx, R.1[m]? = some sx ∧ zs = segs (mans B.rs) sx.cs := by
       cases e : R.1[m]? with
       | none => rw [e] at ez; cases ez
       | some sx => rw [e] at ez; exact ⟨sx, rfl, (Option.some.inj ez).symm⟩
      refine ⟨_, rfl, _, rfl, q, _, _, _, rfl, rfl, SqL.of (s79 _ _ hz), kbK (v := .int ((segs (mans B.rs) sx.cs).getD i 0)) (by rw [CV, gat]; rfl), rfl, ?_, _, rfl⟩
      rw [take_snoc esx, CU, CU]
      rfl
     ·rintro σ ys H'' ⟨rfl, rfl, v, rfl⟩ D hD
      rw [Cz, lqq, Rh]
      have n10 := kak (o := .lst ((R.1.map fun s => (segs (mans B.rs) s.cs).getD i 0).map V.int)) hD
      have u10 : (upd H'' D (.lst ((R.1.map fun s => (segs (mans B.rs) s.cs).getD i 0).map V.int))) D = some (.lst ((R.1.map fun s => (segs (mans B.rs) s.cs).getD i 0).map V.int)) := kad
      generalize upd H'' D (.lst ((R.1.map fun s => (segs (mans B.rs) s.cs).getD i 0).map V.int)) = H10 at *
      have hmn0 := hr'.mn0
      have hmn1 := hr'.mn1
      refine ⟨D, _, rfl, SqL.of u10, _, _, rfl, rfl, _, rfl, _, rfl, lx, d.qe, dxl, fsl, _, rfl, (s09.trans n10) _ _ hlx, W.qe.cl, W.n_Line_many, lk3, _, _, rfl, rfl, .inr ⟨by omega, by omega⟩, rfl, _, rfl, ?_⟩
      have hsum : (segs (mans B.rs) R.2.pr).getD i 0 + (R.1.map fun s => (segs (mans B.rs) s.cs).getD i 0).sum = prc B.m r * r.mn := by
       rw [sgs i]
       show (segs (mans B.rs) (prs B.m B.rs)).getD i 0 = _
       rw [kgu _ _ hok, C5, CV, er]
       rfl
      show if (!decide (V.int ((segs (mans B.rs) R.2.pr).getD i 0 + (R.1.map fun s => (segs (mans B.rs) s.cs).getD i 0).sum) = V.int (prc B.m r * r.mn))) = true then _ else _
      rw [hsum, show (!decide (V.int (prc B.m r * r.mn) = V.int (prc B.m r * r.mn))) = false by simp]
      exact iteF ⟨s79.trans n10, _, _, _, _, rfl⟩
   ·rintro σ H8 ⟨s8, v4, v5, v6, v7, rfl⟩
    have ep8 := s8 _ _ ep7
    have elf8 := s8 _ _ elf7
    have s28 := s27.trans s8
    have s08 := s07.trans s8
    have hq8 : kes H8 qs (R.1.map fun s => segs (mans B.rs) s.cs) := P2.mono hq7 fun q zs e => s8 _ _ e
    have nlp : lf ≠ p := (kal ep flf).symm
    have flf0 : H lf = none := s1.free flf
    refine ⟨_, rfl, p, rfl, ⟨_, SqL.of ep8⟩, kb4 (xs := qs.map V.ref) (fun i σ H' => Same H H' ∧ H' p = some (.lst (qs.map V.ref)) ∧ (∃ zs : List V, H' lf = some (.lst zs) ∧ zs.length ≤ 100) ∧ (∀ q ∈ qs, ∃ zs : List V, H' q = some (.lst zs) ∧ zs.length ≤ 12 + i) ∧ ∃ v4 v5 v6 v7 : Option V, σ = [some (.ref b), some (.ref bl), some (.ref p), some (.ref lf), v4, v5, v6, v7])
     ⟨s08, ep8, ⟨_, elf8, by rw [Cz, kcp]; unfold mans; rw [Cz]; omega⟩, fun q hq' => ?_, v4, v5, v6, v7, rfl⟩ (fun i σ H' _ h => SqL.of h.2.1) ?_ ?_⟩
    ·obtain ⟨m, em⟩ := RU.mp hq'
     obtain ⟨zs, ez, hz⟩ := P2.at hq8 em
     refine ⟨_, hz, ?_⟩
     have := hls zs (CT ez)
     rw [Cz]
     omega
    ·rintro i y σ H9 hy ⟨s9, ep9, hlf9, hq9, v4, v5, v6, v7, rfl⟩
     obtain ⟨q, eq, rfl⟩ := kb0 hy
     have hmq := CT eq
     obtain ⟨zs, hz, lz⟩ := hq9 q hmq
     have hi64 : i < 64 := by
      have := at_lt eq
      omega
     have npq : p ≠ q := fun e => np (e ▸ hmq)
     refine ⟨_, rfl, .inl ⟨rfl, _, SqL.of hz⟩, q, _, _, rfl, rfl, hz, kau (by omega), kaw (fq q hmq) s9 (nx hz), ?_, ?_, fun q' hq' => ?_, _, _, _, _, rfl⟩
     ·rw [kam npq]
      exact ep9
     ·obtain ⟨z2, hz2, lz2⟩ := hlf9
      by_cases e : lf = q
      ·subst e
       exact ⟨_, kad, by rw [C7]; simp; omega⟩
      ·exact ⟨z2, by rw [kam e]; exact hz2, lz2⟩
     ·by_cases e : q' = q
      ·subst e
       exact ⟨_, kad, by rw [C7]; simp; omega⟩
      ·obtain ⟨z2, hz2, lz2⟩ := hq9 q' hq'
       exact ⟨z2, by rw [kam e]; exact hz2, by omega⟩
    ·rintro σ H9 ⟨s9, ep9, ⟨z9, hz9, lz9⟩, hq9, v4, v5, v6, v7, rfl⟩
     refine ⟨_, rfl, .inl ⟨rfl, _, SqL.of ep9⟩, p, _, _, rfl, rfl, ep9, kau (by rw [Cz]; omega), ?_⟩
     have s10 : Same H (upd H9 p (.lst (qs.map V.ref ++ [V.non]))) := kaw fp s9 (nx ep9)
     have hz10 : (upd H9 p (.lst (qs.map V.ref ++ [V.non]))) lf = some (.lst z9) := by
      rw [kam nlp]
      exact hz9
     generalize upd H9 p (.lst (qs.map V.ref ++ [V.non])) = H10 at *
     refine ⟨_, rfl, .inl ⟨rfl, _, SqL.of hz10⟩, lf, _, _, rfl, rfl, hz10, kau (by omega), ?_⟩
     exact kk _ (kaw flf0 s10 (nx hz10))
theorem qF : kaq ["_law_script", "_law_parents_here", "_law_basket_here", "_law_till_here", "_law_hand_here", "_law_turn", "_law_order_here", "_law_bill"] ["_law_script"] (kab s_law) := ⟨rfl, rfl, rfl, by decide +kernel, rfl, by decide +kernel, by decide +kernel⟩
theorem kll (W : WB K mg d base) : FnOk P w K mg base CX0 11 d.f_law d.Y4 ["_law_script"] (kfn K d.tP_falling_groups) := by
 refine FunD.ok W.d_law.F qF (fun vs H Q E h => ?_) (fun cdv A outer s H vs Q E hr h => ?_)
 ·obtain ⟨a, ns, rfl, _⟩ := h
  rfl
 ·obtain ⟨a, ns, rfl, hS, hn, htb0, k⟩ := h
  have VN := ked (P := P) (w := w) (base := base) W
  have VO := keB (P := P) (w := w) (base := base) W
  have VP := kfD (P := P) (w := w) (base := base) W
  have VQ := kfE (P := P) (w := w) (base := base) W
  have VR := ke8 (P := P) (w := w) (base := base) W
  have VS := kh4 (P := P) (w := w) (base := base) W
  have ZC := kc2 (P := P) (w := w) (base := base) W
  have hr3 : Room 3 _ := hr.mono (by decide)
  have hr4 : Room 4 _ := hr.mono (by decide)
  have hr6 : Room 6 _ := hr.mono (by decide)
  have hr7 : Room 7 _ := hr.mono (by decide)
  have hr9 : Room 9 _ := hr.mono (by decide)
  refine ⟨_, kae (kax (i := 1) qF.nd rfl (Or.inl rfl) (kan VN hr3 rfl W.Qu.m W.Qu.F.kp W.Qu.b .nil pass0 (kaa (pv 0) kah)))
   (kae (kax (i := 2) qF.nd rfl (Or.inl rfl) (kan VO hr4 rfl W.Qv.m W.Qv.F.kp W.Qv.b .nil pass0 (kaa (pv 0) (kaa (kaE ka2 (by rfl) W.B.len b_len (kaa (pv 1) kah)) kah))))
   (kae (kax (i := 3) qF.nd rfl (Or.inl rfl) (kan VP hr7 rfl W.QA.m W.QA.F.kp W.QA.b .nil pass0 (kaa (pv 0) (kaa (pv 1) (kaa (pv 2) (kaa kce kah))))))
   (kae (kax (i := 4) qF.nd rfl (Or.inl rfl) (kan VQ hr3 rfl W.QB.m W.QB.F.kp W.QB.b .nil pass0 (kaa (pv 0) (kaa (kaE ka2 (by rfl) W.B.len b_len (kaa (kap (pv 3) rfl) kah)) kah))))
   (kae (kbT PassesOwn.never rfl (kb5 rfl W.B.range (kaa kai kah)) (kas (i := 5) qF.nd rfl (Or.inl rfl))
   (kae (kax (i := 6) qF.nd rfl (Or.inl rfl) (kan VR hr rfl W.QD.m W.QD.F.kp W.QD.b .nil pass0 (kaa (pv 0) (kaa (pe_op ka1 kai (pe_op kcf kai (pv 5))) (kaa (pv 3) (kaa (pv 2) (kaa (pv 4) kah)))))))
   (kae (kax (i := 7) qF.nd rfl (Or.inl rfl) (kan VS hr9 rfl W.Qq.m W.Qq.F.kp W.Qq.b .nil pass0 (kaa (pv 3) (kaa (pv 2) (kaa (pv 4) (kaa (pv 6) kah))))))
   (kaj (ps_if (PW.pt (pw_or (kdD (kbH (kan ZC hr6 rfl W.qP.m W.qP.F.kp W.qP.b .nil pass0 (kaa (pv 2) (kaa (pv 7) kah))))) (keE (kdD (kbH (kan ZC hr6 rfl W.qP.m W.qP.F.kp W.qP.b .nil pass0 (kaa (pv 2) (kaa (pv 7) kah)))))))) (kaj (kat pe_bl)) (kaB))))))
   (kaj (kat pe_bl)))))), ?_⟩
  refine ⟨_, rfl, a, ns, rfl, hS, fun H1 p ps s1 f1 hp hg hl20 hl0 => ?_⟩
  refine ⟨_, rfl, _, rfl, p, _, rfl, .inl (SqL.of hp), a, ns, ps.length, (by rw [Cz]; rfl), s1.seq hS, hl0, fun H2 b B s2 f2 hb hB12 hBok hBkd hBc hB64 => ?_⟩
  have wf0 := Wf.start hg hl20 hBkd hBok hB12 hBc hB64
  have s02 := s1.trans s2
  refine ⟨_, rfl, _, rfl, _, rfl, a, p, b, ns, ps, B, _, rfl, s02.seq hS, s2 _ _ hp, hl0, hb, hB12, hBok, Tbs.same s02 htb0, fun H3 t vs rs s3 f3 hT tok hv0 => ?_⟩
  have s03 := s02.trans s3
  obtain ⟨dxt, fst, tp, vl, rl, va, ra, ht, t1, t2, t3, t4, htp, hvl, hva, hrl, hra⟩ := id hT
  have lva := hva.len
  have lvs : vs.length ≤ 8 := tok.nv
  refine ⟨_, rfl, _, rfl, t, d.qf, dxt, fst, _, rfl, ht, W.qf.cl, W.n_Till_vouchers, t2, vl, _, rfl, .inl (SqL.of hvl), a, ns, vs.length, (by rw [Cz, lva]; rfl), s03.seq hS, lvs, fun H4 h hand s4 f4 hh hhl => ?_⟩
  have s04 := s03.trans s4
  generalize eT : (⟨ps, vs, rs, _⟩ : TillD) = T at *
  have eps : ps = T.ps := by rw [← eT]
  have evs : vs = T.vs := by rw [← eT]
  subst eps evs
  have hT4 := hT.same s4
  have hb4 := (hb.same s3).same s4
  refine ⟨_, rfl, by decide, by decide, kcw (fun i σ H' => Same H4 H' ∧ ∃ v5 v6 v7 : Option V, σ = [some (.ref a), some (.ref p), some (.ref b), some (.ref t), some (.ref h), v5, v6, v7])
   ⟨Same.refl _, none, none, none, rfl⟩ ?_ ?_⟩
  ·rintro i σ Hi hi ⟨sI, v5, v6, v7, rfl⟩
   have hi3 : i < 3 := hi
   rw [Int.zero_add]
   have s0i := s04.trans sI
   refine ⟨_, rfl, _, rfl, _, _, rfl, rfl, .inl ⟨by decide, by decide⟩, _, _, rfl, rfl, _, rfl, _, rfl, _, rfl, a, t, b, h, ns, 8 + 8 * (i : Int), T, B, hand, rfl, s0i.seq hS, ⟨by omega, by omega⟩, hT4.same sI, tok, hv0, hb4.same sI, wf0, sI _ _ hh, hhl, fun H6 o order s6 fo eo hlt h8 hfn => ?_⟩
   have sI6 := sI.trans s6
   refine ⟨_, rfl, _, rfl, _, rfl, _, rfl, t, b, h, o, T, B, hand, order, rfl, hT4.same sI6, tok, hb4.same sI6, wf0, sI6 _ _ hh, eo, hhl, hlt, by omega, hfn, fun H0 H7 bl z0 z7 hBl => ?_⟩
   have s7 := sI6.trans (z0.trans z7)
   refine ⟨_, rfl, _, rfl, b, bl, T, B, order, H0, rfl, hb4.same s7, tok, wf0, hBl, by omega, fun H8 s8 => ⟨_, rfl, iteF ?_⟩⟩
   refine ⟨_, rfl, _, rfl, b, bl, T, B, order, H0, rfl, hb4.same (s7.trans s8), tok, wf0, hBl.same s8, by omega, fun H9 s9 => ⟨_, rfl, iteF ?_⟩⟩
   exact ⟨(s7.trans s8).trans s9, _, _, _, rfl⟩
  ·rintro σ Hi ⟨sI, v5, v6, v7, rfl⟩
   exact k _
end
end Vs
namespace Vs
open PySem L2
theorem ln0 {C : List Value → Prop} (k : C []) : ∀ us : List Value, us.length = 0 → C us := fun us h => by
  cases us with
  | nil => exact k
  | cons a us => cases h
theorem lnS {C : List Value → Prop} {n : Nat} (k : ∀ (a : Value) (us : List Value), us.length = n → C (a :: us)) : ∀ us : List Value, us.length = n + 1 → C us := fun us h => by
  cases us with
  | nil => cases h
  | cons a us => exact k a us (Nat.succ.inj h)
theorem nL1 {C : List Value → Prop} (k : ∀ a0 : Value, C [a0]) : ∀ us : List Value, us.length = 1 → C us := lnS fun a0 => ln0 (k a0)
theorem nL2 {C : List Value → Prop} (k : ∀ a0 a1 : Value, C [a0, a1]) : ∀ us : List Value, us.length = 2 → C us := lnS fun a0 => lnS fun a1 => ln0 (k a0 a1)
theorem nL3 {C : List Value → Prop} (k : ∀ a0 a1 a2 : Value, C [a0, a1, a2]) : ∀ us : List Value, us.length = 3 → C us := lnS fun a0 => lnS fun a1 => lnS fun a2 => ln0 (k a0 a1 a2)
theorem nL4 {C : List Value → Prop} (k : ∀ a0 a1 a2 a3 : Value, C [a0, a1, a2, a3]) : ∀ us : List Value, us.length = 4 → C us := lnS fun a0 => lnS fun a1 => lnS fun a2 => lnS fun a3 => ln0 (k a0 a1 a2 a3)
theorem nL5 {C : List Value → Prop} (k : ∀ a0 a1 a2 a3 a4 : Value, C [a0, a1, a2, a3, a4]) : ∀ us : List Value, us.length = 5 → C us := lnS fun a0 => lnS fun a1 => lnS fun a2 => lnS fun a3 => lnS fun a4 => ln0 (k a0 a1 a2 a3 a4)
theorem nL6 {C : List Value → Prop} (k : ∀ a0 a1 a2 a3 a4 a5 : Value, C [a0, a1, a2, a3, a4, a5]) : ∀ us : List Value, us.length = 6 → C us := lnS fun a0 => lnS fun a1 => lnS fun a2 => lnS fun a3 => lnS fun a4 => lnS fun a5 => ln0 (k a0 a1 a2 a3 a4 a5)
theorem nL7 {C : List Value → Prop} (k : ∀ a0 a1 a2 a3 a4 a5 a6 : Value, C [a0, a1, a2, a3, a4, a5, a6]) : ∀ us : List Value, us.length = 7 → C us := lnS fun a0 => lnS fun a1 => lnS fun a2 => lnS fun a3 => lnS fun a4 => lnS fun a5 => lnS fun a6 => ln0 (k a0 a1 a2 a3 a4 a5 a6)
theorem all_mk {l : PySem.W.OpenLaw} {w : World} {K : CA} {h : Heap} {mg : Str → Option Value} {fa zg6 zh9 z2q zi8 zo1 z9o zo2 zhm z29 z1z z63 z2s z2p z3e z9l z3o zcm zi0 zdf z3q z4b z4f z1y zda z9q z5u z4g z48 z9m z8e z4k z6u z6i z86 z4h z8k z89 z9k z9r z88 z81 z2h z1i z5n z2k z1h zp9 zk z44 zl zf zy z21 zs z8o z8p ze z42 z28 za z1q z1r zc z3a z36 zb z1n z1j zw z64 z5y zj z39 z1k zd z1o z1b zx z8r z22 z43 z1l zr z6c zv z5p z6x zu zi : Addr} {zyx zix zyw zjc ze3 z4z zyc zj2 y10l zop zr2 zbu y10j zpx zza zkv zep z59 zdh z3v zm2 z93 zeh z5l zec z5m zg4 z6n zrp zbp zg5 z5v zx6 zd4 zyb zi9 zy4 zf6 zhf z6o zkc z78 zk2 z73 zdm z3w zxf zeg zs2 zbo zmq z9f zkx z7c zku z7x zsl zbf zos zah zir z74 zm1 z8s zmj z94 zq9 zar ziu z7k zpc zaf zoq zav zrb zc3 zth zc6 zo7 za3 zqm z9z zfl z5f zcz z34 zlz z95 ze5 z58 zd2 z30 y12b zwa zq5 zo zp6 zl7 z3l zjb zve z9n zuk zqf z38 zqb zfz z2l zha znz z4j zmo zgi z2i zi3 zsy z8d zsg zm5 z20 zlw zhl z6q ze7 z50 zvb zck zj3 z7n zpv zaq zg3 z6y zs8 zbw zt2 z85 zrf zds : Option Addr} {zyl zyn zf1 zz2 y111 zt6 y105 zyv zey zdt zlk zf5 zea zfv zr1 zhi zwo zzg zxp zhz zk5 zkw zdx zxk zso znl zil zkr ztc zqk zl6 zmh zn9 zoi zjh zq3 zpd zsv zrz zoo zo6 zf2 zd5 znw zfr zd0 y124 zow zqh zl2 zjg zup zvv zox zog zh3 zhh zn1 znh zgn zfy zqw zte zm4 zlh zfu zf3 zv2 zjj zpi zgq ztn zt1 zr4 zdq : Array (Option Value)} {zyi zkn zjr zk7 zdg zin zyu zky zkh zjy zdd zj9 zfi z54 z5b z5g z1w z53 zyr ziq zla ziw zdc zjl zzx zoj zpf zoz zhv zp5 zro zbt zc8 zbj z8b zbk y11d zpb zoh zpl zi4 zqd zyt zkd zkf zjo zdb zks zed z5k z5e z55 z1u z4y zdp z3y z41 z3s z1f z3x zmu z8y z96 z99 z4c z91 zfq z4o z4t z5i z1x z4n zf0 z4v z5d z4q zt z4p zhw z5x z61 z6g z2f z5r zqv zbv zbr zbq z8c zbh zfw z68 z62 z6l z2d z5z zwk zcy zd6 zd7 zba zd1 zyk zl1 zk3 zl8 zde zii zxt zfc zfd zfm zcj ze9 zgf z6s z69 z66 z2o z60 zjm z7o z7d z7l z3m z7v zjp z7p z71 z75 z3i z79 ze0 z3z z40 z3u z1g z3t zxe zez ze4 zfk zcp zfa zrq zbd zbn zbs z8a zc1 znc z8x z8t z92 z4e z9c zk0 z70 z72 z7g z3h z7u zkp z7w z7m z7y z3d z7j zsq zc5 zc7 zbm z8f zbe zq2 zae za7 za2 z5w zac zkt z76 z7e z7s z3j z7q znp z97 z8u z9b z47 z98 zmw z8v z9e z9d z4a z90 zoy z9y zaz za9 z6v zay zkq z7t z7a z7h z3p z77 zp4 zal zb2 zat z6j zan zq4 za0 zb4 zap z5q z9u zrv zc2 zbl zcb z8j zc4 zti zbx zc9 zca z84 zbz zpk z9x zab zao z6f zaa zqa zb0 zaw zak z6b zai zeu z4u z4s z57 z1v z5c zcx z2x z2w z2z z19 z3b zm0 z9g z9a z8w z4d z8z zee z4r z5j z4x z1t z52 zd3 z37 z2v z32 z1c z2y y11n zw7 zub zvm zo3 zuu zom zp zm zn zh zq zpr zke z3k z3n z3g z1p z3f zij ztt z9t z9s z9j z6k z9i zvu zqq z33 z35 z31 z1m z3c zok zhk z2j z2e z2r z1d z2b zhu zma z4l z49 z4i z23 z4m znt zfx z2a z2t z2g z1a z2m zhg zsk z8h z8l z87 z45 z83 zrk znv z27 z25 z24 zz z26 zmv zhd z65 z6d z6z z2u z6p zef z56 z4w z51 z1s z5h zvj zcn zco zcl z9p zci zif z7f z7z z7r z3r z7b zob zad zam za8 z5o zb6 zgy z6m z67 z6w z2n z6t zrt zbg zc0 zbi z8g zby ztj z8i z80 z8m z46 z82 zqu z9h : Value} {zpw z2c zjs zu9 zpt zg7 zmm zg9 zrm zmz z5a zrw z7i z9w zb3 zaj : Nat} {zg : Array Value} {zau : Str} {za5 z9v : Int} {za1 : Bool} {ts : List Addr} (X : K.In h) (G : h.Ns mainGlobals mg) (hfa : mg "law" = some (.ref fa))
  (y10o : CG K mainGlobals "dealt" = some (some (.ref zg6))) (y119 : K.lookup zg6 = some ⟨zyi, zyx, .func (Cy "dealt" "dealt" (kag kca) (kaf kca) (kab kca) .none zkn zjr zk7 zix zdg zin), zyl⟩) (y115 : CJ K zdg "dealt" = true) (y114 : CF K (.ref zg6) = true)
  (y10y : CG K mainGlobals "under" = some (some (.ref zh9))) (y10n : K.lookup zh9 = some ⟨zyu, zyw, .func (Cy "under" "under" (kag kb8) (kaf kb8) (kab kb8) .none zky zkh zjy zjc zdd zj9), zyn⟩) (y10d : CJ K zdd "under" = true) (zzs : CF K (.ref zh9) = true)
  (zgp : CG K mainGlobals "price_of_piece" = some (some (.ref z2q))) (zh6 : K.lookup z2q = some ⟨zfi, ze3, .func (Cy "price_of_piece" "price_of_piece" (kag kaO) (kaf kaO) (kab kaO) .none z54 z5b z5g z4z z1w z53), zf1⟩) (zhx : CJ K z1w "price_of_piece" = true) (zgw : CF K (.ref z2q) = true)
  (y10m : CG K mainGlobals "about" = some (some (.ref zi8))) (y10q : K.lookup zi8 = some ⟨zyr, zyc, .func (Cy "about" "about" (kag kbZ) (kaf kbZ) (kab kbZ) .none ziq zla ziw zj2 zdc zjl), zz2⟩) (y10u : CJ K zdc "about" = true) (y10h : CF K (.ref zi8) = true)
  (y12c : CG K mainGlobals "fits" = some (some (.ref zo1))) (y11v : K.lookup zo1 = some ⟨zzx, y10l, .func (Cy "fits" "fits" (kag kcA) (kaf kcA) (kab kcA) .none zoj zpf zoz zop zhv zp5), y111⟩) (y126 : CJ K zhv "fits" = true) (y128 : CF K (.ref zo1) = true)
  (ztu : CG K mainGlobals "hindrance" = some (some (.ref z9o))) (zut : K.lookup z9o = some ⟨zro, zr2, .func (Cy "hindrance" "hindrance" (kag kbu) (kaf kbu) (kab kbu) .none zbt zc8 zbj zbu z8b zbk), zt6⟩) (zvx : CJ K z8b "hindrance" = true) (zuc : CF K (.ref z9o) = true)
  (y12a : CG K mainGlobals "cuts" = some (some (.ref zo2))) (y129 : K.lookup zo2 = some ⟨y11d, y10j, .func (Cy "cuts" "cuts" (kag kcB) (kaf kcB) (kab kcB) .none zpb zoh zpl zpx zi4 zqd), y105⟩) (y11h : CJ K zi4 "cuts" = true) (y125 : CF K (.ref zo2) = true)
  (y10g : CG K mainGlobals "after" = some (some (.ref zhm))) (zzt : K.lookup zhm = some ⟨zyt, zza, .func (Cy "after" "after" (kag kcb) (kaf kcb) (kab kcb) .none zkd zkf zjo zkv zdb zks), zyv⟩) (zzi : CJ K zdb "after" = true) (zzv : CF K (.ref zhm) = true)
  (zhs : CG K mainGlobals "cuts_of_pieces" = some (some (.ref z29))) (zgz : K.lookup z29 = some ⟨zed, zep, .func (Cy "cuts_of_pieces" "cuts_of_pieces" (kag kaQ) (kaf kaQ) (kab kaQ) .none z5k z5e z55 z59 z1u z4y), zey⟩) (zgg : CJ K z1u "cuts_of_pieces" = true) (zh0 : CF K (.ref z29) = true)
  (zfb : CG K mainGlobals "cut_of_carriage" = some (some (.ref z1z))) (zfj : K.lookup z1z = some ⟨zdp, zdh, .func (Cy "cut_of_carriage" "cut_of_carriage" (kag kaK) (kaf kaK) (kab kaK) .none z3y z41 z3s z3v z1f z3x), zdt⟩) (zev : CJ K z1f "cut_of_carriage" = true) (ze8 : CF K (.ref z1z) = true)
  (zof : CG K mainGlobals "wanted_cuts" = some (some (.ref z63))) (zon : K.lookup z63 = some ⟨zmu, zm2, .func (Cy "wanted_cuts" "wanted_cuts" (kag kaU) (kaf kaU) (kab kaU) .none z8y z96 z99 z93 z4c z91), zlk⟩) (zqe : CJ K z4c "wanted_cuts" = true) (zqj : CF K (.ref z63) = true)
  (zht : CG K mainGlobals "parted_by_line" = some (some (.ref z2s))) (zgj : K.lookup z2s = some ⟨zfq, zeh, .func (Cy "parted_by_line" "parted_by_line" (kag kaP) (kaf kaP) (kab kaP) .none z4o z4t z5i z5l z1x z4n), zf5⟩) (zgb : CJ K z1x "parted_by_line" = true) (zi6 : CF K (.ref z2s) = true)
  (zfs : CG K mainGlobals "falling_groups" = some (some (.ref z2p))) (zhj : K.lookup z2p = some ⟨zf0, zec, .func (Cy "falling_groups" "falling_groups" (kag kaC) (kaf kaC) (kab kaC) .none z4v z5d z4q z5m zt z4p), zea⟩) (zg0 : CJ K zt "falling_groups" = true) (zg1 : CF K (.ref z2p) = true)
  (zkk : CG K mainGlobals "marked_behind" = some (some (.ref z3e))) (zjd : K.lookup z3e = some ⟨zhw, zg4, .func (Cy "marked_behind" "marked_behind" (kag kaY) (kaf kaY) (kab kaY) .none z5x z61 z6g z6n z2f z5r), zfv⟩) (zl3 : CJ K z2f "marked_behind" = true) (zl0 : CF K (.ref z3e) = true)
  (zwg : CG K mainGlobals "prices_of" = some (some (.ref z9l))) (zux : K.lookup z9l = some ⟨zqv, zrp, .func (Cy "prices_of" "prices_of" (kag kbo) (kaf kbo) (kab kbo) .none zbv zbr zbq zbp z8c zbh), zr1⟩) (zu1 : CJ K z8c "prices_of" = true) (zva : CF K (.ref z9l) = true)
  (zj6 : CG K mainGlobals "sum_of_prices" = some (some (.ref z3o))) (ziy : K.lookup z3o = some ⟨zfw, zg5, .func (Cy "sum_of_prices" "sum_of_prices" (kag kaX) (kaf kaX) (kab kaX) .none z68 z62 z6l z5v z2d z5z), zhi⟩) (zkz : CJ K z2d "sum_of_prices" = true) (zlb : CF K (.ref z3o) = true)
  (zxs : CG K mainGlobals "at_most" = some (some (.ref zcm))) (zxg : K.lookup zcm = some ⟨zwk, zx6, .func (Cy "at_most" "at_most" (kag kbL) (kaf kbL) (kab kbL) .none zcy zd6 zd7 zd4 zba zd1), zwo⟩) (zy6 : CJ K zba "at_most" = true) (zy7 : CF K (.ref zcm) = true)
  (y10a : CG K mainGlobals "fault" = some (some (.ref zi0))) (y109 : K.lookup zi0 = some ⟨zyk, zyb, .func (Cy "fault" "fault" (kag kb9) (kaf kb9) (kab kb9) .none zl1 zk3 zl8 zi9 zde zii), zzg⟩) (y117 : CJ K zde "fault" = true) (y10f : CF K (.ref zi0) = true)
  (zyo : CG K mainGlobals "way_by" = some (some (.ref zdf))) (zys : K.lookup zdf = some ⟨zxt, zy4, .func (Cy "way_by" "way_by" (kag kbV) (kaf kbV) (kab kbV) .none zfc zfd zfm zf6 zcj ze9), zxp⟩) (zz0 : CJ K zcj "way_by" = true) (zzb : CF K (.ref zdf) = true)
  (zko : CG K mainGlobals "word_of_order" = some (some (.ref z3q))) (zie : K.lookup z3q = some ⟨zgf, zhf, .func (Cy "word_of_order" "word_of_order" (kag kaW) (kaf kaW) (kab kaW) .none z6s z69 z66 z6o z2o z60), zhz⟩) (zjt : CJ K z2o "word_of_order" = true) (zj7 : CF K (.ref z3q) = true)
  (zno : CG K mainGlobals "breaks_never" = some (some (.ref z4b))) (zlt : K.lookup z4b = some ⟨zjm, zkc, .func (Cy "breaks_never" "breaks_never" (kag ka4) (kaf ka4) (kab ka4) .none z7o z7d z7l z78 z3m z7v), zk5⟩) (znn : CJ K z3m "breaks_never" = true) (zlx : CF K (.ref z4b) = true)
  (zmg : CG K mainGlobals "breaks_ahead" = some (some (.ref z4f))) (zly : K.lookup z4f = some ⟨zjp, zk2, .func (Cy "breaks_ahead" "breaks_ahead" (kag ka5) (kaf ka5) (kab ka5) .none z7p z71 z75 z73 z3i z79), zkw⟩) (znk : CJ K z3i "breaks_ahead" = true) (zms : CF K (.ref z4f) = true)
  (zer : CG K mainGlobals "without_company" = some (some (.ref z1y))) (ze6 : K.lookup z1y = some ⟨ze0, zdm, .func (Cy "without_company" "without_company" (kag kaJ) (kaf kaJ) (kab kaJ) .none z3z z40 z3u z3w z1g z3t), zdx⟩) (zew : CJ K z1g "without_company" = true) (zeb : CF K (.ref z1y) = true)
  (zz7 : CG K mainGlobals "priced" = some (some (.ref zda))) (zzc : K.lookup zda = some ⟨zxe, zxf, .func (Cy "priced" "priced" (kag kbW) (kaf kbW) (kab kbW) .none zez ze4 zfk zeg zcp zfa), zxk⟩) (zy9 : CJ K zcp "priced" = true) (zyd : CF K (.ref zda) = true)
  (zuw : CG K mainGlobals "line_cuts" = some (some (.ref z9q))) (zu8 : K.lookup z9q = some ⟨zrq, zs2, .func (Cy "line_cuts" "line_cuts" (kag kbp) (kaf kbp) (kab kbp) .none zbd zbn zbs zbo z8a zc1), zso⟩) (zvk : CJ K z8a "line_cuts" = true) (zvg : CF K (.ref z9q) = true)
  (zqs : CG K mainGlobals "line_totals" = some (some (.ref z5u))) (zq0 : K.lookup z5u = some ⟨znc, zmq, .func (Cy "line_totals" "line_totals" (kag kbb) (kaf kbb) (kab kbb) .none z8x z8t z92 z9f z4e z9c), znl⟩) (zpz : CJ K z4e "line_totals" = true) (zod : CF K (.ref z5u) = true)
  (zne : CG K mainGlobals "sums_by_line" = some (some (.ref z4g))) (znx : K.lookup z4g = some ⟨zk0, zkx, .func (Cy "sums_by_line" "sums_by_line" (kag ka3) (kaf ka3) (kab ka3) .none z70 z72 z7g z7c z3h z7u), zil⟩) (zli : CJ K z3h "sums_by_line" = true) (zns : CF K (.ref z4g) = true)
  (zm7 : CG K mainGlobals "_law_cell_at" = some (some (.ref z48))) (zlp : K.lookup z48 = some ⟨zkp, zku, .func (Cy "_law_cell_at" "_law_cell_at" (kag ka8) (kaf ka8) (kab ka8) .none z7w z7m z7y z7x z3d z7j), zkr⟩) (zny : CJ K z3d "_law_cell_at" = true) (zll : CF K (.ref z48) = true)
  (zv3 : CG K mainGlobals "_law_some" = some (some (.ref z9m))) (zw0 : K.lookup z9m = some ⟨zsq, zsl, .func (Cy "_law_some" "_law_some" (kag kbv) (kaf kbv) (kab kbv) .none zc5 zc7 zbm zbf z8f zbe), ztc⟩) (zvp : CJ K z8f "_law_some" = true) (zv5 : CF K (.ref z9m) = true)
  (zsd : CG K mainGlobals "_law_price" = some (some (.ref z8e))) (zrc : K.lookup z8e = some ⟨zq2, zos, .func (Cy "_law_price" "_law_price" (kag kbj) (kaf kbj) (kab kbj) .none zae za7 za2 zah z5w zac), zqk⟩) (zsc : CJ K z5w "_law_price" = true) (zto : CF K (.ref z8e) = true)
  (zml : CG K mainGlobals "_law_parents" = some (some (.ref z4k))) (zn5 : K.lookup z4k = some ⟨zkt, zir, .func (Cy "_law_parents" "_law_parents" (kag ka7) (kaf ka7) (kab ka7) .none z76 z7e z7s z74 z3j z7q), zl6⟩) (zm8 : CJ K z3j "_law_parents" = true) (zmt : CF K (.ref z4k) = true)
  (zp3 : CG K mainGlobals "_law_basket" = some (some (.ref z6u))) (zq1 : K.lookup z6u = some ⟨znp, zm1, .func (Cy "_law_basket" "_law_basket" (kag kbd) (kaf kbd) (kab kbd) .none z97 z8u z9b z8s z47 z98), zmh⟩) (zoe : CJ K z47 "_law_basket" = true) (zq6 : CF K (.ref z6u) = true)
  (zps : CG K mainGlobals "_law_amount" = some (some (.ref z6i))) (zpa : K.lookup z6i = some ⟨zmw, zmj, .func (Cy "_law_amount" "_law_amount" (kag kbe) (kaf kbe) (kab kbe) .none z8v z9e z9d z94 z4a z90), zn9⟩) (zpm : CJ K z4a "_law_amount" = true) (zo4 : CF K (.ref z6i) = true)
  (ztm : CG K mainGlobals "_law_marks" = some (some (.ref z86))) (zr5 : K.lookup z86 = some ⟨zoy, zq9, .func (Cy "_law_marks" "_law_marks" (kag kbl) (kaf kbl) (kab kbl) .none z9y zaz za9 zar z6v zay), zoi⟩) (zrg : CJ K z6v "_law_marks" = true) (zsw : CF K (.ref z86) = true)
  (zm3 : CG K mainGlobals "_law_voucher" = some (some (.ref z4h))) (zmd : K.lookup z4h = some ⟨zkq, ziu, .func (Cy "_law_voucher" "_law_voucher" (kag ka6) (kaf ka6) (kab ka6) .none z7t z7a z7h z7k z3p z77), zjh⟩) (znf : CJ K z3p "_law_voucher" = true) (znq : CF K (.ref z4h) = true)
  (zt4 : CG K mainGlobals "_law_rules" = some (some (.ref z8k))) (ztl : K.lookup z8k = some ⟨zp4, zpc, .func (Cy "_law_rules" "_law_rules" (kag kbi) (kaf kbi) (kab kbi) .none zal zb2 zat zaf z6j zan), zq3⟩) (zt9 : CJ K z6j "_law_rules" = true) (zs5 : CF K (.ref z8k) = true)
  (zqt : CG K mainGlobals "_law_worth" = some (some (.ref z89))) (zqx : K.lookup z89 = some ⟨zq4, zoq, .func (Cy "_law_worth" "_law_worth" (kag kbh) (kaf kbh) (kab kbh) .none za0 zb4 zap zav z5q z9u), zpd⟩) (ztb : CJ K z5q "_law_worth" = true) (zsn : CF K (.ref z89) = true)
  (zu0 : CG K mainGlobals "_law_till" = some (some (.ref z9k))) (zw2 : K.lookup z9k = some ⟨zrv, zrb, .func (Cy "_law_till" "_law_till" (kag kbq) (kaf kbq) (kab kbq) .none zc2 zbl zcb zc3 z8j zc4), zsv⟩) (zuo : CJ K z8j "_law_till" = true) (zw9 : CF K (.ref z9k) = true)
  (zvy : CG K mainGlobals "_law_hand" = some (some (.ref z9r))) (zue : K.lookup z9r = some ⟨zti, zth, .func (Cy "_law_hand" "_law_hand" (kag kbr) (kaf kbr) (kab kbr) .none zbx zc9 zca zc6 z84 zbz), zrz⟩) (zwf : CJ K z84 "_law_hand" = true) (zvw : CF K (.ref z9r) = true)
  (zrd : CG K mainGlobals "_law_going" = some (some (.ref z88))) (ztd : K.lookup z88 = some ⟨zpk, zo7, .func (Cy "_law_going" "_law_going" (kag kbm) (kaf kbm) (kab kbm) .none z9x zab zao za3 z6f zaa), zoo⟩) (zt0 : CJ K z6f "_law_going" = true) (zr6 : CF K (.ref z88) = true)
  (zs0 : CG K mainGlobals "_law_order" = some (some (.ref z81))) (zra : K.lookup z81 = some ⟨zqa, zqm, .func (Cy "_law_order" "_law_order" (kag kbk) (kaf kbk) (kab kbk) .none zb0 zaw zak z9z z6b zai), zo6⟩) (zss : CJ K z6b "_law_order" = true) (zsx : CF K (.ref z81) = true)
  (zgv : CG K mainGlobals "_law_number_is" = some (some (.ref z2h))) (zhc : K.lookup z2h = some ⟨zeu, zfl, .func (Cy "_law_number_is" "_law_number_is" (kag kaR) (kaf kaR) (kab kaR) .none z4u z4s z57 z5f z1v z5c), zf2⟩) (zgr : CJ K z1v "_law_number_is" = true) (zgt : CF K (.ref z2h) = true)
  (zdz : CG K mainGlobals "_law_numbers_are" = some (some (.ref z1i))) (zdk : K.lookup z1i = some ⟨zcx, zcz, .func (Cy "_law_numbers_are" "_law_numbers_are" (kag kaD) (kaf kaD) (kab kaD) .none z2x z2w z2z z34 z19 z3b), zd5⟩) (zdv : CJ K z19 "_law_numbers_are" = true) (zdu : CF K (.ref z1i) = true)
  (zoc : CG K mainGlobals "_law_summed" = some (some (.ref z5n))) (zqi : K.lookup z5n = some ⟨zm0, zlz, .func (Cy "_law_summed" "_law_summed" (kag kbc) (kaf kbc) (kab kbc) .none z9g z9a z8w z95 z4d z8z), znw⟩) (zov : CJ K z4d "_law_summed" = true) (zqp : CF K (.ref z5n) = true)
  (zgm : CG K mainGlobals "_law_lists_are" = some (some (.ref z2k))) (zi7 : K.lookup z2k = some ⟨zee, ze5, .func (Cy "_law_lists_are" "_law_lists_are" (kag kaS) (kaf kaS) (kab kaS) .none z4r z5j z4x z58 z1t z52), zfr⟩) (zhn : CJ K z1t "_law_lists_are" = true) (zhb : CF K (.ref z2k) = true)
  (zdo : CG K mainGlobals "_law_lines_right" = some (some (.ref z1h))) (zdl : K.lookup z1h = some ⟨zd3, zd2, .func (Cy "_law_lines_right" "_law_lines_right" (kag kay) (kaf kay) (kab kay) .none z37 z2v z32 z30 z1c z2y), zd0⟩) (zdj : CJ K z1c "_law_lines_right" = true) (zdi : CF K (.ref z1h) = true)
  (y10k : CG K mainGlobals "law" = some (some (.ref zp9))) (y12h : K.lookup zp9 = some ⟨y11n, y12b, .func (Cy "law" "law" (kag s_law) (kaf s_law) (kab s_law) .none zw7 zub zvm zwa zo3 zuu), y124⟩) (y12g : CJ K zo3 "law" = true) (y12i : CF K (.ref zp9) = true)
  (y11c : CG K mainGlobals "Marks" = some (some (.ref zk)))
  (zz3 : CQ K zk (.type "object") = some true) (zze : CQ K zk (.ref zk) = some true) (zz4 : Rn K (.ref zk) = some (.type "type"))
  (inX : Sb K (.builtin "object.__class__") "__get__" = some (some (.builtin "getset_descriptor.__get__"))) (itX : SZ K (.builtin "object.__class__") = some true)
  (zy8 : Rm K zk Str.empty = true) (zz8 : Rq K zk = true) (zyz : Ru K zk = true) (zz1 : CD K (.ref zk) "__setattr__" = some (some (.builtin "object.__setattr__"))) (zya : Rr K zk = true) (zyg : CF K (.ref zk) = true) (zzd : CD K (.ref zk) "__class__" = some (some (.builtin "object.__class__")))
  (zr7 : CD K (.ref zk) "kind" = some none)
  (zp7 : CD K (.ref zk) "needs" = some none)
  (zry : CD K (.ref zk) "most" = some none)
  (zna : CD K (.ref zk) "member" = some none)
  (zri : CD K (.ref zk) "once" = some none)
  (zsh : CD K (.ref zk) "lone" = some none)
  (zqy : CD K (.ref zk) "__init__" = some (some (.ref z44))) (zse : Rg K (.ref z44) = true) (zsm : K.lookup z44 = some ⟨zom, zq5, .func (Cy "__init__" "Marks.__init__" (kag kar) (kaf kar) (kab kar) (.ref zl) zp zm zn zo zh zq), zow⟩) (zrj : CJ K zh "Marks.__init__" = true) (zs1 : CF K (.ref z44) = true) (z1e : K.lookup zl = some ⟨zpr, zp6, .seq #[.none, .int 0 z2c, .none, .bool false, .bool false, .bool false] zpw, zqh⟩)
  (zy1 : CG K mainGlobals "Voucher" = some (some (.ref zf)))
  (zx9 : CQ K zf (.type "object") = some true) (zxa : CQ K zf (.ref zf) = some true) (zwx : Rn K (.ref zf) = some (.type "type"))
  (zwz : Rm K zf Str.empty = true) (zx2 : Rq K zf = true) (zx3 : Ru K zf = true) (zws : CD K (.ref zf) "__setattr__" = some (some (.builtin "object.__setattr__"))) (zwj : Rr K zf = true) (zwv : CF K (.ref zf) = true) (zx5 : CD K (.ref zf) "__class__" = some (some (.builtin "object.__class__")))
  (zng : CD K (.ref zf) "__init__" = some (some (.ref zy))) (znu : Rg K (.ref zy) = true) (zlr : K.lookup zy = some ⟨zke, zl7, .func (Cy "__init__" "Voucher.__init__" (kag kaL) (kaf kaL) (kab kaL) (.ref z21) z3k z3n z3g z3l z1p z3f), zl2⟩) (zn7 : CJ K z1p "Voucher.__init__" = true) (zmi : CF K (.ref zy) = true) (zcs : K.lookup z21 = some ⟨zij, zjb, .seq #[.none] zjs, zjg⟩)
  (y10c : CG K mainGlobals "Off" = some (some (.ref zs)))
  (zgu : CQ K zs (.type "object") = some true) (zhq : CQ K zs (.ref zs) = some true) (zho : Rn K (.ref zs) = some (.type "type"))
  (y11f : Rm K zs Str.empty = true) (y11t : Rq K zs = true) (y127 : Ru K zs = true) (y11z : CD K (.ref zs) "__setattr__" = some (some (.builtin "object.__setattr__"))) (y121 : Rr K zs = true) (y11q : CF K (.ref zs) = true) (y11m : CD K (.ref zs) "__class__" = some (some (.builtin "object.__class__")))
  (zrx : CD K (.ref zs) "amount" = some none)
  (zu5 : CD K (.ref zs) "marks" = some none)
  (zxd : CD K (.ref zs) "__init__" = some (some (.ref z8o))) (zwp : Rg K (.ref z8o) = true) (zx8 : K.lookup z8o = some ⟨ztt, zve, .func (Cy "__init__" "Off.__init__" (kag kbs) (kaf kbs) (kab kbs) (.ref z8p) z9t z9s z9j z9n z6k z9i), zup⟩) (zwt : CJ K z6k "Off.__init__" = true) (zx4 : CF K (.ref z8o) = true) (zlc : K.lookup z8p = some ⟨zvu, zuk, .seq #[.none] zu9, zvv⟩)
  (zx1 : CG K mainGlobals "Share" = some (some (.ref ze)))
  (zcf : CQ K ze (.type "object") = some true) (zcg : CQ K ze (.ref ze) = some true) (zce : Rn K (.ref ze) = some (.type "type"))
  (zyq : Rm K ze Str.empty = true) (zyf : Rq K ze = true) (zzf : Ru K ze = true) (zyp : CD K (.ref ze) "__setattr__" = some (some (.builtin "object.__setattr__"))) (zz6 : Rr K ze = true) (zyh : CF K (.ref ze) = true) (zyj : CD K (.ref ze) "__class__" = some (some (.builtin "object.__class__")))
  (zp0 : CD K (.ref ze) "share" = some none)
  (zje : CD K (.ref ze) "by_line" = some none)
  (zpp : CD K (.ref ze) "marks" = some none)
  (zt5 : CD K (.ref ze) "__init__" = some (some (.ref z42))) (zta : Rg K (.ref z42) = true) (zsa : K.lookup z42 = some ⟨zqq, zqf, .func (Cy "__init__" "Share.__init__" (kag kaM) (kaf kaM) (kab kaM) (.ref z28) z33 z35 z31 z38 z1m z3c), zox⟩) (zt7 : CJ K z1m "Share.__init__" = true) (zr8 : CF K (.ref z42) = true) (zcc : K.lookup z28 = some ⟨zok, zqb, .seq #[.bool false, .none] zpt, zog⟩)
  (zle : CG K mainGlobals "Cheapest" = some (some (.ref za)))
  (z6a : CQ K za (.type "object") = some true) (z5s : CQ K za (.ref za) = some true) (z5t : Rn K (.ref za) = some (.type "type"))
  (zwc : Rm K za Str.empty = true) (zvl : Rq K za = true) (zu2 : Ru K za = true) (zus : CD K (.ref za) "__setattr__" = some (some (.builtin "object.__setattr__"))) (zul : Rr K za = true) (zv8 : CF K (.ref za) = true) (zu7 : CD K (.ref za) "__class__" = some (some (.builtin "object.__class__")))
  (zjv : CD K (.ref za) "many" = some none)
  (zhr : CD K (.ref za) "marks" = some none)
  (zjq : CD K (.ref za) "__init__" = some (some (.ref z1q))) (zio : Rg K (.ref z1q) = true) (zki : K.lookup z1q = some ⟨zhk, zfz, .func (Cy "__init__" "Cheapest.__init__" (kag kaF) (kaf kaF) (kab kaF) (.ref z1r) z2j z2e z2r z2l z1d z2b), zh3⟩) (zjk : CJ K z1d "Cheapest.__init__" = true) (zkj : CF K (.ref z1q) = true) (zcd : K.lookup z1r = some ⟨zhu, zha, .seq #[.none] zg7, zhh⟩)
  (ztp : CG K mainGlobals "Bundle" = some (some (.ref zc)))
  (zas : CQ K zc (.type "object") = some true) (zag : CQ K zc (.ref zc) = some true) (za6 : Rn K (.ref zc) = some (.type "type"))
  (zxv : Rm K zc Str.empty = true) (zy0 : Rq K zc = true) (zxr : Ru K zc = true) (zy2 : CD K (.ref zc) "__setattr__" = some (some (.builtin "object.__setattr__"))) (zxm : Rr K zc = true) (zy5 : CF K (.ref zc) = true) (zxy : CD K (.ref zc) "__class__" = some (some (.builtin "object.__class__")))
  (zpu : CD K (.ref zc) "many" = some none)
  (zlm : CD K (.ref zc) "price" = some none)
  (zlu : CD K (.ref zc) "marks" = some none)
  (zpq : CD K (.ref zc) "__init__" = some (some (.ref z3a))) (zor : Rg K (.ref z3a) = true) (zo8 : K.lookup z3a = some ⟨zma, znz, .func (Cy "__init__" "Bundle.__init__" (kag kaV) (kaf kaV) (kab kaV) (.ref z36) z4l z49 z4i z4j z23 z4m), zn1⟩) (zp1 : CJ K z23 "Bundle.__init__" = true) (zpn : CF K (.ref z3a) = true) (zd9 : K.lookup z36 = some ⟨znt, zmo, .seq #[.none] zmm, znh⟩)
  (zld : CG K mainGlobals "Carriage" = some (some (.ref zb)))
  (z6e : CQ K zb (.type "object") = some true) (z6h : CQ K zb (.ref zb) = some true) (z6r : Rn K (.ref zb) = some (.type "type"))
  (zvc : Rm K zb Str.empty = true) (zvd : Rq K zb = true) (zuy : Ru K zb = true) (zw6 : CD K (.ref zb) "__setattr__" = some (some (.builtin "object.__setattr__"))) (ztz : Rr K zb = true) (zur : CF K (.ref zb) = true) (zvn : CD K (.ref zb) "__class__" = some (some (.builtin "object.__class__")))
  (zhp : CD K (.ref zb) "marks" = some none)
  (zkb : CD K (.ref zb) "__init__" = some (some (.ref z1n))) (zjn : Rg K (.ref z1n) = true) (zl5 : K.lookup z1n = some ⟨zfx, zgi, .func (Cy "__init__" "Carriage.__init__" (kag kaG) (kaf kaG) (kab kaG) (.ref z1j) z2a z2t z2g z2i z1a z2m), zgn⟩) (zia : CJ K z1a "Carriage.__init__" = true) (zju : CF K (.ref z1n) = true) (zch : K.lookup z1j = some ⟨zhg, zi3, .seq #[.none] zg9, zfy⟩)
  (y11o : CG K mainGlobals "Line" = some (some (.ref zw)))
  (y112 : CQ K zw (.type "object") = some true) (zzl : CQ K zw (.ref zw) = some true) (zzr : Rn K (.ref zw) = some (.type "type"))
  (y10z : Rm K zw Str.empty = true) (y103 : Rq K zw = true) (y116 : Ru K zw = true) (zzz : CD K (.ref zw) "__setattr__" = some (some (.builtin "object.__setattr__"))) (y10v : Rr K zw = true) (y10t : CF K (.ref zw) = true) (zzn : CD K (.ref zw) "__class__" = some (some (.builtin "object.__class__")))
  (zum : CD K (.ref zw) "kind" = some none)
  (zs7 : CD K (.ref zw) "price" = some none)
  (ztq : CD K (.ref zw) "many" = some none)
  (zlv : CD K (.ref zw) "special" = some none)
  (zv1 : CD K (.ref zw) "__init__" = some (some (.ref z64))) (zvi : Rg K (.ref z64) = true) (zw3 : K.lookup z64 = some ⟨zsk, zsy, .func (Cy "__init__" "Line.__init__" (kag kbg) (kaf kbg) (kab kbg) (.ref z5y) z8h z8l z87 z8d z45 z83), zqw⟩) (zuz : CJ K z45 "Line.__init__" = true) (zwe : CF K (.ref z64) = true) (zh7 : K.lookup z5y = some ⟨zrk, zsg, .seq #[.none] zrm, zte⟩)
  (zz5 : CG K mainGlobals "Basket" = some (some (.ref zj)))
  (zxh : CQ K zj (.type "object") = some true) (zxz : CQ K zj (.ref zj) = some true) (zxw : Rn K (.ref zj) = some (.type "type"))
  (zxo : Rm K zj Str.empty = true) (zxq : Rq K zj = true) (zxl : Ru K zj = true) (zxu : CD K (.ref zj) "__setattr__" = some (some (.builtin "object.__setattr__"))) (zxn : Rr K zj = true) (zxj : CF K (.ref zj) = true) (zxx : CD K (.ref zj) "__class__" = some (some (.builtin "object.__class__")))
  (znb : CD K (.ref zj) "lines" = some none)
  (zei : CD K (.ref zj) "carriage" = some none)
  (zid : CD K (.ref zj) "member" = some none)
  (zp8 : CD K (.ref zj) "__init__" = some (some (.ref z39))) (zoa : Rg K (.ref z39) = true) (zol : K.lookup z39 = some ⟨znv, zm5, .func (Cy "__init__" "Basket.__init__" (kag kaH) (kaf kaH) (kab kaH) (.ref z1k) z27 z25 z24 z20 zz z26), zm4⟩) (zpo : CJ K zz "Basket.__init__" = true) (zpy : CF K (.ref z39) = true) (zb7 : K.lookup z1k = some ⟨zmv, zlw, .seq #[.int 0 z5a, .bool false] zmz, zlh⟩)
  (zwu : CG K mainGlobals "Standing" = some (some (.ref zd)))
  (zwb : CQ K zd (.type "object") = some true) (zvq : CQ K zd (.ref zd) = some true) (zug : Rn K (.ref zd) = some (.type "type"))
  (zvt : Rm K zd Str.empty = true) (zvz : Rq K zd = true) (zuv : Ru K zd = true) (zui : CD K (.ref zd) "__setattr__" = some (some (.builtin "object.__setattr__"))) (zwd : Rr K zd = true) (ztx : CF K (.ref zd) = true) (zw8 : CD K (.ref zd) "__class__" = some (some (.builtin "object.__class__")))
  (zf7 : CD K (.ref zd) "owners" = some none)
  (zfo : CD K (.ref zd) "prices" = some none)
  (zd8 : CD K (.ref zd) "carriage" = some none)
  (zfg : CD K (.ref zd) "marked" = some none)
  (zjx : CD K (.ref zd) "__init__" = some (some (.ref z1o))) (zkm : Rg K (.ref z1o) = true) (zk1 : K.lookup z1o = some ⟨zhd, zhl, .func (Cy "__init__" "Standing.__init__" (kag ka0) (kaf ka0) (kab ka0) .none z65 z6d z6z z6q z2u z6p), zfu⟩) (zj0 : CJ K z2u "Standing.__init__" = true) (zis : CF K (.ref z1o) = true)
  (zh2 : CD K (.ref zd) "whole" = some (some (.ref z1b))) (zh4 : Rg K (.ref z1b) = true) (zft : K.lookup z1b = some ⟨zef, ze7, .func (Cy "whole" "Standing.whole" (kag kaT) (kaf kaT) (kab kaT) .none z56 z4w z51 z50 z1s z5h), zf3⟩) (zgh : CJ K z1s "Standing.whole" = true) (zgl : CF K (.ref z1b) = true)
  (y12f : CG K mainGlobals "Way" = some (some (.ref zx)))
  (y123 : CQ K zx (.type "object") = some true) (y11w : CQ K zx (.ref zx) = some true) (y11p : Rn K (.ref zx) = some (.type "type"))
  (y120 : Rm K zx Str.empty = true) (y11l : Rq K zx = true) (y122 : Ru K zx = true) (y11e : CD K (.ref zx) "__setattr__" = some (some (.builtin "object.__setattr__"))) (y11k : Rr K zx = true) (y11u : CF K (.ref zx) = true) (y11x : CD K (.ref zx) "__class__" = some (some (.builtin "object.__class__")))
  (zwq : CD K (.ref zx) "till" = some none)
  (zsf : CD K (.ref zx) "basket" = some none)
  (zx7 : CD K (.ref zx) "hand" = some none)
  (zwm : CD K (.ref zx) "used" = some none)
  (zn0 : CD K (.ref zx) "standing" = some none)
  (zwl : CD K (.ref zx) "__init__" = some (some (.ref z8r))) (zxb : Rg K (.ref z8r) = true) (zwr : K.lookup z8r = some ⟨zvj, zvb, .func (Cy "__init__" "Way.__init__" (kag kbD) (kaf kbD) (kab kbD) .none zcn zco zcl zck z9p zci), zv2⟩) (zwy : CJ K z9p "Way.__init__" = true) (zxc : CF K (.ref z8r) = true)
  (zls : CD K (.ref zx) "word_for" = some (some (.ref z22))) (znr : Rg K (.ref z22) = true) (zn8 : K.lookup z22 = some ⟨zif, zj3, .func (Cy "word_for" "Way.word_for" (kag ka9) (kaf ka9) (kab ka9) .none z7f z7z z7r z7n z3r z7b), zjj⟩) (zmf : CJ K z3r "Way.word_for" = true) (zo0 : CF K (.ref z22) = true)
  (zsu : CD K (.ref zx) "behind" = some (some (.ref z43))) (zt8 : Rg K (.ref z43) = true) (zr3 : K.lookup z43 = some ⟨zob, zpv, .func (Cy "behind" "Way.behind" (kag kbn) (kaf kbn) (kab kbn) .none zad zam za8 zaq z5o zb6), zpi⟩) (ztg : CJ K z5o "Way.behind" = true) (zs6 : CF K (.ref z43) = true)
  (zjz : CD K (.ref zx) "is_let_by" = some (some (.ref z1l))) (ziz : Rg K (.ref z1l) = true) (zk4 : K.lookup z1l = some ⟨zgy, zg3, .func (Cy "is_let_by" "Way.is_let_by" (kag kaZ) (kaf kaZ) (kab kaZ) .none z6m z67 z6w z6y z2n z6t), zgq⟩) (zja : CJ K z2n "Way.is_let_by" = true) (zk8 : CF K (.ref z1l) = true)
  (y11i : CG K mainGlobals "Bill" = some (some (.ref zr)))
  (y113 : CQ K zr (.type "object") = some true) (zzu : CQ K zr (.ref zr) = some true) (zzj : Rn K (.ref zr) = some (.type "type"))
  (zzw : Rm K zr Str.empty = true) (y10w : Rq K zr = true) (y118 : Ru K zr = true) (y104 : CD K (.ref zr) "__setattr__" = some (some (.builtin "object.__setattr__"))) (zzy : Rr K zr = true) (y11b : CF K (.ref zr) = true) (zzo : CD K (.ref zr) "__class__" = some (some (.builtin "object.__class__")))
  (zr0 : CD K (.ref zr) "order" = some none)
  (zs4 : CD K (.ref zr) "steps" = some none)
  (zou : CD K (.ref zr) "prices" = some none)
  (zka : CD K (.ref zr) "carriage" = some none)
  (zs3 : CD K (.ref zr) "total" = some none)
  (zw5 : CD K (.ref zr) "__init__" = some (some (.ref z6c))) (ztw : Rg K (.ref z6c) = true) (zwh : K.lookup z6c = some ⟨zrt, zs8, .func (Cy "__init__" "Bill.__init__" (kag kbw) (kaf kbw) (kab kbw) .none zbg zc0 zbi zbw z8g zby), ztn⟩) (zu6 : CJ K z8g "Bill.__init__" = true) (zuh : CF K (.ref z6c) = true)
  (y11g : CG K mainGlobals "Till" = some (some (.ref zv)))
  (y10p : CQ K zv (.type "object") = some true) (y100 : CQ K zv (.ref zv) = some true) (y108 : Rn K (.ref zv) = some (.type "type"))
  (y11a : Rm K zv Str.empty = true) (y110 : Rq K zv = true) (zzh : Ru K zv = true) (y102 : CD K (.ref zv) "__setattr__" = some (some (.builtin "object.__setattr__"))) (y106 : Rr K zv = true) (zzm : CF K (.ref zv) = true) (y10s : CD K (.ref zv) "__class__" = some (some (.builtin "object.__class__")))
  (zlq : CD K (.ref zv) "parents" = some none)
  (zjf : CD K (.ref zv) "vouchers" = some none)
  (zrh : CD K (.ref zv) "rules" = some none)
  (zvf : CD K (.ref zv) "back" = some none)
  (zv9 : CD K (.ref zv) "__init__" = some (some (.ref z5p))) (zua : Rg K (.ref z5p) = true) (zu4 : K.lookup z5p = some ⟨ztj, zt2, .func (Cy "__init__" "Till.__init__" (kag kbf) (kaf kbf) (kab kbf) (.ref z6x) z8i z80 z8m z85 z46 z82), zt1⟩) (zvs : CJ K z46 "Till.__init__" = true) (zvo : CF K (.ref z5p) = true) (zgs : K.lookup z6x = some ⟨zqu, zrf, .seq #[.str "again" z7i] zrw, zr4⟩)
  (ziv : PySem.W.readsIn K zf (.type "type") = true) (zk9 : Sb K (.ref zf) "__getattribute__" = some (some (.builtin "type.__getattribute__"))) (zit : PySem.W.findCls K (.ref zf) (.type "type") "__init__" = some (.val (.ref zy)))
  (zcq : CQ K zs (.ref zb) = some false)
  (zbc : CQ K ze (.ref zb) = some false)
  (z8q : CQ K za (.ref zb) = some false)
  (zb1 : CQ K zc (.ref zb) = some false)
  (zi5 : CQ K ze (.ref zs) = some false)
  (zcu : CQ K za (.ref zs) = some false)
  (ze1 : CQ K zc (.ref zs) = some false)
  (zcv : CQ K zb (.ref zs) = some false)
  (zg8 : CQ K zs (.ref ze) = some false)
  (zb9 : CQ K za (.ref ze) = some false)
  (zcw : CQ K zc (.ref ze) = some false)
  (zb8 : CQ K zb (.ref ze) = some false)
  (zcr : CQ K zs (.ref za) = some false)
  (zbb : CQ K ze (.ref za) = some false)
  (za4 : CQ K zc (.ref za) = some false)
  (z8n : CQ K zb (.ref za) = some false)
  (ze2 : CQ K zs (.ref zc) = some false)
  (zct : CQ K ze (.ref zc) = some false)
  (zax : CQ K za (.ref zc) = some false)
  (zb5 : CQ K zb (.ref zc) = some false)
  (zff : zt = .ref zu)
  (zex : K.lookup zu = some ⟨z9h, zds, .fields zg, zdq⟩)
  (zfn : z9h = .type "code")
  (zfp : zg[11]? = some (.ref zi))
  (zeq : zg.getD 11 .none = .ref zi)
  (zej : zg.getD 18 .none = .str zau z9w)
  (zf8 : zg.getD 7 .none = .int za5 zb3)
  (zem : zg.getD 9 .none = .bool za1)
  (zfe : zg.getD 10 .none = .int z9v zaj)
  (zfh : zu ≠ zi)
  (zet : K.lookup zi = none)
  (zek : zi ∈ ts)
  (z1 : CG K mainGlobals "range" = some none)
  (z2 : CG K mainGlobals "len" = some none)
  (z3 : CG K mainGlobals "min" = some none)
  (z4 : CG K mainGlobals "max" = some none)
  (z5 : CG K mainGlobals "isinstance" = some none)
  (z6 : CG K mainGlobals "bool" = some none)
  (z7 : CG K mainGlobals "int" = some none)
  (z8 : CG K mainGlobals "list" = some none)
  (z9 : CG K mainGlobals "sum" = some none)
  (z10 : CG K mainGlobals "enumerate" = some none)
  (z11 : CG K mainGlobals "any" = some none)
  (z12 : CG K mainGlobals "all" = some none)
  (z13 : CG K mainGlobals "reversed" = some none)
  (z14 : CG K mainGlobals "zip" = some none)
  (z15 : CG K mainGlobals "abs" = some none)
  (z16 : CG K mainGlobals "sorted" = some none)
  (z17 : CG K mainGlobals "tuple" = some none)
  (z18 : CG K mainGlobals "str" = some none)
  : ∃ (fd : FuncData) (tP c0 : Addr), tP ∈ ts ∧ CodeK K c0 tP ∧ K.lookup tP = none ∧ (∀ (s : Shared) (v : Value), BindsTo s fd ⟨[v], []⟩ [("_law_script", v)]) ∧ ∀ base : Heap, K.In base → base.Ns mainGlobals mg → BltM mg base → FnOk l.prog w K mg base CX0 11 fa fd ["_law_script"] (kfn K tP) := by
 have e := hfa.symm.trans (CO X G y10k)
 have hf : zp9 = fa := by
  injection e with e
  injection e with e
  exact e.symm
 subst hf
 have B : TxtB mg := ⟨Rj X G z1, Rj X G z2, Rj X G z3, Rj X G z4, Rj X G z5, Rj X G z6, Rj X G z7, Rj X G z8, Rj X G z9, Rj X G z10, Rj X G z11, Rj X G z12, Rj X G z13, Rj X G z14, Rj X G z15, Rj X G z16, Rj X G z17, Rj X G z18⟩
 have y10e := kav (x := "dealt") (qual := "dealt") (st := kca) y119 y115 y114
 have zzk : Binds K (Cy "dealt" "dealt" (kag kca) (kaf kca) (kab kca) .none zkn zjr zk7 zix zdg zin) ["cut", "weights"] [] := Binds.all (nL2 fun _ _ => rfl)
 have y101 := kav (x := "under") (qual := "under") (st := kb8) y10n y10d zzs
 have y10x : Binds K (Cy "under" "under" (kag kb8) (kaf kb8) (kab kb8) .none zky zkh zjy zjc zdd zj9) ["parents", "one", "other"] [] := Binds.all (nL3 fun _ _ _ => rfl)
 have zgo := kav (x := "price_of_piece") (qual := "price_of_piece") (st := kaO) zh6 zhx zgw
 have zhy : Binds K (Cy "price_of_piece" "price_of_piece" (kag kaO) (kaf kaO) (kab kaO) .none z54 z5b z5g z4z z1w z53) ["line", "member"] [] := Binds.all (nL2 fun _ _ => rfl)
 have zzp := kav (x := "about") (qual := "about") (st := kbZ) y10q y10u y10h
 have zzq : Binds K (Cy "about" "about" (kag kbZ) (kaf kbZ) (kab kbZ) .none ziq zla ziw zj2 zdc zjl) ["voucher", "parents", "basket", "standing"] [] := Binds.all (nL4 fun _ _ _ _ => rfl)
 have y11y := kav (x := "fits") (qual := "fits") (st := kcA) y11v y126 y128
 have y11r : Binds K (Cy "fits" "fits" (kag kcA) (kaf kcA) (kab kcA) .none zoj zpf zoz zop zhv zp5) ["marks", "parents", "kind", "marked"] [] := Binds.all (nL4 fun _ _ _ _ => rfl)
 have zuq := kav (x := "hindrance") (qual := "hindrance") (st := kbu) zut zvx zuc
 have zw1 : Binds K (Cy "hindrance" "hindrance" (kag kbu) (kaf kbu) (kab kbu) .none zbt zc8 zbj zbu z8b zbk) ["voucher", "parents", "basket", "standing"] [] := Binds.all (nL4 fun _ _ _ _ => rfl)
 have y11j := kav (x := "cuts") (qual := "cuts") (st := kcB) y129 y11h y125
 have y11s : Binds K (Cy "cuts" "cuts" (kag kcB) (kaf kcB) (kab kcB) .none zpb zoh zpl zpx zi4 zqd) ["voucher", "parents", "basket", "standing"] [] := Binds.all (nL4 fun _ _ _ _ => rfl)
 have y10b := kav (x := "after") (qual := "after") (st := kcb) zzt zzi zzv
 have y10r : Binds K (Cy "after" "after" (kag kcb) (kaf kcb) (kab kcb) .none zkd zkf zjo zkv zdb zks) ["voucher", "parents", "basket", "standing"] [] := Binds.all (nL4 fun _ _ _ _ => rfl)
 have zh1 := kav (x := "cuts_of_pieces") (qual := "cuts_of_pieces") (st := kaQ) zgz zgg zh0
 have zg2 : Binds K (Cy "cuts_of_pieces" "cuts_of_pieces" (kag kaQ) (kaf kaQ) (kab kaQ) .none z5k z5e z55 z59 z1u z4y) ["voucher", "parents", "basket", "standing"] [] := Binds.all (nL4 fun _ _ _ _ => rfl)
 have zf9 := kav (x := "cut_of_carriage") (qual := "cut_of_carriage") (st := kaK) zfj zev ze8
 have zes : Binds K (Cy "cut_of_carriage" "cut_of_carriage" (kag kaK) (kaf kaK) (kab kaK) .none z3y z41 z3s z3v z1f z3x) ["voucher", "standing"] [] := Binds.all (nL2 fun _ _ => rfl)
 have zql := kav (x := "wanted_cuts") (qual := "wanted_cuts") (st := kaU) zon zqe zqj
 have zph : Binds K (Cy "wanted_cuts" "wanted_cuts" (kag kaU) (kaf kaU) (kab kaU) .none z8y z96 z99 z93 z4c z91) ["voucher", "standing", "pieces"] [] := Binds.all (nL3 fun _ _ _ => rfl)
 have zh5 := kav (x := "parted_by_line") (qual := "parted_by_line") (st := kaP) zgj zgb zi6
 have zi1 : Binds K (Cy "parted_by_line" "parted_by_line" (kag kaP) (kaf kaP) (kab kaP) .none z4o z4t z5i z5l z1x z4n) ["standing", "pieces"] [] := Binds.all (nL2 fun _ _ => rfl)
 have zgk := kav (x := "falling_groups") (qual := "falling_groups") (st := kaC) zhj zg0 zg1
 have zga : Binds K (Cy "falling_groups" "falling_groups" (kag kaC) (kaf kaC) (kab kaC) .none z4v z5d z4q z5m zt z4p) ["standing", "pieces", "many"] [] := Binds.all (nL3 fun _ _ _ => rfl)
 have zkg := kav (x := "marked_behind") (qual := "marked_behind") (st := kaY) zjd zl3 zl0
 have zib : Binds K (Cy "marked_behind" "marked_behind" (kag kaY) (kaf kaY) (kab kaY) .none z5x z61 z6g z6n z2f z5r) ["voucher", "standing", "piece_cuts"] [] := Binds.all (nL3 fun _ _ _ => rfl)
 have zv4 := kav (x := "prices_of") (qual := "prices_of") (st := kbo) zux zu1 zva
 have zts : Binds K (Cy "prices_of" "prices_of" (kag kbo) (kaf kbo) (kab kbo) .none zbv zbr zbq zbp z8c zbh) ["standing", "pieces"] [] := Binds.all (nL2 fun _ _ => rfl)
 have zj8 := kav (x := "sum_of_prices") (qual := "sum_of_prices") (st := kaX) ziy zkz zlb
 have zig : Binds K (Cy "sum_of_prices" "sum_of_prices" (kag kaX) (kaf kaX) (kab kaX) .none z68 z62 z6l z5v z2d z5z) ["standing", "pieces"] [] := Binds.all (nL2 fun _ _ => rfl)
 have zxi := kav (x := "at_most") (qual := "at_most") (st := kbL) zxg zy6 zy7
 have zy3 : Binds K (Cy "at_most" "at_most" (kag kbL) (kaf kbL) (kab kbL) .none zcy zd6 zd7 zd4 zba zd1) ["most", "number"] [] := Binds.all (nL2 fun _ _ => rfl)
 have y107 := kav (x := "fault") (qual := "fault") (st := kb9) y109 y117 y10f
 have y10i : Binds K (Cy "fault" "fault" (kag kb9) (kaf kb9) (kab kb9) .none zl1 zk3 zl8 zi9 zde zii) ["till", "basket", "hand", "order"] [] := Binds.all (nL4 fun _ _ _ _ => rfl)
 have zym := kav (x := "way_by") (qual := "way_by") (st := kbV) zys zz0 zzb
 have zye : Binds K (Cy "way_by" "way_by" (kag kbV) (kaf kbV) (kab kbV) .none zfc zfd zfm zf6 zcj ze9) ["till", "basket", "hand", "order"] [] := Binds.all (nL4 fun _ _ _ _ => rfl)
 have zji := kav (x := "word_of_order") (qual := "word_of_order") (st := kaW) zie zjt zj7
 have zjw : Binds K (Cy "word_of_order" "word_of_order" (kag kaW) (kaf kaW) (kab kaW) .none z6s z69 z66 z6o z2o z60) ["till", "hand", "used", "number"] [] := Binds.all (nL4 fun _ _ _ _ => rfl)
 have zn2 := kav (x := "breaks_never") (qual := "breaks_never") (st := ka4) zlt znn zlx
 have zn6 : Binds K (Cy "breaks_never" "breaks_never" (kag ka4) (kaf ka4) (kab ka4) .none z7o z7d z7l z78 z3m z7v) ["rules", "used", "number"] [] := Binds.all (nL3 fun _ _ _ => rfl)
 have zn3 := kav (x := "breaks_ahead") (qual := "breaks_ahead") (st := ka5) zly znk zms
 have zlj : Binds K (Cy "breaks_ahead" "breaks_ahead" (kag ka5) (kaf ka5) (kab ka5) .none z7p z71 z75 z73 z3i z79) ["rules", "used", "number"] [] := Binds.all (nL3 fun _ _ _ => rfl)
 have zel := kav (x := "without_company") (qual := "without_company") (st := kaJ) ze6 zew zeb
 have zeo : Binds K (Cy "without_company" "without_company" (kag kaJ) (kaf kaJ) (kab kaJ) .none z3z z40 z3u z3w z1g z3t) ["rules", "order"] [] := Binds.all (nL2 fun _ _ => rfl)
 have zyy := kav (x := "priced") (qual := "priced") (st := kbW) zzc zy9 zyd
 have zz9 : Binds K (Cy "priced" "priced" (kag kbW) (kaf kbW) (kab kbW) .none zez ze4 zfk zeg zcp zfa) ["till", "basket", "hand", "order"] [] := Binds.all (nL4 fun _ _ _ _ => rfl)
 have zty := kav (x := "line_cuts") (qual := "line_cuts") (st := kbp) zu8 zvk zvg
 have ztv : Binds K (Cy "line_cuts" "line_cuts" (kag kbp) (kaf kbp) (kab kbp) .none zbd zbn zbs zbo z8a zc1) ["basket", "bill"] [] := Binds.all (nL2 fun _ _ => rfl)
 have zq8 := kav (x := "line_totals") (qual := "line_totals") (st := kbb) zq0 zpz zod
 have zpj : Binds K (Cy "line_totals" "line_totals" (kag kbb) (kaf kbb) (kab kbb) .none z8x z8t z92 z9f z4e z9c) ["basket", "bill"] [] := Binds.all (nL2 fun _ _ => rfl)
 have zn4 := kav (x := "sums_by_line") (qual := "sums_by_line") (st := ka3) znx zli zns
 have zmc : Binds K (Cy "sums_by_line" "sums_by_line" (kag ka3) (kaf ka3) (kab ka3) .none z70 z72 z7g z7c z3h z7u) ["basket", "amounts"] [] := Binds.all (nL2 fun _ _ => rfl)
 have zme := kav (x := "_law_cell_at") (qual := "_law_cell_at") (st := ka8) zlp zny zll
 have zlo : Binds K (Cy "_law_cell_at" "_law_cell_at" (kag ka8) (kaf ka8) (kab ka8) .none z7w z7m z7y z7x z3d z7j) ["_law_script", "_law_k"] [] := Binds.all (nL2 fun _ _ => rfl)
 have ztr := kav (x := "_law_some") (qual := "_law_some") (st := kbv) zw0 zvp zv5
 have zuf : Binds K (Cy "_law_some" "_law_some" (kag kbv) (kaf kbv) (kab kbv) .none zc5 zc7 zbm zbf z8f zbe) ["_law_script", "_law_k", "_law_salt", "_law_many"] [] := Binds.all (nL4 fun _ _ _ _ => rfl)
 have zsj := kav (x := "_law_price") (qual := "_law_price") (st := kbj) zrc zsc zto
 have zt3 : Binds K (Cy "_law_price" "_law_price" (kag kbj) (kaf kbj) (kab kbj) .none zae za7 za2 zah z5w zac) ["_law_script", "_law_k", "_law_salt"] [] := Binds.all (nL3 fun _ _ _ => rfl)
 have zlg := kav (x := "_law_parents") (qual := "_law_parents") (st := ka7) zn5 zm8 zmt
 have zmn : Binds K (Cy "_law_parents" "_law_parents" (kag ka7) (kaf ka7) (kab ka7) .none z76 z7e z7s z74 z3j z7q) ["_law_script"] [] := Binds.all (nL1 fun _ => rfl)
 have zp2 := kav (x := "_law_basket") (qual := "_law_basket") (st := kbd) zq1 zoe zq6
 have zpe : Binds K (Cy "_law_basket" "_law_basket" (kag kbd) (kaf kbd) (kab kbd) .none z97 z8u z9b z8s z47 z98) ["_law_script", "_law_kinds"] [] := Binds.all (nL2 fun _ _ => rfl)
 have zqr := kav (x := "_law_amount") (qual := "_law_amount") (st := kbe) zpa zpm zo4
 have zo9 : Binds K (Cy "_law_amount" "_law_amount" (kag kbe) (kaf kbe) (kab kbe) .none z8v z9e z9d z94 z4a z90) ["_law_script", "_law_k", "_law_salt", "_law_worth_here"] [] := Binds.all (nL4 fun _ _ _ _ => rfl)
 have zrl := kav (x := "_law_marks") (qual := "_law_marks") (st := kbl) zr5 zrg zsw
 have zr9 : Binds K (Cy "_law_marks" "_law_marks" (kag kbl) (kaf kbl) (kab kbl) .none z9y zaz za9 zar z6v zay) ["_law_script", "_law_k", "_law_kinds", "_law_worth_here"] [] := Binds.all (nL4 fun _ _ _ _ => rfl)
 have znm := kav (x := "_law_voucher") (qual := "_law_voucher") (st := ka6) zmd znf znq
 have zmy : Binds K (Cy "_law_voucher" "_law_voucher" (kag ka6) (kaf ka6) (kab ka6) .none z7t z7a z7h z7k z3p z77) ["_law_script", "_law_k", "_law_kinds", "_law_worth_here"] [] := Binds.all (nL4 fun _ _ _ _ => rfl)
 have zsi := kav (x := "_law_rules") (qual := "_law_rules") (st := kbi) ztl zt9 zs5
 have zsb : Binds K (Cy "_law_rules" "_law_rules" (kag kbi) (kaf kbi) (kab kbi) .none zal zb2 zat zaf z6j zan) ["_law_script", "_law_many"] [] := Binds.all (nL2 fun _ _ => rfl)
 have zst := kav (x := "_law_worth") (qual := "_law_worth") (st := kbh) zqx ztb zsn
 have zrn : Binds K (Cy "_law_worth" "_law_worth" (kag kbh) (kaf kbh) (kab kbh) .none za0 zb4 zap zav z5q z9u) ["_law_basket_here"] [] := Binds.all (nL1 fun _ => rfl)
 have zv0 := kav (x := "_law_till") (qual := "_law_till") (st := kbq) zw2 zuo zw9
 have zud : Binds K (Cy "_law_till" "_law_till" (kag kbq) (kaf kbq) (kab kbq) .none zc2 zbl zcb zc3 z8j zc4) ["_law_script", "_law_parents_here", "_law_basket_here", "_law_back"] [] := Binds.all (nL4 fun _ _ _ _ => rfl)
 have zw4 := kav (x := "_law_hand") (qual := "_law_hand") (st := kbr) zue zwf zvw
 have zv6 : Binds K (Cy "_law_hand" "_law_hand" (kag kbr) (kaf kbr) (kab kbr) .none zbx zc9 zca zc6 z84 zbz) ["_law_script", "_law_many"] [] := Binds.all (nL2 fun _ _ => rfl)
 have zqz := kav (x := "_law_going") (qual := "_law_going") (st := kbm) ztd zt0 zr6
 have zsp : Binds K (Cy "_law_going" "_law_going" (kag kbm) (kaf kbm) (kab kbm) .none z9x zab zao za3 z6f zaa) ["_law_till_here", "_law_basket_here", "_law_hand_here", "_law_order_here"] [] := Binds.all (nL4 fun _ _ _ _ => rfl)
 have zsz := kav (x := "_law_order") (qual := "_law_order") (st := kbk) zra zss zsx
 have zru : Binds K (Cy "_law_order" "_law_order" (kag kbk) (kaf kbk) (kab kbk) .none zb0 zaw zak z9z z6b zai) ["_law_script", "_law_k", "_law_till_here", "_law_basket_here", "_law_hand_here"] [] := Binds.all (nL5 fun _ _ _ _ _ => rfl)
 have zgx := kav (x := "_law_number_is") (qual := "_law_number_is") (st := kaR) zhc zgr zgt
 have zh8 : Binds K (Cy "_law_number_is" "_law_number_is" (kag kaR) (kaf kaR) (kab kaR) .none z4u z4s z57 z5f z1v z5c) ["_law_found", "_law_due"] [] := Binds.all (nL2 fun _ _ => rfl)
 have zdr := kav (x := "_law_numbers_are") (qual := "_law_numbers_are") (st := kaD) zdk zdv zdu
 have zdw : Binds K (Cy "_law_numbers_are" "_law_numbers_are" (kag kaD) (kaf kaD) (kab kaD) .none z2x z2w z2z z34 z19 z3b) ["_law_found", "_law_due"] [] := Binds.all (nL2 fun _ _ => rfl)
 have zqg := kav (x := "_law_summed") (qual := "_law_summed") (st := kbc) zqi zov zqp
 have zqc : Binds K (Cy "_law_summed" "_law_summed" (kag kbc) (kaf kbc) (kab kbc) .none z9g z9a z8w z95 z4d z8z) ["_law_basket_here", "_law_numbers"] [] := Binds.all (nL2 fun _ _ => rfl)
 have zgc := kav (x := "_law_lists_are") (qual := "_law_lists_are") (st := kaS) zi7 zhn zhb
 have zge : Binds K (Cy "_law_lists_are" "_law_lists_are" (kag kaS) (kaf kaS) (kab kaS) .none z4r z5j z4x z58 z1t z52) ["_law_found", "_law_due"] [] := Binds.all (nL2 fun _ _ => rfl)
 have zdy := kav (x := "_law_lines_right") (qual := "_law_lines_right") (st := kay) zdl zdj zdi
 have zdn : Binds K (Cy "_law_lines_right" "_law_lines_right" (kag kay) (kaf kay) (kab kay) .none z37 z2v z32 z30 z1c z2y) ["_law_basket_here", "_law_bill"] [] := Binds.all (nL2 fun _ _ => rfl)
 have y12d := kav (x := "law") (qual := "law") (st := s_law) y12h y12g y12i
 have y12e : Binds K (Cy "law" "law" (kag s_law) (kaf s_law) (kab s_law) .none zw7 zub zvm zwa zo3 zuu) ["_law_script"] [] := Binds.all (nL1 fun _ => rfl)
 have zs9 := kav (x := "__init__") (qual := "Marks.__init__") (st := kar) zsm zrj zs1
 have zrr : Binds K (Cy "__init__" "Marks.__init__" (kag kar) (kaf kar) (kab kar) (.ref zl) zp zm zn zo zh zq) ["self", "kind", "needs", "most", "member", "once", "lone"] [] := fun s us KX hl => by
  have hl' : us.length = 7 := by simpa using hl
  clear hl; revert us; exact nL7 fun _ _ _ _ _ _ _ => BindsTo.of_defaults rfl (KX _ _ z1e) rfl rfl rfl
 have zmp : Binds K (Cy "__init__" "Marks.__init__" (kag kar) (kaf kar) (kab kar) (.ref zl) zp zm zn zo zh zq) ["self", "kind", "needs", "most", "member", "once", "lone"] [.bool false] := fun s us KX hl => by
  have hl' : us.length = 6 := by simpa using hl
  clear hl; revert us; exact nL6 fun _ _ _ _ _ _ => BindsTo.of_defaults rfl (KX _ _ z1e) rfl rfl rfl
 have zmb : Binds K (Cy "__init__" "Marks.__init__" (kag kar) (kaf kar) (kab kar) (.ref zl) zp zm zn zo zh zq) ["self", "kind", "needs", "most", "member", "once", "lone"] [.bool false, .bool false] := fun s us KX hl => by
  have hl' : us.length = 5 := by simpa using hl
  clear hl; revert us; exact nL5 fun _ _ _ _ _ => BindsTo.of_defaults rfl (KX _ _ z1e) rfl rfl rfl
 have zmk : Binds K (Cy "__init__" "Marks.__init__" (kag kar) (kaf kar) (kab kar) (.ref zl) zp zm zn zo zh zq) ["self", "kind", "needs", "most", "member", "once", "lone"] [.bool false, .bool false, .bool false] := fun s us KX hl => by
  have hl' : us.length = 4 := by simpa using hl
  clear hl; revert us; exact nL4 fun _ _ _ _ => BindsTo.of_defaults rfl (KX _ _ z1e) rfl rfl rfl
 have znd : Binds K (Cy "__init__" "Marks.__init__" (kag kar) (kaf kar) (kab kar) (.ref zl) zp zm zn zo zh zq) ["self", "kind", "needs", "most", "member", "once", "lone"] [.none, .bool false, .bool false, .bool false] := fun s us KX hl => by
  have hl' : us.length = 3 := by simpa using hl
  clear hl; revert us; exact nL3 fun _ _ _ => BindsTo.of_defaults rfl (KX _ _ z1e) rfl rfl rfl
 have zm6 : Binds K (Cy "__init__" "Marks.__init__" (kag kar) (kaf kar) (kab kar) (.ref zl) zp zm zn zo zh zq) ["self", "kind", "needs", "most", "member", "once", "lone"] [.int 0 z2c, .none, .bool false, .bool false, .bool false] := fun s us KX hl => by
  have hl' : us.length = 2 := by simpa using hl
  clear hl; revert us; exact nL2 fun _ _ => BindsTo.of_defaults rfl (KX _ _ z1e) rfl rfl rfl
 have zmr : Binds K (Cy "__init__" "Marks.__init__" (kag kar) (kaf kar) (kab kar) (.ref zl) zp zm zn zo zh zq) ["self", "kind", "needs", "most", "member", "once", "lone"] [.none, .int 0 z2c, .none, .bool false, .bool false, .bool false] := fun s us KX hl => by
  have hl' : us.length = 1 := by simpa using hl
  clear hl; revert us; exact nL1 fun _ => BindsTo.of_defaults rfl (KX _ _ z1e) rfl rfl rfl
 have zln := kav (x := "__init__") (qual := "Voucher.__init__") (st := kaL) zlr zn7 zmi
 have zlf : Binds K (Cy "__init__" "Voucher.__init__" (kag kaL) (kaf kaL) (kab kaL) (.ref z21) z3k z3n z3g z3l z1p z3f) ["self", "marks"] [] := fun s us KX hl => by
  have hl' : us.length = 2 := by simpa using hl
  clear hl; revert us; exact nL2 fun _ _ => BindsTo.of_defaults rfl (KX _ _ zcs) rfl rfl rfl
 have zgd : Binds K (Cy "__init__" "Voucher.__init__" (kag kaL) (kaf kaL) (kab kaL) (.ref z21) z3k z3n z3g z3l z1p z3f) ["self", "marks"] [.none] := fun s us KX hl => by
  have hl' : us.length = 1 := by simpa using hl
  clear hl; revert us; exact nL1 fun _ => BindsTo.of_defaults rfl (KX _ _ zcs) rfl rfl rfl
 have zwi := kav (x := "__init__") (qual := "Off.__init__") (st := kbs) zx8 zwt zx4
 have zww : Binds K (Cy "__init__" "Off.__init__" (kag kbs) (kaf kbs) (kab kbs) (.ref z8p) z9t z9s z9j z9n z6k z9i) ["self", "amount", "marks"] [] := fun s us KX hl => by
  have hl' : us.length = 3 := by simpa using hl
  clear hl; revert us; exact nL3 fun _ _ _ => BindsTo.of_defaults rfl (KX _ _ zlc) rfl rfl rfl
 have zsr : Binds K (Cy "__init__" "Off.__init__" (kag kbs) (kaf kbs) (kab kbs) (.ref z8p) z9t z9s z9j z9n z6k z9i) ["self", "amount", "marks"] [.none] := fun s us KX hl => by
  have hl' : us.length = 2 := by simpa using hl
  clear hl; revert us; exact nL2 fun _ _ => BindsTo.of_defaults rfl (KX _ _ zlc) rfl rfl rfl
 have zrs := kav (x := "__init__") (qual := "Share.__init__") (st := kaM) zsa zt7 zr8
 have ztk : Binds K (Cy "__init__" "Share.__init__" (kag kaM) (kaf kaM) (kab kaM) (.ref z28) z33 z35 z31 z38 z1m z3c) ["self", "share", "by_line", "marks"] [] := fun s us KX hl => by
  have hl' : us.length = 4 := by simpa using hl
  clear hl; revert us; exact nL4 fun _ _ _ _ => BindsTo.of_defaults rfl (KX _ _ zcc) rfl rfl rfl
 have zm9 : Binds K (Cy "__init__" "Share.__init__" (kag kaM) (kaf kaM) (kab kaM) (.ref z28) z33 z35 z31 z38 z1m z3c) ["self", "share", "by_line", "marks"] [.none] := fun s us KX hl => by
  have hl' : us.length = 3 := by simpa using hl
  clear hl; revert us; exact nL3 fun _ _ _ => BindsTo.of_defaults rfl (KX _ _ zcc) rfl rfl rfl
 have zni : Binds K (Cy "__init__" "Share.__init__" (kag kaM) (kaf kaM) (kab kaM) (.ref z28) z33 z35 z31 z38 z1m z3c) ["self", "share", "by_line", "marks"] [.bool false, .none] := fun s us KX hl => by
  have hl' : us.length = 2 := by simpa using hl
  clear hl; revert us; exact nL2 fun _ _ => BindsTo.of_defaults rfl (KX _ _ zcc) rfl rfl rfl
 have zj5 := kav (x := "__init__") (qual := "Cheapest.__init__") (st := kaF) zki zjk zkj
 have zim : Binds K (Cy "__init__" "Cheapest.__init__" (kag kaF) (kaf kaF) (kab kaF) (.ref z1r) z2j z2e z2r z2l z1d z2b) ["self", "many", "marks"] [] := fun s us KX hl => by
  have hl' : us.length = 3 := by simpa using hl
  clear hl; revert us; exact nL3 fun _ _ _ => BindsTo.of_defaults rfl (KX _ _ zcd) rfl rfl rfl
 have zf4 : Binds K (Cy "__init__" "Cheapest.__init__" (kag kaF) (kaf kaF) (kab kaF) (.ref z1r) z2j z2e z2r z2l z1d z2b) ["self", "many", "marks"] [.none] := fun s us KX hl => by
  have hl' : us.length = 2 := by simpa using hl
  clear hl; revert us; exact nL2 fun _ _ => BindsTo.of_defaults rfl (KX _ _ zcd) rfl rfl rfl
 have zqn := kav (x := "__init__") (qual := "Bundle.__init__") (st := kaV) zo8 zp1 zpn
 have zo5 : Binds K (Cy "__init__" "Bundle.__init__" (kag kaV) (kaf kaV) (kab kaV) (.ref z36) z4l z49 z4i z4j z23 z4m) ["self", "many", "price", "marks"] [] := fun s us KX hl => by
  have hl' : us.length = 4 := by simpa using hl
  clear hl; revert us; exact nL4 fun _ _ _ _ => BindsTo.of_defaults rfl (KX _ _ zd9) rfl rfl rfl
 have zk6 : Binds K (Cy "__init__" "Bundle.__init__" (kag kaV) (kaf kaV) (kab kaV) (.ref z36) z4l z49 z4i z4j z23 z4m) ["self", "many", "price", "marks"] [.none] := fun s us KX hl => by
  have hl' : us.length = 3 := by simpa using hl
  clear hl; revert us; exact nL3 fun _ _ _ => BindsTo.of_defaults rfl (KX _ _ zd9) rfl rfl rfl
 have zih := kav (x := "__init__") (qual := "Carriage.__init__") (st := kaG) zl5 zia zju
 have zj4 : Binds K (Cy "__init__" "Carriage.__init__" (kag kaG) (kaf kaG) (kab kaG) (.ref z1j) z2a z2t z2g z2i z1a z2m) ["self", "marks"] [] := fun s us KX hl => by
  have hl' : us.length = 2 := by simpa using hl
  clear hl; revert us; exact nL2 fun _ _ => BindsTo.of_defaults rfl (KX _ _ zch) rfl rfl rfl
 have zen : Binds K (Cy "__init__" "Carriage.__init__" (kag kaG) (kaf kaG) (kab kaG) (.ref z1j) z2a z2t z2g z2i z1a z2m) ["self", "marks"] [.none] := fun s us KX hl => by
  have hl' : us.length = 1 := by simpa using hl
  clear hl; revert us; exact nL1 fun _ => BindsTo.of_defaults rfl (KX _ _ zch) rfl rfl rfl
 have zu3 := kav (x := "__init__") (qual := "Line.__init__") (st := kbg) zw3 zuz zwe
 have zvr : Binds K (Cy "__init__" "Line.__init__" (kag kbg) (kaf kbg) (kab kbg) (.ref z5y) z8h z8l z87 z8d z45 z83) ["self", "kind", "price", "many", "special"] [] := fun s us KX hl => by
  have hl' : us.length = 5 := by simpa using hl
  clear hl; revert us; exact nL5 fun _ _ _ _ _ => BindsTo.of_defaults rfl (KX _ _ zh7) rfl rfl rfl
 have zot : Binds K (Cy "__init__" "Line.__init__" (kag kbg) (kaf kbg) (kab kbg) (.ref z5y) z8h z8l z87 z8d z45 z83) ["self", "kind", "price", "many", "special"] [.none] := fun s us KX hl => by
  have hl' : us.length = 4 := by simpa using hl
  clear hl; revert us; exact nL4 fun _ _ _ _ => BindsTo.of_defaults rfl (KX _ _ zh7) rfl rfl rfl
 have zpg := kav (x := "__init__") (qual := "Basket.__init__") (st := kaH) zol zpo zpy
 have zq7 : Binds K (Cy "__init__" "Basket.__init__" (kag kaH) (kaf kaH) (kab kaH) (.ref z1k) z27 z25 z24 z20 zz z26) ["self", "lines", "carriage", "member"] [] := fun s us KX hl => by
  have hl' : us.length = 4 := by simpa using hl
  clear hl; revert us; exact nL4 fun _ _ _ _ => BindsTo.of_defaults rfl (KX _ _ zb7) rfl rfl rfl
 have zl4 : Binds K (Cy "__init__" "Basket.__init__" (kag kaH) (kaf kaH) (kab kaH) (.ref z1k) z27 z25 z24 z20 zz z26) ["self", "lines", "carriage", "member"] [.bool false] := fun s us KX hl => by
  have hl' : us.length = 3 := by simpa using hl
  clear hl; revert us; exact nL3 fun _ _ _ => BindsTo.of_defaults rfl (KX _ _ zb7) rfl rfl rfl
 have zkl : Binds K (Cy "__init__" "Basket.__init__" (kag kaH) (kaf kaH) (kab kaH) (.ref z1k) z27 z25 z24 z20 zz z26) ["self", "lines", "carriage", "member"] [.int 0 z5a, .bool false] := fun s us KX hl => by
  have hl' : us.length = 2 := by simpa using hl
  clear hl; revert us; exact nL2 fun _ _ => BindsTo.of_defaults rfl (KX _ _ zb7) rfl rfl rfl
 have zic := kav (x := "__init__") (qual := "Standing.__init__") (st := ka0) zk1 zj0 zis
 have zj1 : Binds K (Cy "__init__" "Standing.__init__" (kag ka0) (kaf ka0) (kab ka0) .none z65 z6d z6z z6q z2u z6p) ["self", "basket"] [] := Binds.all (nL2 fun _ _ => rfl)
 have zi2 := kav (x := "whole") (qual := "Standing.whole") (st := kaT) zft zgh zgl
 have zhe : Binds K (Cy "whole" "Standing.whole" (kag kaT) (kaf kaT) (kab kaT) .none z56 z4w z51 z50 z1s z5h) ["self"] [] := Binds.all (nL1 fun _ => rfl)
 have zx0 := kav (x := "__init__") (qual := "Way.__init__") (st := kbD) zwr zwy zxc
 have zwn : Binds K (Cy "__init__" "Way.__init__" (kag kbD) (kaf kbD) (kab kbD) .none zcn zco zcl zck z9p zci) ["self", "till", "basket", "hand"] [] := Binds.all (nL4 fun _ _ _ _ => rfl)
 have zmx := kav (x := "word_for") (qual := "Way.word_for") (st := ka9) zn8 zmf zo0
 have znj : Binds K (Cy "word_for" "Way.word_for" (kag ka9) (kaf ka9) (kab ka9) .none z7f z7z z7r z7n z3r z7b) ["self", "number"] [] := Binds.all (nL2 fun _ _ => rfl)
 have zre := kav (x := "behind") (qual := "Way.behind") (st := kbn) zr3 ztg zs6
 have ztf : Binds K (Cy "behind" "Way.behind" (kag kbn) (kaf kbn) (kab kbn) .none zad zam za8 zaq z5o zb6) ["self", "number"] [] := Binds.all (nL2 fun _ _ => rfl)
 have zl9 := kav (x := "is_let_by") (qual := "Way.is_let_by") (st := kaZ) zk4 zja zk8
 have zik : Binds K (Cy "is_let_by" "Way.is_let_by" (kag kaZ) (kaf kaZ) (kab kaZ) .none z6m z67 z6w z6y z2n z6t) ["self"] [] := Binds.all (nL1 fun _ => rfl)
 have zun := kav (x := "__init__") (qual := "Bill.__init__") (st := kbw) zwh zu6 zuh
 have zuj : Binds K (Cy "__init__" "Bill.__init__" (kag kbw) (kaf kbw) (kab kbw) .none zbg zc0 zbi zbw z8g zby) ["self", "order", "steps", "standing"] [] := Binds.all (nL4 fun _ _ _ _ => rfl)
 have zv7 := kav (x := "__init__") (qual := "Till.__init__") (st := kbf) zu4 zvs zvo
 have zvh : Binds K (Cy "__init__" "Till.__init__" (kag kbf) (kaf kbf) (kab kbf) (.ref z6x) z8i z80 z8m z85 z46 z82) ["self", "parents", "vouchers", "rules", "back"] [] := fun s us KX hl => by
  have hl' : us.length = 5 := by simpa using hl
  clear hl; revert us; exact nL5 fun _ _ _ _ _ => BindsTo.of_defaults rfl (KX _ _ zgs) rfl rfl rfl
 have zqo : Binds K (Cy "__init__" "Till.__init__" (kag kbf) (kaf kbf) (kab kbf) (.ref z6x) z8i z80 z8m z85 z46 z82) ["self", "parents", "vouchers", "rules", "back"] [.str "again" z7i] := fun s us KX hl => by
  have hl' : us.length = 4 := by simpa using hl
  clear hl; revert us; exact nL4 fun _ _ _ _ => BindsTo.of_defaults rfl (KX _ _ zgs) rfl rfl rfl
 have W : Wld K mg ⟨(zg6), (Cy "dealt" "dealt" (kag kca) (kaf kca) (kab kca) .none zkn zjr zk7 zix zdg zin), (zh9), (Cy "under" "under" (kag kb8) (kaf kb8) (kab kb8) .none zky zkh zjy zjc zdd zj9), (z2q), (Cy "price_of_piece" "price_of_piece" (kag kaO) (kaf kaO) (kab kaO) .none z54 z5b z5g z4z z1w z53), (zi8), (Cy "about" "about" (kag kbZ) (kaf kbZ) (kab kbZ) .none ziq zla ziw zj2 zdc zjl), (zo1), (Cy "fits" "fits" (kag kcA) (kaf kcA) (kab kcA) .none zoj zpf zoz zop zhv zp5), (z9o), (Cy "hindrance" "hindrance" (kag kbu) (kaf kbu) (kab kbu) .none zbt zc8 zbj zbu z8b zbk), (zo2), (Cy "cuts" "cuts" (kag kcB) (kaf kcB) (kab kcB) .none zpb zoh zpl zpx zi4 zqd), (zhm), (Cy "after" "after" (kag kcb) (kaf kcb) (kab kcb) .none zkd zkf zjo zkv zdb zks), (z29), (Cy "cuts_of_pieces" "cuts_of_pieces" (kag kaQ) (kaf kaQ) (kab kaQ) .none z5k z5e z55 z59 z1u z4y), (z1z), (Cy "cut_of_carriage" "cut_of_carriage" (kag kaK) (kaf kaK) (kab kaK) .none z3y z41 z3s z3v z1f z3x), (z63), (Cy "wanted_cuts" "wanted_cuts" (kag kaU) (kaf kaU) (kab kaU) .none z8y z96 z99 z93 z4c z91), (z2s), (Cy "parted_by_line" "parted_by_line" (kag kaP) (kaf kaP) (kab kaP) .none z4o z4t z5i z5l z1x z4n), (z2p), (Cy "falling_groups" "falling_groups" (kag kaC) (kaf kaC) (kab kaC) .none z4v z5d z4q z5m zt z4p), (z3e), (Cy "marked_behind" "marked_behind" (kag kaY) (kaf kaY) (kab kaY) .none z5x z61 z6g z6n z2f z5r), (z9l), (Cy "prices_of" "prices_of" (kag kbo) (kaf kbo) (kab kbo) .none zbv zbr zbq zbp z8c zbh), (z3o), (Cy "sum_of_prices" "sum_of_prices" (kag kaX) (kaf kaX) (kab kaX) .none z68 z62 z6l z5v z2d z5z), (zcm), (Cy "at_most" "at_most" (kag kbL) (kaf kbL) (kab kbL) .none zcy zd6 zd7 zd4 zba zd1), (zi0), (Cy "fault" "fault" (kag kb9) (kaf kb9) (kab kb9) .none zl1 zk3 zl8 zi9 zde zii), (zdf), (Cy "way_by" "way_by" (kag kbV) (kaf kbV) (kab kbV) .none zfc zfd zfm zf6 zcj ze9), (z3q), (Cy "word_of_order" "word_of_order" (kag kaW) (kaf kaW) (kab kaW) .none z6s z69 z66 z6o z2o z60), (z4b), (Cy "breaks_never" "breaks_never" (kag ka4) (kaf ka4) (kab ka4) .none z7o z7d z7l z78 z3m z7v), (z4f), (Cy "breaks_ahead" "breaks_ahead" (kag ka5) (kaf ka5) (kab ka5) .none z7p z71 z75 z73 z3i z79), (z1y), (Cy "without_company" "without_company" (kag kaJ) (kaf kaJ) (kab kaJ) .none z3z z40 z3u z3w z1g z3t), (zda), (Cy "priced" "priced" (kag kbW) (kaf kbW) (kab kbW) .none zez ze4 zfk zeg zcp zfa), (z9q), (Cy "line_cuts" "line_cuts" (kag kbp) (kaf kbp) (kab kbp) .none zbd zbn zbs zbo z8a zc1), (z5u), (Cy "line_totals" "line_totals" (kag kbb) (kaf kbb) (kab kbb) .none z8x z8t z92 z9f z4e z9c), (z4g), (Cy "sums_by_line" "sums_by_line" (kag ka3) (kaf ka3) (kab ka3) .none z70 z72 z7g z7c z3h z7u), (z48), (Cy "_law_cell_at" "_law_cell_at" (kag ka8) (kaf ka8) (kab ka8) .none z7w z7m z7y z7x z3d z7j), (z9m), (Cy "_law_some" "_law_some" (kag kbv) (kaf kbv) (kab kbv) .none zc5 zc7 zbm zbf z8f zbe), (z8e), (Cy "_law_price" "_law_price" (kag kbj) (kaf kbj) (kab kbj) .none zae za7 za2 zah z5w zac), (z4k), (Cy "_law_parents" "_law_parents" (kag ka7) (kaf ka7) (kab ka7) .none z76 z7e z7s z74 z3j z7q), (z6u), (Cy "_law_basket" "_law_basket" (kag kbd) (kaf kbd) (kab kbd) .none z97 z8u z9b z8s z47 z98), (z6i), (Cy "_law_amount" "_law_amount" (kag kbe) (kaf kbe) (kab kbe) .none z8v z9e z9d z94 z4a z90), (z86), (Cy "_law_marks" "_law_marks" (kag kbl) (kaf kbl) (kab kbl) .none z9y zaz za9 zar z6v zay), (z4h), (Cy "_law_voucher" "_law_voucher" (kag ka6) (kaf ka6) (kab ka6) .none z7t z7a z7h z7k z3p z77), (z8k), (Cy "_law_rules" "_law_rules" (kag kbi) (kaf kbi) (kab kbi) .none zal zb2 zat zaf z6j zan), (z89), (Cy "_law_worth" "_law_worth" (kag kbh) (kaf kbh) (kab kbh) .none za0 zb4 zap zav z5q z9u), (z9k), (Cy "_law_till" "_law_till" (kag kbq) (kaf kbq) (kab kbq) .none zc2 zbl zcb zc3 z8j zc4), (z9r), (Cy "_law_hand" "_law_hand" (kag kbr) (kaf kbr) (kab kbr) .none zbx zc9 zca zc6 z84 zbz), (z88), (Cy "_law_going" "_law_going" (kag kbm) (kaf kbm) (kab kbm) .none z9x zab zao za3 z6f zaa), (z81), (Cy "_law_order" "_law_order" (kag kbk) (kaf kbk) (kab kbk) .none zb0 zaw zak z9z z6b zai), (z2h), (Cy "_law_number_is" "_law_number_is" (kag kaR) (kaf kaR) (kab kaR) .none z4u z4s z57 z5f z1v z5c), (z1i), (Cy "_law_numbers_are" "_law_numbers_are" (kag kaD) (kaf kaD) (kab kaD) .none z2x z2w z2z z34 z19 z3b), (z5n), (Cy "_law_summed" "_law_summed" (kag kbc) (kaf kbc) (kab kbc) .none z9g z9a z8w z95 z4d z8z), (z2k), (Cy "_law_lists_are" "_law_lists_are" (kag kaS) (kaf kaS) (kab kaS) .none z4r z5j z4x z58 z1t z52), (z1h), (Cy "_law_lines_right" "_law_lines_right" (kag kay) (kaf kay) (kab kay) .none z37 z2v z32 z30 z1c z2y), (zp9), (Cy "law" "law" (kag s_law) (kaf s_law) (kab s_law) .none zw7 zub zvm zwa zo3 zuu), (zk), (z44), (Cy "__init__" "Marks.__init__" (kag kar) (kaf kar) (kab kar) (.ref zl) zp zm zn zo zh zq), (z2c), (zf), (zy), (Cy "__init__" "Voucher.__init__" (kag kaL) (kaf kaL) (kab kaL) (.ref z21) z3k z3n z3g z3l z1p z3f), (zs), (z8o), (Cy "__init__" "Off.__init__" (kag kbs) (kaf kbs) (kab kbs) (.ref z8p) z9t z9s z9j z9n z6k z9i), (ze), (z42), (Cy "__init__" "Share.__init__" (kag kaM) (kaf kaM) (kab kaM) (.ref z28) z33 z35 z31 z38 z1m z3c), (za), (z1q), (Cy "__init__" "Cheapest.__init__" (kag kaF) (kaf kaF) (kab kaF) (.ref z1r) z2j z2e z2r z2l z1d z2b), (zc), (z3a), (Cy "__init__" "Bundle.__init__" (kag kaV) (kaf kaV) (kab kaV) (.ref z36) z4l z49 z4i z4j z23 z4m), (zb), (z1n), (Cy "__init__" "Carriage.__init__" (kag kaG) (kaf kaG) (kab kaG) (.ref z1j) z2a z2t z2g z2i z1a z2m), (zw), (z64), (Cy "__init__" "Line.__init__" (kag kbg) (kaf kbg) (kab kbg) (.ref z5y) z8h z8l z87 z8d z45 z83), (zj), (z39), (Cy "__init__" "Basket.__init__" (kag kaH) (kaf kaH) (kab kaH) (.ref z1k) z27 z25 z24 z20 zz z26), (z5a), (zd), (z1o), (Cy "__init__" "Standing.__init__" (kag ka0) (kaf ka0) (kab ka0) .none z65 z6d z6z z6q z2u z6p), (z1b), (Cy "whole" "Standing.whole" (kag kaT) (kaf kaT) (kab kaT) .none z56 z4w z51 z50 z1s z5h), (zx), (z8r), (Cy "__init__" "Way.__init__" (kag kbD) (kaf kbD) (kab kbD) .none zcn zco zcl zck z9p zci), (z22), (Cy "word_for" "Way.word_for" (kag ka9) (kaf ka9) (kab ka9) .none z7f z7z z7r z7n z3r z7b), (z43), (Cy "behind" "Way.behind" (kag kbn) (kaf kbn) (kab kbn) .none zad zam za8 zaq z5o zb6), (z1l), (Cy "is_let_by" "Way.is_let_by" (kag kaZ) (kaf kaZ) (kab kaZ) .none z6m z67 z6w z6y z2n z6t), (zr), (z6c), (Cy "__init__" "Bill.__init__" (kag kbw) (kaf kbw) (kab kbw) .none zbg zc0 zbi zbw z8g zby), (zv), (z5p), (Cy "__init__" "Till.__init__" (kag kbf) (kaf kbf) (kab kbf) (.ref z6x) z8i z80 z8m z85 z46 z82), (z7i), (zu), (zi)⟩ := ⟨B, ⟨y10e, zzk, CO X G y10o⟩, ⟨y101, y10x, CO X G y10y⟩, ⟨zgo, zhy, CO X G zgp⟩, ⟨zzp, zzq, CO X G y10m⟩, ⟨y11y, y11r, CO X G y12c⟩, ⟨zuq, zw1, CO X G ztu⟩, ⟨y11j, y11s, CO X G y12a⟩, ⟨y10b, y10r, CO X G y10g⟩, ⟨zh1, zg2, CO X G zhs⟩, ⟨zf9, zes, CO X G zfb⟩, ⟨zql, zph, CO X G zof⟩, ⟨zh5, zi1, CO X G zht⟩, ⟨zgk, zga, CO X G zfs⟩, ⟨zkg, zib, CO X G zkk⟩, ⟨zv4, zts, CO X G zwg⟩, ⟨zj8, zig, CO X G zj6⟩, ⟨zxi, zy3, CO X G zxs⟩, ⟨y107, y10i, CO X G y10a⟩, ⟨zym, zye, CO X G zyo⟩, ⟨zji, zjw, CO X G zko⟩, ⟨zn2, zn6, CO X G zno⟩, ⟨zn3, zlj, CO X G zmg⟩, ⟨zel, zeo, CO X G zer⟩, ⟨zyy, zz9, CO X G zz7⟩, ⟨zty, ztv, CO X G zuw⟩, ⟨zq8, zpj, CO X G zqs⟩, ⟨zn4, zmc, CO X G zne⟩, ⟨zme, zlo, CO X G zm7⟩, ⟨ztr, zuf, CO X G zv3⟩, ⟨zsj, zt3, CO X G zsd⟩, ⟨zlg, zmn, CO X G zml⟩, ⟨zp2, zpe, CO X G zp3⟩, ⟨zqr, zo9, CO X G zps⟩, ⟨zrl, zr9, CO X G ztm⟩, ⟨znm, zmy, CO X G zm3⟩, ⟨zsi, zsb, CO X G zt4⟩, ⟨zst, zrn, CO X G zqt⟩, ⟨zv0, zud, CO X G zu0⟩, ⟨zw4, zv6, CO X G zvy⟩, ⟨zqz, zsp, CO X G zrd⟩, ⟨zsz, zru, CO X G zs0⟩, ⟨zgx, zh8, CO X G zgv⟩, ⟨zdr, zdw, CO X G zdz⟩, ⟨zqg, zqc, CO X G zoc⟩, ⟨zgc, zge, CO X G zgm⟩, ⟨zdy, zdn, CO X G zdo⟩, ⟨y12d, y12e, CO X G y10k⟩, ⟨⟨zy8, zz8, zyz, zz1⟩, CO X G y11c, ⟨zzd, inX, itX, zz3⟩, zze, zz4, zya, zyg⟩, zr7, zp7, zry, zna, zri, zsh, ⟨zqy, zse, zs9, zrr⟩, zmp, zmb, zmk, znd, zm6, zmr, ⟨⟨zwz, zx2, zx3, zws⟩, CO X G zy1, ⟨zx5, inX, itX, zx9⟩, zxa, zwx, zwj, zwv⟩, ⟨zng, znu, zln, zlf⟩, zgd, CO X G y10c, ⟨⟨y11f, y11t, y127, y11z⟩, CO X G y10c, ⟨y11m, inX, itX, zgu⟩, zhq, zho, y121, y11q⟩, zrx, zu5, ⟨zxd, zwp, zwi, zww⟩, zsr, CO X G zx1, ⟨⟨zyq, zyf, zzf, zyp⟩, CO X G zx1, ⟨zyj, inX, itX, zcf⟩, zcg, zce, zz6, zyh⟩, zp0, zje, zpp, ⟨zt5, zta, zrs, ztk⟩, zm9, zni, CO X G zle, ⟨⟨zwc, zvl, zu2, zus⟩, CO X G zle, ⟨zu7, inX, itX, z6a⟩, z5s, z5t, zul, zv8⟩, zjv, zhr, ⟨zjq, zio, zj5, zim⟩, zf4, CO X G ztp, ⟨⟨zxv, zy0, zxr, zy2⟩, CO X G ztp, ⟨zxy, inX, itX, zas⟩, zag, za6, zxm, zy5⟩, zpu, zlm, zlu, ⟨zpq, zor, zqn, zo5⟩, zk6, CO X G zld, ⟨⟨zvc, zvd, zuy, zw6⟩, CO X G zld, ⟨zvn, inX, itX, z6e⟩, z6h, z6r, ztz, zur⟩, zhp, ⟨zkb, zjn, zih, zj4⟩, zen, ⟨⟨y10z, y103, y116, zzz⟩, CO X G y11o, ⟨zzn, inX, itX, y112⟩, zzl, zzr, y10v, y10t⟩, zum, zs7, ztq, zlv, ⟨zv1, zvi, zu3, zvr⟩, zot, ⟨⟨zxo, zxq, zxl, zxu⟩, CO X G zz5, ⟨zxx, inX, itX, zxh⟩, zxz, zxw, zxn, zxj⟩, znb, zei, zid, ⟨zp8, zoa, zpg, zq7⟩, zl4, zkl, ⟨⟨zvt, zvz, zuv, zui⟩, CO X G zwu, ⟨zw8, inX, itX, zwb⟩, zvq, zug, zwd, ztx⟩, zf7, zfo, zd8, zfg, ⟨zjx, zkm, zic, zj1⟩, ⟨zh2, zh4, zi2, zhe⟩, ⟨⟨y120, y11l, y122, y11e⟩, CO X G y12f, ⟨y11x, inX, itX, y123⟩, y11w, y11p, y11k, y11u⟩, zwq, zsf, zx7, zwm, zn0, ⟨zwl, zxb, zx0, zwn⟩, ⟨zls, znr, zmx, znj⟩, ⟨zsu, zt8, zre, ztf⟩, ⟨zjz, ziz, zl9, zik⟩, ⟨⟨zzw, y10w, y118, y104⟩, CO X G y11i, ⟨zzo, inX, itX, y113⟩, zzu, zzj, zzy, y11b⟩, zr0, zs4, zou, zka, zs3, ⟨zw5, ztw, zun, zuj⟩, ⟨⟨y11a, y110, zzh, y102⟩, CO X G y11g, ⟨y10s, inX, itX, y10p⟩, y100, y108, y106, zzm⟩, zlq, zjf, zrh, zvf, ⟨zv9, zua, zv7, zvh⟩, zqo, ⟨ziv, zk9, zit⟩, kbt zcq z6e z6r (kbX zcq zhq), kbt zbc z6e z6r (kbX zbc zcg), kbt z8q z6e z6r (kbX z8q z5s), kbt zb1 z6e z6r (kbX zb1 zag), kbt zi5 zgu zho (kbX zi5 zcg), kbt zcu zgu zho (kbX zcu z5s), kbt ze1 zgu zho (kbX ze1 zag), kbt zcv zgu zho (kbX zcv z6h), kbt zg8 zcf zce (kbX zg8 zhq), kbt zb9 zcf zce (kbX zb9 z5s), kbt zcw zcf zce (kbX zcw zag), kbt zb8 zcf zce (kbX zb8 z6h), kbt zcr z6a z5t (kbX zcr zhq), kbt zbb z6a z5t (kbX zbb zcg), kbt za4 z6a z5t (kbX za4 zag), kbt z8n z6a z5t (kbX z8n z6h), kbt ze2 zas za6 (kbX ze2 zhq), kbt zct zas za6 (kbX zct zcg), kbt zax zas za6 (kbX zax z5s), kbt zb5 zas za6 (kbX zb5 z6h), zff, ⟨_, zg, zau, z9w, za5, zb3, za1, z9v, zaj, zex, zfn, rfl, zfp, zeq, zej, zf8, zem, zfe, zfh⟩⟩
 exact ⟨_, zi, zu, zek, W.ck_falling_groups, zet, fun s v => .of_eq rfl, fun base _ _ hB => kll ⟨W, hB⟩⟩
end Vs
def PySem.W.Fast.tw18088005520733815909 : Nat := 0
def PySem.W.Fast.tw7104798897231846206 : Nat := 0
def PySem.W.Fast.tw2919651140029426045 : Nat := 0
def PySem.W.Fast.tw14103106060008875203 : Nat := 0
def PySem.W.Fast.tw14508756533099235548 : Nat := 0
def PySem.W.Fast.tw16139876088428307200 : Nat := 0
def PySem.W.Fast.tw10864224065075253756 : Nat := 0
def PySem.W.Fast.tw14710965392107288625 : Nat := 0
def PySem.W.Fast.tw7676154344707568600 : Nat := 0
def PySem.W.Fast.tw5302729454341081744 : Nat := 0
def PySem.W.Fast.tw10483231254078014980 : Nat := 0
def PySem.W.Fast.tw14030782500386169775 : Nat := 0
def PySem.W.Fast.tw2559593706451706743 : Nat := 0
def PySem.W.Fast.tw13029109859126734697 : Nat := 0
def PySem.W.Fast.tw9512230051252236016 : Nat := 0
def PySem.W.Fast.tw12482323572003581186 : Nat := 0
def PySem.W.Fast.tw14203258653795444853 : Nat := 0
def PySem.W.Fast.tw4868993187105676759 : Nat := 0
def PySem.W.Fast.tw14482374319421360561 : Nat := 0
def PySem.W.Fast.tw8243324641945494756 : Nat := 0
def PySem.W.Fast.tw4473619699206471694 : Nat := 0
def PySem.W.Fast.tw6921389241096880762 : Nat := 0
def PySem.W.Fast.tw6711806101139330501 : Nat := 0
def PySem.W.Fast.tw16667224595752962909 : Nat := 0
def PySem.W.Fast.tw8964073005979517002 : Nat := 0
def PySem.W.Fast.tw1235406841688030960 : Nat := 0
def PySem.W.Fast.tw11913443065184088921 : Nat := 0
def PySem.W.Fast.tw6784721032859849425 : Nat := 0
def PySem.W.Fast.tw11182122227634183074 : Nat := 0
def PySem.W.Fast.tw13542760774921689561 : Nat := 0
def PySem.W.Fast.tw5057874382255188480 : Nat := 0
def PySem.W.Fast.tw2614944212841878259 : Nat := 0
def PySem.W.Fast.tw7797082370106560896 : Nat := 0
def PySem.W.Fast.tw12756527167647830639 : Nat := 0
def PySem.W.Fast.tw15356489854083946314 : Nat := 0
def PySem.W.Fast.tw7079222138793377381 : Nat := 0
def PySem.W.Fast.tw3478904669130381024 : Nat := 0
def PySem.W.Fast.tw1639917370684006657 : Nat := 0
def PySem.W.Fast.tw3302189879112888033 : Nat := 0
def PySem.W.Fast.tw5955897038540433282 : Nat := 0
def PySem.W.Fast.tw2642198376673558787 : Nat := 0
def PySem.W.Fast.tw7732710377663154563 : Nat := 0
def PySem.W.Fast.tw6234432023027574211 : Nat := 0
def PySem.W.Fast.tw8093364947395652644 : Nat := 0
def PySem.W.Fast.tw13560601225915594884 : Nat := 0
def PySem.W.Fast.tw17072199934771055524 : Nat := 0
def PySem.W.Fast.tw1203743619488059364 : Nat := 0
def PySem.W.Fast.tw1728102889737078886 : Nat := 0
def PySem.W.Fast.tw1281523621443896616 : Nat := 0
def PySem.W.Fast.tw2329782905916001770 : Nat := 0
def PySem.W.Fast.tw11978089607422656202 : Nat := 0
def PySem.W.Fast.tw1213448169022502220 : Nat := 0
def PySem.W.Fast.tw749533968931287532 : Nat := 0
def PySem.W.Fast.tw8479299660222898189 : Nat := 0
def PySem.W.Fast.tw2075966212326646928 : Nat := 0
def PySem.W.Fast.tw15830138598509693616 : Nat := 0
def PySem.W.Fast.tw12768941017990964945 : Nat := 0
def PySem.W.Fast.tw2945327238808543666 : Nat := 0
def PySem.W.Fast.tw11315093527513390706 : Nat := 0
def PySem.W.Fast.tw12662140295334646547 : Nat := 0
def PySem.W.Fast.tw7815291890383985013 : Nat := 0
def PySem.W.Fast.tw16709843375809966742 : Nat := 0
def PySem.W.Fast.tw11719380378347642774 : Nat := 0
def PySem.W.Fast.tw6068017694908527831 : Nat := 0
def PySem.W.Fast.tw10539715675921993975 : Nat := 0
def PySem.W.Fast.tw7446077731320615159 : Nat := 0
def PySem.W.Fast.tw6063792024207200983 : Nat := 0
def PySem.W.Fast.tw12647669630964635001 : Nat := 0
def PySem.W.Fast.tw15221673951106267993 : Nat := 0
def PySem.W.Fast.tw9565177804421763163 : Nat := 0
def PySem.W.Fast.tw11965124739536726555 : Nat := 0
def PySem.W.Fast.tw3135945631806390939 : Nat := 0
def PySem.W.Fast.tw482631559767535068 : Nat := 0
def PySem.W.Fast.tw13272392799048738430 : Nat := 0
def PySem.W.Fast.tw15362421861578133118 : Nat := 0
def PySem.W.Fast.tw8109665286719009598 : Nat := 0
def PySem.W.Fast.tw15248536809282930534 : Nat := 0
def PySem.W.Fast.tw3845871761369138178 : Nat := 0
def PySem.W.Fast.tw1589733410885972685 : Nat := 0
def PySem.W.Fast.tw9669308452798909188 : Nat := 0
def PySem.W.Fast.tw13077592247384171458 : Nat := 0
def PySem.W.Fast.tw15821577766835267057 : Nat := 0
def PySem.W.Fast.tw16345888797963238054 : Nat := 0
def PySem.W.Fast.tw927367807169388221 : Nat := 0
def PySem.W.Fast.tw8911974821202211620 : Nat := 0
def PySem.W.Fast.tw15867089244100798152 : Nat := 0
def PySem.W.Fast.tw1951739841264709925 : Nat := 0
def PySem.W.Fast.tw6449624181965033382 : Nat := 0
def PySem.W.Fast.tw11097947190913463870 : Nat := 0
def PySem.W.Fast.tw2108720117402702447 : Nat := 0
def PySem.W.Fast.tw13709740972817375333 : Nat := 0
def PySem.W.Fast.tw5181714026210386104 : Nat := 0
def PySem.W.Fast.tw4704886781602558285 : Nat := 0
def PySem.W.Fast.tw1497652733685262081 : Nat := 0
def PySem.W.Fast.tw6801861895979635426 : Nat := 0
def PySem.W.Fast.tw169266498497588935 : Nat := 0
def PySem.W.Fast.tw7560514343977221509 : Nat := 0
def PySem.W.Fast.tw17944987757235794377 : Nat := 0
def PySem.W.Fast.tw1773812397257523591 : Nat := 0
def PySem.W.Fast.tw6372911287270004758 : Nat := 0
def PySem.W.Fast.tw15381266385353627480 : Nat := 0
def PySem.W.Fast.tw11558397459559951811 : Nat := 0
def PySem.W.Fast.tw10834588648922090221 : Nat := 0
def PySem.W.Fast.tw14759641402113944693 : Nat := 0
def PySem.W.Fast.tw1074754990426570470 : Nat := 0
def PySem.W.Fast.tw14168913310273880803 : Nat := 0
def PySem.W.Fast.tw882866247312721820 : Nat := 0
def PySem.W.Fast.tw17507393091331898992 : Nat := 0
def PySem.W.Fast.tw6079716885812843917 : Nat := 0
def PySem.W.Fast.tw5015542042081467708 : Nat := 0
def PySem.W.Fast.tw6862919950703977587 : Nat := 0
def PySem.W.Fast.tw16774516183931465526 : Nat := 0
def PySem.W.Fast.tw2539998313503409899 : Nat := 0
def PySem.W.Fast.tw13573454845007384231 : Nat := 0
def PySem.W.Fast.tw7310529742786662566 : Nat := 0
def PySem.W.Fast.tw17514258220240133741 : Nat := 0
def PySem.W.Fast.tw9237724969181480344 : Nat := 0
def PySem.W.Fast.tw10309912309934172672 : Nat := 0
open PySem PySem.W PyProof.Rows
set_option maxRecDepth 100000 in
set_option maxHeartbeats 0 in
theorem PySem.Challenge.cw_voucherstack_k25_line_by_line_holds : PySem.Challenge.rw_voucherstack_k25_line_by_line.Holds := by
 w_on; o_law; k_head; (case hw => w_witness2)
 k_fill
 refine L2.walkT_of (l := PySem.Challenge.rw_voucherstack_k25_line_by_line) (k := 11) (x := "_law_script") rfl rfl ⟨rfl, by decide, by decide⟩ (fun w h Y => PySem.W.km_in_of Y) (fun w h Y => PySem.W.km_tabs_of Y) ?F
 case F =>
  intro w mg fa h KX G hmg
  refine' Vs.all_mk KX G hmg ?Fw ?FS ?Fy ?Fv ?FE ?FT ?FD ?A5 ?JZ ?JR ?JU ?JF ?FM ?Ft ?A8 ?Fm ?Cg ?Co ?FU ?Cm ?DB ?Da ?E8 ?Du ?FY ?F7 ?Cb ?F6 ?Fi ?A9 ?A4 ?Fs ?JY ?JT ?JM ?J7 ?Jm ?Jq ?Je ?Jj ?MD ?MQ ?ML ?MU ?JO ?JS ?JX ?J6 ?JQ ?JV ?J5 ?JL ?Nc ?NO ?Nr ?Nf ?EW ?Dw ?De ?EL ?Nz ?Nq ?Ng ?Nb ?Ag ?Au ?Ap ?As ?FO ?FB ?FC ?Fn ?AL ?Ay ?Av ?AV ?NC ?NB ?Ni ?NR ?Mh ?Mq ?Ma ?Ml ?Mo ?Mp ?Mc ?N6 ?JA ?Jn ?Js ?JC ?AZ ?AO ?AE ?AH ?Dc ?EU ?EA ?Dv ?MB ?MO ?MC ?MS ?N1 ?Mw ?N3 ?NU ?VT ?VU ?VV ?VW ?VX ?VY ?VZ ?V0 ?V1 ?V2 ?V3 ?V4 ?V5 ?V6 ?V7 ?V8 ?V9 ?Ua ?Ub ?Uc ?Ud ?Ue ?Ug ?Uh ?Ui ?Uj ?Uk ?Ul ?Um ?Uo ?Uq ?Ur ?Us ?Ut ?Uu ?Uv ?Uw ?Ux ?Uy ?Uz ?UA ?UB ?UC ?UD ?UE ?UF ?UG ?UH ?UI ?UJ ?UK ?UL ?UM ?UN ?UO ?UP ?UQ ?UR ?US ?UT ?UU ?UV ?UW ?UX ?UY ?UZ ?U0 ?U1 ?U2 ?U3 ?U4 ?U5 ?U6 ?U7 ?U8 ?U9 ?Cv ?Cw ?Ct ?Cu ?Fu ?AG ?AF ?AN ?inX ?itX ?AI ?AX ?Az ?AQ ?AW ?AD ?AM ?Ea ?MA ?M7 ?NZ ?En ?MZ ?Eg ?Em ?M4 ?Ek ?Eh ?Ed ?D8 ?DO ?D0 ?DF ?DK ?DQ ?DS ?DH ?DN ?DL ?DM ?N7 ?Mt ?NW ?Mg ?Mb ?Mv ?Cr ?Ci ?Cf ?F3 ?F5 ?Ce ?Cq ?Cn ?F8 ?FV ?FZ ?MY ?Dz ?D4 ?DV ?DE ?DD ?D3 ?D1 ?Fx ?AB ?AC ?AR ?AY ?Aw ?Ax ?AK ?A0 ?AA ?AS ?MV ?NH ?Mz ?El ?Ei ?Eb ?Ef ?M8 ?Er ?DP ?Eu ?EH ?DA ?EJ ?EM ?EK ?E3 ?E2 ?EC ?EO ?Nv ?JK ?NJ ?NG ?NS ?NI ?NF ?Nd ?AJ ?Ao ?Ac ?Ad ?Ak ?D7 ?Ae ?Ai ?D6 ?Am ?Al ?MI ?Mi ?N5 ?MR ?MJ ?MF ?MK ?MG ?MM ?DW ?Ex ?E6 ?Ez ?Ey ?ER ?Dg ?Df ?Ew ?EX ?Dy ?JI ?NL ?J9 ?Nt ?NM ?Nh ?NQ ?F0 ?Fe ?Fj ?Fq ?A3 ?A6 ?Fh ?FJ ?Fd ?FI ?FL ?E1 ?M3 ?Dr ?Mr ?Dk ?EN ?E5 ?Dd ?Do ?Dh ?AU ?Aa ?Af ?Aj ?D9 ?Ab ?Ar ?Ah ?D5 ?Aq ?An ?NV ?JD ?Nj ?Mx ?MP ?MN ?ME ?My ?MH ?DT ?E9 ?E4 ?DC ?Dt ?EF ?Es ?Et ?EG ?ET ?EI ?Jh ?Jx ?Ja ?JB ?NK ?NP ?Nu ?Nw ?NA ?JN ?JH ?J4 ?JW ?JJ ?Cs ?FW ?Cj ?Ca ?Ck ?Cd ?Cp ?F9 ?FX ?F4 ?Cc ?DR ?MW ?DU ?DX ?Md ?DZ ?DY ?DG ?DI ?DJ ?Mf ?N4 ?Mu ?NY ?N8 ?M9 ?Eo ?MX ?Ep ?M0 ?Ny ?Nx ?Np ?Nm ?Nl ?F2 ?FH ?FG ?Ff ?FN ?FQ ?Fg ?Fp ?FA ?Fo ?FF ?M6 ?M1 ?MT ?Nk ?M5 ?Dx ?EB ?EZ ?ES ?Dp ?F1 ?A2 ?A7 ?Fc ?Fz ?FK ?A1 ?Fk ?FR ?Fb ?FP ?N9 ?ND ?Ee ?EY ?Dm ?Dl ?EV ?Dq ?ED ?E7 ?Na ?NT ?NN ?N2 ?JG ?Jc ?Jw ?EE ?Me ?Ej ?Mn ?Dj ?J0 ?Ms ?J8 ?Mj ?JP ?Ju ?Jb ?Ec ?Mm ?JE ?Jt ?Jd ?Jv ?Jo ?Ji ?Jp ?Jf ?Jz ?Jg ?Jy ?Jr ?Jk ?Jl ?z1 ?z2 ?z3 ?z4 ?z5 ?z6 ?z7 ?z8 ?z9 ?z10 ?z11 ?z12 ?z13 ?z14 ?z15 ?z16 ?z17 ?z18
  (case Fw => k_is)
  (case FS => k_is)
  (case Fy => k_is)
  (case Fv => k_is)
  (case FE => k_is)
  (case FT => k_is)
  (case FD => k_is)
  (case A5 => k_is)
  (case JZ => k_is)
  (case JR => k_is)
  (case JU => k_is)
  (case JF => k_is)
  (case FM => k_is)
  (case Ft => k_is)
  (case A8 => k_is)
  (case Fm => k_is)
  (case Cg => k_is)
  (case Co => k_is)
  (case FU => k_is)
  (case Cm => k_is)
  (case DB => k_is)
  (case Da => k_is)
  (case E8 => k_is)
  (case Du => k_is)
  (case FY => k_is)
  (case F7 => k_is)
  (case Cb => k_is)
  (case F6 => k_is)
  (case Fi => k_is)
  (case A9 => k_is)
  (case A4 => k_is)
  (case Fs => k_is)
  (case JY => k_is)
  (case JT => k_is)
  (case JM => k_is)
  (case J7 => k_is)
  (case Jm => k_is)
  (case Jq => k_is)
  (case Je => k_is)
  (case Jj => k_is)
  (case MD => k_is)
  (case MQ => k_is)
  (case ML => k_is)
  (case MU => k_is)
  (case JO => k_is)
  (case JS => k_is)
  (case JX => k_is)
  (case J6 => k_is)
  (case JQ => k_is)
  (case JV => k_is)
  (case J5 => k_is)
  (case JL => k_is)
  (case Nc => k_is)
  (case NO => k_is)
  (case Nr => k_is)
  (case Nf => k_is)
  (case EW => k_is)
  (case Dw => k_is)
  (case De => k_is)
  (case EL => k_is)
  (case Nz => k_is)
  (case Nq => k_is)
  (case Ng => k_is)
  (case Nb => k_is)
  (case Ag => k_is)
  (case Au => k_is)
  (case Ap => k_is)
  (case As => k_is)
  (case FO => k_is)
  (case FB => k_is)
  (case FC => k_is)
  (case Fn => k_is)
  (case AL => k_is)
  (case Ay => k_is)
  (case Av => k_is)
  (case AV => k_is)
  (case NC => k_is)
  (case NB => k_is)
  (case Ni => k_is)
  (case NR => k_is)
  (case Mh => k_is)
  (case Mq => k_is)
  (case Ma => k_is)
  (case Ml => k_is)
  (case Mo => k_is)
  (case Mp => k_is)
  (case Mc => k_is)
  (case N6 => k_is)
  (case JA => k_is)
  (case Jn => k_is)
  (case Js => k_is)
  (case JC => k_is)
  (case AZ => k_is)
  (case AO => k_is)
  (case AE => k_is)
  (case AH => k_is)
  (case Dc => k_is)
  (case EU => k_is)
  (case EA => k_is)
  (case Dv => k_is)
  (case MB => k_is)
  (case MO => k_is)
  (case MC => k_is)
  (case MS => k_is)
  (case N1 => k_is)
  (case Mw => k_is)
  (case N3 => k_is)
  (case NU => k_is)
  (case VT => k_is)
  (case VU => k_is)
  (case VV => k_is)
  (case VW => k_is)
  (case VX => k_is)
  (case VY => k_is)
  (case VZ => k_is)
  (case V0 => k_is)
  (case V1 => k_is)
  (case V2 => k_is)
  (case V3 => k_is)
  (case V4 => k_is)
  (case V5 => k_is)
  (case V6 => k_is)
  (case V7 => k_is)
  (case V8 => k_is)
  (case V9 => k_is)
  (case Ua => k_is)
  (case Ub => k_is)
  (case Uc => k_is)
  (case Ud => k_is)
  (case Ue => k_is)
  (case Ug => k_is)
  (case Uh => k_is)
  (case Ui => k_is)
  (case Uj => k_is)
  (case Uk => k_is)
  (case Ul => k_is)
  (case Um => k_is)
  (case Uo => k_is)
  (case Uq => k_is)
  (case Ur => k_is)
  (case Us => k_is)
  (case Ut => k_is)
  (case Uu => k_is)
  (case Uv => k_is)
  (case Uw => k_is)
  (case Ux => k_is)
  (case Uy => k_is)
  (case Uz => k_is)
  (case UA => k_is)
  (case UB => k_is)
  (case UC => k_is)
  (case UD => k_is)
  (case UE => k_is)
  (case UF => k_is)
  (case UG => k_is)
  (case UH => k_is)
  (case UI => k_is)
  (case UJ => k_is)
  (case UK => k_is)
  (case UL => k_is)
  (case UM => k_is)
  (case UN => k_is)
  (case UO => k_is)
  (case UP => k_is)
  (case UQ => k_is)
  (case UR => k_is)
  (case US => k_is)
  (case UT => k_is)
  (case UU => k_is)
  (case UV => k_is)
  (case UW => k_is)
  (case UX => k_is)
  (case UY => k_is)
  (case UZ => k_is)
  (case U0 => k_is)
  (case U1 => k_is)
  (case U2 => k_is)
  (case U3 => k_is)
  (case U4 => k_is)
  (case U5 => k_is)
  (case U6 => k_is)
  (case U7 => k_is)
  (case U8 => k_is)
  (case U9 => k_is)
  (case Cv => k_is)
  (case Cw => k_is)
  (case Ct => k_is)
  (case Cu => k_is)
  (case Fu => k_is)
  (case AG => k_is)
  (case AF => k_is)
  (case AN => k_is)
  (case inX => k_is)
  (case itX => k_is)
  (case AI => k_is)
  (case AX => k_is)
  (case Az => k_is)
  (case AQ => k_is)
  (case AW => k_is)
  (case AD => k_is)
  (case AM => k_is)
  (case Ea => k_is)
  (case MA => k_is)
  (case M7 => k_is)
  (case NZ => k_is)
  (case En => k_is)
  (case MZ => k_is)
  (case Eg => k_is)
  (case Em => k_is)
  (case M4 => k_is)
  (case Ek => k_is)
  (case Eh => k_is)
  (case Ed => k_is)
  (case D8 => k_is)
  (case DO => k_is)
  (case D0 => k_is)
  (case DF => k_is)
  (case DK => k_is)
  (case DQ => k_is)
  (case DS => k_is)
  (case DH => k_is)
  (case DN => k_is)
  (case DL => k_is)
  (case DM => k_is)
  (case N7 => k_is)
  (case Mt => k_is)
  (case NW => k_is)
  (case Mg => k_is)
  (case Mb => k_is)
  (case Mv => k_is)
  (case Cr => k_is)
  (case Ci => k_is)
  (case Cf => k_is)
  (case F3 => k_is)
  (case F5 => k_is)
  (case Ce => k_is)
  (case Cq => k_is)
  (case Cn => k_is)
  (case F8 => k_is)
  (case FV => k_is)
  (case FZ => k_is)
  (case MY => k_is)
  (case Dz => k_is)
  (case D4 => k_is)
  (case DV => k_is)
  (case DE => k_is)
  (case DD => k_is)
  (case D3 => k_is)
  (case D1 => k_is)
  (case Fx => k_is)
  (case AB => k_is)
  (case AC => k_is)
  (case AR => k_is)
  (case AY => k_is)
  (case Aw => k_is)
  (case Ax => k_is)
  (case AK => k_is)
  (case A0 => k_is)
  (case AA => k_is)
  (case AS => k_is)
  (case MV => k_is)
  (case NH => k_is)
  (case Mz => k_is)
  (case El => k_is)
  (case Ei => k_is)
  (case Eb => k_is)
  (case Ef => k_is)
  (case M8 => k_is)
  (case Er => k_is)
  (case DP => k_is)
  (case Eu => k_is)
  (case EH => k_is)
  (case DA => k_is)
  (case EJ => k_is)
  (case EM => k_is)
  (case EK => k_is)
  (case E3 => k_is)
  (case E2 => k_is)
  (case EC => k_is)
  (case EO => k_is)
  (case Nv => k_is)
  (case JK => k_is)
  (case NJ => k_is)
  (case NG => k_is)
  (case NS => k_is)
  (case NI => k_is)
  (case NF => k_is)
  (case Nd => k_is)
  (case AJ => k_is)
  (case Ao => k_is)
  (case Ac => k_is)
  (case Ad => k_is)
  (case Ak => k_is)
  (case D7 => k_is)
  (case Ae => k_is)
  (case Ai => k_is)
  (case D6 => k_is)
  (case Am => k_is)
  (case Al => k_is)
  (case MI => k_is)
  (case Mi => k_is)
  (case N5 => k_is)
  (case MR => k_is)
  (case MJ => k_is)
  (case MF => k_is)
  (case MK => k_is)
  (case MG => k_is)
  (case MM => k_is)
  (case DW => k_is)
  (case Ex => k_is)
  (case E6 => k_is)
  (case Ez => k_is)
  (case Ey => k_is)
  (case ER => k_is)
  (case Dg => k_is)
  (case Df => k_is)
  (case Ew => k_is)
  (case EX => k_is)
  (case Dy => k_is)
  (case JI => k_is)
  (case NL => k_is)
  (case J9 => k_is)
  (case Nt => k_is)
  (case NM => k_is)
  (case Nh => k_is)
  (case NQ => k_is)
  (case F0 => k_is)
  (case Fe => k_is)
  (case Fj => k_is)
  (case Fq => k_is)
  (case A3 => k_is)
  (case A6 => k_is)
  (case Fh => k_is)
  (case FJ => k_is)
  (case Fd => k_is)
  (case FI => k_is)
  (case FL => k_is)
  (case E1 => k_is)
  (case M3 => k_is)
  (case Dr => k_is)
  (case Mr => k_is)
  (case Dk => k_is)
  (case EN => k_is)
  (case E5 => k_is)
  (case Dd => k_is)
  (case Do => k_is)
  (case Dh => k_is)
  (case AU => k_is)
  (case Aa => k_is)
  (case Af => k_is)
  (case Aj => k_is)
  (case D9 => k_is)
  (case Ab => k_is)
  (case Ar => k_is)
  (case Ah => k_is)
  (case D5 => k_is)
  (case Aq => k_is)
  (case An => k_is)
  (case NV => k_is)
  (case JD => k_is)
  (case Nj => k_is)
  (case Mx => k_is)
  (case MP => k_is)
  (case MN => k_is)
  (case ME => k_is)
  (case My => k_is)
  (case MH => k_is)
  (case DT => k_is)
  (case E9 => k_is)
  (case E4 => k_is)
  (case DC => k_is)
  (case Dt => k_is)
  (case EF => k_is)
  (case Es => k_is)
  (case Et => k_is)
  (case EG => k_is)
  (case ET => k_is)
  (case EI => k_is)
  (case Jh => k_is)
  (case Jx => k_is)
  (case Ja => k_is)
  (case JB => k_is)
  (case NK => k_is)
  (case NP => k_is)
  (case Nu => k_is)
  (case Nw => k_is)
  (case NA => k_is)
  (case JN => k_is)
  (case JH => k_is)
  (case J4 => k_is)
  (case JW => k_is)
  (case JJ => k_is)
  (case Cs => k_is)
  (case FW => k_is)
  (case Cj => k_is)
  (case Ca => k_is)
  (case Ck => k_is)
  (case Cd => k_is)
  (case Cp => k_is)
  (case F9 => k_is)
  (case FX => k_is)
  (case F4 => k_is)
  (case Cc => k_is)
  (case DR => k_is)
  (case MW => k_is)
  (case DU => k_is)
  (case DX => k_is)
  (case Md => k_is)
  (case DZ => k_is)
  (case DY => k_is)
  (case DG => k_is)
  (case DI => k_is)
  (case DJ => k_is)
  (case Mf => k_is)
  (case N4 => k_is)
  (case Mu => k_is)
  (case NY => k_is)
  (case N8 => k_is)
  (case M9 => k_is)
  (case Eo => k_is)
  (case MX => k_is)
  (case Ep => k_is)
  (case M0 => k_is)
  (case Ny => k_is)
  (case Nx => k_is)
  (case Np => k_is)
  (case Nm => k_is)
  (case Nl => k_is)
  (case F2 => k_is)
  (case FH => k_is)
  (case FG => k_is)
  (case Ff => k_is)
  (case FN => k_is)
  (case FQ => k_is)
  (case Fg => k_is)
  (case Fp => k_is)
  (case FA => k_is)
  (case Fo => k_is)
  (case FF => k_is)
  (case M6 => k_is)
  (case M1 => k_is)
  (case MT => k_is)
  (case Nk => k_is)
  (case M5 => k_is)
  (case Dx => k_is)
  (case EB => k_is)
  (case EZ => k_is)
  (case ES => k_is)
  (case Dp => k_is)
  (case F1 => k_is)
  (case A2 => k_is)
  (case A7 => k_is)
  (case Fc => k_is)
  (case Fz => k_is)
  (case FK => k_is)
  (case A1 => k_is)
  (case Fk => k_is)
  (case FR => k_is)
  (case Fb => k_is)
  (case FP => k_is)
  (case N9 => k_is)
  (case ND => k_is)
  (case Ee => k_is)
  (case EY => k_is)
  (case Dm => k_is)
  (case Dl => k_is)
  (case EV => k_is)
  (case Dq => k_is)
  (case ED => k_is)
  (case E7 => k_is)
  (case Na => k_is)
  (case NT => k_is)
  (case NN => k_is)
  (case N2 => k_is)
  (case JG => k_is)
  (case Jc => k_is)
  (case Jw => k_is)
  (case EE => k_is)
  (case Me => k_is)
  (case Ej => k_is)
  (case Mn => k_is)
  (case Dj => k_is)
  (case J0 => k_is)
  (case Ms => k_is)
  (case J8 => k_is)
  (case Mj => k_is)
  (case JP => k_is)
  (case Ju => k_is)
  (case Jb => k_is)
  (case Ec => k_is)
  (case Mm => k_is)
  (case JE => k_is)
  (case Jt => k_is)
  (case Jd => first | rfl | decide | k_is)
  (case Jv => k_is)
  (case Jo => first | rfl | decide | k_is)
  (case Ji => first | rfl | decide | k_is)
  (case Jp => first | rfl | decide | k_is)
  (case Jf => first | rfl | decide | k_is)
  (case Jz => first | rfl | decide | k_is)
  (case Jg => first | rfl | decide | k_is)
  (case Jy => first | rfl | decide | k_is)
  (case Jr => first | rfl | decide | k_is)
  (case Jk => first | k_is | rfl | decide | decide +kernel)
  (case Jl => decide)
  (case z1 => k_is)
  (case z2 => k_is)
  (case z3 => k_is)
  (case z4 => k_is)
  (case z5 => k_is)
  (case z6 => k_is)
  (case z7 => k_is)
  (case z8 => k_is)
  (case z9 => k_is)
  (case z10 => k_is)
  (case z11 => k_is)
  (case z12 => k_is)
  (case z13 => k_is)
  (case z14 => k_is)
  (case z15 => k_is)
  (case z16 => k_is)
  (case z17 => k_is)
  (case z18 => k_is)
