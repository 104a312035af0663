import PyProof.Rows.All
import Wide.All
import OpenK.AllK
import Wide.FinOn
import Lean
import PyProof.EqAt
import PyProof.EqKinds
import PyProof.TupleCall
import PySem.Challenge.RW_voucherstack_k33_accounts_opened
set_option Elab.async false
set_option linter.all false
set_option maxRecDepth 100000
open Array renaming getElem?_eq_some_iff → Ma, length_toList → Mu, getElem?_toList → MW, getElem?_eq_getElem → MY, size_zip → MZ, getElem?_eq_none → EY
open Bool renaming false_ne_true → Na, false_eq_true → NS, and_eq_true → N9, eq_iff_iff → MP, false_and → Ej, or_eq_true → Ey, or_false → EA
open List renaming length_map → JY, replicate → J6, range → J8, map_append → J9, mem_of_getElem? → Nb, getElem?_map → Nc, getElem?_eq_some_iff → Nh, size_toArray → Nk, mem_cons → Nl, getD_eq_getElem?_getD → Nm, length_append → Np, mem_map → Nq, length_take → Nt, map_cons → Nv, mem_cons_of_mem → Nw, map_map → Nx, mem_cons_self → Nz, flatten_cons → NC, lookup_cons → ND, mem_append → NJ, length_cons → NM, mem_singleton → NP, mem_append_right → NR, zipWith → NT, take_length → NU, map_congr_left → NV, lookup → NZ, nodup_cons → N3, take_of_length_le → N4, not_mem_nil → N5, mem_filter → N7, range_succ → Mb, getElem?_eq_getElem → Me, take_add_one → Mf, mem_flatten → Mg, of_mem_zip → Mi, length_replicate → Mj, replicate_succ → Ml, append_assoc → Mm, ext_getElem → Mn, filterMap_cons → Mo, append_nil → Mp, getElem?_append_right → Mq, any_cons → Mr, pairwise_iff_getElem → Ms, mem_iff_getElem? → Mt, reverse_cons → Mw, Pairwise → Mx, getElem?_set_self → Mz, getElem?_set_ne → MA, getElem?_append_left → MC, length_dropLast → MD, nil_append → ME, all_eq_true → MG, getElem?_eq_none → MI, find?_cons → MJ, getElem_map → MK, filter_append → MM, map_take → MN, replicate_succ' → MO, length → MT, length_drop → MU, length_singleton → MV, cons_append → M1, flatten_append → M5, nodup_range → M6, length_filter_le → M7, getElem_range → M8, pairwise_cons → M9, Perm → Ea, length_zipWith → Eb, getElem?_zipWith → Ec, getElem?_range → Ed, mem_of_mem_take → Ee, sum_append → Ef, getElem?_eq_none_iff → Eg, mem_append_left → Ei, getElem?_replicate → Es, map_nil → Et, length_set → Eu, drop_zero → Ez, ext_getElem? → EB, length_reverse → EC, nodup_nil → ED, count_cons → EE, zipIdx_cons → EI, pairwise_lt_range → EJ, take_append_drop → EK, nodup_append → EL, pairwise_map → EM, map_drop → EN, getLastD_eq_getLast? → EO, sum_cons → ER, getElem?_take_of_lt → EV, take_eq_take_iff → EW, getElem_cons_drop → E4, sublist_append_left → E5, eq_nil_of_length_eq_zero → E6, getLast?_eq_some_getLast → E7, drop_of_length_le → E8, drop_eq_getElem_cons → Dc, dropLast_sublist → Df
open Nat renaming le_refl → J4, le_trans → J5, le_of_lt → Ng, ne_of_lt → Nr, lt_of_lt_of_le → Ny, zero_le → NB, ne_of_gt → NQ, lt_irrefl → N6, le_succ → N8, lt_of_le_of_lt → Md, min_self → My, not_lt → MF, min_eq_left → MH, le_of_eq → MR, lt_succ_self → MS
open Option renaming map_some → MX, isSome_iff_exists → Er, getD_none → Ew
open PySem.F renaming plainAttrs_list → NA, slot_list_append → NW, type_list_append → NY, attrBase_ValueError → M4, slot_dict_setdefault → EZ, plainAttrs_dict → E1, slot_dict_values → E2, entry_bexc_ga → E3, slot_list_extend → E9, type_list_extend → Da, slot_list_pop → Dd, type_list_pop → De
open PySem.W renaming Frag → JZ, findIn → J0, mroIn → J7, kitOne → Nd, nsIn → Nf, keepIn → Ni, fnOf → Nj, mg_of → Nu, mg_none_of → NF, plainGet → NG, typeIn → NH, codeIn → NI, hasDictIn → NK, isFn → NL, makesIn → NN, plainOver → NO, kia_one → N1, emptyDict → Mc, instObj → Mh, callWith_K → Mv, specialIn → MB, kitAny → ML, lookIn → MQ, kla_obj → M0, tabObj → M3, methodObj → Eh, InstAt → Ek, plainGet_of → El, takerIn → Em, Looks → En, takesIn → Eo, methodCall_KW → Ep, subIn → Ex, exmOne → EF, notCls → EG, excIn → EH, findObj_own → ES, callWith_K0 → ET, cellsFrom_some → EU
set_option hygiene false
local macro_rules|`(tactic|exists $a,$b)=>`(tactic|refine FunD.ok $a $b (by intro _ _ _ _ h;cases h;subst_vars;rfl) (fun cdv A outer s H vs Q E hr h=>?_))
local macro_rules|`(tactic|ac_rfl)=>`(tactic|exact⟨rfl,rfl,rfl,by decide +kernel,rfl,by decide +kernel,by decide +kernel⟩)
local macro_rules|`(tactic|exists $a:ident,$b,$c)=>`(tactic|have $a:ident:=$b (P:=P) (w:=w) $c)
local macro_rules|`(tactic|exists $a:ident,$b,$c,$_)=>`(tactic|have $a:ident:Room $b _:=($c).mono (by decide))
local macro_rules|`(tactic|exists $a:ident)=>`(tactic|try refine sN fun _ $a=>?_)
local macro_rules|`(tactic|exists $a,$b,$c:ident,$d:ident,$e:ident,$f)=>`(tactic|(generalize hg9:upd $a $b _=$c;obtain⟨$d:ident,$e:ident⟩:=kaV hg9 $f;clear hg9))
local macro_rules|`(tactic|ac_nf)=>`(tactic|(repeat (first|rw[kab,if_pos rfl]|rw[kab,if_neg (by decide +kernel)])))
local macro_rules|`(tactic|symm)=>`(tactic|try apply Y4)
local macro_rules|`(tactic|nofun)=>`(tactic|try first|apply Y6|apply Y4)
local macro_rules|`(tactic|exists 3)=>`(tactic|try first|apply Y8|apply Y6|apply Y4)
local macro_rules|`(tactic|exists 4)=>`(tactic|try first|apply Y10|apply Y6|apply Y4)
local macro_rules|`(tactic|exists 5)=>`(tactic|try first|apply Y10|apply Y8|apply Y6|apply Y4)
local macro_rules|`(tactic|exists $a:ident,$b,$_,$_,$_)=>`(tactic|(case $a:ident=>refine' Vs.dn_mk KX G ?_ ?_ ?_ ?_ (fun _ _ _ _ _ _=>$b);any_goals k_is))
local macro_rules|`(tactic|exists $a:ident,$b,$_,$_,$_,$_,$_)=>`(tactic|(case $a:ident=>refine' Vs.mt_mk ?_ ?_ ?_ ?_ ?_ (fun _ _ _ _ _ _=>$b);any_goals k_is))
namespace L2
open PySem PySem.Spec PyProof.Rows
noncomputable abbrev Key:=Sum Int Str
noncomputable def keyIs:Key→Value→Bool
 | .inl k,v=>Value.isInt k v
 | .inr x,v=>Value.isStrOf x v
noncomputable def keyH(w:World):Key→Int
 | .inl k=>hashInt k
 | .inr x=>hashStr w x
theorem ka1:∀{k:Key}{v:Value},keyIs k v=true→(∃i t,k=Sum.inl i∧v=Value.int i t)∨(∃x t,k=Sum.inr x∧v=Value.str x t)
 | .inl i,v,h=>by
  obtain⟨t,e⟩:=Value.isInt_shape (k:=i) (v:=v) h
  exact .inl ⟨i,t,rfl,e⟩
 | .inr x,v,h=>by
  obtain⟨t,e⟩:=Value.isStrOf_shape (x:=x) (v:=v) h
  exact .inr ⟨x,t,rfl,e⟩
def kjh(i:Int)(t:Tok):keyIs (.inl i) (.int i t)=true:=by simp[keyIs,Value.isInt]
def kmq(a b:Int):decide ((Sum.inl a:Key)=Sum.inl b)=(a==b):=by
 by_cases e:a=b
 ·subst e;simp
 ·have h:¬(Sum.inl a:Key)=Sum.inl b:=fun q=>e (Sum.inl.inj q)
  rw[decide_eq_false h]
  exact(beq_eq_false_iff_ne.mpr e).symm
def kmn(a b:Str):decide ((Sum.inr a:Key)=Sum.inr b)=decide (a=b):=by
 by_cases e:a=b
 ·subst e;simp
 ·have h:¬(Sum.inr a:Key)=Sum.inr b:=fun q=>e (Sum.inr.inj q)
  rw[decide_eq_false h,decide_eq_false e]
def kmp(a:Int)(b:Str):decide ((Sum.inl a:Key)=Sum.inr b)=false:=decide_eq_false (fun q=>nomatch q)
def kmo(a:Str)(b:Int):decide ((Sum.inr a:Key)=Sum.inl b)=false:=decide_eq_false (fun q=>nomatch q)
noncomputable def kc6(prog:Program)(w:World):PySem.KeyKind prog w Key where
 is:=keyIs
 hash:=keyH w
 inj:=fun v a b ha hb=>by
  rcases ka1 ha with⟨i,t,rfl,rfl⟩|⟨x,t,rfl,rfl⟩
  ·rcases ka1 hb with⟨j,u,rfl,e⟩|⟨y,u,rfl,e⟩
   ·injection e with e1 _;rw[e1]
   ·exact nomatch e
  ·rcases ka1 hb with⟨j,u,rfl,e⟩|⟨y,u,rfl,e⟩
   ·exact nomatch e
   ·injection e with e1 _;rw[e1]
 byValue:=fun k v h=>by
  rcases ka1 h with⟨i,t,rfl,rfl⟩|⟨x,t,rfl,rfl⟩ <;> rfl
 pyHash:=fun hv h=>by
  rcases ka1 hv with⟨i,t,rfl,rfl⟩|⟨x,t,rfl,rfl⟩
  ·exact wpAny_pyHash_int h
  ·exact wpAny_pyHash_str h
 eqBool:=fun hu hv h=>by
  rcases ka1 hu with⟨i,t,rfl,rfl⟩|⟨x,t,rfl,rfl⟩
  ·rcases ka1 hv with⟨j,u,rfl,rfl⟩|⟨y,u,rfl,rfl⟩
   ·rw[kmq] at h;exact wpAny_eqBool_int h
   ·rw[kmp] at h;exact SeqAt.EqAt.int_str i t y u _ _ _ _ h
  ·rcases ka1 hv with⟨j,u,rfl,rfl⟩|⟨y,u,rfl,rfl⟩
   ·rw[kmo] at h;exact SeqAt.EqAt.str_int x t j u _ _ _ _ h
   ·rw[kmn] at h;exact wpAny_eqBool_str h
 «strs» :=fun k x t v h=>by
  rcases ka1 h with⟨i,u,rfl,e⟩|⟨y,u,rfl,e⟩
  ·exact nomatch e
  ·injection e with e1 _
   subst e1
   cases v <;> rfl
def kgQ(prog:Program)(w:World)(i:Int)(t:Tok):(kc6 prog w).is (.inl i) (.int i t)=true:=kjh i t
end L2
namespace L2
open PySem PySem.Spec PyProof.Rows
inductive V where
 |non|bl (b:Bool)|int (i:Int)|str (x:Str)|byt (b:Array UInt8)|flt (b:UInt64)|ref (a:Addr)|ty (n:String)
 deriving DecidableEq
noncomputable def RelV:V→Value→Prop
 | .non,u=>u=Value.none
 | .bl b,u=>u=Value.bool b
 | .int i,u=>∃t,u=Value.int i t
 | .str x,u=>∃t,u=Value.str x t
 | .byt b,u=>∃t,u=Value.bytes b t
 | .flt b,u=>∃t,u=Value.float b t
 | .ref a,u=>u=Value.ref a
 | .ty n,u=>u=Value.type n
noncomputable abbrev Vals:List V→List Value→Prop:=Paired RelV
def Vals.length{xs:List V}{us:List Value}(r:Vals xs us):xs.length=us.length:=Paired.length r
theorem Vals.get:∀{xs:List V}{us:List Value}{i:Nat}{x:V},Vals xs us→xs[i]?=some x→∃u,us[i]?=some u∧RelV x u
 |_,_,_,_, .nil,e=>by simp at e
 |_,_,0,_, .cons r _,e=>by simp at e;subst e;exact⟨_,rfl,r⟩
 |_,_,i+1,x, .cons _ t,e=>by
  obtain⟨u,h1,h2⟩:=Vals.get (i:=i) (x:=x) t (by simpa using e)
  exact⟨u,by simpa using h1,h2⟩
theorem Vals.set{x:V}{u:Value}(r:RelV x u):∀{xs:List V}{us:List Value}(i:Nat),Vals xs us→Vals (xs.set i x) (us.set i u)
 |_,_,_, .nil=>.nil
 |_,_,0, .cons _ t=>.cons r t
 |_,_,i+1, .cons q t=>.cons q (Vals.set r i t)
theorem Vals.append:∀{xs ys:List V}{us ws:List Value},Vals xs us→Vals ys ws→Vals (xs++ys) (us++ws)
 |_,_,_,_, .nil,s=>s
 |_,_,_,_, .cons r t,s=>.cons r (Vals.append t s)
theorem Vals.take:∀{xs:List V}{us:List Value}(n:Nat),Vals xs us→Vals (xs.take n) (us.take n)
 |_,_,0,_=>.nil
 |_,_,_+1, .nil=>.nil
 |_,_,n+1, .cons r t=>.cons r (Vals.take n t)
theorem Vals.drop:∀{xs:List V}{us:List Value}(n:Nat),Vals xs us→Vals (xs.drop n) (us.drop n)
 |_,_,0,r=>r
 |_,_,_+1, .nil=>.nil
 |_,_,n+1, .cons _ t=>Vals.drop n t
def Vals.none_of:∀{xs:List V}{us:List Value}{i:Nat},Vals xs us→xs[i]?=none→us[i]?=none:=fun {xs us i} r e=>by
 have h1:=r.length
 have h2:xs.length≤i:=Eg.mp e
 exact Eg.mpr (by omega)
noncomputable def RelO:Option V→Option Value→Prop
 |some v,some u=>RelV v u
 |none,none=>True
 |_,_=>False
noncomputable def KV{κ:Type}:List (κ×V)→List (κ×Value)→Prop:=Paired fun(p: κ×V)(q: κ×Value)=>p.1=q.1∧RelV p.2 q.2
noncomputable def kV:Key→V
 | .inl i=>.int i
 | .inr x=>.str x
inductive HO where
 |lst (xs:List V)
 |tup (xs:List V)
 |dK (kvs:List (Key×V))|dT (kvs:List (List Key×V))
 |set (S:Int→Bool) (n:Nat)
 |ins (C dx:Addr) (fs:List (Str×V))
 |own (x:Addr)
 |xd (fs:List (Str×V))
 |met (f x:Addr)
 |rng (lo hi:Int)
 |frz (o:Obj) (u:HO)
 |tbl (ps:Array Value)
 |ext (φ:Heap→Prop)
noncomputable abbrev Hp:=Addr→Option HO
noncomputable def upd(H:Hp)(a:Addr)(o:HO):Hp:=fun b=>if b=a then some o else H b
def kad{H:Hp}{a:Addr}{o:HO}:upd H a o a=some o:=by unfold upd;rw[if_pos rfl]
def kaj{H:Hp}{a b:Addr}{o:HO}(h:b≠a):upd H a o b=H b:=by unfold upd;rw[if_neg h]
def klh{H:Hp}{a:Addr}{o u:HO}:upd (upd H a o) a u=upd H a u:=by
 funext b;unfold upd;split <;> rfl
def ne_of{H:Hp}{a b:Addr}{o u:HO}(h:H a=some o)(h':H b=some u)(d:o≠u):a≠b:=by
 intro e;subst e;rw[h] at h';exact d (Option.some.inj h')
def kai{H:Hp}{a b:Addr}{o:HO}(h:H a=some o)(h':H b=none):a≠b:=by
 intro e;subst e;rw[h] at h';cases h'
section
variable (P:Program) (w:World)
noncomputable def ObjOk(H:Hp)(h:Heap)(a:Addr):HO→Prop
 | .lst xs=>xs.length≤sizeLine∧∃(its:List Value)(n:Nat),Vals xs its∧h.get? a=some {cls:=.type "list",data:=.seq its.toArray n}
 | .tup xs=>xs.length≤sizeLine∧∃its:List Value,Vals xs its∧IsTup h a its.toArray
 | .dK kvs=>kvs.length≤sizeLine∧(a==sysModules)=false∧∃vs,KV kvs vs∧h.DictOf (kc6 P w) a vs
 | .dT kvs=>kvs.length≤sizeLine∧(a==sysModules)=false∧∃xs:List (List Key×Addr×Value),
   Paired (fun(p:List Key×V)(q:List Key×Addr×Value)=>p.1=q.1∧H q.2.1=some (.tup (p.1.map kV))∧RelV p.2 q.2.2) kvs xs∧
   ∃o es ep,h.get? a=some o∧o.ExactDict∧o.data=.dict es ep∧es.toList=xs.map (entryOfKey (tupleKind (kc6 P w)))∧(xs.map (·.1)).Nodup
 | .set S n=>h.SetOf (intKind P w) a S n
 | .ins C dx fs=>H dx=some (.own a)∧fs.length≤1000∧dx≠a∧h.get? a=some (Mh C dx)∧
   ∃mA,h.Ns1 dx mA∧(∀f,RelO (fs.lookup f) (mA f))∧PySem.Within mA (fs.map (·.1))
 | .own _=>∃o,h.get? a=some o
 | .xd fs=>∃mA,h.Ns1 a mA∧∀f,RelO (fs.lookup f) (mA f)
 | .rng lo hi=>∃t u v,h.get? a=some {cls:=.type "range",data:=.fields #[.int lo t, .int hi u, .int 1 v]}
 | .frz o u=>h.get? a=some o∧ObjOk H h a u
 | .tbl ps=>h.get? a=some {cls:=.none,data:=.fields ps}
 | .met f x=>h.get? a=some (Eh (.ref f) (.ref x))
 | .ext φ=>φ h∧(∃o,h.get? a=some o)∧∀h1 h2:Heap,φ h1→(∀o,h1.get? a=some o→h2.get? a=some o)→φ h2
noncomputable def HOk(H:Hp)(h:Heap):Prop:=∀a o,H a=some o→ObjOk P w H h a o
end
section
variable {P:Program} {w:World} {H H':Hp} {h h':Heap} {a:Addr} {o:HO}
theorem ObjOk.lt(x:ObjOk P w H h a o):a<h.objs.size:=by
 cases o with
 |lst xs=>obtain⟨_,_,_,_,e⟩:=x;exact Heap.lt_size e
 |tup xs=>obtain⟨_,_,_,p⟩:=x;exact p.lt
 |dK kvs=>obtain⟨_,_,_,_,o,_,_,e,_⟩:=x;exact Heap.lt_size e
 |dT kvs=>obtain⟨_,_,_,_,o,_,_,e,_⟩:=x;exact Heap.lt_size e
 |set S n=>obtain⟨o,_,_,_,e,_⟩:=x;exact Heap.lt_size e
 |ins C dx fs=>obtain⟨_,_,_,e,_⟩:=x;exact Heap.lt_size e
 |own y=>obtain⟨_,e⟩:=x;exact Heap.lt_size e
 |xd fs=>obtain⟨_,⟨_,_,_,e,_⟩,_⟩:=x;exact Heap.lt_size e
 |rng lo hi=>obtain⟨_,_,_,e⟩:=x;exact Heap.lt_size e
 |frz ob u=>obtain⟨e,_⟩:=x;exact Heap.lt_size e
 |tbl ps=>exact Heap.lt_size (show h.get? a=some _ from x)
 |met f y=>exact Heap.lt_size (show h.get? a=some _ from x)
 |ext φ=>obtain⟨_,⟨_,e⟩,_⟩:=x;exact Heap.lt_size e
theorem Paired.mapP{α β:Type}{F G: α→β→Prop}:∀{l₁:List α}{l₂:List β},Paired F l₁ l₂→(∀a b,F a b→G a b)→Paired G l₁ l₂
 |_,_, .nil,_=>.nil
 |_,_, .cons r t,f=>.cons (f _ _ r) (Paired.mapP t f)
theorem ObjOk.stay(x:ObjOk P w H h a o)(k:∀b u,(b=a∨H b=some (.own a))→h.get? b=some u→h'.get? b=some u)
  (ho:∀b,H b=some (.own a)→H' b=some (.own a)) (ht:∀b xs,H b=some (.tup xs)→H' b=some (.tup xs)):ObjOk P w H' h' a o:=by
 induction o with
 |lst xs=>obtain⟨z,its,n,r,e⟩:=x;exact⟨z,its,n,r,k _ _ (.inl rfl) e⟩
 |tup xs=>obtain⟨z,its,r,ob,e,c⟩:=x;exact⟨z,its,r,ob,k _ _ (.inl rfl) e,c⟩
 |dK kvs=>obtain⟨z,y,vs,r,ob,es,ep,e,c⟩:=x;exact⟨z,y,vs,r,ob,es,ep,k _ _ (.inl rfl) e,c⟩
 |dT kvs=>
  obtain⟨z,y,xs,r,ob,es,ep,e,c⟩:=x
  exact⟨z,y,xs,Paired.mapP r fun p q z=>⟨z.1,ht _ _ z.2.1,z.2.2⟩,ob,es,ep,k _ _ (.inl rfl) e,c⟩
 |set S n=>obtain⟨ob,es,ep,t,e,c⟩:=x;exact⟨ob,es,ep,t,k _ _ (.inl rfl) e,c⟩
 |ins C dx fs=>
  obtain⟨d,z,ne,e,mA,⟨od,es,ep,e2,c⟩,r⟩:=x
  exact⟨ho _ d,z,ne,k _ _ (.inl rfl) e,mA,⟨od,es,ep,k _ _ (.inr d) e2,c⟩,r⟩
 |own y=>obtain⟨ob,e⟩:=x;exact⟨ob,k _ _ (.inl rfl) e⟩
 |xd fs=>obtain⟨mA,⟨od,es,ep,e,c⟩,r⟩:=x;exact⟨mA,⟨od,es,ep,k _ _ (.inl rfl) e,c⟩,r⟩
 |rng lo hi=>obtain⟨t,u,v,e⟩:=x;exact⟨t,u,v,k _ _ (.inl rfl) e⟩
 |frz ob u ih=>obtain⟨e,q⟩:=x;exact⟨k _ _ (.inl rfl) e,ih q⟩
 |tbl ps=>
  have e:h.get? a=some {cls:=.none,data:=.fields ps}:=x
  show h'.get? a=some {cls:=.none,data:=.fields ps}
  exact k a _ (.inl rfl) e
 |met f y=>
  have e:h.get? a=some (Eh (.ref f) (.ref y)):=x
  show h'.get? a=some (Eh (.ref f) (.ref y))
  exact k a _ (.inl rfl) e
 |ext φ=>obtain⟨p,⟨o,e⟩,st⟩:=x;exact⟨st _ _ p fun o q=>k _ _ (.inl rfl) q,⟨o,k _ _ (.inl rfl) e⟩,st⟩
theorem HOk.lt(x:HOk P w H h)(e:H a=some o):a<h.objs.size:=(x a o e).lt
theorem HOk.fresh(x:HOk P w H h)(e:h.objs.size≤a):H a=none:=by
 cases q:H a with
 |none=>rfl
 |some u=>exact absurd (Ny (x.lt q) e) (N6 _)
theorem HOk.kept(x:HOk P w H h)(k:∀b u,h.get? b=some u→h'.get? b=some u):HOk P w H h':=fun a o e=>
 (x a o e).stay (fun b u _ q=>k b u q) (fun _ q=>q) fun _ _ q=>q
theorem HOk.laid(x:HOk P w H h)(k:∀b u,h.get? b=some u→h'.get? b=some u)(hp:h.objs.size≤a)(new:ObjOk P w (upd H a o) h' a o):HOk P w (upd H a o) h':=fun b u e=>by
 have hn:=x.fresh hp
 by_cases hb:b=a
 ·subst hb;rw[kad] at e;cases e;exact new
 ·rw[kaj hb] at e
  exact(x b u e).stay (fun c v _ q=>k c v q) (fun c q=>by rw[kaj (kai q hn)];exact q) fun c xs q=>by rw[kaj (kai q hn)];exact q
end
noncomputable def Rd(H:Hp)(a:Addr)(u:HO):Prop:=H a=some u∨∃o,H a=some (.frz o u)
def Rd.of{H:Hp}{a:Addr}{u:HO}(h:H a=some u):Rd H a u:=.inl h
def Rd.ok{P:Program}{w:World}{H:Hp}{h:Heap}{a:Addr}{u:HO}(r:Rd H a u)(x:HOk P w H h):ObjOk P w H h a u:=by
 rcases r with r|⟨o,r⟩
 ·exact x a u r
 ·obtain⟨_,q⟩:=x a _ r
  exact q
noncomputable def Mut:Option HO→Prop
 |some (.lst _)=>True
 |some (.dK _)=>True
 |some (.dT _)=>True
 |some (.set _ _)=>True
 |some (.ins _ _ _)=>True
 |some (.ext _)=>True
 |_=>False
section
variable {P:Program} {w:World} {H:Hp} {h h':Heap} {x e:Addr} {o':HO}
theorem HOk.write(ok:HOk P w H h)(mu:Mut (H x))(he:e=x∨H e=some (.own x))(k:∀b u,b≠e→h.get? b=some u→h'.get? b=some u)(heo:∃u,h'.get? e=some u)
  (new:ObjOk P w (upd H x o') h' x o'):HOk P w (upd H x o') h':=fun b u q=>by
 have nown:∀c y,H c=some (.own y)→c≠x:=fun c y r z=>by subst z;rw[r] at mu;exact mu
 have ntup:∀c xs,H c=some (.tup xs)→c≠x:=fun c xs r z=>by subst z;rw[r] at mu;exact mu
 by_cases hb:b=x
 ·subst hb;rw[kad] at q;cases q;exact new
 ·rw[kaj hb] at q
  by_cases hbe:b=e
  ·have q':H b=some (.own x):=by
    rcases he with z|z
    ·exact absurd (hbe.trans z) hb
    ·rw[hbe];exact z
   rw[q] at q';cases q'
   obtain⟨v,hv⟩:=heo
   exact⟨v,by rw[hbe];exact hv⟩
  ·refine(ok b u q).stay (fun c v hc r=>k c v ?_ r) (fun c r=>by rw[kaj (nown c b r)];exact r) fun c xs r=>by rw[kaj (ntup c xs r)];exact r
   rcases hc with rfl|hc
   ·exact hbe
   ·rintro rfl
    rcases he with z|z
    ·exact nown c b hc z
    ·rw[hc] at z;cases z;exact hb rfl
end
structure Un (fs ex:List Addr) (H H':Hp) (h h':Heap):Prop where
 keep:∀b o,h.get? b=some o→H b=none→b∉fs→b∉ex→h'.get? b=some o
 slot:∀b o,h.get? b=some o→H b=none→b∈fs→b∉ex→∃sl,h'.get? b=some {o with slots:=sl}
 free:∀b o,h.get? b=some o→H b=none→b∉ex→H' b=none
 there:∀b o,h.get? b=some o→b∉ex→∃o',h'.get? b=some o'
 tups:∀b xs,H b=some (.tup xs)→H' b=some (.tup xs)
 frzs:∀b o u,H b=some (.frz o u)→H' b=some (.frz o u)
 tbls:∀b ps,H b=some (.tbl ps)→∃more,H' b=some (.tbl (ps++more))
section
variable {fs fs' ex ex':List Addr} {H H1 H2:Hp} {h h1 h2 h':Heap} {a x e:Addr} {o:HO}
theorem Un.any(u:Un fs ex H H1 h h1){b:Addr}{ob:Obj}(q:h.get? b=some ob)(n:H b=none)(hx:b∉ex):∃sl,h1.get? b=some {ob with slots:=sl}:=by
 by_cases hb:b∈fs
 ·exact u.slot b ob q n hb hx
 ·exact⟨ob.slots,u.keep b ob q n hb hx⟩
theorem Un.trans(a:Un fs ex H H1 h h1)(b:Un fs ex H1 H2 h1 h2):Un fs ex H H2 h h2 where
 keep:=fun c ob q n hc hx=>b.keep c ob (a.keep c ob q n hc hx) (a.free c ob q n hx) hc hx
 slot:=fun c ob q n hc hx=>by
  obtain⟨sl,e1⟩:=a.slot c ob q n hc hx
  obtain⟨sl',e2⟩:=b.slot c _ e1 (a.free c ob q n hx) hc hx
  exact⟨sl',e2⟩
 free:=fun c ob q n hx=>by
  obtain⟨o',e1⟩:=a.there c ob q hx
  exact b.free c o' e1 (a.free c ob q n hx) hx
 there:=fun c ob q hx=>by
  obtain⟨o',e1⟩:=a.there c ob q hx
  exact b.there c o' e1 hx
 tups:=fun c xs q=>b.tups c xs (a.tups c xs q)
 frzs:=fun c ob xs q=>b.frzs c ob xs (a.frzs c ob xs q)
 tbls:=fun c ps q=>by
  obtain⟨m1,e1⟩:=a.tbls c ps q
  obtain⟨m2,e2⟩:=b.tbls c _ e1
  exact⟨m1++m2,by rw[e2,Array.append_assoc]⟩
theorem Un.kept(k:∀b u,h.get? b=some u→h'.get? b=some u):Un fs ex H H h h':=
 ⟨fun b ob q _ _ _=>k b ob q,fun b ob q _ _ _=>⟨ob.slots,k b ob q⟩,fun _ _ _ n _=>n,fun b ob q _=>⟨ob,k b ob q⟩,fun _ _ q=>q,fun _ _ _ q=>q,fun _ ps q=>⟨#[],by rw[q];simp⟩⟩
theorem Un.refl:Un fs ex H H h h:=Un.kept fun _ _ q=>q
theorem Un.laid(k:∀b u,h.get? b=some u→h'.get? b=some u)(hp:h.objs.size≤a)(hn:H a=none):Un fs ex H (upd H a o) h h' where
 keep:=fun b u q _ _ _=>k b u q
 slot:=fun b u q _ _ _=>⟨u.slots,k b u q⟩
 free:=fun b u q n _=>by rw[kaj (Nr (Ny (Heap.lt_size q) hp))];exact n
 there:=fun b u q _=>⟨u,k b u q⟩
 tups:=fun b xs q=>by rw[kaj (kai q hn)];exact q
 frzs:=fun b u xs q=>by rw[kaj (kai q hn)];exact q
 tbls:=fun b ps q=>⟨#[],by rw[kaj (kai q hn),q];simp⟩
theorem Un.write(mu:Mut (H x))(he:e=x∨H e=some (.own x))(k:∀b u,b≠e→h.get? b=some u→h'.get? b=some u)(heo:∃u,h'.get? e=some u):Un fs ex H (upd H x o) h h':=by
 have hx:∀b,H b=none→b≠x:=fun b n z=>by subst z;rw[n] at mu;exact mu
 have hb:∀b,H b=none→b≠e:=fun b n z=>by
  subst z
  rcases he with r|r
  ·exact hx b n r
  ·rw[n] at r;cases r
 have hm:∀b u,H b=some u→¬Mut (some u)→b≠x:=fun b u q nm z=>by subst z;rw[q] at mu;exact nm mu
 refine⟨fun b u q n _ _=>k b u (hb b n) q,fun b u q n _ _=>⟨u.slots,k b u (hb b n) q⟩,fun b u q n _=>by rw[kaj (hx b n)];exact n,fun b u q _=>?_,
  fun b xs q=>by rw[kaj (hm b _ q fun z=>z)];exact q,fun b u xs q=>by rw[kaj (hm b _ q fun z=>z)];exact q,fun b ps q=>⟨#[],by rw[kaj (hm b _ q fun z=>z),q];simp⟩⟩
 by_cases hbe:b=e
 ·subst hbe;exact heo
 ·exact⟨u,k b u hbe q⟩
theorem Un.mono(u:Un fs ex H H1 h h1)(hs:∀b∈fs,b∈fs')(hx:∀b∈ex,b∈ex'):Un fs' ex' H H1 h h1:=
 ⟨fun b ob q n hb he=>u.keep b ob q n (fun z=>hb (hs b z)) fun z=>he (hx b z),fun _ _ q n _ he=>u.any q n fun z=>he (hx _ z),fun b ob q n he=>u.free b ob q n fun z=>he (hx b z),fun b ob q he=>u.there b ob q fun z=>he (hx b z),u.tups,u.frzs,u.tbls⟩
end
noncomputable def trk(h:Heap)(H:Hp):List Addr:=(J8 h.objs.size).filter fun a=>(H a).isSome
noncomputable def hidT(h:Heap)(H:Hp):Heap:=PySem.W.hideAll h (trk h H)
def kjn(h:Heap)(H:Hp):(hidT h H).objs.size=h.objs.size:=PySem.W.hideAll_size _ _
def kkm{h:Heap}{H:Hp}{b:Addr}{o:Obj}(e:h.get? b=some o)(n:H b=none):(hidT h H).get? b=some o:=
 PySem.W.hideAll_get _ e fun hm=>by
  have q:(H b).isSome=true:=(N7.mp hm).2
  rw[n] at q;simp at q
theorem klF{h:Heap}{H:Hp}{b:Addr}{o:Obj}(e:(hidT h H).get? b=some o):h.get? b=some o∧H b=none:=by
 have e':h.get? b=some o:=PySem.W.of_hideAll (trk h H) e
 refine⟨e',?_⟩
 cases q:H b with
 |none=>rfl
 |some x=>
  have hm:b∈trk h H:=N7.mpr ⟨List.mem_range.mpr (Heap.lt_size e'),by simp[q]⟩
  have z:(hidT h H).get? b=none:=PySem.W.hideAll_none (trk h H) hm
  rw[z] at e;cases e
noncomputable def klY(g h:Heap)(L:Addr):List (Addr×Obj):=(J8 h.objs.size).filterMap fun a=>if a=L∨(g.get? a).isSome=true then none else(h.get? a).map fun o=>(a,o)
noncomputable def rest(g h:Heap)(L d:Addr):List (Addr×Obj):=(klY g h L).filter fun p=>decide (p.1≠d)
end L2
namespace L2
open PySem PySem.Spec PyProof.Rows
structure Mod (K:JZ) (mg:Str→Option Value) (base:Heap):Prop where
 kin:K.In base
 glob:base.Ns mainGlobals mg
 blt:∃mb,base.Ns builtinsNs mb∧∀x:Str,x≠"__name__"→mb x=bootBuiltins x
 nolimit:base.NoLimit
structure Cx where
 prog:Program
 w:World
 K:JZ
 mg:Str→Option Value
 base:Heap
 A:Around
 N:List Str
 s₀:Shared
 H₀:Hp
 env:Env
 outer:List Env
 stack:List Env
 ex:List Addr
 fn:Str→Bool
 calm:Bool
 pn:List (Addr×Obj)
 xe:Value→Shared→Prop
noncomputable def frs(l:List Env):List Addr:=l.filterMap (·.frame)
noncomputable abbrev Cx.fs(X:Cx):List Addr:=frs X.outer
noncomputable def Vis(sc:Scope)(x:Str):Prop:=sc.names.lookup x=some .local∨sc.names.lookup x=some .cell∨sc.names.lookup x=some .free
noncomputable def Loc(sc:Scope)(x:Str):Prop:=sc.names.lookup x=some .local∨sc.names.lookup x=some .cell
noncomputable def Look(env:Env)(h:Heap)(m:Str→Option Value)(x:Str)(u:Value):Prop:=
 (env.kindOf x=some .local∧m x=some u)∨((env.kindOf x=some .cell∨env.kindOf x=some .free)∧∃c,env.cells.lookup x=some c∧h.IsCell c (some u))
structure Cx.Ok (X:Cx):Prop where
 mod:Mod X.K X.mg X.base
 kind:X.env.scope.kind=.function
 glob:X.env.globals=mainGlobals
 blt:X.env.builtins=builtinsNs
 above:X.s₀.heap.objs.size≤X.env.locals
 inj:∀x y c,X.env.cells.lookup x=some c→X.env.cells.lookup y=some c→x=y
 has:∀x,(X.env.kindOf x=some .cell∨X.env.kindOf x=some .free)→∃c,X.env.cells.lookup x=some c
 cab:∀x c,X.fn x=true→X.env.cells.lookup x=some c→X.s₀.heap.objs.size≤c
 hd:X.calm=true→X.A.handled=none
 frames:X.A.frames=some X.stack
 stk:X.stack=X.outer∨(X.stack=X.env::X.outer∧X.env.frame=some X.env.locals)
 exf:∀b∈X.ex,b≠X.env.locals∧∀x c,X.env.cells.lookup x=some c→c≠b
 bs:∀b o,X.base.get? b=some o→X.s₀.heap.get? b=some o∧X.H₀ b=none
 bsz:X.base.objs.size≤X.s₀.heap.objs.size
 noex:∀b o,X.base.get? b=some o→b∉X.ex
 exfs:∀b∈X.ex,b∉X.fs
 funs:X.s₀.heap.FunFrames X.base X.outer
 frf:∀b∈X.fs,X.H₀ b=none
structure Inv (X:Cx) (pins:List (Addr×Obj)) (σ:List (Option V)) (H:Hp) (s:Shared):Prop where
 ok:X.Ok
 os:s.os=X.s₀.os
 bare:AllBare s.gens
 base:Un X.fs X.ex X.H₀ H X.s₀.heap s.heap
 loc:∃m,s.heap.Ns X.env.locals m∧∀(i:Nat)(x:Str)(v:V),X.N[i]?=some x→σ[i]?=some (some v)→Vis X.env.scope x→∃u,RelV v u∧Look X.env s.heap m x u
 cell:∀x c,X.env.cells.lookup x=some c→∃v,s.heap.IsCell c v
 free:H X.env.locals=none
 freeC:∀x c,X.env.cells.lookup x=some c→H c=none
 pin:∀p∈X.pn++pins,s.heap.get? p.1=some p.2∧H p.1=none∧p.1≠X.env.locals∧p.1∉X.fs∧∀v,p.2.data≠.cell v
 hok:HOk X.prog X.w H s.heap
 len: σ.length=X.N.length
section
variable {X:Cx} {pins:List (Addr×Obj)} {σ:List (Option V)} {H H':Hp} {s:Shared} {h':Heap}
theorem Cx.Ok.nofr(ok:X.Ok){b:Addr}{o:Obj}(e:X.base.get? b=some o):b∉X.fs:=fun hb=>by
 have:=(ok.funs.mem hb).1
 rw[e] at this;cases this
theorem Inv.bs(I:Inv X pins σ H s):∀b o,X.base.get? b=some o→s.heap.get? b=some o∧H b=none:=fun b o e=>
 ⟨I.base.keep b o (I.ok.bs b o e).1 (I.ok.bs b o e).2 (I.ok.nofr e) (I.ok.noex b o e),I.base.free b o (I.ok.bs b o e).1 (I.ok.bs b o e).2 (I.ok.noex b o e)⟩
theorem Inv.bk(I:Inv X pins σ H s):∀b o,X.base.get? b=some o→s.heap.get? b=some o:=fun b o e=>(I.bs b o e).1
theorem Inv.mod(I:Inv X pins σ H s):Mod X.K X.mg X.base:=I.ok.mod
theorem Inv.kIn(I:Inv X pins σ H s):X.K.In s.heap:=I.ok.mod.kin.keeps I.bk
theorem Inv.nolimit(I:Inv X pins σ H s):s.heap.NoLimit:=I.ok.mod.nolimit.keeps I.bk
theorem Inv.fr(I:Inv X pins σ H s):∃m,Fr X.base X.env.locals s.heap m:=
 let⟨m,hn,_⟩:=I.loc
 ⟨m,hn,I.bk,J5 I.ok.bsz I.ok.above⟩
theorem Inv.lt(I:Inv X pins σ H s):X.env.locals<s.heap.objs.size:=let⟨_,hn,_⟩:=I.loc;hn.lt
theorem Inv.sz(I:Inv X pins σ H s):X.s₀.heap.objs.size≤s.heap.objs.size:=J5 I.ok.above (Ng I.lt)
theorem Inv.nofs(I:Inv X pins σ H s){a:Addr}(h:s.heap.objs.size≤a):a∉X.fs:=fun hb=>by
 obtain⟨_,o,ho,_⟩:=I.ok.funs.mem hb
 exact absurd (Ny (Heap.lt_size ho) (J5 I.sz h)) (N6 _)
theorem Inv.cne(I:Inv X pins σ H s):∀x c,X.env.cells.lookup x=some c→c≠X.env.locals:=fun x c e z=>by
 obtain⟨v,o,ho,hd⟩:=I.cell x c e
 obtain⟨m,⟨o',es,ep,ho',hd',_⟩,_⟩:=I.loc
 rw[z,ho'] at ho;cases ho;rw[hd'] at hd;cases hd
theorem Inv.funs(I:Inv X pins σ H s):s.heap.FunFrames X.base X.outer:=by
 have all:∀(l:List Env),(∀b∈frs l,b∈X.fs)→X.s₀.heap.FunFrames X.base l→s.heap.FunFrames X.base l:=by
  intro l
  induction l with
  |nil=>intro _ _;trivial
  |cons env r ih=>
   intro hs hl
   obtain⟨hk,⟨L,o,hf,hn,ho,hd⟩,hr⟩:=hl
   have hL:L∈X.fs:=hs L (by unfold frs;rw[Mo,hf];exact Nz)
   obtain⟨sl,e⟩:=I.base.slot L o ho (I.ok.frf L hL) hL fun z=>I.ok.exfs L z hL
   exact⟨hk,⟨L,_,hf,hn,e,hd⟩,ih (fun b hb=>hs b (by unfold frs;rw[Mo,hf];exact Nw _ hb)) hr⟩
 exact all X.outer (fun _ hb=>hb) I.ok.funs
theorem Inv.stack(I:Inv X pins σ H s):s.heap.FunFrames X.base X.stack:=by
 rcases I.ok.stk with e|⟨e,hf⟩
 ·rw[e];exact I.funs
 ·rw[e]
  obtain⟨m,hn,_⟩:=I.loc
  refine .cons (by rw[I.ok.kind];decide) hf hn ?_ I.funs
  exact Heap.get?_none_of_le (J5 I.ok.bsz I.ok.above)
theorem Inv.stkSub(I:Inv X pins σ H s):∀b∈frs X.stack,b∈X.env.locals::X.fs:=fun b hb=>by
 rcases I.ok.stk with e|⟨e,hf⟩
 ·rw[e] at hb;exact Nw _ hb
 ·rw[e] at hb
  unfold frs at hb
  rw[Mo,hf] at hb
  exact hb
theorem Inv.stkFree(I:Inv X pins σ H s):∀b∈frs X.stack,H b=none:=fun b hb=>by
 rcases Nl.mp (I.stkSub b hb) with e|hb
 ·rw[e];exact I.free
 ·obtain⟨_,o,ho,_⟩:=I.ok.funs.mem hb
  exact I.base.free b o ho (I.ok.frf b hb) fun z=>I.ok.exfs b z hb
theorem Inv.step{g':Array GenState}{t':Nat}{d':Drawn}{ch:List Addr}(I:Inv X pins σ H s)
  (hch:∀b∈ch,(b∈X.ex∨X.s₀.heap.objs.size≤b)∧b≠X.env.locals∧(∀x c,X.env.cells.lookup x=some c→c≠b)∧∀p∈X.pn++pins,p.1≠b)
  (keep:∀b o,b≠X.env.locals→b∉X.fs→b∉ch→s.heap.get? b=some o→H b=none→h'.get? b=some o)
  (slot:∀b o,b≠X.env.locals→b∈X.fs→b∉ch→s.heap.get? b=some o→H b=none→∃sl,h'.get? b=some {o with slots:=sl}) (free:∀b o,b∉ch→s.heap.get? b=some o→H b=none→H' b=none)
  (there:∀b o,b∉ch→s.heap.get? b=some o→∃o',h'.get? b=some o')
  (tups:∀b xs,H b=some (.tup xs)→H' b=some (.tup xs)) (frzs:∀b o u,H b=some (.frz o u)→H' b=some (.frz o u)) (tbls:∀b ps,H b=some (.tbl ps)→∃more,H' b=some (.tbl (ps++more)))
  (ns:∀m,s.heap.Ns X.env.locals m→h'.Ns X.env.locals m) (hok:HOk X.prog X.w H' h') (hg:AllBare g'):
  Inv X pins σ H' {s with heap:=h',gens:=g',drawn:=d',toks:=t'}:=by
 have neL:∀b o,X.s₀.heap.get? b=some o→b≠X.env.locals:=fun b o e=>Nr (Ny (Heap.lt_size e) I.ok.above)
 have neC:∀b o,X.s₀.heap.get? b=some o→b∉X.ex→b∉ch:=fun b o e hx hb=>by
  rcases(hch b hb).1 with z|z
  ·exact hx z
  ·exact absurd (Ny (Heap.lt_size e) z) (N6 _)
 have cellK:∀x c,X.env.cells.lookup x=some c→∀v,s.heap.IsCell c v→h'.IsCell c v:=fun x c e v ⟨o,ho,hd⟩=>by
  have nch:c∉ch:=fun z=>(hch c z).2.2.1 x c e rfl
  by_cases hc:c∈X.fs
  ·obtain⟨sl,q⟩:=slot c o (I.cne x c e) hc nch ho (I.freeC x c e)
   exact⟨_,q,hd⟩
  ·exact⟨o,keep c o (I.cne x c e) hc nch ho (I.freeC x c e),hd⟩
 refine⟨I.ok,I.os,hg,⟨fun b o e n hb hx=>?_,fun b o e n hb hx=>?_,fun b o e n hx=>?_,fun b o e hx=>?_,fun b xs e=>tups b xs (I.base.tups b xs e),fun b o xs e=>frzs b o xs (I.base.frzs b o xs e),fun b ps e=>?_⟩,?_,fun x c e=>?_,?_,fun x c e=>?_,fun p hp=>?_,hok,I.len⟩
 ·exact keep b o (neL b o e) hb (neC b o e hx) (I.base.keep b o e n hb hx) (I.base.free b o e n hx)
 ·obtain⟨sl,e1⟩:=I.base.slot b o e n hb hx
  obtain⟨sl',e2⟩:=slot b _ (neL b o e) hb (neC b o e hx) e1 (I.base.free b o e n hx)
  exact⟨sl',e2⟩
 ·obtain⟨o',e1⟩:=I.base.there b o e hx
  exact free b o' (neC b o e hx) e1 (I.base.free b o e n hx)
 ·obtain⟨o',e1⟩:=I.base.there b o e hx
  exact there b o' (neC b o e hx) e1
 ·obtain⟨m1,e1⟩:=I.base.tbls b ps e
  obtain⟨m2,e2⟩:=tbls b _ e1
  exact⟨m1++m2,by rw[e2,Array.append_assoc]⟩
 ·obtain⟨m,hn,hl⟩:=I.loc
  refine⟨m,ns m hn,fun i x v e1 e2 e3=>?_⟩
  obtain⟨u,r,l⟩:=hl i x v e1 e2 e3
  refine⟨u,r,?_⟩
  rcases l with l|⟨k,c,e,z⟩
  ·exact .inl l
  ·exact .inr ⟨k,c,e,cellK x c e _ z⟩
 ·obtain⟨v,z⟩:=I.cell x c e
  exact⟨v,cellK x c e v z⟩
 ·obtain⟨m,⟨o,_,_,ho,_⟩,_⟩:=I.loc
  exact free _ o (fun z=>(hch _ z).2.1 rfl) ho I.free
 ·obtain⟨v,o,ho,hd⟩:=I.cell x c e
  exact free c o (fun z=>(hch c z).2.2.1 x c e rfl) ho (I.freeC x c e)
 ·obtain⟨e,n,ne,nf,d⟩:=I.pin p hp
  have nch:p.1∉ch:=fun z=>(hch p.1 z).2.2.2 p hp rfl
  exact⟨keep p.1 p.2 ne nf nch e n,free p.1 p.2 nch e n,ne,nf,d⟩
theorem Inv.un{t':Nat}(I:Inv X pins σ H s)(u:Un X.fs [] H H' s.heap h')(hok:HOk X.prog X.w H' h'):Inv X pins σ H' {s with heap:=h',toks:=t'}:=by
 obtain⟨m,⟨o,es,ep,ho,r⟩,_⟩:=id I.loc
 obtain⟨sl,hL⟩:=u.any ho I.free (by simp)
 exact I.step (g':=s.gens) (d':=s.drawn) (ch:=[]) (fun _ z=>nomatch z) (fun b o _ hb _ e n=>u.keep b o e n hb (by simp)) (fun b o _ hb _ e n=>u.slot b o e n hb (by simp)) (fun b o _ e n=>u.free b o e n (by simp)) (fun b o _ e=>u.there b o e (by simp)) u.tups u.frzs u.tbls (fun m' hm=>by
  obtain⟨o',es',ep',ho',r'⟩:=hm
  rw[ho] at ho';cases ho'
  exact⟨_,es',ep',hL,r'⟩) hok I.bare
theorem Inv.call{g':Array GenState}{t':Nat}{d':Drawn}{ch:List Addr}(I:Inv X pins σ H s)(u:Un (frs X.stack) ch H H' s.heap h')(hok:HOk X.prog X.w H' h')(hg:AllBare g')
  (hch:∀b∈ch,(b∈X.ex∨X.s₀.heap.objs.size≤b)∧b≠X.env.locals∧(∀x c,X.env.cells.lookup x=some c→c≠b)∧∀p∈X.pn++pins,p.1≠b):
  Inv X pins σ H' {s with heap:=h',gens:=g',drawn:=d',toks:=t'}:=by
 obtain⟨m,⟨o,es,ep,ho,r⟩,_⟩:=id I.loc
 obtain⟨sl,hL⟩:=u.any ho I.free fun z=>(hch _ z).2.1 rfl
 exact I.step (ch:=ch) hch (fun b o hL hb hc e n=>u.keep b o e n (fun z=>(Nl.mp (I.stkSub b z)).elim hL hb) hc) (fun b o _ _ hc e n=>u.any e n hc) (fun b o hc e n=>u.free b o e n hc) (fun b o hc e=>u.there b o e hc) u.tups u.frzs u.tbls (fun m' hm=>by
  obtain⟨o',es',ep',ho',r'⟩:=hm
  rw[ho] at ho';cases ho'
  exact⟨_,es',ep',hL,r'⟩) hok hg
theorem Inv.turned{t':Nat}{it:Addr}(I:Inv X pins σ H s)(k:∀b o,b≠it→s.heap.get? b=some o→h'.get? b=some o)(hn:H it=none)(hL:it≠X.env.locals)
  (h1:it∈X.ex∨X.s₀.heap.objs.size≤it) (h2:∀x c,X.env.cells.lookup x=some c→c≠it) (h3:∀p∈X.pn++pins,p.1≠it):Inv X pins σ H {s with heap:=h',toks:=t'}:=by
 have nit:∀b u,H b=some u→b≠it:=fun b u e z=>by rw[z,hn] at e;cases e
 refine I.step (g':=s.gens) (d':=s.drawn) (ch:=[it]) (fun b hb=>?_) (fun b o _ _ hc e _=>k b o (fun z=>hc (by simp[z])) e) (fun b o _ _ hc e _=>⟨o.slots,k b o (fun z=>hc (by simp[z])) e⟩) (fun _ _ _ _ n=>n)
  (fun b o hc e=>⟨o,k b o (fun z=>hc (by simp[z])) e⟩) (fun _ _ e=>e) (fun _ _ _ e=>e) (fun b ps e=>⟨#[],by rw[e];simp⟩) (fun m hm=>?_) (fun b u e=>?_) I.bare
 ·have e:b=it:=by simpa using hb
  subst e
  exact⟨h1,hL,h2,h3⟩
 ·obtain⟨o,es,ep,ho,r⟩:=hm
  exact⟨o,es,ep,k _ o (Ne.symm hL) ho,r⟩
 ·refine(I.hok b u e).stay (fun c v hc q=>k c v ?_ q) (fun _ q=>q) fun _ _ q=>q
  rcases hc with z|z
  ·rw[z];exact nit b u e
  ·exact nit c _ z
theorem Inv.tok(I:Inv X pins σ H s)(t:Nat):Inv X pins σ H {s with toks:=t}:=I.un (h':=s.heap) (t':=t) Un.refl I.hok
theorem Inv.kept{t':Nat}(I:Inv X pins σ H s)(k:∀b u,s.heap.get? b=some u→h'.get? b=some u):Inv X pins σ H {s with heap:=h',toks:=t'}:=I.un (Un.kept k) (I.hok.kept k)
theorem Inv.laid{a:Addr}{o:HO}{t':Nat}(I:Inv X pins σ H s)(k:∀b u,s.heap.get? b=some u→h'.get? b=some u)(hp:s.heap.objs.size≤a)(new:ObjOk X.prog X.w (upd H a o) h' a o):
  Inv X pins σ (upd H a o) {s with heap:=h',toks:=t'}:=I.un (Un.laid k hp (I.hok.fresh hp)) (I.hok.laid k hp new)
theorem Inv.write{x e:Addr}{o:HO}{t':Nat}(I:Inv X pins σ H s)(mu:Mut (H x))(he:e=x∨H e=some (.own x))(k:∀b u,b≠e→s.heap.get? b=some u→h'.get? b=some u)(heo:∃u,h'.get? e=some u)
  (new:ObjOk X.prog X.w (upd H x o) h' x o):Inv X pins σ (upd H x o) {s with heap:=h',toks:=t'}:=I.un (Un.write mu he k heo) (I.hok.write mu he k heo new)
theorem Inv.pins_of{pins':List (Addr×Obj)}(I:Inv X pins σ H s)(h:∀p∈pins',s.heap.get? p.1=some p.2∧H p.1=none∧p.1≠X.env.locals∧p.1∉X.fs∧∀v,p.2.data≠.cell v):Inv X pins' σ H s:=
 ⟨I.ok,I.os,I.bare,I.base,I.loc,I.cell,I.free,I.freeC,fun p hp=>(NJ.mp hp).elim (fun z=>I.pin p (Ei _ z)) (h p),I.hok,I.len⟩
theorem khw{N:List Str}(hN:N.Nodup){i j:Nat}{x:Str}(a:N[i]?=some x)(b:N[j]?=some x):i=j:=by
 obtain⟨h1,e1⟩:=Nh.mp a
 obtain⟨h2,e2⟩:=Nh.mp b
 exact(List.getElem_inj hN).mp (e1.trans e2.symm)
theorem kik{M:Model}{A:Around}{E:Value→Shared→Prop}{i:Nat}{x:Str}{v:V}{u:Value}{Q:Unit→Shared→Prop}(I:Inv X pins σ H s)(hN:X.N.Nodup)(hi:X.N[i]?=some x)(hx:Loc X.env.scope x)(r:RelV v u)
  (h:∀s',Inv X pins (σ.set i (some v)) H s'→(∃a,Heap.SameBut a s.heap s'.heap∧(a=X.env.locals∨X.env.cells.lookup x=some a))→Q () s') (hf:X.fn x=true∨X.env.scope.names.lookup x=some .local:=by first|exact .inl rfl|exact .inr rfl|assumption):wpAny M A (storeName X.env x u) Q E s:=by
 obtain⟨m,hn,hl⟩:=id I.loc
 have hcls:(X.env.scope.kind== .class||(X.env.scope.kind== .module&&X.env.locals !=X.env.globals))=false:=by rw[I.ok.kind];rfl
 have hiσ:i< σ.length:=by rw[I.len];exact(Nh.mp hi).1
 have cne:=I.cne
 have tracked:∀{a:Addr}{h':Heap},(∃o,s.heap.get? a=some o∧H a=none)→Heap.SameBut a s.heap h'→HOk X.prog X.w H h':=fun {a h'} ha hs b ob e=>by
  obtain⟨_,_,hfree⟩:=ha
  refine(I.hok b ob e).stay (fun c w' hc q=>(hs.2 c ?_).trans q) (fun _ q=>q) fun _ _ q=>q
  rintro rfl
  rcases hc with rfl|hc
  ·rw[hfree] at e;cases e
  ·rw[hfree] at hc;cases hc
 rcases hx with hk|hk
 ·refine wpAny_storeName_local hk hn (fun h' hn' hs=>?_) hcls
  obtain⟨oL,_,_,hoL,_⟩:=id hn
  refine h _ ⟨I.ok,I.os,I.bare,⟨fun b o e n hb hx=>?_,fun b o e n hb hx=>?_,I.base.free,fun b o e hx=>?_,I.base.tups,I.base.frzs,I.base.tbls⟩,⟨_,hn',fun j y v' e1 e2 e3=>?_⟩,fun y c e=>?_,I.free,I.freeC,fun p hp=>?_,tracked ⟨oL,hoL,I.free⟩ hs,by simpa using I.len⟩ ⟨_,hs, .inl rfl⟩
  ·exact(hs.2 b (Nr (Ny (Heap.lt_size e) I.ok.above))).trans (I.base.keep b o e n hb hx)
  ·obtain⟨sl,e1⟩:=I.base.slot b o e n hb hx
   exact⟨sl,(hs.2 b (Nr (Ny (Heap.lt_size e) I.ok.above))).trans e1⟩
  ·obtain⟨o',e1⟩:=I.base.there b o e hx
   exact⟨o',(hs.2 b (Nr (Ny (Heap.lt_size e) I.ok.above))).trans e1⟩
  ·by_cases hj:j=i
   ·subst hj
    rw[hi] at e1;cases e1
    rw[Mz hiσ] at e2
    cases e2
    exact⟨u,r, .inl ⟨hk,by simp⟩⟩
   ·rw[MA (Ne.symm hj)] at e2
    obtain⟨u',r',q⟩:=hl j y v' e1 e2 e3
    refine⟨u',r',?_⟩
    rcases q with⟨k,e⟩|⟨k,c,e,z⟩
    ·refine .inl ⟨k,?_⟩
     have:y≠x:=fun e=>hj (khw hN e1 (e▸hi))
     simp[this,e]
    ·exact .inr ⟨k,c,e,z.sameBut hs (cne y c e)⟩
  ·obtain⟨w',z⟩:=I.cell y c e
   exact⟨w',z.sameBut hs (cne y c e)⟩
  ·obtain⟨e,n,ne,nf,d⟩:=I.pin p hp
   exact⟨(hs.2 p.1 ne).trans e,n,ne,nf,d⟩
 ·have hfn:X.fn x=true:=by
   rcases hf with z|z
   ·exact z
   ·rw[z] at hk;cases hk
  obtain⟨c,hc⟩:=I.ok.has x (.inl hk)
  obtain⟨w',z⟩:=I.cell x c hc
  refine wpAny_storeName_cell I.ok.kind hk hc z (fun h' hc' hs=>?_)
  obtain⟨oc,hoc,hocd⟩:=id z
  refine h {s with heap:=h'} ⟨I.ok,I.os,I.bare,⟨fun b o e n hb hx=>?_,fun b o e n hb hx=>?_,I.base.free,fun b o e hx=>?_,I.base.tups,I.base.frzs,I.base.tbls⟩,⟨m,hn.sameBut hs (Ne.symm (cne x c hc)),fun j y v' e1 e2 e3=>?_⟩,fun y c' e=>?_,I.free,I.freeC,fun p hp=>?_,tracked ⟨oc,hoc,I.freeC x c hc⟩ hs,by simpa using I.len⟩ ⟨c,hs, .inr hc⟩
  ·exact(hs.2 b (Nr (Ny (Heap.lt_size e) (I.ok.cab x c hfn hc)))).trans (I.base.keep b o e n hb hx)
  ·obtain⟨sl,e1⟩:=I.base.slot b o e n hb hx
   exact⟨sl,(hs.2 b (Nr (Ny (Heap.lt_size e) (I.ok.cab x c hfn hc)))).trans e1⟩
  ·obtain⟨o',e1⟩:=I.base.there b o e hx
   exact⟨o',(hs.2 b (Nr (Ny (Heap.lt_size e) (I.ok.cab x c hfn hc)))).trans e1⟩
  ·by_cases hj:j=i
   ·subst hj
    rw[hi] at e1;cases e1
    rw[Mz hiσ] at e2
    cases e2
    exact⟨u,r, .inr ⟨.inl hk,c,hc,hc'⟩⟩
   ·rw[MA (Ne.symm hj)] at e2
    obtain⟨u',r',q⟩:=hl j y v' e1 e2 e3
    refine⟨u',r',?_⟩
    rcases q with q|⟨k,c',e,z'⟩
    ·exact .inl q
    ·refine .inr ⟨k,c',e,z'.sameBut hs ?_⟩
     rintro rfl
     exact hj (khw hN e1 (I.ok.inj _ _ _ e hc▸hi))
  ·by_cases hcc:c'=c
   ·subst hcc;exact⟨_,hc'⟩
   ·obtain⟨w2,z2⟩:=I.cell y c' e
    exact⟨w2,z2.sameBut hs hcc⟩
  ·obtain⟨e,n,ne,nf,d⟩:=I.pin p hp
   refine⟨(hs.2 p.1 ?_).trans e,n,ne,nf,d⟩
   intro q
   rw[q,hoc] at e
   have q':oc=p.2:=Option.some.inj e
   exact d w' (by rw[←q'];exact hocd)
theorem kc8{M:Model}{A:Around}{E:Value→Shared→Prop}{i:Nat}{x:Str}{v:V}{u:Value}{Q:Unit→Shared→Prop}(I:Inv X pins σ H s)(hN:X.N.Nodup)(hi:X.N[i]?=some x)(hx:Loc X.env.scope x)(r:RelV v u)
  (h:∀s',Inv X pins (σ.set i (some v)) H s'→Q () s') (hf:X.fn x=true∨X.env.scope.names.lookup x=some .local:=by first|exact .inl rfl|exact .inr rfl|assumption):wpAny M A (storeName X.env x u) Q E s:=
 kik I hN hi hx r (fun s' I' _=>h s' I') hf
theorem Inv.call'{s':Shared}{ch:List Addr}(I:Inv X pins σ H s)(ho:s'.os=s.os)(u:Un (frs X.stack) ch H H' s.heap s'.heap)(hok:HOk X.prog X.w H' s'.heap)(hg:AllBare s'.gens)
  (hch:∀b∈ch,(b∈X.ex∨X.s₀.heap.objs.size≤b)∧b≠X.env.locals∧(∀x c,X.env.cells.lookup x=some c→c≠b)∧∀p∈X.pn++pins,p.1≠b):Inv X pins σ H' s':=by
 obtain⟨h',g',d',t',o'⟩:=s'
 have e:o'=s.os:=ho
 subst e
 exact I.call (g':=g') (t':=t') (d':=d') u hok hg hch
end
noncomputable abbrev XK:=Value→Option Addr→Hp→Prop
noncomputable abbrev St:=List (Option V)
noncomputable abbrev VK:=V→Hp→Prop
noncomputable abbrev TE:=St→Hp→VK→Prop
noncomputable abbrev TT:=St→Hp→(Bool→Hp→Prop)→Prop
noncomputable abbrev TA:=St→Hp→(List V→Hp→Prop)→Prop
structure Ends where
 nx:St→Hp→Prop
 rt:VK
 bk:St→Hp→Prop:=fun _ _=>False
 ct:St→Hp→Prop:=fun _ _=>False
noncomputable abbrev TS:=Ends→St→Hp→Prop
noncomputable def EP(X:Cx)(pins:List (Addr×Obj))(σ:St)(Q:VK)(u:Value)(s':Shared):Prop:=∃v H',Inv X pins σ H' s'∧RelV v u∧Q v H'
noncomputable def TP(X:Cx)(pins:List (Addr×Obj))(σ:St)(Q:Bool→Hp→Prop)(b:Bool)(s':Shared):Prop:=∃H',Inv X pins σ H' s'∧Q b H'
noncomputable def AP(X:Cx)(pins:List (Addr×Obj))(σ:St)(Q:List V→Hp→Prop)(us:List Value)(s':Shared):Prop:=∃vs H',Inv X pins σ H' s'∧Vals vs us∧Q vs H'
noncomputable def SP(X:Cx)(pins:List (Addr×Obj))(D:Ends)(f:Flow)(s':Shared):Prop:=
 match f with
 | .next=>∃σ' H',Inv X pins σ' H' s'∧D.nx σ' H'
 | .brk=>∃σ' H',Inv X pins σ' H' s'∧D.bk σ' H'
 | .cont=>∃σ' H',Inv X pins σ' H' s'∧D.ct σ' H'
 | .ret u=>∃v σ' H',Inv X pins σ' H' s'∧RelV v u∧D.rt v H'
noncomputable def PE(X:Cx)(e:Expr)(t:TE):Prop:=
 ∀(pins:List (Addr×Obj))(s:Shared)(σ:St)(H:Hp)(Q:VK),Inv X pins σ H s→t σ H Q→wpAny (model X.prog X.w) X.A (eval e X.env) (EP X pins σ Q) X.xe s
noncomputable def PT(X:Cx)(e:Expr)(t:TT):Prop:=
 ∀(pins:List (Addr×Obj))(s:Shared)(σ:St)(H:Hp)(Q:Bool→Hp→Prop),Inv X pins σ H s→t σ H Q→wpAny (model X.prog X.w) X.A (isTrue e X.env (eval e X.env)) (TP X pins σ Q) X.xe s
noncomputable def PW(X:Cx)(e:Expr)(t:TT):Prop:=
 ∀(whole:Sem Value)(pins:List (Addr×Obj))(s:Shared)(σ:St)(H:Hp)(Q:Bool→Hp→Prop),Inv X pins σ H s→t σ H Q→wpAny (model X.prog X.w) X.A (isTrue e X.env whole) (TP X pins σ Q) X.xe s
def PW.pt{X:Cx}{e:Expr}{t:TT}(h:PW X e t):PT X e t:=h _
noncomputable def PA(X:Cx)(es:List Expr)(t:TA):Prop:=
 ∀(pos:Pos)(pins:List (Addr×Obj))(s:Shared)(σ:St)(H:Hp)(Q:List V→Hp→Prop),Inv X pins σ H s→t σ H Q→wpAny (model X.prog X.w) X.A (spliced (backTo pos (starEach es X.env))) (AP X pins σ Q) X.xe s
noncomputable def PS(X:Cx)(st:Stmt)(t:TS):Prop:=
 ∀(pins:List (Addr×Obj))(s:Shared)(σ:St)(H:Hp)(D:Ends),Inv X pins σ H s→t D σ H→wpAny (model X.prog X.w) X.A (exec st X.env) (SP X pins D) X.xe s
noncomputable def PSs(X:Cx)(st:List Stmt)(t:TS):Prop:=
 ∀(pins:List (Addr×Obj))(s:Shared)(σ:St)(H:Hp)(D:Ends),Inv X pins σ H s→t D σ H→wpAny (model X.prog X.w) X.A (execs st X.env) (SP X pins D) X.xe s
def thn{α:Type}{t:Sem α}{Q Q': α→Shared→Prop}{M:Model}{A:Around}{E:Value→Shared→Prop}{s:Shared}(h:wpAny M A t Q E s)(hQ:∀a s,Q a s→Q' a s):wpAny M A t Q' E s:=wpAny_mono h hQ fun _ _ x=>x
end L2
namespace L2
open PySem PySem.Spec PyProof.Rows
section
variable {X:Cx}
noncomputable def tVar(i:Nat):TE:=fun σ H Q=>∃v,σ[i]?=some (some v)∧Q v H
noncomputable def tC(v:V):TE:=fun _ H Q=>Q v H
theorem kmf{i:Nat}{x:Str}{pos:Pos}(hN:X.N[i]?=some x)(hv:Vis X.env.scope x)(hd:(x==("__debug__" :Str))=false:=by decide)(hcd:(x==("__classdict__" :Str))=false:=by decide):PE X (.Name x pos) (tVar i):=by
 intro pins s σ H Q I h
 obtain⟨v,e,h⟩:=h
 obtain⟨m,hn,hl⟩:=I.loc
 obtain⟨u,r,l⟩:=hl i x v hN e hv
 have fin:EP X pins σ Q u s:=⟨v,H,I,r,h⟩
 rcases l with⟨hk,hm⟩|⟨hk,c,hc,hcell⟩
 ·exact wpAny_Name (wpAny_loadName_local I.ok.kind hk hn hm fin) hd
 ·rcases hk with hk|hk
  ·exact wpAny_Name (wpAny_loadName_cell I.ok.kind hk hc hcell fin) hd
  ·exact wpAny_Name (wpAny_loadName_free I.ok.kind hk hc hcell fin hcd) hd
theorem kaf{i j pos}:PE X (.Constant (.int i) j pos) (tC (.int i)):=fun _ _ _ H _ I h=>wpAny_Constant_int ⟨.int i,H,I.tok _,⟨_,rfl⟩,h⟩
theorem pe_bl{b j pos}:PE X (.Constant (.bool b) j pos) (tC (.bl b)):=fun _ _ _ H _ I h=>Constant_bool ⟨.bl b,H,I,rfl,h⟩
theorem ka0{j pos}:PE X (.Constant .none j pos) (tC .non):=fun _ _ _ H _ I h=>Constant_none ⟨.non,H,I,rfl,h⟩
theorem kbz{x j pos}:PE X (.Constant (.str x) j pos) (tC (.str x)):=fun _ _ _ H _ I h=>Calls.Constant_str ⟨.str x,H,I.tok _,⟨_,rfl⟩,h⟩
noncomputable def Gl(X:Cx)(x:Str):Prop:=X.env.kindOf x=some .globalImplicit
theorem kc7{E:Value→Shared→Prop}{pins:List (Addr×Obj)}{s:Shared}{σ:St}{H:Hp}{x:Str}{u:Value}{pos:Pos}{Q:Value→Shared→Prop}(I:Inv X pins σ H s)(hg:Gl X x)(hm:X.mg x=some u)(h:Q u s)
  (hd:(x==("__debug__" :Str))=false:=by decide):wpAny (model X.prog X.w) X.A (eval (.Name x pos) X.env) Q E s:=
 Calls.Name_function_global I.ok.kind hg (Calls.loadGlobal_global (by rw[I.ok.glob];exact I.mod.glob.keeps I.bk) hm h) hd
theorem kcH{E:Value→Shared→Prop}{pins:List (Addr×Obj)}{s:Shared}{σ:St}{H:Hp}{x:Str}{u:Value}{pos:Pos}{Q:Value→Shared→Prop}(I:Inv X pins σ H s)(hg:Gl X x)(hm:X.mg x=none)(hv:bootBuiltins x=some u)(h:Q u s)
  (hn:x≠"__name__":=by decide) (hd:(x==("__debug__" :Str))=false:=by decide):wpAny (model X.prog X.w) X.A (eval (.Name x pos) X.env) Q E s:=by
 obtain⟨mb,h1,h2⟩:=I.mod.blt
 exact Calls.Name_function_global I.ok.kind hg (Calls.loadGlobal_builtin (by rw[I.ok.glob];exact I.mod.glob.keeps I.bk) hm (by rw[I.ok.blt];exact h1.keeps I.bk) ((h2 x hn).trans hv) h) hd
theorem kb8{x:Str}{v:V}{u:Value}{pos:Pos}(hg:Gl X x)(hm:X.mg x=some u)(r:RelV v u)(hd:(x==("__debug__" :Str))=false:=by decide):PE X (.Name x pos) (tC v):=
 fun _ _ _ H _ I h=>kc7 I hg hm ⟨v,H,I,r,h⟩ hd
theorem keg{x:Str}{v:V}{u:Value}{pos:Pos}(hg:Gl X x)(hm:X.mg x=none)(hv:bootBuiltins x=some u)(r:RelV v u)(hn:x≠"__name__":=by decide)(hd:(x==("__debug__" :Str))=false:=by decide):PE X (.Name x pos) (tC v):=
 fun _ _ _ H _ I h=>kcH I hg hm hv ⟨v,H,I,r,h⟩ hn hd
variable {a b:Expr} {ta tb:TE} {pos:Pos}
noncomputable def tB(t:TE):TT:=fun σ H Q=>t σ H fun x H1=>∃c,x=.bl c∧Q c H1
theorem kaU{e:Expr}{t:TE}(h:PE X e t)(he:∀whole,isTrue e X.env whole=(do let v ←whole;standAt e.pos;holding [v] (truthy v)):=by intro _;rfl):PT X e (tB t):=by
 intro pins s σ H Q I hw
 refine isTrue_plain (thn (h pins s σ H _ I hw) fun v s1 ⟨x,H1,I1,r1,q1⟩=>?_) (he _)
 obtain⟨d,rfl,q⟩:=q1
 cases r1
 exact wpAny_truthy_bool ⟨H1,I1,q⟩
variable {tA tB':TT} {rest:List Expr}
noncomputable def tAnd(t u:TT):TT:=fun σ H Q=>t σ H fun c H1=>if c=true then u σ H1 Q else Q false H1
noncomputable def tOr(t u:TT):TT:=fun σ H Q=>t σ H fun c H1=>if c=true then Q true H1 else u σ H1 Q
noncomputable def tNot(t:TT):TT:=fun σ H Q=>t σ H fun c H1=>Q (!c) H1
theorem kbj(ha:PT X a tA):PW X (.BoolOp .And [a] pos) tA:=by
 intro wh pins s σ H Q I h
 refine isTrue_and (thn (ha pins s σ H Q I h) fun c s1 e=>?_)
 cases c with
 |true=>exact isTrue_and_nil e
 |false=>exact e
theorem keV(ha:PT X a tA):PW X (.BoolOp .Or [a] pos) tA:=by
 intro wh pins s σ H Q I h
 refine isTrue_or (thn (ha pins s σ H Q I h) fun c s1 e=>?_)
 cases c with
 |false=>exact isTrue_or_nil e
 |true=>exact e
theorem kbw(ha:PT X a tA)(hb:PW X (.BoolOp .And (b::rest) pos) tB'):PW X (.BoolOp .And (a::b::rest) pos) (tAnd tA tB'):=by
 intro wh pins s σ H Q I h
 refine isTrue_and (thn (ha pins s σ H _ I h) fun c s1 ⟨H1,I1,q1⟩=>?_)
 cases c with
 |true=>exact hb wh pins s1 σ H1 Q I1 q1
 |false=>exact⟨H1,I1,q1⟩
theorem pw_or(ha:PT X a tA)(hb:PW X (.BoolOp .Or (b::rest) pos) tB'):PW X (.BoolOp .Or (a::b::rest) pos) (tOr tA tB'):=by
 intro wh pins s σ H Q I h
 refine isTrue_or (thn (ha pins s σ H _ I h) fun c s1 ⟨H1,I1,q1⟩=>?_)
 cases c with
 |true=>exact⟨H1,I1,q1⟩
 |false=>exact hb wh pins s1 σ H1 Q I1 q1
theorem kcT(ha:PT X a tA):PT X (.UnaryOp .Not a pos) (tNot tA):=by
 intro pins s σ H Q I h
 exact isTrue_not (ha pins s σ H (fun c H1=>Q (!c) H1) I h)
noncomputable def tAndV(ta tb:TE):TE:=fun σ H Q=>ta σ H fun x H1=>∃c,x=.bl c∧if c=true then tb σ H1 Q else Q (.bl false) H1
noncomputable def tOrV(ta tb:TE):TE:=fun σ H Q=>ta σ H fun x H1=>∃c,x=.bl c∧if c=true then Q (.bl true) H1 else tb σ H1 Q
noncomputable def tNotV(ta:TE):TE:=fun σ H Q=>ta σ H fun x H1=>∃c,x=.bl c∧Q (.bl (!c)) H1
theorem kf3{op}{t:TE}(h:PE X a t):PE X (.BoolOp op [a] pos) t:=fun pins s σ H Q I hw=>BoolOp_one (h pins s σ H Q I hw)
theorem kf4(ha:PE X a ta)(hb:PE X (.BoolOp .And (b::rest) pos) tb):PE X (.BoolOp .And (a::b::rest) pos) (tAndV ta tb):=by
 intro pins s σ H Q I h
 refine BoolOp_and (thn (ha pins s σ H _ I h) fun v s1 ⟨x,H1,I1,r1,q1⟩=>?_)
 obtain⟨c,rfl,q1⟩:=q1
 cases r1
 refine wpAny_truthy_bool ?_
 cases c with
 |true=>exact hb pins s1 σ H1 Q I1 q1
 |false=>exact⟨.bl false,H1,I1,rfl,q1⟩
theorem pe_or(ha:PE X a ta)(hb:PE X (.BoolOp .Or (b::rest) pos) tb):PE X (.BoolOp .Or (a::b::rest) pos) (tOrV ta tb):=by
 intro pins s σ H Q I h
 refine BoolOp_or (thn (ha pins s σ H _ I h) fun v s1 ⟨x,H1,I1,r1,q1⟩=>?_)
 obtain⟨c,rfl,q1⟩:=q1
 cases r1
 refine wpAny_truthy_bool ?_
 cases c with
 |false=>exact hb pins s1 σ H1 Q I1 q1
 |true=>exact⟨.bl true,H1,I1,rfl,q1⟩
theorem kmg(ha:PE X a ta):PE X (.UnaryOp .Not a pos) (tNotV ta):=by
 intro pins s σ H Q I h
 refine UnaryOp_ (thn (ha pins s σ H _ I h) fun v s1 ⟨x,H1,I1,r1,q1⟩=>?_)
 obtain⟨c,rfl,q1⟩:=q1
 cases r1
 exact not_of (wpAny_truthy_bool ⟨.bl (!c),H1,I1,rfl,q1⟩)
noncomputable def tIf(t:TT)(ta tb:TE):TE:=fun σ H Q=>t σ H fun c H1=>if c=true then ta σ H1 Q else tb σ H1 Q
theorem khr{c:Expr}(hc:PT X c tA)(ha:PE X a ta)(hb:PE X b tb):PE X (.IfExp c a b pos) (tIf tA ta tb):=by
 intro pins s σ H Q I h
 refine wpAny_IfExp (thn (hc pins s σ H _ I h) fun d s1 ⟨H1,I1,q1⟩=>?_)
 cases d with
 |true=>exact ha pins s1 σ H1 Q I1 q1
 |false=>exact hb pins s1 σ H1 Q I1 q1
end
end L2
namespace L2
open PySem PySem.Spec PyProof.Rows
noncomputable def SqL(K:JZ)(H:Hp)(a:Addr)(xs:List V):Prop:=
 Rd H a (.lst xs)∨
  ∃(o:Obj)(its:Array Value)(n:Nat),K.lookup a=some o∧o.cls=.type "list"∧o.dict=none∧o.data=.seq its n∧its.size≤sizeLine∧Vals xs its.toList
noncomputable def SqT(K:JZ)(H:Hp)(a:Addr)(xs:List V):Prop:=
 Rd H a (.tup xs)∨
  ∃(o:Obj)(its:Array Value)(n:Nat),K.lookup a=some o∧o.cls=.type "tuple"∧o.data=.seq its n∧its.size≤sizeLine∧Vals xs its.toList
noncomputable def absV:Value→Option V
 | .none=>some .non
 | .bool b=>some (.bl b)
 | .int i _=>some (.int i)
 | .str x _=>some (.str x)
 | .bytes b _=>some (.byt b)
 | .float b _=>some (.flt b)
 | .ref a=>some (.ref a)
 | .type n=>some (.ty n)
 |_=>none
theorem RelV.abs{x:V}{u:Value}(r:RelV x u):absV u=some x:=by
 cases x with
 |non=>cases r;rfl
 |bl _=>cases r;rfl
 |int _=>obtain⟨t,rfl⟩:=r;rfl
 |str _=>obtain⟨t,rfl⟩:=r;rfl
 |byt _=>obtain⟨t,rfl⟩:=r;rfl
 |flt _=>obtain⟨t,rfl⟩:=r;rfl
 |ref _=>cases r;rfl
 |ty _=>cases r;rfl
def RelV.inj{x y:V}{u:Value}(r:RelV x u)(q:RelV y u):x=y:=Option.some.inj (r.abs.symm.trans q.abs)
theorem Vals.inj:∀{xs ys:List V}{us:List Value},Vals xs us→Vals ys us→xs=ys
 |_,_,_, .nil, .nil=>rfl
 |_,_,_, .cons r t, .cons r' t'=>by rw[r.inj r',Vals.inj t t']
section
variable {X:Cx} {pins:List (Addr×Obj)} {σ:St} {H:Hp} {s:Shared} {a:Addr} {xs ys:List V}
theorem SqL.of{K:JZ}(h:H a=some (.lst xs)):SqL K H a xs:=.inl (.inl h)
theorem SqT.of{K:JZ}(h:H a=some (.tup xs)):SqT K H a xs:=.inl (.inl h)
theorem Inv.list(I:Inv X pins σ H s)(h:SqL X.K H a xs):∃its:List Value,Vals xs its∧PlainL s.heap a its.toArray∧xs.length≤sizeLine:=by
 rcases h with h|⟨o,its,n,hk,hc,hd,hs,hz,r⟩
 ·obtain⟨z,its,n,r,e⟩:=h.ok I.hok
  exact⟨its,r,⟨_,n,e,rfl,rfl,rfl⟩,z⟩
 ·refine⟨its.toList,r,⟨o,n,I.kIn a o hk,hc,hd,by simpa using hs⟩,?_⟩
  have e:=r.length
  simp only[Mu] at e
  omega
theorem Inv.tuple(I:Inv X pins σ H s)(h:SqT X.K H a xs):∃its:List Value,Vals xs its∧IsTup s.heap a its.toArray∧xs.length≤sizeLine:=by
 rcases h with h|⟨o,its,n,hk,hc,hs,hz,r⟩
 ·obtain⟨z,its,r,p⟩:=h.ok I.hok
  exact⟨its,r,p,z⟩
 ·refine⟨its.toList,r,⟨o,I.kIn a o hk,hc,n,by simpa using hs⟩,?_⟩
  have e:=r.length
  simp only[Mu] at e
  omega
theorem Inv.list_inj(I:Inv X pins σ H s)(h:SqL X.K H a xs)(h':SqL X.K H a ys):xs=ys:=by
 obtain⟨its,r,⟨o,n,e,_,_,d⟩,_⟩:=I.list h
 obtain⟨its',r',⟨o',n',e',_,_,d'⟩,_⟩:=I.list h'
 rw[e] at e';cases e'
 rw[d] at d'
 injection d' with d1 _
 have:its=its':=by simpa using congrArg Array.toList d1
 subst this
 exact r.inj r'
end
noncomputable abbrev Cx.wish(X:Cx)(E:Value→Shared→Prop):Cx:={X with xe:=E}
noncomputable abbrev Cx.nox(X:Cx):Cx:=X.wish fun _ _=>False
def Cx.Ok.wish{X:Cx}(ok:X.Ok)(E:Value→Shared→Prop):(X.wish E).Ok:=
 ⟨ok.mod,ok.kind,ok.glob,ok.blt,ok.above,ok.inj,ok.has,ok.cab,ok.hd,ok.frames,ok.stk,ok.exf,ok.bs,ok.bsz,ok.noex,ok.exfs,ok.funs,ok.frf⟩
def Cx.Ok.unwish{X:Cx}{E:Value→Shared→Prop}(ok:(X.wish E).Ok):X.Ok:=
 ⟨ok.mod,ok.kind,ok.glob,ok.blt,ok.above,ok.inj,ok.has,ok.cab,ok.hd,ok.frames,ok.stk,ok.exf,ok.bs,ok.bsz,ok.noex,ok.exfs,ok.funs,ok.frf⟩
section
variable {X:Cx} {pins:List (Addr×Obj)} {σ:St} {H:Hp} {s:Shared} {E:Value→Shared→Prop}
theorem Inv.wish(I:Inv X pins σ H s)(E:Value→Shared→Prop):Inv (X.wish E) pins σ H s:=⟨I.ok.wish E,I.os,I.bare,I.base,I.loc,I.cell,I.free,I.freeC,I.pin,I.hok,I.len⟩
theorem Inv.unwish(I:Inv (X.wish E) pins σ H s):Inv X pins σ H s:=⟨I.ok.unwish,I.os,I.bare,I.base,I.loc,I.cell,I.free,I.freeC,I.pin,I.hok,I.len⟩
theorem SP.unwish{D:Ends}{f:Flow}{s':Shared}(h:SP (X.wish E) pins D f s'):SP X pins D f s':=by
 cases f with
 |next=>obtain⟨σ',H',I,q⟩:=h;exact⟨σ',H',I.unwish,q⟩
 |brk=>obtain⟨σ',H',I,q⟩:=h;exact⟨σ',H',I.unwish,q⟩
 |cont=>obtain⟨σ',H',I,q⟩:=h;exact⟨σ',H',I.unwish,q⟩
 |ret u=>obtain⟨v,σ',H',I,r,q⟩:=h;exact⟨v,σ',H',I.unwish,r,q⟩
theorem PE.nox{e:Expr}{t:TE}(h:PE X.nox e t):PE X e t:=fun pins s σ H Q I hw=>
 wpAny_mono (h pins s σ H Q (I.wish _) hw) (fun _ _ ⟨v,H',I',r,q⟩=>⟨v,H',I'.unwish,r,q⟩) fun _ _ z=>False.elim z
theorem PT.nox{e:Expr}{t:TT}(h:PT X.nox e t):PT X e t:=fun pins s σ H Q I hw=>
 wpAny_mono (h pins s σ H Q (I.wish _) hw) (fun _ _ ⟨H',I',q⟩=>⟨H',I'.unwish,q⟩) fun _ _ z=>False.elim z
theorem PSs.nox{st:List Stmt}{t:TS}(h:PSs X.nox st t):PSs X st t:=fun pins s σ H D I hw=>
 wpAny_mono (h pins s σ H D (I.wish _) hw) (fun _ _ q=>q.unwish) fun _ _ z=>False.elim z
end
section
variable {X:Cx} {st:Stmt} {rest:List Stmt} {t u:TS} {e:Expr} {te:TE} {pos:Pos}
noncomputable def tNext:TS:=fun D σ H=>D.nx σ H
noncomputable def tSeq(t u:TS):TS:=fun D σ H=>t {D with nx:=u D} σ H
theorem kat:PSs X [] tNext:=fun _ _ σ H _ I h=>wpAny_execs_nil ⟨σ,H,I,h⟩
theorem kac(h1:PS X st t)(h2:PSs X rest u):PSs X (st::rest) (tSeq t u):=by
 intro pins s σ H D I h
 refine wpAny_execs_cons (thn (h1 pins s σ H {D with nx:=u D} I h) fun f s1 q=>?_)
 cases f with
 |next=>
  obtain⟨σ',H',I',q⟩:=q
  exact h2 pins s1 σ' H' D I' q
 |ret v=>exact q
 |brk=>exact q
 |cont=>exact q
theorem kah(h1:PS X st t):PSs X [st] t:=by
 intro pins s σ H D I h
 refine wpAny_execs_cons (thn (h1 pins s σ H D I h) fun f s1 q=>?_)
 cases f with
 |next=>exact wpAny_execs_nil q
 |ret v=>exact q
 |brk=>exact q
 |cont=>exact q
theorem Inv.quiet{pins:List (Addr×Obj)}{σ:St}{H:Hp}{s:Shared}(I:Inv X pins σ H s):interactive X.env=false:=by simp[interactive,I.ok.kind]
noncomputable def tDrop(te:TE):TS:=fun D σ H=>te σ H fun _ H1=>D.nx σ H1
theorem kaL(he:PE X e te)(hs:swapsWith e none pos.line X.env=pure false:=by rfl):PS X (.Expr e pos) (tDrop te):=by
 intro pins s σ H D I h
 exact wpAny_Expr_any (thn (he pins s σ H _ I h) fun v s1 ⟨x,H1,I1,r1,q1⟩=>⟨σ,H1,I1,q1⟩) I.quiet hs
noncomputable def tRet(te:TE):TS:=fun D σ H=>te σ H D.rt
theorem kap(he:PE X e te):PS X (.Return (some e) pos) (tRet te):=by
 intro pins s σ H D I h
 exact wpAny_Return_some (thn (he pins s σ H _ I h) fun v s1 ⟨x,H1,I1,r1,q1⟩=>⟨x,σ,H1,I1,r1,q1⟩)
noncomputable def tIfS(c:TT)(t u:TS):TS:=fun D σ H=>c σ H fun b H1=>if b=true then t D σ H1 else u D σ H1
theorem ps_if{c:Expr}{a b:List Stmt}{tc:TT}(hc:PT X c tc)(ha:PSs X a t)(hb:PSs X b u):PS X (.If c a b pos) (tIfS tc t u):=by
 intro pins s σ H D I h
 refine wpAny_If (thn (hc pins s σ H _ I h) fun d s1 ⟨H1,I1,q1⟩=>?_)
 cases d with
 |true=>exact ha pins s1 σ H1 D I1 q1
 |false=>exact hb pins s1 σ H1 D I1 q1
end
noncomputable abbrev TG:=V→St→Hp→(St→Hp→Prop)→Prop
noncomputable abbrev TGs:=List V→St→Hp→(St→Hp→Prop)→Prop
noncomputable def PG(X:Cx)(target:Expr)(t:TG):Prop:=
 ∀(pins:List (Addr×Obj))(s:Shared)(σ:St)(H:Hp)(v:V)(u:Value)(Q:St→Hp→Prop),Inv X pins σ H s→RelV v u→t v σ H Q→
  wpAny (model X.prog X.w) X.A (assign target X.env u) (fun _ s'=>∃σ' H',Inv X pins σ' H' s'∧Q σ' H') X.xe s
noncomputable def PGs(X:Cx)(ts:List Expr)(t:TGs):Prop:=
 ∀(pins:List (Addr×Obj))(s:Shared)(σ:St)(H:Hp)(vs:List V)(us:List Value)(Q:St→Hp→Prop),Inv X pins σ H s→Vals vs us→t vs σ H Q→
  wpAny (model X.prog X.w) X.A (assignInOrder ((assignEach ts X.env).map (·.2)) us) (fun _ s'=>∃σ' H',Inv X pins σ' H' s'∧Q σ' H') X.xe s
noncomputable abbrev TSet:=V→V→V→Hp→(Hp→Prop)→Prop
noncomputable def PSet(X:Cx)(t:TSet):Prop:=
 ∀(pins:List (Addr×Obj))(s:Shared)(σ:St)(H:Hp)(o i v:V)(ov iv u:Value)(Q:Hp→Prop),Inv X pins σ H s→RelV o ov→RelV i iv→RelV v u→t o i v H Q→
  wpAny (model X.prog X.w) X.A (setItem ov iv u) (fun _ s'=>∃H',Inv X pins σ H' s'∧Q H') X.xe s
noncomputable abbrev TIp:=V→V→Hp→VK→Prop
noncomputable def PIp(X:Cx)(op:Operator)(t:TIp):Prop:=
 ∀(pins:List (Addr×Obj))(s:Shared)(σ:St)(H:Hp)(x y:V)(v u:Value)(Q:VK),Inv X pins σ H s→RelV x v→RelV y u→t x y H Q→
  wpAny (model X.prog X.w) X.A (inplaceOp op v u) (EP X pins σ Q) X.xe s
section
variable {X:Cx} {pos:Pos}
noncomputable def gName(i:Nat):TG:=fun v σ H Q=>Q (σ.set i (some v)) H
theorem klA{i:Nat}{x:Str}(hN:X.N.Nodup)(hi:X.N[i]?=some x)(hx:Loc X.env.scope x)(hf:X.fn x=true∨X.env.scope.names.lookup x=some .local:=by first|exact .inl rfl|exact .inr rfl|assumption):PG X (.Name x pos) (gName i):=by
 intro pins s σ H v u Q I r h
 exact wpAny_assign_Name (kc8 I hN hi hx r (fun s' I'=>⟨_,H,I',h⟩) hf)
noncomputable def gNil:TGs:=fun vs σ H Q=>vs=[]∧Q σ H
noncomputable def gCons(t:TG)(u:TGs):TGs:=fun vs σ H Q=>∃v r,vs=v::r∧t v σ H fun σ' H'=>u r σ' H' Q
theorem kbk:PGs X [] gNil:=by
 intro pins s σ H vs us Q I r h
 obtain⟨e,h⟩:=h
 subst e
 cases r
 exact assignInOrder_nil ⟨σ,H,I,h⟩
theorem kaw{e:Expr}{es:List Expr}{t:TG}{u:TGs}(h1:PG X e t)(h2:PGs X es u)
  (hs:(assignEach (e::es) X.env).map (·.2)=assign e X.env::(assignEach es X.env).map (·.2):=by rfl):PGs X (e::es) (gCons t u):=by
 intro pins s σ H vs us Q I r h
 obtain⟨v,vr,e1,h⟩:=h
 subst e1
 cases r with
 |cons r rr=>
  rw[hs]
  refine assignInOrder_cons (thn (h1 pins s σ H _ _ _ I r h) fun _ s1 ⟨σ1,H1,I1,q1⟩=>?_)
  exact h2 pins s1 σ1 H1 _ _ Q I1 rr q1
noncomputable def gTup(K:JZ)(n:Nat)(t:TGs):TG:=fun v σ H Q=>∃a xs,v=.ref a∧SqT K H a xs∧xs.length=n∧t xs σ H Q
theorem kme{es:List Expr}{k:Nat}{t:TGs}{n:Nat}(hc:X.calm=true)(h:PGs X es t)
  (hn:(assignEach es X.env).length=n:=by rfl) (hst:(assignEach es X.env).findIdx? (·.1)=none:=by rfl):PG X (.Tuple es k pos) (gTup X.K n t):=by
 intro pins s σ H v u Q I r hw
 obtain⟨a,xs,e1,hq,hl,hw⟩:=hw
 subst e1
 cases r
 obtain⟨its,rv,ht,hz⟩:=I.tuple hq
 refine assign_Tuple_tuple (I.ok.hd hc) ht (by simp[hn,←hl,rv.length]) hst fun h' hx=>?_
 have I1:Inv X pins σ H {s with heap:=h'}:=I.kept (t':=s.toks) fun b o e=>hx b o (Nr (Heap.lt_size e)) e
 exact h pins _ σ H xs _ Q I1 (by simpa using rv) hw
noncomputable def gSub(to ti:TE)(t:TSet):TG:=fun v σ H Q=>to σ H fun o H1=>ti σ H1 fun i H2=>t o i v H2 fun H3=>Q σ H3
theorem kkU{o i:Expr}{to ti:TE}{t:TSet}(ho:PE X o to)(hi:PE X i ti)(hs:PSet X t)
  (ha:∀v,assign (.Subscript o i pos) X.env v=(do
   let ov ←holding [v] (eval o X.env)
   let iv ←holding [v,ov] (eval i X.env)
   standAt pos
   holding [v,ov,iv] (setItem ov iv v)
   release [v,ov,iv] []):=by intro _;rfl):PG X (.Subscript o i pos) (gSub to ti t):=by
 intro pins s σ H v u Q I r h
 rw[ha]
 refine wpAny_bind (wpAny_holding (thn (ho pins s σ H _ I h) fun ov s1 ⟨x,H1,I1,r1,q1⟩=>?_))
 refine wpAny_bind (wpAny_holding (thn (hi pins s1 σ H1 _ I1 q1) fun iv s2 ⟨y,H2,I2,r2,q2⟩=>?_))
 refine wpAny_bind (wpAny_standAt (wpAny_bind (wpAny_holding (thn (hs pins s2 σ H2 x y v ov iv u _ I2 r1 r2 r q2) fun _ s3 ⟨H3,I3,q3⟩=>?_))))
 exact wpAny_release ⟨σ,H3,I3,q3⟩
noncomputable def tAsg(te:TE)(g:TG):TS:=fun D σ H=>te σ H fun x H1=>g x σ H1 D.nx
theorem kiT{tg e:Expr}{te:TE}{g:TG}(he:PE X e te)(hg:PG X tg g)(hs:swapsWithSole [tg] e pos.line X.env=pure false:=by rfl)(hw:swappedStores [tg] e X.env=pure none:=by rfl)
  (h1:(assignEach [tg] X.env).map (·.2)=[assign tg X.env]:=by rfl):PS X (.Assign [tg] e pos) (tAsg te g):=by
 intro pins s σ H D I h
 refine wpAny_Assign_stores (thn (he pins s σ H _ I h) fun v s1 ⟨x,H1,I1,r1,q1⟩=>?_) hs hw
 rw[h1]
 exact thn (hg pins s1 σ H1 x v _ I1 r1 q1) fun _ s2 q=>q
theorem kmc{i:Nat}{x:Str}{e:Expr}{te:TE}{pos':Pos}(hN:X.N.Nodup)(hi:X.N[i]?=some x)(hx:Loc X.env.scope x)(he:PE X e te)(hs:swapsWith e (some (.Name x pos')) pos.line X.env=pure false:=by rfl)(hf:X.fn x=true∨X.env.scope.names.lookup x=some .local:=by first|exact .inl rfl|exact .inr rfl|assumption):
  PS X (.Assign [.Name x pos'] e pos) (tAsg te (gName i)):=by
 intro pins s σ H D I h
 refine wpAny_Assign_Name (thn (he pins s σ H _ I h) fun v s1 ⟨y,H1,I1,r1,q1⟩=>?_) hs
 exact kc8 I1 hN hi hx r1 (fun s2 I2=>⟨_,H1,I2,q1⟩) hf
noncomputable def tAug(i:Nat)(te:TE)(ti:TIp):TS:=fun D σ H=>∃x,σ[i]?=some (some x)∧te σ H fun y H1=>ti x y H1 fun z H2=>D.nx (σ.set i (some z)) H2
theorem kmd{i:Nat}{x:Str}{e:Expr}{te:TE}{op:Operator}{ti:TIp}{pos':Pos}(hN:X.N.Nodup)(hi:X.N[i]?=some x)(hx:Loc X.env.scope x)(he:PE X e te)(ho:PIp X op ti)(hf:X.fn x=true∨X.env.scope.names.lookup x=some .local:=by first|exact .inl rfl|exact .inr rfl|assumption):
  PS X (.AugAssign (.Name x pos') op e pos) (tAug i te ti):=by
 intro pins s σ H D I h
 obtain⟨v,e1,h⟩:=h
 obtain⟨m,hn,hl⟩:=I.loc
 have vis:Vis X.env.scope x:=by rcases hx with k|k;exact .inl k;exact .inr (.inl k)
 obtain⟨u,r,l⟩:=hl i x v hi e1 vis
 refine wpAny_AugAssign_Name ?_
 have go:wpAny (model X.prog X.w) X.A (eval e X.env) (fun w s₂=>wpAny (model X.prog X.w) X.A (inplaceOp op u w) (fun r s₃=>wpAny (model X.prog X.w) X.A (storeName X.env x r) (fun _=>SP X pins D .next) X.xe s₃) X.xe s₂) X.xe s:=by
  refine thn (he pins s σ H _ I h) fun w s1 ⟨y,H1,I1,r1,q1⟩=>?_
  refine thn (ho pins s1 σ H1 v y u w _ I1 r r1 q1) fun z s2 ⟨zv,H2,I2,r2,q2⟩=>?_
  exact kc8 I2 hN hi hx r2 (fun s3 I3=>⟨_,H2,I3,q2⟩) hf
 rcases l with⟨hk,hm⟩|⟨hk,c,hc,hcell⟩
 ·exact wpAny_loadName_local I.ok.kind hk hn hm go
 ·rcases hk with hk|hk
  ·exact wpAny_loadName_cell I.ok.kind hk hc hcell go
  ·rcases hx with k|k
   ·have:X.env.scope.names.lookup x=some .free:=hk
    rw[k] at this;cases this
   ·have:X.env.scope.names.lookup x=some .free:=hk
    rw[k] at this;cases this
noncomputable def ipI(f:Int→Int→Int):TIp:=fun x y H Q=>∃i j,x=.int i∧y=.int j∧Q (.int (f i j)) H
theorem kms:PIp X .Add (ipI fun i j=>i+j):=by
 intro pins s σ H x y v u Q I r1 r2 h
 obtain⟨i,j,e1,e2,q⟩:=h
 subst e1;subst e2
 obtain⟨t,rfl⟩:=r1
 obtain⟨t',rfl⟩:=r2
 exact iadd_int ⟨.int _,H,I.tok _,⟨_,rfl⟩,q⟩
end
section
variable {X:Cx} {pos:Pos}
noncomputable def kkH(c:TT)(tb:TS):TS:=fun D σ H=>∃W:Nat→St→Hp→Prop,(∃m,W m σ H)∧∀m σ H,W m σ H→
 c σ H fun b H1=>if b=true then ∃N:St→Hp→Prop,(∀σ' H',N σ' H'→∃m',m'<m∧W m' σ' H')∧tb {D with nx:=N,ct:=N,bk:=D.nx} σ H1 else D.nx σ H1
theorem kfm{c:Expr}{body:List Stmt}{tc:TT}{tb:TS}(hp:PassesOwn (model X.prog X.w) X.A X.env X.xe)(hc:PT X c tc)(hb:PSs X body tb):PS X (.While c body [] pos) (kkH tc tb):=by
 intro pins s σ H D I h
 obtain⟨W,⟨m0,w0⟩,turn⟩:=h
 refine wpAny_While (codeAny_whileLoop (fun n s'=>∃σ' H',Inv X pins σ' H' s'∧W n σ' H') ?_ m0 ⟨σ,H,I,w0⟩)
 rintro n s1 ⟨σ1,H1,I1,w1⟩
 refine wpAny_passesOwn hp (thn (hc pins s1 σ1 H1 _ I1 (turn n σ1 H1 w1)) fun b s2 ⟨H2,I2,q2⟩=>?_)
 cases b with
 | true=>
  obtain⟨N,hN,q2⟩:=q2
  rw[if_pos rfl]
  refine wpAny_passesOwn hp (thn (hb pins s2 σ1 H2 _ I2 q2) fun f s3 q3=>?_)
  cases f with
  |next=>
   obtain⟨σ3,H3,I3,n3⟩:=q3
   obtain⟨m',hm,w3⟩:=hN σ3 H3 n3
   exact⟨m',hm,σ3,H3,I3,w3⟩
  |cont=>
   obtain⟨σ3,H3,I3,n3⟩:=q3
   obtain⟨m',hm,w3⟩:=hN σ3 H3 n3
   exact⟨m',hm,σ3,H3,I3,w3⟩
  |brk=>exact q3
  |ret v=>exact q3
 |false=>
  rw[if_neg Na]
  exact wpAny_execs_nil ⟨σ1,H2,I2,q2⟩
end
structure It where
 go:Nat→Hp→Prop
 yld:Nat→Hp→V→Hp→Prop
 stop:Nat→Hp→Prop
noncomputable def FpOk(X:Cx)(pins:List (Addr×Obj))(H:Hp)(b:Addr):Prop:=
 H b=none∧b≠X.env.locals∧b∉X.fs∧(b∈X.ex∨X.s₀.heap.objs.size≤b)∧(∀x c,X.env.cells.lookup x=some c→c≠b)∧∀p∈X.pn++pins,p.1≠b
def Inv.fpOk{X:Cx}{pins:List (Addr×Obj)}{σ:St}{H H':Hp}{s:Shared}{b:Addr}(I:Inv X pins σ H s)(hb:s.heap.objs.size≤b)(hn:H' b=none):FpOk X pins H' b:=by
 refine⟨hn,NQ (Ny I.lt hb),I.nofs hb, .inr (J5 I.sz hb),fun x c e z=>?_,fun p hp z=>?_⟩
 ·obtain⟨v,q⟩:=I.cell x c e
  exact absurd (Ny q.lt (by rw[z];exact hb)) (N6 _)
 ·exact absurd (Ny (Heap.lt_size (I.pin p hp).1) (by rw[z];exact hb)) (N6 _)
structure Turn (P:Program) (w:World) (K:JZ) (tg:Expr) (J:It) (fp:List Addr) (it:Addr) (tn:Nat→Heap→Prop):Prop where
 mem:it∈fp
 obj:∀i h,tn i h→∀b∈fp,∃o,h.get? b=some o∧∀v,o.data≠.cell v
 keep:∀i h h',tn i h→(∀b∈fp,∀o,h.get? b=some o→h'.get? b=some o)→tn i h'
 item:∀(X:Cx),X.prog=P→X.w=w→X.K=K→X.calm=true→∀(i:Nat)(pins:List (Addr×Obj))(s:Shared)(σ:St)(H:Hp)(E:Value→Shared→Prop),Inv X pins σ H s→(∀b∈fp,FpOk X pins H b)→tn i s.heap→J.go i H→
  wpAny (model P w) X.A (pyNext (.ref it)) (fun r s1=>∃u,r=some u∧
   wpAny (model P w) X.A (letOwnedTupleGo tg (.ref it) u) (fun _ s2=>∃x H',Inv X pins σ H' s2∧RelV x u∧J.yld i H x H'∧tn (i+1) s2.heap∧∀b∈fp,H' b=none) E s1) E s
 done:∀(X:Cx),X.prog=P→X.w=w→X.K=K→X.calm=true→∀(i:Nat)(pins:List (Addr×Obj))(s:Shared)(σ:St)(H:Hp)(E:Value→Shared→Prop),Inv X pins σ H s→(∀b∈fp,FpOk X pins H b)→tn i s.heap→J.stop i H→
  wpAny (model P w) X.A (pyNext (.ref it)) (fun r s1=>r=none∧Inv X pins σ H s1) E s
 self:∀(A:Around)(i:Nat)(s:Shared)(Q:Value→Shared→Prop)(E:Value→Shared→Prop),tn i s.heap→Q (.ref it) s→wpAny (model P w) A (pyIter (.ref it)) Q E s
noncomputable abbrev TI:=St→Hp→(It→Hp→Prop)→Prop
noncomputable def PIE(X:Cx)(pins:List (Addr×Obj))(σ:St)(tg:Expr)(R:It→Hp→Prop)(itv:Value)(s2:Shared):Prop:=
 ∃(it:Addr)(fp:List Addr)(tn:Nat→Heap→Prop)(J:It)(H':Hp),itv=.ref it∧Inv X pins σ H' s2∧Turn X.prog X.w X.K tg J fp it tn∧tn 0 s2.heap∧(∀b∈fp,FpOk X pins H' b)∧R J H'
noncomputable def PI(X:Cx)(tg iter:Expr)(wi:TI):Prop:=
 ∀(pins:List (Addr×Obj))(s:Shared)(σ:St)(H:Hp)(R:It→Hp→Prop),Inv X pins σ H s→wi σ H R→
  wpAny (model X.prog X.w) X.A (eval iter X.env) (fun v s1=>wpAny (model X.prog X.w) X.A (pyIter v) (PIE X pins σ tg R) X.xe s1) X.xe s
theorem go_of{M:Model}{A:Around}{E:Value→Shared→Prop}{s:Shared}{tg:Expr}{it:Addr}{u:Value}{o:Obj}{n:String}{vs:Array Value}{Q:Unit→Shared→Prop}(ho:s.heap.get? it=some o)(hc:o.cls=.type n)(hd:o.data=.fields vs)
    (hn:["enumerate","zip","dict_itemiterator","dict_reverseitemiterator","odict_iterator","itertools.zip_longest","itertools.pairwise"].contains n=false) (hQ:Q () s):wpAny M A (letOwnedTupleGo tg (.ref it) u) Q E s:=by
  unfold letOwnedTupleGo
  cases tg <;> first
    |exact wpAny_pure hQ
    |(cases u <;> first
        |exact wpAny_pure hQ
        | (refine wpAny_bind (wpAny_load ho ?_)
           rw[hc,hd]
           show wpAny M A (if(["enumerate","zip","dict_itemiterator","dict_reverseitemiterator","odict_iterator","itertools.zip_longest","itertools.pairwise"].contains n&&vs[0]? ==some (rawInt _))=true then _ else _) Q E s
           rw[if_neg (by intro h;rw[hn,Ej] at h;cases h)]
           exact wpAny_pure hQ))
noncomputable def Itl(K:JZ)(a:Addr):It:=
 ⟨fun i H=>∃xs x,SqL K H a xs∧xs[i]?=some x,fun i H x H'=>H'=H∧∀xs,SqL K H a xs→xs[i]?=some x,fun i H=>∃xs,SqL K H a xs∧xs.length≤i⟩
noncomputable def Itr(lo:Int)(n:Nat):It:=⟨fun i _=>i<n,fun i H x H'=>H'=H∧x=.int (lo+i),fun i _=>n≤i⟩
theorem kif{P:Program}{w:World}{K:JZ}{tg:Expr}(a it:Addr):Turn P w K tg (Itl K a) [it] it (fun i h=>h.IsListIter it a i) where
 mem:=by simp
 obj:=fun i h st b hb=>by
  have e:b=it:=by simpa using hb
  subst e
  obtain⟨o,e,c,d⟩:=st
  exact⟨o,e,fun v z=>by rw[d] at z;cases z⟩
 keep:=fun i h h' st k=>st.at fun o e=>k it (by simp) o e
 item:=by
  intro X hP hw hK hc i pins s σ H E I hf st hg
  subst hP hw hK
  obtain⟨xs,x,hq,hx⟩:=hg
  obtain⟨its,rv,p,hz⟩:=I.list hq
  obtain⟨u,hu,ru⟩:=rv.get hx
  obtain⟨f0,f1,f2,f3,f4,f5⟩:=hf it (by simp)
  refine wpAny_pyNext_list_item st p.isList (x:=u) (by simpa using hu) fun h' st' sb=>?_
  have I1:Inv X pins σ H {s with heap:=h'}:=I.turned (t':=s.toks) (fun b o hb e=>(sb.2 b hb).trans e) f0 f1 f3 f4 f5
  obtain⟨o,e,c,d⟩:=id st'
  exact⟨u,rfl,go_of (s:={s with heap:=h'}) e c d (by decide) ⟨x,H,I1,ru,⟨rfl,fun ys hy=>by rw[I.list_inj hy hq];exact hx⟩,st',fun b hb=>(hf b hb).1⟩⟩
 done:=by
  intro X hP hw hK hc i pins s σ H E I hf st hg
  subst hP hw hK
  obtain⟨xs,hq,hx⟩:=hg
  obtain⟨its,rv,p,hz⟩:=I.list hq
  obtain⟨f0,f1,f2,f3,f4,f5⟩:=hf it (by simp)
  have hl:=rv.length
  exact wpAny_pyNext_list_end (I.ok.hd hc) st p.isList (by simp;omega) fun h' eb=>⟨rfl,I.turned (t':=s.toks) (fun b o hb e=>eb b o hb e) f0 f1 f3 f4 f5⟩
 self:=fun _ _ _ _ _ st h=>wpAny_pyIter_listiter st h
theorem khO{P:Program}{w:World}{K:JZ}{tg:Expr}(it:Addr)(lo:Int)(n:Nat):Turn P w K tg (Itr lo n) [it] it (fun i h=>IsRangeIter h it (lo+(i:Nat)*1) ((n:Int)-(i:Nat)) 1) where
 mem:=by simp
 obj:=fun i h st b hb=>by
  have e:b=it:=by simpa using hb
  subst e
  exact⟨_,st,fun v z=>by
   have z':Data.fields _=Data.cell v:=z
   cases z'⟩
 keep:=fun i h h' st k=>k it (by simp) _ st
 item:=by
  intro X hP hw hK hc i pins s σ H E I hf st hg
  subst hP hw hK
  obtain⟨f0,f1,f2,f3,f4,f5⟩:=hf it (by simp)
  have W:=Walks.range (prog:=X.prog) (w:=X.w) (I.ok.hd hc) it lo 1 n
  refine W.item i s _ _ hg st fun v h' tk hv st' kk=>?_
  obtain⟨t,rfl⟩:=hv
  have I1:Inv X pins σ H {s with heap:=h',toks:=tk}:=I.turned (fun b o hb e=>kk b o (by simpa using hb) e) f0 f1 f3 f4 f5
  refine⟨_,rfl,go_of (s:={s with heap:=h',toks:=tk}) (n:="range_iterator") st' rfl rfl (by decide) ⟨.int (lo+i),H,I1,⟨t,?_⟩,⟨rfl,rfl⟩,st',fun b hb=>(hf b hb).1⟩⟩
  rw[Int.mul_one]
 done:=by
  intro X hP hw hK hc i pins s σ H E I hf st hg
  subst hP hw hK
  obtain⟨f0,f1,f2,f3,f4,f5⟩:=hf it (by simp)
  exact wpAny_pyNext_range_end (I.ok.hd hc) st (by have:n≤i:=hg;omega) fun h' eb=>⟨rfl,I.turned (t':=s.toks) (fun b o hb e=>eb b o hb e) f0 f1 f3 f4 f5⟩
 self:=fun _ _ _ _ _ st h=>wpAny_pyIter_rangeiter st h
end L2
namespace L2
open PySem PySem.Spec PyProof.Rows
section
variable {X:Cx} {tg:Expr}
noncomputable def iList(K:JZ)(tl:TE):TI:=fun σ H R=>tl σ H fun x H1=>∃a,x=.ref a∧(∃xs,SqL K H1 a xs)∧R (Itl K a) H1
theorem klz{l:Expr}{tl:TE}(hl:PE X l tl):PI X tg l (iList X.K tl):=by
 intro pins s σ H R I h
 refine thn (hl pins s σ H _ I h) fun v s1 ⟨x,H1,I1,r1,q1⟩=>?_
 obtain⟨a,e,⟨xs,hq⟩,q⟩:=q1
 subst e
 cases r1
 obtain⟨its,rv,p,hz⟩:=I1.list hq
 refine wpAny_pyIter_list p.isList ?_
 refine⟨s1.heap.objs.size,[s1.heap.objs.size],_,_,H1,rfl,I1.kept (t':=s1.toks) fun b o e=>Heap.get?_push_of_some _ e,kif a _,⟨_,Heap.get?_push_size _ rfl,rfl,rfl⟩,fun b hb=>?_,q⟩
 have e:b=s1.heap.objs.size:=by simpa using hb
 subst e
 exact I1.fpOk (J4 _) (I1.hok.fresh (J4 _))
theorem kjV{pins:List (Addr×Obj)}{σ:St}{H:Hp}{s:Shared}{R:It→Hp→Prop}{E:Value→Shared→Prop}{lo hi:Int}{t u v:Tok}{tk:Nat}(I:Inv X pins σ H s)(h1: -(2 ^ 62)≤lo)(h2:lo<2 ^ 62)(h3: -(2 ^ 62)≤hi)(h4:hi<2 ^ 62)
  (q:R (Itr lo (hi-lo).toNat) H):wpAny (model X.prog X.w) X.A (pyIter (.ref s.heap.objs.size)) (PIE X pins σ tg R) E {s with heap:=s.heap.push {cls:=.type "range",data:=.fields #[.int lo t, .int hi u, .int 1 v]},toks:=tk}:=by
 refine wpAny_pyIter_range (IsRange.new ..) (small_one h1 h2 h3 h4) ?_
 have I1:Inv X pins σ H {s with heap:=s.heap.push {cls:=.type "range",data:=.fields #[.int lo t, .int hi u, .int 1 v]},toks:=tk}:=I.kept fun b o e=>Heap.get?_push_of_some _ e
 refine⟨(s.heap.push {cls:=.type "range",data:=.fields #[.int lo t, .int hi u, .int 1 v]}).objs.size,[(s.heap.push {cls:=.type "range",data:=.fields #[.int lo t, .int hi u, .int 1 v]}).objs.size],_,_,H,rfl,
  I1.kept (t':=tk) fun b o e=>Heap.get?_push_of_some _ e,khO _ lo (hi-lo).toNat,?_,fun b hb=>?_,q⟩
 ·have e1:lo+((0:Nat):Int)*1=lo:=by simp
  have e2:(((hi-lo).toNat:Nat):Int)-((0:Nat):Int)=Builtin.Range.rangeSize lo hi 1:=by rw[rangeSize_one];split <;> omega
  show IsRangeIter _ _ (lo+((0:Nat):Int)*1) ((((hi-lo).toNat:Nat):Int)-((0:Nat):Int)) 1
  rw[e1,e2]
  exact Heap.get?_push_size _ rfl
 ·have e:b=(s.heap.push {cls:=.type "range",data:=.fields #[.int lo t, .int hi u, .int 1 v]}).objs.size:=by simpa using hb
  subst e
  exact I1.fpOk (J4 _) (I1.hok.fresh (J4 _))
noncomputable def iRng1(ta:TA):TI:=fun σ H R=>ta σ H fun vs H1=>∃j:Int,vs=[.int j]∧-(2 ^ 62)≤j∧j<2 ^ 62∧R (Itr 0 j.toNat) H1
theorem kby{a:Expr}{ta:TA}{p pos:Pos}(hg:Gl X "range")(hm:X.mg "range"=none)(ha:PA X [a] ta)(hs:starEach [a] X.env=[(false,eval a X.env)]:=by rfl):PI X tg (.Call (.Name "range" p) [a] [] pos) (iRng1 ta):=by
 intro pins s σ H R I h
 refine Call_ (kcH I hg hm boot_range (PyProof.Rows.callWith_type1 (thn (ha pos pins s σ H _ I h) fun us s1 ⟨vs,H1,I1,r1,q1⟩=>?_) hs rfl))
 obtain⟨j,e,q1,q2,q⟩:=q1
 subst e
 cases r1 with
 |cons r rr=>
  cases rr
  obtain⟨t,rfl⟩:=r
  exact call_range_1 (kjV I1 (by omega) (by omega) q1 q2 (by simpa using q))
noncomputable def tFor(wi:TI)(g:TG)(tb:TS):TS:=fun D σ H=>wi σ H fun J H1=>∃W:Nat→Nat→St→Hp→Prop,(∃m,W 0 m σ H1)∧∀i m σ H,W i m σ H→
 (J.stop i H∧D.nx σ H)∨(J.go i H∧∃N:St→Hp→Prop,(∀σ' H',N σ' H'→∃m',m'<m∧W (i+1) m' σ' H')∧∀x H',J.yld i H x H'→g x σ H' fun σ2 H2=>tb {D with nx:=N,ct:=N,bk:=D.nx} σ2 H2)
noncomputable def kho(fp:List Addr)(h:Heap):List (Addr×Obj):=fp.filterMap fun b=>(h.get? b).map fun o=>(b,o)
theorem kcR{fp:List Addr}{h:Heap}{b:Addr}{o:Obj}(hb:b∈fp)(e:h.get? b=some o):(b,o)∈kho fp h:=List.mem_filterMap.mpr ⟨b,hb,by rw[e];rfl⟩
theorem ki6{fp:List Addr}{h:Heap}{p:Addr×Obj}(hp:p∈kho fp h):p.1∈fp∧h.get? p.1=some p.2:=by
 obtain⟨b,hb,e⟩:=List.mem_filterMap.mp hp
 cases q:h.get? b with
 |none=>rw[q] at e;cases e
 |some o=>
  rw[q] at e
  have e':(b,o)=p:=Option.some.inj e
  subst e'
  exact⟨hb,q⟩
theorem Inv.pinned{pins:List (Addr×Obj)}{σ:St}{H:Hp}{s:Shared}{fp:List Addr}(I:Inv X pins σ H s)(hf:∀b∈fp,FpOk X pins H b)(ho:∀b∈fp,∃o,s.heap.get? b=some o∧∀v,o.data≠.cell v):Inv X (pins++kho fp s.heap) σ H s:=
 I.pins_of fun p hp=>(NJ.mp hp).elim (fun z=>I.pin p (NR _ z)) fun z=>by
  obtain⟨hb,e⟩:=ki6 z
  obtain⟨f0,f1,f2,_⟩:=hf p.1 hb
  obtain⟨o,e',d⟩:=ho p.1 hb
  rw[e] at e';cases e'
  exact⟨e,f0,f1,f2,d⟩
theorem Inv.unpinned{pins pl:List (Addr×Obj)}{σ:St}{H:Hp}{s:Shared}(I:Inv X (pins++pl) σ H s):Inv X pins σ H s:=I.pins_of fun p hp=>I.pin p (NR _ (Ei _ hp))
theorem kbx{iter:Expr}{body:List Stmt}{wi:TI}{g:TG}{tb:TS}{pos:Pos}(hp:PassesOwn (model X.prog X.w) X.A X.env X.xe)(hc:X.calm=true)(hi:PI X tg iter wi)(hg:PG X tg g)(hb:PSs X body tb)
  (hs:∀x,foldedSetIterable iter X.env x=pure x:=by intro _;rfl):PS X (.For tg iter body [] pos) (tFor wi g tb):=by
 intro pins s σ H D I h
 refine wpAny_For (thn (hi pins s σ H _ I h) fun v s1 h1=>thn h1 fun itv s2 h2=>?_) hs
 obtain⟨it,fp,tn,J,H2,e,I2,T,st2,f2,W,⟨m0,w0⟩,turn⟩:=h2
 subst e
 have stat:∀{H':Hp},(∀b∈fp,H' b=none)→∀b∈fp,FpOk X pins H' b:=fun hn b hb=>⟨hn b hb,(f2 b hb).2⟩
 refine codeAny_forLoop_any (fun n s'=>∃i σ' H',Inv X pins σ' H' s'∧tn i s'.heap∧(∀b∈fp,H' b=none)∧W i n σ' H') ?_ m0 ⟨0,σ,H2,I2,st2,fun b hb=>(f2 b hb).1,w0⟩
 rintro n s3 ⟨i,σ3,H3,I3,st3,fr3,w3⟩
 rcases turn i n σ3 H3 w3 with⟨stop,qn⟩|⟨go,N,hN,step⟩
 ·refine wpAny_passesOwn hp (thn (T.done X rfl rfl rfl hc i pins s3 σ3 H3 X.xe I3 (stat fr3) st3 stop) fun r s4 ⟨hr,I4⟩=>?_)
  subst hr
  exact wpAny_execs_nil ⟨σ3,H3,I4,qn⟩
 ·refine wpAny_passesOwn hp (thn (T.item X rfl rfl rfl hc i pins s3 σ3 H3 X.xe I3 (stat fr3) st3 go) fun r s4 ⟨u,hr,h4⟩=>?_)
  subst hr
  refine wpAny_passesOwn hp (thn h4 fun _ s5 ⟨x,H5,I5,r5,y5,st5,fr5⟩=>?_)
  have I5':=I5.pinned (stat fr5) (T.obj _ _ st5)
  refine wpAny_passesOwn hp (thn (hg _ s5 σ3 H5 x u _ I5' r5 (step x H5 y5)) fun _ s6 ⟨σ6,H6,I6,q6⟩=>?_)
  refine wpAny_passesOwn hp (thn (hb _ s6 σ6 H6 _ I6 q6) fun f s7 q7=>?_)
  have again:∀{σ7:St}{H7:Hp},Inv X (pins++kho fp s5.heap) σ7 H7 s7→N σ7 H7→∃m,m<n∧∃i σ' H',Inv X pins σ' H' s7∧tn i s7.heap∧(∀b∈fp,H' b=none)∧W i m σ' H':=fun {σ7 H7} I7 n7=>by
   obtain⟨m',hm,w7⟩:=hN σ7 H7 n7
   refine⟨m',hm,i+1,σ7,H7,I7.unpinned,T.keep _ _ _ st5 fun b hb o e=>(I7.pin (b,o) (NR _ (NR _ (kcR hb e)))).1,fun b hb=>?_,w7⟩
   obtain⟨o,e,d⟩:=T.obj _ _ st5 b hb
   exact(I7.pin (b,o) (NR _ (NR _ (kcR hb e)))).2.1
  cases f with
  |next=>obtain⟨σ7,H7,I7,n7⟩:=q7;exact again I7 n7
  |cont=>obtain⟨σ7,H7,I7,n7⟩:=q7;exact again I7 n7
  |brk=>obtain⟨σ7,H7,I7,q7⟩:=q7;exact⟨σ7,H7,I7.unpinned,q7⟩
  |ret v=>obtain⟨x7,σ7,H7,I7,r7,q7⟩:=q7;exact⟨x7,σ7,H7,I7.unpinned,r7,q7⟩
end
theorem kbX{K:JZ}{a:Addr}{xs:List V}{g:TG}{tb:TS}{D:Ends}{σ:St}{H:Hp}(Pv:Nat→St→Hp→Prop)(h0:Pv 0 σ H)(hl:∀i σ H,i≤xs.length→Pv i σ H→SqL K H a xs)
  (hs:∀i x σ H,xs[i]?=some x→Pv i σ H→g x σ H fun σ2 H2=>tb {D with nx:=Pv (i+1),ct:=Pv (i+1),bk:=D.nx} σ2 H2) (hd:∀σ H,Pv xs.length σ H→D.nx σ H):
  ∃W:Nat→Nat→St→Hp→Prop,(∃m,W 0 m σ H)∧∀i m σ H,W i m σ H→
   ((Itl K a).stop i H∧D.nx σ H)∨((Itl K a).go i H∧∃N:St→Hp→Prop,(∀σ' H',N σ' H'→∃m',m'<m∧W (i+1) m' σ' H')∧∀x H',(Itl K a).yld i H x H'→g x σ H' fun σ2 H2=>tb {D with nx:=N,ct:=N,bk:=D.nx} σ2 H2):=by
 refine⟨fun i m σ H=>m=xs.length-i∧i≤xs.length∧Pv i σ H,⟨xs.length,by simp,NB _,h0⟩,?_⟩
 rintro i m σ H ⟨rfl,hi,p⟩
 have q:=hl i σ H hi p
 by_cases hlt:i<xs.length
 ·refine .inr ⟨⟨xs,xs[i],q,by simp[hlt]⟩,Pv (i+1),fun σ' H' p'=>⟨xs.length-(i+1),by omega,rfl,hlt,p'⟩,fun x H' y=>?_⟩
  obtain⟨e,y⟩:=y
  subst e
  exact hs i x σ _ (y xs q) p
 ·have e:i=xs.length:=by omega
  subst e
  exact .inl ⟨⟨xs,q,J4 _⟩,hd σ H p⟩
theorem kcb{lo:Int}{n:Nat}{g:TG}{tb:TS}{D:Ends}{σ:St}{H:Hp}(Pv:Nat→St→Hp→Prop)(h0:Pv 0 σ H)
  (hs:∀i σ H,i<n→Pv i σ H→g (.int (lo+i)) σ H fun σ2 H2=>tb {D with nx:=Pv (i+1),ct:=Pv (i+1),bk:=D.nx} σ2 H2) (hd:∀σ H,Pv n σ H→D.nx σ H):
  ∃W:Nat→Nat→St→Hp→Prop,(∃m,W 0 m σ H)∧∀i m σ H,W i m σ H→
   ((Itr lo n).stop i H∧D.nx σ H)∨((Itr lo n).go i H∧∃N:St→Hp→Prop,(∀σ' H',N σ' H'→∃m',m'<m∧W (i+1) m' σ' H')∧∀x H',(Itr lo n).yld i H x H'→g x σ H' fun σ2 H2=>tb {D with nx:=N,ct:=N,bk:=D.nx} σ2 H2):=by
 refine⟨fun i m σ H=>m=n-i∧i≤n∧Pv i σ H,⟨n,by simp,NB _,h0⟩,?_⟩
 rintro i m σ H ⟨rfl,hi,p⟩
 by_cases hlt:i<n
 ·refine .inr ⟨hlt,Pv (i+1),fun σ' H' p'=>⟨n-(i+1),by omega,rfl,hlt,p'⟩,fun x H' y=>?_⟩
  obtain⟨e,y⟩:=y
  subst e y
  exact hs i σ _ hlt p
 ·have e:i=n:=by omega
  subst e
  exact .inl ⟨J4 _,hd σ H p⟩
theorem ke7{c:TT}{tb:TS}{D:Ends}{σ:St}{H:Hp}(Pv:St→Hp→Prop)(μ:St→Hp→Nat)(h0:Pv σ H)
  (hs:∀σ H,Pv σ H→c σ H fun b H1=>if b=true then tb {D with nx:=fun σ' H'=>Pv σ' H'∧μ σ' H'< μ σ H,ct:=fun σ' H'=>Pv σ' H'∧μ σ' H'< μ σ H,bk:=D.nx} σ H1 else D.nx σ H1)
  (mono:∀σ H Q Q',(∀b H1,Q b H1→Q' b H1)→c σ H Q→c σ H Q'):kkH c tb D σ H:=by
 refine⟨fun m σ H=>m= μ σ H∧Pv σ H,⟨_,rfl,h0⟩,?_⟩
 rintro m σ H ⟨rfl,p⟩
 refine mono σ H _ _ (fun b H1 q=>?_) (hs σ H p)
 cases b with
 |true=>exact⟨_,fun σ' H' ⟨p',l⟩=>⟨_,l,rfl,p'⟩,q⟩
 |false=>exact q
end L2
namespace L2
open PySem PySem.Spec PyProof.Rows
noncomputable abbrev R2:=V→V→Hp→VK→Prop
noncomputable def OpR(X:Cx)(f:Value→Value→Sem Value)(r:R2):Prop:=
 ∀(pins:List (Addr×Obj))(s:Shared)(σ:St)(H:Hp)(x y:V)(v u:Value)(Q:VK),Inv X pins σ H s→RelV x v→RelV y u→r x y H Q→
  wpAny (model X.prog X.w) X.A (f v u) (EP X pins σ Q) X.xe s
noncomputable def UnR(X:Cx)(f:Value→Sem Value)(r:V→Hp→VK→Prop):Prop:=
 ∀(pins:List (Addr×Obj))(s:Shared)(σ:St)(H:Hp)(x:V)(v:Value)(Q:VK),Inv X pins σ H s→RelV x v→r x H Q→
  wpAny (model X.prog X.w) X.A (f v) (EP X pins σ Q) X.xe s
noncomputable def CallR(X:Cx)(f:Value)(r:List V→Hp→VK→Prop):Prop:=
 ∀(pins:List (Addr×Obj))(s:Shared)(σ:St)(H:Hp)(xs:List V)(us:List Value)(Q:VK),Inv X pins σ H s→Vals xs us→r xs H Q→
  wpAny (model X.prog X.w) X.A (call f us) (EP X pins σ Q) X.xe s
noncomputable def tOp(r:R2)(ta tb:TE):TE:=fun σ H Q=>ta σ H fun x H1=>tb σ H1 fun y H2=>r x y H2 Q
noncomputable def tUn(r:V→Hp→VK→Prop)(ta:TE):TE:=fun σ H Q=>ta σ H fun x H1=>r x H1 Q
noncomputable def rI(C:Int→Int→Prop)(g:Int→Int→V):R2:=fun x y H Q=>∃i j,x=.int i∧y=.int j∧C i j∧Q (g i j) H
noncomputable def rI0(g:Int→Int→V):R2:=fun x y H Q=>∃i j,x=.int i∧y=.int j∧Q (g i j) H
noncomputable def rU(g:Int→V):V→Hp→VK→Prop:=fun x H Q=>∃i,x=.int i∧Q (g i) H
section
variable {X:Cx} {a b c:Expr} {ta tb tc:TE} {pos:Pos}
theorem binT(ha:PE X a ta)(hb:PE X b tb){pins:List (Addr×Obj)}{s:Shared}{σ:St}{H:Hp}{R:V→V→Hp→Prop}(I:Inv X pins σ H s)
  (h:ta σ H fun x H1=>tb σ H1 fun y H2=>R x y H2) {Q:Value→Shared→Prop} {f:Value→Value→Sem Value}
  (hf:∀v u s2 x y H2,Inv X pins σ H2 s2→RelV x v→RelV y u→R x y H2→wpAny (model X.prog X.w) X.A (f v u) Q X.xe s2):
  wpAny (model X.prog X.w) X.A (eval a X.env) (fun v s₁=>wpAny (model X.prog X.w) X.A (eval b X.env) (fun u s₂=>wpAny (model X.prog X.w) X.A (f v u) Q X.xe s₂) X.xe s₁) X.xe s:=by
 refine thn (ha pins s σ H _ I h) fun v s1 ⟨x,H1,I1,r1,q1⟩=>?_
 refine thn (hb pins s1 σ H1 _ I1 q1) fun u s2 ⟨y,H2,I2,r2,q2⟩=>?_
 exact hf v u s2 x y H2 I2 r1 r2 q2
theorem pe_op{op:Operator}{r:R2}(ho:OpR X (binaryOp op) r)(ha:PE X a ta)(hb:PE X b tb):PE X (.BinOp a op b pos) (tOp r ta tb):=by
 intro pins s σ H Q I h
 exact wpAny_BinOp (binT ha hb I h fun v u s2 x y H2 I2 rx ry q=>ho pins s2 σ H2 x y v u Q I2 rx ry q)
theorem pe_un{op:UnaryOp}{r:V→Hp→VK→Prop}(ho:UnR X (unaryOp op) r)(ha:PE X a ta):PE X (.UnaryOp op a pos) (tUn r ta):=by
 intro pins s σ H Q I h
 exact UnaryOp_ (thn (ha pins s σ H _ I h) fun v s1 ⟨x,H1,I1,r1,q1⟩=>ho pins s1 σ H1 x v Q I1 r1 q1)
theorem opI{f:Value→Value→Sem Value}{C:Int→Int→Prop}{g:Int→Int→Int}
  (rule:∀(i j:Int)(t u:Tok)(s:Shared)(Q:Value→Shared→Prop)(E:Value→Shared→Prop),C i j→Q (.int (g i j) s.toks) {s with toks:=s.toks+1}→wpAny (model X.prog X.w) X.A (f (.int i t) (.int j u)) Q E s):
  OpR X f (rI C fun i j=>.int (g i j)):=by
 intro pins s σ H x y v u Q I rx ry h
 obtain⟨i,j,rfl,rfl,hc,q⟩:=h
 obtain⟨t,rfl⟩:=rx
 obtain⟨t',rfl⟩:=ry
 exact rule i j t t' s _ _ hc ⟨.int (g i j),H,I.tok _,⟨_,rfl⟩,q⟩
theorem opI0{f:Value→Value→Sem Value}{g:Int→Int→Int}
  (rule:∀(i j:Int)(t u:Tok)(s:Shared)(Q:Value→Shared→Prop)(E:Value→Shared→Prop),Q (.int (g i j) s.toks) {s with toks:=s.toks+1}→wpAny (model X.prog X.w) X.A (f (.int i t) (.int j u)) Q E s):
  OpR X f (rI0 fun i j=>.int (g i j)):=by
 intro pins s σ H x y v u Q I rx ry h
 obtain⟨i,j,rfl,rfl,q⟩:=h
 obtain⟨t,rfl⟩:=rx
 obtain⟨t',rfl⟩:=ry
 exact rule i j t t' s _ _ ⟨.int (g i j),H,I.tok _,⟨_,rfl⟩,q⟩
theorem opB0{f:Value→Value→Sem Value}{g:Int→Int→Bool}
  (rule:∀(i j:Int)(t u:Tok)(s:Shared)(Q:Value→Shared→Prop)(E:Value→Shared→Prop),Q (.bool (g i j)) s→wpAny (model X.prog X.w) X.A (f (.int i t) (.int j u)) Q E s):
  OpR X f (rI0 fun i j=>.bl (g i j)):=by
 intro pins s σ H x y v u Q I rx ry h
 obtain⟨i,j,rfl,rfl,q⟩:=h
 obtain⟨t,rfl⟩:=rx
 obtain⟨t',rfl⟩:=ry
 exact rule i j t t' s _ _ ⟨.bl (g i j),H,I,rfl,q⟩
noncomputable def CDiv(i j:Int):Prop:=0<j∧j<1073741824
noncomputable def CMul(i j:Int):Prop:=(-(2 ^ 64)<i∧i<2 ^ 64)∨(-(2 ^ 64)<j∧j<2 ^ 64)
theorem CMul.ok{i j:Int}(h:CMul i j):IntMulOk i j:=by
 rcases h with⟨h1,h2⟩|⟨h1,h2⟩
 ·exact .of_left (intBits_le_64 h1 h2)
 ·exact .of_right (intBits_le_64 h1 h2)
theorem kaA:OpR X (binaryOp .Add) (rI0 fun i j=>.int (i+j)):=opI0 fun _ _ _ _ _ _ _ q=>add_int q
theorem kf5:OpR X (binaryOp .Sub) (rI0 fun i j=>.int (i-j)):=opI0 fun _ _ _ _ _ _ _ q=>sub_int q
theorem kbO:OpR X (binaryOp .Mult) (rI CMul fun i j=>.int (i*j)):=opI fun _ _ _ _ _ _ _ hc q=>mul_int q hc.ok
theorem kel:OpR X (binaryOp .FloorDiv) (rI CDiv fun i j=>.int (i/j)):=opI fun i j _ _ _ _ _ hc q=>by
 have h1:(0:Int)<j:=hc.1
 have h2:j<1073741824:=hc.2
 exact floordiv_int (by omega) (by rw[Int.fdiv_eq_ediv_of_nonneg i (by omega)];exact q) (.inl (PyProof.noPylong_small (by omega)))
theorem kdH:OpR X (binaryOp .Mod) (rI (fun _ j=>0<j) fun i j=>.int (i%j)):=opI fun i j _ _ _ _ _ hc q=>by
 have h1:(0:Int)<j:=hc
 exact mod_int' (by omega) (by rw[Int.fmod_eq_emod_of_nonneg i (by omega)];exact q)
theorem unI{f:Value→Sem Value}{g:Int→Int}
  (rule:∀(i:Int)(t:Tok)(s:Shared)(Q:Value→Shared→Prop)(E:Value→Shared→Prop),Q (.int (g i) s.toks) {s with toks:=s.toks+1}→wpAny (model X.prog X.w) X.A (f (.int i t)) Q E s):
  UnR X f (rU fun i=>.int (g i)):=by
 intro pins s σ H x v Q I rx h
 obtain⟨i,rfl,q⟩:=h
 obtain⟨t,rfl⟩:=rx
 exact rule i t s _ _ ⟨.int (g i),H,I.tok _,⟨_,rfl⟩,q⟩
theorem kkG:UnR X (unaryOp .USub) (rU fun i=>.int (-i)):=unI fun _ _ _ _ _ q=>neg_int q
end
noncomputable def scal:V→V→Bool
 | .non, .non=>true| .non, .int _=>true| .int _, .non=>true| .non, .bl _=>true| .bl _, .non=>true| .non, .str _=>true| .str _, .non=>true
 | .int _, .int _=>true| .bl _, .bl _=>true| .str _, .str _=>true| .byt _, .byt _=>true
 | .int _, .str _=>true| .str _, .int _=>true| .bl _, .str _=>true| .str _, .bl _=>true
 |_,_=>false
noncomputable def rEq:R2:=fun x y H Q=>scal x y=true∧Q (.bl (decide (x=y))) H
noncomputable def rNe:R2:=fun x y H Q=>scal x y=true∧Q (.bl (!decide (x=y))) H
def kjB{i j:Int}:decide (V.int i=V.int j)=(i==j):=by
 rw[MP]
 simp
def kk7{i j:Bool}:decide (V.bl i=V.bl j)=(i==j):=by
 rw[MP]
 simp
def kjA{i j:Str}:decide (V.str i=V.str j)=(i==j):=by
 rw[MP]
 simp
def kjC{i j:Array UInt8}:decide (V.byt i=V.byt j)=(i.toList==j.toList):=by
 rw[MP]
 cases i
 cases j
 simp
section
variable {X:Cx} {a b c:Expr} {ta tb tc:TE} {pos:Pos}
theorem kaP{pins:List (Addr×Obj)}{σ:St}{H:Hp}{s:Shared}{Q:VK}{k k':Bool}(I:Inv X pins σ H s)(q:Q (.bl k) H)(e:k=k'):EP X pins σ Q (.bool k') s:=by
 subst e
 exact⟨.bl k,H,I,rfl,q⟩
theorem op_eq:OpR X (compareOp .Eq) rEq:=by
 intro pins s σ H x y v u Q I rx ry h
 obtain⟨hs,q⟩:=h
 cases x with
 |non=>
  cases rx
  cases y with
  |non=>cases ry;exact PySem.EqNone.eq_none_none (kaP I q (by simp))
  |bl j=>cases ry;exact PySem.EqNone.eq_none_bool (kaP I q (by simp))
  |int j=>obtain⟨t',rfl⟩:=ry;exact PySem.EqNone.eq_none_int (kaP I q (by simp))
  |str j=>obtain⟨t',rfl⟩:=ry;exact PySem.EqNone.eq_none_str (kaP I q (by simp))
  |_=>exact absurd (show false=true from hs) Na
 |bl i=>
  cases rx
  cases y with
  |non=>cases ry;exact PySem.EqNone.eq_bool_none (kaP I q (by simp))
  |bl j=>cases ry;exact eq_bool (kaP I q kk7)
  |str j=>obtain⟨t',rfl⟩:=ry;exact PySem.EqMixed.eq_bool_str (kaP I q (by simp))
  |_=>exact absurd (show false=true from hs) Na
 |int i=>
  obtain⟨t,rfl⟩:=rx
  cases y with
  |non=>cases ry;exact PySem.EqNone.eq_int_none (kaP I q (by simp))
  |int j=>obtain⟨t',rfl⟩:=ry;exact eq_int (kaP I q kjB)
  |str j=>obtain⟨t',rfl⟩:=ry;exact PySem.EqMixed.eq_int_str (kaP I q (by simp))
  |_=>exact absurd (show false=true from hs) Na
 |str i=>
  obtain⟨t,rfl⟩:=rx
  cases y with
  |non=>cases ry;exact PySem.EqNone.eq_str_none (kaP I q (by simp))
  |bl j=>cases ry;exact PySem.EqMixed.eq_str_bool (kaP I q (by simp))
  |int j=>obtain⟨t',rfl⟩:=ry;exact PySem.EqMixed.eq_str_int (kaP I q (by simp))
  |str j=>obtain⟨t',rfl⟩:=ry;exact eq_str (kaP I q kjA)
  |_=>exact absurd (show false=true from hs) Na
 |byt i=>
  obtain⟨t,rfl⟩:=rx
  cases y with
  |byt j=>obtain⟨t',rfl⟩:=ry;exact PySem.W.eq_bytes (kaP I q kjC)
  |_=>exact absurd (show false=true from hs) Na
 |_=>cases y <;> exact absurd (show false=true from hs) Na
theorem op_ne:OpR X (compareOp .NotEq) rNe:=by
 intro pins s σ H x y v u Q I rx ry h
 obtain⟨hs,q⟩:=h
 cases x with
 |non=>
  cases rx
  cases y with
  |non=>cases ry;exact PySem.EqNone.ne_none_none (kaP I q (by simp))
  |bl j=>cases ry;exact PySem.EqNone.ne_none_bool (kaP I q (by simp))
  |int j=>obtain⟨t',rfl⟩:=ry;exact PySem.EqNone.ne_none_int (kaP I q (by simp))
  |str j=>obtain⟨t',rfl⟩:=ry;exact PySem.EqNone.ne_none_str (kaP I q (by simp))
  |_=>exact absurd (show false=true from hs) Na
 |bl i=>
  cases rx
  cases y with
  |non=>cases ry;exact PySem.EqNone.ne_bool_none (kaP I q (by simp))
  |bl j=>cases ry;exact ne_bool (kaP I q (congrArg not kk7))
  |str j=>obtain⟨t',rfl⟩:=ry;exact PySem.EqMixed.ne_bool_str (kaP I q (by simp))
  |_=>exact absurd (show false=true from hs) Na
 |int i=>
  obtain⟨t,rfl⟩:=rx
  cases y with
  |non=>cases ry;exact PySem.EqNone.ne_int_none (kaP I q (by simp))
  |int j=>obtain⟨t',rfl⟩:=ry;exact ne_int (kaP I q (congrArg not kjB))
  |str j=>obtain⟨t',rfl⟩:=ry;exact PySem.EqMixed.ne_int_str (kaP I q (by simp))
  |_=>exact absurd (show false=true from hs) Na
 |str i=>
  obtain⟨t,rfl⟩:=rx
  cases y with
  |non=>cases ry;exact PySem.EqNone.ne_str_none (kaP I q (by simp))
  |bl j=>cases ry;exact PySem.EqMixed.ne_str_bool (kaP I q (by simp))
  |int j=>obtain⟨t',rfl⟩:=ry;exact PySem.EqMixed.ne_str_int (kaP I q (by simp))
  |str j=>obtain⟨t',rfl⟩:=ry;exact ne_str (kaP I q (congrArg not kjA))
  |_=>exact absurd (show false=true from hs) Na
 |byt i=>
  obtain⟨t,rfl⟩:=rx
  cases y with
  |byt j=>obtain⟨t',rfl⟩:=ry;exact PySem.W.ne_bytes (kaP I q (congrArg not kjC))
  |_=>exact absurd (show false=true from hs) Na
 |_=>cases y <;> exact absurd (show false=true from hs) Na
theorem op_lt:OpR X (compareOp .Lt) (rI0 fun i j=>.bl (decide (i<j))):=opB0 fun _ _ _ _ _ _ _ q=>lt_int q
theorem op_gt:OpR X (compareOp .Gt) (rI0 fun i j=>.bl (decide (j<i))):=opB0 fun _ _ _ _ _ _ _ q=>gt_int q
theorem keY:OpR X (compareOp .Is) (fun x y H Q=>y=.non∧Q (.bl (decide (x=.non))) H):=by
 intro pins s σ H x y v u Q I rx ry h
 obtain⟨rfl,q⟩:=h
 cases ry
 refine is_none_gen (kaP I q ?_)
 cases x <;> first
  |(cases rx;rfl)
  |(obtain⟨t,rfl⟩:=rx;rfl)
theorem kck:OpR X (compareOp .IsNot) (fun x y H Q=>y=.non∧Q (.bl (!decide (x=.non))) H):=by
 intro pins s σ H x y v u Q I rx ry h
 obtain⟨rfl,q⟩:=h
 cases ry
 refine isnot_none_gen (kaP I q ?_)
 cases x <;> first
  |(cases rx;rfl)
  |(obtain⟨t,rfl⟩:=rx;rfl)
theorem OpR.or{f:Value→Value→Sem Value}{r r':R2}(h:OpR X f r)(h':OpR X f r'):OpR X f (fun x y H Q=>r x y H Q∨r' x y H Q):=by
 intro pins s σ H x y v u Q I rx ry q
 rcases q with q|q
 ·exact h pins s σ H x y v u Q I rx ry q
 ·exact h' pins s σ H x y v u Q I rx ry q
theorem kav(b:Expr){op:CmpOp}(h:op≠.In:=by decide)(h2:op≠.NotIn:=by decide):behindInMarks op b=false:=by
 have e1:(op==CmpOp.In)=false:=by cases op <;> first|rfl|exact absurd rfl h
 have e2:(op==CmpOp.NotIn)=false:=by cases op <;> first|rfl|exact absurd rfl h2
 cases b <;> simp[behindInMarks,e1,e2]
theorem kbm{op:CmpOp}{r:R2}(ho:OpR X (compareOp op) r)(ha:PE X a ta)(hb:PE X b tb)(hm:behindInMarks op b=false):PE X (.Compare a [op] [b] pos) (tOp r ta tb):=by
 intro pins s σ H Q I h
 exact wpAny_Compare1 (binT ha hb I h fun v u s2 x y H2 I2 rx ry q=>ho pins s2 σ H2 x y v u Q I2 rx ry q) hm
noncomputable def tTest(t:TE):TT:=fun σ H Q=>t σ H fun x H'=>∃k,x=.bl k∧Q k H'
theorem kas{op:CmpOp}{r:R2}(ho:OpR X (compareOp op) r)(ha:PE X a ta)(hb:PE X b tb)(hm:behindInMarks op b=false):PT X (.Compare a [op] [b] pos) (tTest (tOp r ta tb)):=by
 intro pins s σ H Q I h
 refine wpAny_isTrue_Compare1 (thn (ha pins s σ H _ I h) fun v s1 ⟨x,H1,I1,r1,q1⟩=>thn (hb pins s1 σ H1 _ I1 q1) fun u s2 ⟨y,H2,I2,r2,q2⟩=>
  thn (ho pins s2 σ H2 x y v u _ I2 r1 r2 q2) fun c s3 ⟨z,H3,I3,r3,k,e,q3⟩=>?_) hm
 subst e
 cases r3
 exact wpAny_truthy_bool ⟨H3,I3,q3⟩
noncomputable def kl5(r r':R2)(ta tb tc:TE):TE:=fun σ H Q=>ta σ H fun x H1=>tb σ H1 fun y H2=>r x y H2 fun z H3=>∃k,z=.bl k∧
 (if k=true then tc σ H3 fun w' H4=>r' y w' H4 Q else Q (.bl false) H3)
theorem kjW{op op':CmpOp}{r r':R2}(ho:OpR X (compareOp op) r)(ho':OpR X (compareOp op') r')(ha:PE X a ta)(hb:PE X b tb)(hc:PE X c tc)
  (hm:lastMarks [op,op'] [b,c]=false:=by with_unfolding_all rfl):PT X (.Compare a [op,op'] [b,c] pos) (tTest (kl5 r r' ta tb tc)):=by
 intro pins s σ H Q I h
 refine isTrue_chain (thn (ha pins s σ H _ I h) fun v s1 ⟨x,H1,I1,r1,q1⟩=>test_link (thn (hb pins s1 σ H1 _ I1 q1) fun u s2 ⟨y,H2,I2,r2,q2⟩=>
  thn (ho pins s2 σ H2 x y v u _ I2 r1 r2 q2) fun d s3 ⟨z,H3,I3,r3,k,e,q3⟩=>?_)) hm
 subst e
 cases r3
 refine wpAny_truthy_bool ?_
 cases k with
 |false=>
  obtain⟨k',e',q'⟩:=q3
  cases e'
  exact ite_ff ⟨H3,I3,q'⟩
 |true=>
  refine ite_tt (test_last (thn (hc pins s3 σ H3 _ I3 q3) fun w' s4 ⟨z',H4,I4,r4,q4⟩=>thn (ho' pins s4 σ H4 y z' u w' _ I4 r2 r4 q4) fun d' s5 ⟨z2,H5,I5,r5,k2,e2,q5⟩=>?_))
  subst e2
  cases r5
  exact wpAny_truthy_bool ⟨H5,I5,q5⟩
theorem kgf:(sizeLine:Nat)<2 ^ 63:=by rw[sizeLine_eq];decide
theorem vals1{x:V}{us:List Value}(r:Vals [x] us):∃u,us=[u]∧RelV x u:=by
 cases r with
 |cons r1 r2=>cases r2;exact⟨_,rfl,r1⟩
theorem vals2{x y:V}{us:List Value}(r:Vals [x,y] us):∃u w',us=[u,w']∧RelV x u∧RelV y w':=by
 cases r with
 |cons r1 r2=>
  cases r2 with
  |cons r3 r4=>cases r4;exact⟨_,_,rfl,r1,r3⟩
theorem kjG(hc:X.calm=true):CallR X (.builtin "max") (fun xs H Q=>∃i j,xs=[.int i, .int j]∧Q (.int (if j > i then j else i)) H):=by
 intro pins s σ H xs us Q I r h
 obtain⟨i,j,rfl,q⟩:=h
 obtain⟨u,w',rfl,⟨t,rfl⟩,⟨t',rfl⟩⟩:=vals2 r
 refine max_two_ints (I.ok.hd hc) fun h' tk k=>⟨_,H,I.kept k,?_,q⟩
 by_cases hj:j > i
 ·rw[if_pos hj,if_pos hj];exact⟨_,rfl⟩
 ·rw[if_neg hj,if_neg hj];exact⟨_,rfl⟩
theorem keD(hc:X.calm=true):CallR X (.builtin "min") (fun xs H Q=>∃i j,xs=[.int i, .int j]∧Q (.int (if j<i then j else i)) H):=by
 intro pins s σ H xs us Q I r h
 obtain⟨i,j,rfl,q⟩:=h
 obtain⟨u,w',rfl,⟨t,rfl⟩,⟨t',rfl⟩⟩:=vals2 r
 refine min_two_ints (I.ok.hd hc) fun h' tk k=>⟨_,H,I.kept k,?_,q⟩
 by_cases hj:j<i
 ·rw[if_pos hj,if_pos hj];exact⟨_,rfl⟩
 ·rw[if_neg hj,if_neg hj];exact⟨_,rfl⟩
theorem kdq:CallR X (.type "int") (fun xs H Q=>(∃i,xs=[.int i]∧Q (.int i) H)∨∃k,xs=[.bl k]∧Q (.int (if k then 1 else 0)) H):=by
 intro pins s σ H xs us Q I r h
 rcases h with⟨i,rfl,q⟩|⟨k,rfl,q⟩
 ·obtain⟨u,rfl,t,rfl⟩:=vals1 r
  exact call_int_int ⟨.int i,H,I,⟨_,rfl⟩,q⟩
 ·obtain⟨u,rfl,r1⟩:=vals1 r
  cases r1
  exact call_int_bool ⟨.int (if k then 1 else 0),H,I.tok _,⟨_,rfl⟩,q⟩
end
end L2
namespace L2
open PySem PySem.Spec PyProof.Rows
structure ObjM (h:Heap) (x dx C:Addr) (mA:Str→Option Value):Prop where
 obj:h.get? x=some (Mh C dx)
 ns:h.Ns1 dx mA
 ne:dx≠x
def keu{h:Heap}{dx:Addr}{mA:Str→Option Value}(n:h.Ns1 dx mA):∃od,h.get? dx=some od∧∀name,MQ name od=some (mA name):=by
 obtain⟨o,es,ep,ho,hd,hk,_,hm⟩:=n
 refine⟨o,ho,fun name=>?_⟩
 have e:=hm name
 unfold nsFind findBy at e
 rw[←Array.find?_toList] at e
 unfold MQ
 rw[hd]
 dsimp only
 split
 ·rename_i y q
  rw[q] at e
  exact congrArg some e
 ·rename_i q
  rw[q] at e
  have a:es.toList.any (·.refKey)=false:=by
   rw[List.any_eq_false]
   intro y hy
   obtain⟨z,t,hkey⟩:=hk y (Array.mem_toList_iff.mp hy)
   simp[DictEntry.refKey,hkey]
  have a':¬es.toList.any (·.refKey)=true:=by rw[a];exact Na
  rw[if_neg a']
  exact congrArg some e
def ObjM.look{h:Heap}{x dx C:Addr}{mA:Str→Option Value}(I:ObjM h x dx C mA):∃od,Ek h x (Mh C dx) C (some od)∧∀name,MQ name od=some (mA name):=
 let⟨od,ho,hl⟩:=keu I.ns
 ⟨od,⟨I.obj,rfl,rfl,ho⟩,hl⟩
section
variable {prog:Program} {w:World} {A:Around} {E:Value→Shared→Prop} {s:Shared} {K:JZ} {x dx C f:Addr} {mA:Str→Option Value} {name:Str} {v:Value}
theorem get_map{expr:Bool}{Q:Value→Shared→Prop}(X:K.In s.heap)(I:ObjM s.heap x dx C mA)(hg:NG K C name=true)(hh:NK K C=true)
  (ha:J0 K (.ref C) name=some none) (hv:mA name=some v) (hv':PySem.W.handedIn v=true) (h:Q v {s with toks:=s.toks+1}):
  wpAny (model prog w) A (getAttr (.ref x) name expr) Q E s:=by
 obtain⟨od,J,hl⟩:=I.look
 exact PySem.W.get_value X J (El hg).1 (ES hh ha rfl (by rw[hl,hv])) hv' h
theorem kkp{pl:Sem Bool}{Q:Value×List Value→Shared→Prop}(X:K.In s.heap)(I:ObjM s.heap x dx C mA)(hg:NG K C name=true)
  (hf:J0 K (.ref C) name=some (some (.ref f))) (ht:NL K (.ref f)=true) (hv:mA name=none) (h:Q (.ref f,[.ref x]) s):
  wpAny (model prog w) A (getMethod (.ref x) name pl) Q E s:=by
 obtain⟨od,J,hl⟩:=I.look
 exact PySem.W.method_fn X J (El hg).1 (El hg).2 hf (beq_iff_eq.mp ht) (by show(MQ name od).map (·.isSome)=some false;rw[hl,hv];rfl) h
theorem klp{ns:List Str}{Q:Unit→Shared→Prop}(X:K.In s.heap)(I:ObjM s.heap x dx C mA)
  (hs:J0 K (.ref C) "__setattr__"=some (some (.builtin "object.__setattr__"))) (hp:NO K C=true) (ht:Em K C name=some none) (hh:NK K C=true)
  (hw:PySem.Within mA ns) (hsz:ns.length≤sizeLine)
  (h:∀h',ObjM h' x dx C (fun y=>if y=name then some v else mA y)→Heap.SameBut dx s.heap h'→Q () {s with heap:=h',toks:=s.toks+2}):
  wpAny (model prog w) A (setAttr (.ref x) name v) Q E s:=by
 obtain⟨od,J,hl⟩:=I.look
 refine PySem.W.set_plain X J hs (PySem.W.osa_open (s:={s with toks:=s.toks+1}) (r:=none) X J hp ht fun b=>?_)
 obtain⟨cd,hc,hd'⟩:=PySem.W.any_some hh
 have hx:s.heap.get? x=some ⟨.ref C,some dx, .plain,#[]⟩:=I.obj
 refine wpAny_bind (wpAny_pure (wpAny_bind (wpAny_bind (wpAny_loadPart hx (wpAny_bind (En.here (s:={s with toks:=s.toks+1}) (PySem.W.looks_clsIn X hc) ?_))))))
 rw[hd']
 refine wpAny_pure (a:=some dx) (wpAny_bind (wpAny_pure (wpAny_bind ?_)))
 refine wpAny_nsSet1 (s:={s with toks:=s.toks+1}) I.ns fun h' hn2 hs2=>?_
 obtain⟨oD,esD,epD,hoD,hdD,hcD⟩:=hn2.count (PySem.Within.cons name v hw)
 refine wpAny_bind (wpAny_lookBehind hoD (by rw[hdD];exact pastItsLine_dict (J5 hcD (by rw[NM];omega))) ?_)
 exact wpAny_pure (h _ ⟨(hs2.2 _ (Ne.symm I.ne)).trans I.obj,hn2,I.ne⟩ hs2)
theorem khy{R:Result→Shared→Prop}{vs:List Value}{kw:List (Str×Value)}(X:K.In s.heap)(hm:NN K C=true)
  (hi:J0 K (.ref C) "__init__"=some (some (.ref f))) (hf:NH K (.ref f)=some (.type "function"))
  (h:codeAny (model prog w) (A.under (.builtin "type.__call__" ⟨.ref C::vs,kw⟩)) (.call (.ref f) ⟨.ref (s.heap.objs.size+1)::vs,kw⟩) (PySem.W.InitBack (s.heap.objs.size+1) R)
   {s with heap:=(s.heap.push Mc).push (Mh C s.heap.objs.size)}):
  codeAny (model prog w) A (.call (.ref C) ⟨vs,kw⟩) R s:=by
 obtain⟨hh,g,d,t,os⟩:=s
 exact PySem.W.make_core (PySem.W.makes_of X hm) (PySem.W.looks_findIn X hi) (fun self=>PySem.W.bind_fn X self hf) (.inl rfl) h
end
noncomputable def putF(f:Str)(v:V):List (Str×V)→List (Str×V)
 |[]=>[(f,v)]
 |(g,x)::r=>if g=f then(g,v)::r else(g,x)::putF f v r
theorem kab(f g:Str)(v:V):∀fs:List (Str×V),(putF f v fs).lookup g=if g=f then some v else fs.lookup g
 | []=>by
  show NZ g [(f,v)]=_
  by_cases h:g=f
  ·have hb:(g==f)=true:=beq_iff_eq.mpr h
   simp only[NZ,hb,if_pos h]
  ·have hb:(g==f)=false:=beq_eq_false_iff_ne.mpr h
   simp only[NZ,hb,if_neg h]
 | (k,x)::r=>by
  have ih:=kab f g v r
  rw[show putF f v ((k,x)::r)=(if k=f then(k,v)::r else(k,x)::putF f v r) from rfl]
  by_cases hk:k=f
  ·rw[if_pos hk]
   by_cases h:g=k
   ·have hb:(g==k)=true:=beq_iff_eq.mpr h
    simp only[NZ,hb,if_pos (h.trans hk)]
   ·have hb:(g==k)=false:=beq_eq_false_iff_ne.mpr h
    simp only[NZ,hb,if_neg (fun e:g=f=>h (e.trans hk.symm))]
  ·rw[if_neg hk]
   by_cases h:g=k
   ·have hb:(g==k)=true:=beq_iff_eq.mpr h
    simp only[NZ,hb,if_neg (fun e:g=f=>hk (h.symm.trans e))]
   ·have hb:(g==k)=false:=beq_eq_false_iff_ne.mpr h
    simp only[NZ,hb]
    exact ih
theorem kcK(f:Str)(v:V):∀fs:List (Str×V),f∈(putF f v fs).map (·.1)∧∀g,g∈fs.map (·.1)→g∈(putF f v fs).map (·.1)
 |[]=>⟨by simp[putF],fun g h=>by simp at h⟩
 | (k,x)::r=>by
  obtain⟨i1,i2⟩:=kcK f v r
  rw[show putF f v ((k,x)::r)=(if k=f then(k,v)::r else(k,x)::putF f v r) from rfl]
  by_cases hk:k=f
  ·rw[if_pos hk]
   subst hk
   exact⟨by simp,fun g h=>by simpa using h⟩
  ·rw[if_neg hk]
   refine⟨?_,fun g h=>?_⟩
   ·rw[Nv]
    exact Nw _ i1
   ·rw[Nv] at h⊢
    rcases Nl.mp h with e|e
    ·exact Nl.mpr (.inl e)
    ·exact Nw _ (i2 g e)
theorem kev(f:Str)(v:V):∀fs:List (Str×V),(putF f v fs).length≤fs.length+1
 |[]=>by simp[putF]
 |(k,x)::r=>by
  have ih:=kev f v r
  rw[show putF f v ((k,x)::r)=(if k=f then(k,v)::r else(k,x)::putF f v r) from rfl]
  by_cases hk:k=f
  ·rw[if_pos hk,NM,NM];omega
  ·rw[if_neg hk,NM,NM];omega
theorem RelO.some_of{v:V}{o:Option Value}(r:RelO (some v) o):∃u,o=some u∧RelV v u:=by
 cases o with
 |none=>exact(show False from r).elim
 |some u=>exact⟨u,rfl,r⟩
theorem RelO.none_of{o:Option Value}(r:RelO none o):o=none:=by
 cases o with
 |none=>rfl
 |some u=>exact(show False from r).elim
theorem kgj{v:V}{u:Value}(r:RelV v u):PySem.W.handedIn u=true:=by
 cases v with
 |non=>cases(show u=Value.none from r);rfl
 |bl b=>cases(show u=Value.bool b from r);rfl
 |int i=>obtain⟨t,e⟩:=(show ∃t,u=Value.int i t from r);cases e;rfl
 |str x=>obtain⟨t,e⟩:=(show ∃t,u=Value.str x t from r);cases e;rfl
 |byt b=>obtain⟨t,e⟩:=(show ∃t,u=Value.bytes b t from r);cases e;rfl
 |flt b=>obtain⟨t,e⟩:=(show ∃t,u=Value.float b t from r);cases e;rfl
 |ref a=>cases(show u=Value.ref a from r);rfl
 |ty n=>cases(show u=Value.type n from r);rfl
section
variable {P:Program} {w:World} {H H':Hp} {h h':Heap} {a C dx:Addr} {fs fs':List (Str×V)}
theorem kfz(hok:HOk P w H h)(e:H a=some (.ins C dx fs)):∃mA,ObjM h a dx C mA∧(∀f,RelO (fs.lookup f) (mA f))∧PySem.Within mA (fs.map (·.1))∧fs.length≤1000∧H dx=some (.own a):=by
 obtain⟨d,z,ne,ob,mA,n,r,q⟩:=(show ObjOk P w H h a (.ins C dx fs) from hok a _ e)
 exact⟨mA,⟨ob,n,ne⟩,r,q,z,d⟩
end
structure Cls (K:JZ) (C:Addr):Prop where
 pg:NG K C Str.empty=true
 hd:NK K C=true
 po:NO K C=true
 sa:J0 K (.ref C) "__setattr__"=some (some (.builtin "object.__setattr__"))
def Cls.get{K:JZ}{C:Addr}(c:Cls K C)(f:Str):NG K C f=true:=c.pg
noncomputable def NoAttr(K:JZ)(C:Addr)(f:Str):Prop:=J0 K (.ref C) f=some none
def NoAttr.taker{K:JZ}{C:Addr}{f:Str}(n:NoAttr K C f):Em K C f=some none:=by
 unfold Em
 rw[show J0 K (.ref C) f=some none from n]
 rfl
structure Meth (K:JZ) (C:Addr) (m:Str) (f:Addr):Prop where
 at_:J0 K (.ref C) m=some (some (.ref f))
 fn:NL K (.ref f)=true
 kp:Ni K (.ref f)=true
section
variable {X:Cx} {pins:List (Addr×Obj)} {σ:St} {H:Hp} {s:Shared} {a C dx:Addr} {fs:List (Str×V)} {f:Str} {v:V} {A:Around} {E:Value→Shared→Prop}
theorem kh4{b:Bool}{Q:Value→Shared→Prop}(I:Inv X pins σ H s)(e:H a=some (.ins C dx fs))(c:Cls X.K C)(n:NoAttr X.K C f)(l:fs.lookup f=some v)
  (h:∀u s',Inv X pins σ H s'→RelV v u→Q u s'):wpAny (model X.prog X.w) A (getAttr (.ref a) f b) Q E s:=by
 obtain⟨mA,O,r,_,_,_⟩:=kfz I.hok e
 obtain⟨u,hu,ru⟩:=RelO.some_of (v:=v) (o:=mA f) (by rw[←l];exact r f)
 exact get_map I.kIn O (c.get f) c.hd n hu (kgj ru) (h u _ (I.tok _) ru)
theorem ke2{m:Str}{g:Addr}{pl:Sem Bool}{Q:Value×List Value→Shared→Prop}(I:Inv X pins σ H s)(e:H a=some (.ins C dx fs))(c:Cls X.K C)(k:Meth X.K C m g)(l:fs.lookup m=none)
  (h:Q (.ref g,[.ref a]) s):wpAny (model X.prog X.w) A (getMethod (.ref a) m pl) Q E s:=by
 obtain⟨mA,O,r,_,_,_⟩:=kfz I.hok e
 have hn:mA m=none:=RelO.none_of (by rw[←l];exact r m)
 exact kkp I.kIn O (c.get m) k.at_ k.fn hn h
theorem khQ{y:V}{u:Value}{Q:Unit→Shared→Prop}(I:Inv X pins σ H s)(e:H a=some (.ins C dx fs))(c:Cls X.K C)(n:NoAttr X.K C f)(hl:fs.length<1000)(ry:RelV y u)
  (h:∀s',Inv X pins σ (upd H a (.ins C dx (putF f y fs))) s'→Q () s'):wpAny (model X.prog X.w) A (setAttr (.ref a) f u) Q E s:=by
 obtain⟨mA,O,r,wi,_,ho⟩:=kfz I.hok e
 have hz:(fs.map (·.1)).length≤sizeLine:=by rw[JY,sizeLine_eq];omega
 refine klp I.kIn O c.sa c.po n.taker c.hd wi hz fun h' O' sb=>h _ ?_
 have hd:∃o,h'.get? dx=some o:=let⟨o,_,_,e',_⟩:=O'.ns;⟨o,e'⟩
 refine I.write (x:=a) (e:=dx) (by rw[e];exact True.intro) (.inr ho) (fun b q hb z=>(sb.2 b hb).trans z) hd ?_
 refine⟨by rw[kaj O.ne];exact ho,?_,O.ne,O'.obj,_,O'.ns,fun g=>?_,fun g hg=>?_⟩
 ·have:=kev f y fs;omega
 ·show RelO ((putF f y fs).lookup g) (if g=f then some u else mA g)
  rw[kab]
  by_cases q:g=f
  ·rw[if_pos q,if_pos q];exact ry
  ·rw[if_neg q,if_neg q];exact r g
 ·by_cases q:g=f
  ·rw[q];exact(kcK f y fs).1
  ·refine(kcK f y fs).2 g (wi g fun z=>hg ?_)
   show(if g=f then some u else mA g)=none
   rw[if_neg q];exact z
theorem Inv.made(I:Inv X pins σ H s):Inv X pins σ (upd (upd H s.heap.objs.size (.own (s.heap.objs.size+1))) (s.heap.objs.size+1) (.ins C s.heap.objs.size []))
  {s with heap:=(s.heap.push Mc).push (Mh C s.heap.objs.size)}:=by
 have e1:(s.heap.push Mc).get? s.heap.objs.size=some Mc:=Heap.get?_push_size s.heap rfl
 have e2:((s.heap.push Mc).push (Mh C s.heap.objs.size)).get? (s.heap.objs.size+1)=some (Mh C s.heap.objs.size):=by
  have:=Heap.get?_push_size (s.heap.push Mc) (o:=Mh C s.heap.objs.size) rfl
  rwa [Heap.size_push] at this
 have e3:(s.heap.push Mc).Ns s.heap.objs.size (fun _=>none):=⟨Mc,#[],_,e1,rfl,(fun e he=>absurd he (by simp)),fun _=>rfl⟩
 have I1:=I.laid (a:=s.heap.objs.size) (o:=.own (s.heap.objs.size+1)) (h':=s.heap.push Mc) (t':=s.toks) (fun b u q=>Heap.get?_push_of_some _ q) (J4 _) ⟨_,e1⟩
 refine I1.laid (a:=s.heap.objs.size+1) (o:=.ins C s.heap.objs.size []) (t':=s.toks) (fun b u q=>Heap.get?_push_of_some _ q) (MR (Heap.size_push _ _)) ?_
 have ne:s.heap.objs.size≠s.heap.objs.size+1:=Nr (MS _)
 refine⟨by rw[kaj ne,kad],NB _,ne,e2,fun _=>none,(Heap.Ns1.of_empty e3).at fun o q=>Heap.get?_push_of_some _ q,fun _=>True.intro,fun y hy=>absurd rfl hy⟩
theorem kjI{prog:Program}{w:World}{env:Env}{e:Expr}{f:Str}{pos:Pos}{s:Shared}{Q:Value→Shared→Prop}(hb:attributeBase e f env (eval e env)=eval e env)
  (h:wpAny (model prog w) A (eval e env) (fun o s₁=>wpAny (model prog w) A (getAttr o f true) Q E s₁) E s):wpAny (model prog w) A (eval (.Attribute e f pos) env) Q E s:=
 Attribute_any_ h (by rw[arm_eval_Attribute,hb])
end
noncomputable def tFld(K:JZ)(ta:TE)(f:Str):TE:=fun σ H Q=>ta σ H fun x H1=>∃a C dx fs v,x=.ref a∧H1 a=some (.ins C dx fs)∧Cls K C∧NoAttr K C f∧fs.lookup f=some v∧Q v H1
noncomputable def sFld(K:JZ)(ta tv:TE)(f:Str):TS:=fun D σ H=>tv σ H fun y H1=>ta σ H1 fun x H2=>∃a C dx fs,x=.ref a∧H2 a=some (.ins C dx fs)∧Cls K C∧NoAttr K C f∧fs.length<1000∧
 D.nx σ (upd H2 a (.ins C dx (putF f y fs)))
section
variable {X:Cx} {o e value:Expr} {f:Str} {pos pos' tpos:Pos} {ta tv:TE}
theorem kmh(he:PE X e ta)(hb:attributeBase e f X.env (eval e X.env)=eval e X.env):PE X (.Attribute e f pos) (tFld X.K ta f):=by
 intro pins s σ H Q I h
 refine kjI hb (thn (he pins s σ H _ I h) fun u s1 ⟨x,H1,I1,rx,a,C,dx,fs,v,ex,ea,c,n,l,q⟩=>?_)
 subst ex
 obtain rfl:u=Value.ref a:=rx
 exact kh4 I1 ea c n l fun u' s2 I2 ru=>⟨v,H1,I2,ru,q⟩
theorem kax(ha:PE X o ta)(hv:PE X value tv)(hs:swapsWith value (some (.Attribute o f pos')) pos.line X.env=pure false):PS X (.Assign [.Attribute o f pos'] value pos) (sFld X.K ta tv f):=by
 intro pins s σ H D I h
 refine plainObj_wpAny_Assign_Attribute (thn (hv pins s σ H _ I h) fun u s1 ⟨y,H1,I1,ry,q⟩=>thn (ha pins s1 σ H1 _ I1 q) fun ov s2 ⟨x,H2,I2,rx,a,C,dx,fs,ex,ea,c,n,l,q2⟩=>?_) hs
 subst ex
 obtain rfl:ov=Value.ref a:=rx
 exact khQ I2 ea c n l ry fun s3 I3=>⟨σ,_,I3,q2⟩
end
section
variable {X:Cx} {pins:List (Addr×Obj)} {σ:St} {H:Hp} {s:Shared} {A:Around} {E:Value→Shared→Prop} {Q:Value→Shared→Prop} {c:Value} {b:Bool}
inductive TyOf (K:JZ) (H:Hp):V→Value→Prop where
 |non:TyOf K H .non (.type "NoneType")
 |bl (x:Bool):TyOf K H (.bl x) (.type "bool")
 |int (i:Int):TyOf K H (.int i) (.type "int")
 |str (x:Str):TyOf K H (.str x) (.type "str")
 |flt (x:UInt64):TyOf K H (.flt x) (.type "float")
 |lst {a:Addr} {xs:List V} (e:H a=some (.lst xs)):TyOf K H (.ref a) (.type "list")
 |frz {a:Addr} {o:Obj} {xs:List V} (e:H a=some (.frz o (.lst xs))):TyOf K H (.ref a) (.type "list")
 |tup {a:Addr} {xs:List V} (e:H a=some (.tup xs)):TyOf K H (.ref a) (.type "tuple")
 |dK {a:Addr} {kvs:List (Key×V)} (e:H a=some (.dK kvs)):TyOf K H (.ref a) (.type "dict")
 |dT {a:Addr} {kvs:List (List Key×V)} (e:H a=some (.dT kvs)):TyOf K H (.ref a) (.type "dict")
 | ins {a C dx:Addr} {fs:List (Str×V)} (e:H a=some (.ins C dx fs)) (cl:Cls K C) (ha:J0 K (.ref C) "__class__"=some (some (.builtin "object.__class__")))
   (hn:MB K (.builtin "object.__class__") "__get__"=some (some (.builtin "getset_descriptor.__get__"))) (htk:Eo K (.builtin "object.__class__")=some true)
   (hm:J7 K C (.type "object")=some true):TyOf K H (.ref a) (.ref C)
theorem kjk{x:V}{u t:Value}(I:Inv X pins σ H s)(rx:RelV x u)(ty:TyOf X.K H x t)(e:Nd X.K t c=some b)(h:∀tk,Q (.bool b) {s with toks:=tk}):
  wpAny (model X.prog X.w) A (call (.builtin "isinstance") [u,c]) Q E s:=by
 cases ty with
 |non=>cases(show u=Value.none from rx);exact N1 PySem.W.kitx_none I.kIn True.intro e (fun z=>nomatch z) h
 |bl y=>cases(show u=Value.bool y from rx);exact N1 PySem.W.kitx_bool I.kIn True.intro e (fun z=>nomatch z) h
 |int i=>obtain⟨t,q⟩:=(show ∃t,u=Value.int i t from rx);cases q;exact N1 PySem.W.kitx_int I.kIn True.intro e (fun z=>nomatch z) h
 |str y=>obtain⟨t,q⟩:=(show ∃t,u=Value.str y t from rx);cases q;exact N1 PySem.W.kitx_str I.kIn True.intro e (fun z=>nomatch z) h
 |flt y=>obtain⟨t,q⟩:=(show ∃t,u=Value.float y t from rx);cases q;exact N1 PySem.W.kitx_float I.kIn True.intro e (fun z=>nomatch z) h
 | @lst a xs ea=>
  cases(show u=Value.ref a from rx)
  obtain⟨_,_,n,_,h1⟩:=(show ObjOk X.prog X.w H s.heap a (.lst xs) from I.hok a _ ea)
  exact N1 PySem.W.kitx_list I.kIn ⟨_,h1,rfl⟩ e (fun z=>nomatch z) h
 | @frz a ob xs ea=>
  cases(show u=Value.ref a from rx)
  obtain⟨_,_,_,n,_,h1⟩:=(show ObjOk X.prog X.w H s.heap a (.frz ob (.lst xs)) from I.hok a _ ea)
  exact N1 PySem.W.kitx_list I.kIn ⟨_,h1,rfl⟩ e (fun z=>nomatch z) h
 | @tup a xs ea=>
  cases(show u=Value.ref a from rx)
  obtain⟨_,_,_,p⟩:=(show ObjOk X.prog X.w H s.heap a (.tup xs) from I.hok a _ ea)
  obtain⟨o,h1,h2,_⟩:=p
  exact N1 PySem.W.kitx_tuple I.kIn ⟨o,h1,h2⟩ e (fun z=>nomatch z) h
 | @dK a kvs ea=>
  cases(show u=Value.ref a from rx)
  obtain⟨_,_,vs,_,p⟩:=(show ObjOk X.prog X.w H s.heap a (.dK kvs) from I.hok a _ ea)
  obtain⟨o,es,ep,h1,h2,_⟩:=p
  exact N1 PySem.W.kitx_dict I.kIn ⟨o,h1,h2.1⟩ e (fun z=>nomatch z) h
 | @dT a kvs ea=>
  cases(show u=Value.ref a from rx)
  obtain⟨_,_,xs,_,o,es,ep,h1,h2,_⟩:=(show ObjOk X.prog X.w H s.heap a (.dT kvs) from I.hok a _ ea)
  exact N1 PySem.W.kitx_dict I.kIn ⟨o,h1,h2.1⟩ e (fun z=>nomatch z) h
 | @ins a C dx fs ea cl ha hn htk hm=>
  cases(show u=Value.ref a from rx)
  obtain⟨mA,O,_⟩:=kfz I.hok ea
  obtain⟨od,J,_⟩:=O.look
  exact N1 (PySem.W.kitx_own (cl.get _) cl.hd ha hn htk hm) I.kIn J e (fun z=>nomatch z) h
end
end L2
namespace L2
open PySem PySem.Spec PyProof.Rows
structure Room (k:Nat) (A:Around):Prop where
 hd:A.handled=none
 dp:A.depth+3*k+5<recursionLimit
 un:A.units+16*k+200<cLine
def Room.mono{j k:Nat}{A:Around}(r:Room k A)(h:j≤k):Room j A:=⟨r.hd,by have:=r.dp;omega,by have:=r.un;omega⟩
def Room.deeper{k:Nat}{A:Around}(r:Room (k+1) A)(env:Env):Room k (A.deeper env):=
 ⟨r.hd,by have:=r.dp;show A.depth+1+3*k+5<_;omega,by have:=r.un;show A.units+3+16*k+200<_;omega⟩
def Room.in1{k:Nat}{A:Around}(r:Room (k+1) A):Room k A.in1:=
 ⟨r.hd,by have:=r.dp;show A.depth+3*k+5<_;omega,by have:=r.un;show A.units+1+16*k+200<_;omega⟩
def kh1{A:Around}{C:Addr}{us:List Value}{kw:List (Str×Value)}:(A.under (.builtin "type.__call__" ⟨.ref C::us,kw⟩)).depth=A.depth+1:=by
 first|rfl|simp[Around.under,Code.weight,Code.isCreation,Code.isGuard,Code.isCaller,Code.frames,Code.isFrame,guardIds]
def kh0{A:Around}{C:Addr}{us:List Value}{kw:List (Str×Value)}:(A.under (.builtin "type.__call__" ⟨.ref C::us,kw⟩)).units=A.units+1:=by
 first|rfl|simp[Around.under,Code.cUnits,Code.frames,Code.isFrame]
def Room.make{k:Nat}{A:Around}(r:Room (k+1) A)(C:Addr)(us:List Value)(kw:List (Str×Value)):Room k (A.under (.builtin "type.__call__" ⟨.ref C::us,kw⟩)):=
 ⟨r.hd,by have:=r.dp;rw[kh1];omega,by have:=r.un;rw[kh0];omega⟩
def Room.depth{k:Nat}{A:Around}(r:Room k A):A.depth<recursionLimit:=by have:=r.dp;omega
def Room.units{k:Nat}{A:Around}(r:Room k A):A.units+64<cLine:=by have:=r.un;omega
noncomputable def tNil:TA:=fun _ H Q=>Q [] H
noncomputable def tCons(ta:TE)(tr:TA):TA:=fun σ H Q=>ta σ H fun x H1=>tr σ H1 fun xs H2=>Q (x::xs) H2
section
variable {X:Cx} {e:Expr} {es:List Expr} {te:TE} {t:TA} {pos:Pos}
theorem kae:PA X [] tNil:=fun _ _ _ _ H Q I h=>Calls.spliced_nil ⟨[],H,I, .nil,h⟩
theorem kaa(ha:PE X e te)(hr:PA X es t)(hs:starEach (e::es) X.env=(false,eval e X.env)::starEach es X.env:=by rfl):PA X (e::es) (tCons te t):=by
 intro pos pins s σ H Q I h
 rw[hs]
 show wpAny _ _ (spliced ((false,eval e X.env)::backTo pos (starEach es X.env))) _ _ s
 refine Calls.spliced_cons (thn (ha pins s σ H _ I h) fun u s1 ⟨x,H1,I1,r1,q1⟩=>?_)
 exact thn (hr pos pins s1 σ H1 _ I1 q1) fun us s2 ⟨xs,H2,I2,r2,q2⟩=>⟨x::xs,H2,I2, .cons r1 r2,q2⟩
noncomputable def tTup(t:TA):TE:=fun σ H Q=>t σ H fun xs H1=>xs.length≤sizeLine∧∀p,H1 p=none→Q (.ref p) (upd H1 p (.tup xs))
noncomputable def tLst(t:TA):TE:=fun σ H Q=>t σ H fun xs H1=>xs.length≤sizeLine∧∀p,H1 p=none→Q (.ref p) (upd H1 p (.lst xs))
theorem kb9{x1}(h:PA X es t):PE X (.Tuple es x1 pos) (tTup t):=by
 intro pins s σ H Q I hq
 refine wpAny_Tuple_spliced (thn (h pos pins s σ H _ I hq) fun us s1 ⟨xs,H1,I1,r,z,q⟩=>⟨by rw[←r.length];exact z,?_⟩)
 have hf:H1 s1.heap.objs.size=none:=I1.hok.fresh (J4 _)
 refine⟨.ref s1.heap.objs.size,upd H1 s1.heap.objs.size (.tup xs),I1.laid (t':=s1.toks) (fun b u e=>Heap.get?_push_of_some _ e) (J4 _) ?_,rfl,q _ hf⟩
 exact⟨z,us,r,⟨_,Heap.get?_push_size _ rfl,rfl,_,rfl⟩⟩
theorem kaI(h:PA X es t):PE X (.List es pos) (tLst t):=by
 intro pins s σ H Q I hq
 refine wpAny_List_spliced (thn (h pos pins s σ H _ I hq) fun us s1 ⟨xs,H1,I1,r,z,q⟩=>⟨by rw[←r.length];exact z,?_⟩)
 have hf:H1 s1.heap.objs.size=none:=I1.hok.fresh (J4 _)
 refine⟨.ref s1.heap.objs.size,upd H1 s1.heap.objs.size (.lst xs),I1.laid (t':=s1.toks) (fun b u e=>Heap.get?_push_of_some _ e) (J4 _) ?_,rfl,q _ hf⟩
 exact⟨z,us,0,r,Heap.get?_push_size _ rfl⟩
end
noncomputable abbrev Sp:=List V→Hp→VK→XK→Prop
noncomputable abbrev CXT:=List Env→Hp→Shared→XK→Value→Shared→Prop
structure Env0 (P:Program) (w:World) (K:JZ) (mg:Str→Option Value) (base:Heap) (A:Around) (outer:List Env) (s:Shared) (H:Hp):Prop where
 frames:A.frames=some outer
 mod:Mod K mg base
 bs:∀b o,base.get? b=some o→s.heap.get? b=some o∧H b=none
 bsz:base.objs.size≤s.heap.objs.size
 funs:s.heap.FunFrames base outer
 frf:∀b∈frs outer,H b=none
 hok:HOk P w H s.heap
 bare:AllBare s.gens
noncomputable def CE(outer:List Env)(P:Program)(w:World)(H:Hp)(s:Shared)(Q:VK)(u:Value)(s':Shared):Prop:=
 ∃v H',s'.os=s.os∧AllBare s'.gens∧Un (frs outer) [] H H' s.heap s'.heap∧HOk P w H' s'.heap∧RelV v u∧Q v H'
noncomputable def CR(CX:CXT)(outer:List Env)(P:Program)(w:World)(H:Hp)(s:Shared)(Q:VK)(E:XK)(r:Result)(s':Shared):Prop:=
 match r with
 | .ok (.ret u)=>CE outer P w H s Q u s'
 | .ok _=>False
 | .error e=>CX outer H s E e s'
structure FnOk (P:Program) (w:World) (K:JZ) (mg:Str→Option Value) (base:Heap) (CX:CXT) (k:Nat) (f:Addr) (fd:FuncData) (ps:List Str) (sp:Sp):Prop where
 len:∀vs H Q E,sp vs H Q E→vs.length=ps.length
 run:∀(A:Around)(outer:List Env)(s:Shared)(H:Hp)(args:Args)(us:List Value)(vs:List V)(Q:VK)(E:XK),Room k A→Env0 P w K mg base A outer s H→BindsTo s fd args (ps.zip us)→Vals vs us→sp vs H Q E→
  codeAny (model P w) A (.call (.ref f) args) (CR CX outer P w H s Q E) s
theorem FnOk.mono{P:Program}{w:World}{K:JZ}{mg:Str→Option Value}{base:Heap}{CX:CXT}{j k:Nat}{f:Addr}{fd:FuncData}{ps:List Str}{sp:Sp}(F:FnOk P w K mg base CX j f fd ps sp)(h:j≤k):
  FnOk P w K mg base CX k f fd ps sp:=⟨F.len,fun A outer s H args us vs Q E hr=>F.run A outer s H args us vs Q E (hr.mono h)⟩
theorem FnOk.imp{P:Program}{w:World}{K:JZ}{mg:Str→Option Value}{base:Heap}{CX:CXT}{k:Nat}{f:Addr}{fd:FuncData}{ps:List Str}{sp sp':Sp}(F:FnOk P w K mg base CX k f fd ps sp)
  (h:∀vs H Q E,sp' vs H Q E→sp vs H Q E):FnOk P w K mg base CX k f fd ps sp':=
 ⟨fun vs H Q E q=>F.len vs H Q E (h _ _ _ _ q),fun A outer s H args us vs Q E hr he hb hv hs=>F.run A outer s H args us vs Q E hr he hb hv (h _ _ _ _ hs)⟩
theorem Env0.make{P:Program}{w:World}{K:JZ}{mg:Str→Option Value}{base:Heap}{A:Around}{outer:List Env}{s:Shared}{H:Hp}(e:Env0 P w K mg base A outer s H)(C:Addr)(us:List Value)(kw:List (Str×Value)):
  Env0 P w K mg base (A.under (.builtin "type.__call__" ⟨.ref C::us,kw⟩)) outer s H:=⟨by first|exact e.frames|(simpa[Around.under,Code.envs,Code.isFrame,pushEnvs] using e.frames),e.mod,e.bs,e.bsz,e.funs,e.frf,e.hok,e.bare⟩
theorem Env0.in1{P:Program}{w:World}{K:JZ}{mg:Str→Option Value}{base:Heap}{A:Around}{outer:List Env}{s:Shared}{H:Hp}(e:Env0 P w K mg base A outer s H):
  Env0 P w K mg base A.in1 outer s H:=⟨e.frames,e.mod,e.bs,e.bsz,e.funs,e.frf,e.hok,e.bare⟩
section
variable {X:Cx} {pins:List (Addr×Obj)} {σ:St} {H:Hp} {s s':Shared}
theorem Inv.env0(I:Inv X pins σ H s):Env0 X.prog X.w X.K X.mg X.base X.A X.stack s H:=
 ⟨I.ok.frames,I.ok.mod,I.bs,J5 I.ok.bsz I.sz,I.stack,I.stkFree,I.hok,I.bare⟩
theorem Inv.after{Q:VK}{u:Value}(I:Inv X pins σ H s)(h:CE X.stack X.prog X.w H s Q u s'):EP X pins σ Q u s':=by
 obtain⟨v,H',os,bare,un,hok,r,q⟩:=h
 obtain⟨hh,g,d,t,os'⟩:=s'
 obtain rfl:os'=s.os:=os
 exact⟨v,H',I.call (h':=hh) (g':=g) (d':=d) (t':=t) (ch:=[]) un hok bare (fun b z=>absurd z (by simp)),r,q⟩
end
noncomputable def tCall(sp:Sp)(dvs:List V)(E:XK)(t:TA):TE:=fun σ H Q=>t σ H fun vs H1=>sp (vs++dvs) H1 Q E
noncomputable def tMeth(C:Addr)(m:Str)(sp:Sp)(dvs:List V)(E:XK)(ta:TE)(t:TA):TE:=fun σ H Q=>ta σ H fun x H1=>∃a dx fs,x=.ref a∧H1 a=some (.ins C dx fs)∧fs.lookup m=none∧
 t σ H1 fun vs H2=>sp (x::(vs++dvs)) H2 Q E
noncomputable def tMake(C:Addr)(sp:Sp)(dvs:List V)(E:XK)(t:TA):TE:=fun σ H Q=>t σ H fun vs H1=>∀x dx,H1 x=none→H1 dx=none→dx≠x→
 sp (.ref x::(vs++dvs)) (upd (upd H1 dx (.own x)) x (.ins C dx [])) (fun v H2=>v=.non∧Q (.ref x) H2) E
noncomputable def Binds(K:JZ)(fd:FuncData)(ps:List Str)(ds:List Value):Prop:=
 ∀(s:Shared)(us:List Value),K.In s.heap→(us++ds).length=ps.length→BindsTo s fd ⟨us,[]⟩ (ps.zip (us++ds))
def Binds.all{K:JZ}{fd:FuncData}{ps:List Str}(h:∀us:List Value,us.length=ps.length→bindArgs fd ⟨us,[]⟩=pure (ps.zip us)):Binds K fd ps []:=fun s us _ hl=>by
 rw[Mp] at hl⊢
 exact .of_eq (h us hl)
noncomputable def kct(CX:CXT)(X:Cx)(E:XK):Prop:=∀(pins:List (Addr×Obj))(σ:St)(H:Hp)(s:Shared)(e:Value)(s':Shared),Inv X pins σ H s→CX X.stack H s E e s'→X.xe e s'
section
variable {X:Cx} {CX:CXT} {k:Nat} {f C:Addr} {fd:FuncData} {ps:List Str} {sp:Sp} {dvs:List V} {ds:List Value} {E:XK} {x m:Str} {p pos apos:Pos} {e o:Expr} {es:List Expr} {ta:TE} {t:TA}
theorem khm{pins:List (Addr×Obj)}{σ:St}{H:Hp}{s:Shared}{Q:VK}{us:List Value}{vs:List V}(F:FnOk X.prog X.w X.K X.mg X.base CX k f fd ps sp)(hr:Room k X.A)(hb:Binds X.K fd ps ds)(hd:Vals dvs ds)(hx:kct CX X E)
  (I:Inv X pins σ H s) (r:Vals vs us) (h:sp (vs++dvs) H Q E):wpAny (model X.prog X.w) X.A (call (.ref f) us) (EP X pins σ Q) X.xe s:=by
 have r2:Vals (vs++dvs) (us++ds):=r.append hd
 have hl:(us++ds).length=ps.length:=by rw[←r2.length];exact F.len _ _ _ _ h
 refine wpAny_call (codeAny_mono (F.run X.A X.stack s H ⟨us,[]⟩ (us++ds) (vs++dvs) Q E hr I.env0 (hb s us I.kIn hl) r2 h) fun r s' hq=>?_)
 cases r with
 |error e=>exact hx pins σ H s e s' I hq
 |ok fl=>
  cases fl with
  |ret u=>exact I.after hq
  |next=>exact False.elim hq
  |brk=>exact False.elim hq
  |cont=>exact False.elim hq
theorem kiZ(F:FnOk X.prog X.w X.K X.mg X.base CX k f fd ps sp)(hr:Room k X.A)(hg:Gl X x)(hm:X.mg x=some (.ref f))(hk:Ni X.K (.ref f)=true)(hb:Binds X.K fd ps ds)(hd:Vals dvs ds)(hx:kct CX X E)
  (ha:PA X (e::es) t) (hdb:(x==("__debug__" :Str))=false:=by decide) (he:starEach (e::es) X.env=(false,eval e X.env)::starEach es X.env:=by rfl) (hpl:(backTo pos (starEach es X.env)).any (·.1)=false:=by rfl):
  PE X (.Call (.Name x p) (e::es) [] pos) (tCall sp dvs E t):=by
 intro pins s σ H Q I h
 refine wpAny_Call_Name_kw (kc7 I hg hm ?_ hdb)
 refine Mv (h₀:=X.base) I.ok.mod.kin hk (thn (ha pos pins s σ H _ I h) fun us s1 ⟨vs,H1,I1,r,q⟩=>⟨I1.kIn,?_⟩) he hpl
 exact khm F hr hb hd hx I1 r q
theorem kfo{pl:Sem Bool}(he:PE X o ta)(c:Cls X.K C)(hm:Meth X.K C m f)(F:FnOk X.prog X.w X.K X.mg X.base CX k f fd ps sp)(hr:Room k X.A)(hb:Binds X.K fd ps ds)(hd:Vals dvs ds)(hx:kct CX X E)(ha:PA X (e::es) t)
  (hst:starEach (e::es) X.env=(false,eval e X.env)::starEach es X.env:=by rfl) (hpl:(backTo pos (starEach es X.env)).any (·.1)=false:=by rfl)
  (ht:eval (.Call (.Attribute o m apos) (e::es) [] pos) X.env=(do
   let ov ←eval o X.env
   standAt apos.atName
   let(f,first) ←holding [ov] (getMethod ov m pl)
   callWith pos f first (backTo pos (starEach (e::es) X.env)) (backToKw pos (keywordEach [] X.env))):=by rfl):
  PE X (.Call (.Attribute o m apos) (e::es) [] pos) (tMeth C m sp dvs E ta t):=by
 intro pins s σ H Q I h
 refine Ep (pl:=pl) (thn (he pins s σ H _ I h) fun u s1 ⟨x,H1,I1,rx,a,dx,fs,ex,ea,l,q⟩=>?_) ht
 subst ex
 obtain rfl:u=Value.ref a:=rx
 refine ke2 I1 ea c hm l ?_
 refine Mv (first:=[.ref a]) (h₀:=X.base) I.ok.mod.kin hm.kp (thn (ha pos pins s1 σ H1 _ I1 q) fun us s2 ⟨vs,H2,I2,r,q2⟩=>⟨I2.kIn,?_⟩) hst hpl
 exact khm (us:=.ref a::us) (vs:=.ref a::vs) F hr hb hd hx I2 (.cons rfl r) q2
theorem khq{pl:Sem Bool}(he:PE X o ta)(c:Cls X.K C)(hm:Meth X.K C m f)(F:FnOk X.prog X.w X.K X.mg X.base CX k f fd ps sp)(hr:Room k X.A)(hb:Binds X.K fd ps ds)(hd:Vals dvs ds)(hx:kct CX X E)
  (ht:eval (.Call (.Attribute o m apos) [] [] pos) X.env=(do
   let ov ←eval o X.env
   standAt apos.atName
   let(f,first) ←holding [ov] (getMethod ov m pl)
   callWith pos f first (backTo pos (starEach [] X.env)) (backToKw pos (keywordEach [] X.env))):=by rfl):
  PE X (.Call (.Attribute o m apos) [] [] pos) (tMeth C m sp dvs E ta tNil):=by
 intro pins s σ H Q I h
 refine Ep (pl:=pl) (thn (he pins s σ H _ I h) fun u s1 ⟨x,H1,I1,rx,a,dx,fs,ex,ea,l,q⟩=>?_) ht
 subst ex
 obtain rfl:u=Value.ref a:=rx
 refine ke2 I1 ea c hm l ?_
 exact ET (first:=[.ref a]) I1.kIn hm.kp (khm (us:=[.ref a]) (vs:=[.ref a]) F hr hb hd hx I1 (.cons rfl .nil) q)
structure Mk (K:JZ) (C f:Addr):Prop where
 makes:NN K C=true
 init:J0 K (.ref C) "__init__"=some (some (.ref f))
 fn:NL K (.ref f)=true
 kp:Ni K (.ref C)=true
theorem khl{pins:List (Addr×Obj)}{σ:St}{H:Hp}{s:Shared}{Q:VK}{us:List Value}{vs:List V}(M:Mk X.K C f)(F:FnOk X.prog X.w X.K X.mg X.base CX k f fd ps sp)(hr:Room (k+1) X.A)(hb:Binds X.K fd ps ds)(hd:Vals dvs ds)
  (hx:kct CX X E) (I:Inv X pins σ H s) (r:Vals vs us)
  (h:∀x dx,H x=none→H dx=none→dx≠x→sp (.ref x::(vs++dvs)) (upd (upd H dx (.own x)) x (.ins C dx [])) (fun v H2=>v=.non∧Q (.ref x) H2) E):
  wpAny (model X.prog X.w) X.A (call (.ref C) us) (EP X pins σ Q) X.xe s:=by
 have hq:=h (s.heap.objs.size+1) s.heap.objs.size (I.hok.fresh (N8 _)) (I.hok.fresh (J4 _)) (Nr (MS _))
 have I2:=Inv.made (C:=C) I
 have r2:Vals (V.ref (s.heap.objs.size+1)::(vs++dvs)) (Value.ref (s.heap.objs.size+1)::(us++ds)):=.cons rfl (r.append hd)
 have hl:(Value.ref (s.heap.objs.size+1)::us++ds).length=ps.length:=by
  have e:=r2.length
  rw[F.len _ _ _ _ hq] at e
  exact e.symm
 refine wpAny_call (khy (f:=f) I.kIn M.makes M.init (beq_iff_eq.mp M.fn) (codeAny_mono (F.run _ X.stack _ _ ⟨Value.ref (s.heap.objs.size+1)::us,[]⟩ (Value.ref (s.heap.objs.size+1)::(us++ds)) _ _ E (hr.make C us [])
  (I2.env0.make C us []) (hb _ (Value.ref (s.heap.objs.size+1)::us) I2.kIn hl) r2 hq) fun r s' hq'=>?_))
 cases r with
 |error e=>exact hx pins σ _ _ e s' I2 hq'
 | ok fl=>
  cases fl with
  |ret u=>
   obtain⟨v,H',I3,rv,ev,q3⟩:=I2.after hq'
   subst ev
   exact⟨rv,⟨V.ref (s.heap.objs.size+1),H',I3,rfl,q3⟩⟩
  |next=>exact False.elim hq'
  |brk=>exact False.elim hq'
  |cont=>exact False.elim hq'
theorem ka3(M:Mk X.K C f)(F:FnOk X.prog X.w X.K X.mg X.base CX k f fd ps sp)(hr:Room (k+1) X.A)(hg:Gl X x)(hm:X.mg x=some (.ref C))(hb:Binds X.K fd ps ds)(hd:Vals dvs ds)(hx:kct CX X E)
  (ha:PA X (e::es) t) (hdb:(x==("__debug__" :Str))=false:=by decide) (he:starEach (e::es) X.env=(false,eval e X.env)::starEach es X.env:=by rfl) (hpl:(backTo pos (starEach es X.env)).any (·.1)=false:=by rfl):
  PE X (.Call (.Name x p) (e::es) [] pos) (tMake C sp dvs E t):=by
 intro pins s σ H Q I h
 refine wpAny_Call_Name_kw (kc7 I hg hm ?_ hdb)
 refine Mv (h₀:=X.base) I.ok.mod.kin M.kp (thn (ha pos pins s σ H _ I h) fun us s1 ⟨vs,H1,I1,r,q⟩=>⟨I1.kIn,?_⟩) he hpl
 exact khl M F hr hb hd hx I1 r q
theorem kj0(M:Mk X.K C f)(F:FnOk X.prog X.w X.K X.mg X.base CX k f fd ps sp)(hr:Room (k+1) X.A)(hg:Gl X x)(hm:X.mg x=some (.ref C))(hb:Binds X.K fd ps ds)(hd:Vals dvs ds)(hx:kct CX X E)
  (hdb:(x==("__debug__" :Str))=false:=by decide):PE X (.Call (.Name x p) [] [] pos) (tMake C sp dvs E tNil):=by
 intro pins s σ H Q I h
 refine wpAny_Call_Name_kw (kc7 I hg hm ?_ hdb)
 exact ET I.kIn M.kp (khl (us:=[]) M F hr hb hd hx I .nil h)
end
section
variable {X:Cx} {CX:CXT} {k:Nat} {f C:Addr} {fd:FuncData} {ps ks:List Str} {sp:Sp} {E:XK} {x m:Str} {p pos apos kpos:Pos} {e o:Expr} {es:List Expr} {kws:List Keyword} {te ta:TE} {t tk:TA} {nm:Option Str}
variable {g:List Value→List Value→List Value} {gV:List V→List V→List V}
end
structure kan (N P:List Str) (sc:Scope):Prop where
 kind:sc.kind=.function
 co:sc.isCoroutine=false
 gen:sc.isGenerator=false
 nd:N.Nodup
 pre:N.take P.length=P
 par:∀x∈P,sc.names.lookup x=some .local∨sc.names.lookup x=some .cell
 nofree:∀y∈sc.names,y.2≠.free
theorem kgq{kindOf:Str→Option NameKind}{x:Str}:∀{binds:List (Str×Value)}{m:Str→Option Value},(∀v,(x,v)∉binds)→bindL kindOf binds m x=m x
 |[],_,_=>rfl
 | (n,v)::r,m,h=>by
  unfold bindL
  rw[kgq fun w hw=>h w (Nw _ hw)]
  split
  ·have:x≠n:=by rintro rfl;exact h v Nz
   simp[this]
  ·rfl
theorem kgs{kindOf:Str→Option NameKind}{x:Str}:∀{binds:List (Str×Value)}{m:Str→Option Value},(∀v,(x,v)∉binds)→bindC kindOf binds m x=m x
 |[],_,_=>rfl
 | (n,v)::r,m,h=>by
  unfold bindC
  rw[kgs fun w hw=>h w (Nw _ hw)]
  split
  ·rfl
  ·have:x≠n:=by rintro rfl;exact h v Nz
   simp[this]
theorem kgr{kindOf:Str→Option NameKind}{x:Str}{v:Value}:∀{P:List Str}{vs:List Value}{i:Nat}{m:Str→Option Value},P.Nodup→P[i]?=some x→vs[i]?=some v→kindOf x=some .local→
  bindL kindOf (P.zip vs) m x=some v
 |[],_,_,_,_,h,_,_=>by simp at h
 |_::_,[],_,_,_,_,h,_=>by simp at h
 |p::P,w::vs,0,m,nd,h1,h2,hk=>by
  simp at h1 h2;subst h1;subst h2
  show bindL kindOf ((p,w)::P.zip vs) m p=_
  unfold bindL
  rw[kgq fun v hv=>(N3.mp nd).1 (Mi hv).1,if_pos hk]
  simp
 |p::P,w::vs,i+1,m,nd,h1,h2,hk=>by
  show bindL kindOf ((p,w)::P.zip vs) m x=_
  unfold bindL
  exact kgr (i:=i) (N3.mp nd).2 (by simpa using h1) (by simpa using h2) hk
theorem kgt{kindOf:Str→Option NameKind}{x:Str}{v:Value}:∀{P:List Str}{vs:List Value}{i:Nat}{m:Str→Option Value},P.Nodup→P[i]?=some x→vs[i]?=some v→kindOf x≠some .local→
  bindC kindOf (P.zip vs) m x=some v
 |[],_,_,_,_,h,_,_=>by simp at h
 |_::_,[],_,_,_,_,h,_=>by simp at h
 |p::P,w::vs,0,m,nd,h1,h2,hk=>by
  simp at h1 h2;subst h1;subst h2
  show bindC kindOf ((p,w)::P.zip vs) m p=_
  unfold bindC
  rw[kgs fun v hv=>(N3.mp nd).1 (Mi hv).1,if_neg hk]
  simp
 |p::P,w::vs,i+1,m,nd,h1,h2,hk=>by
  show bindC kindOf ((p,w)::P.zip vs) m x=_
  unfold bindC
  exact kgt (i:=i) (N3.mp nd).2 (by simpa using h1) (by simpa using h2) hk
noncomputable def start(N:List Str)(vs:List V):St:=vs.map some++J6 (N.length-vs.length) none
noncomputable def cxOf(CX:CXT)(P:Program)(w:World)(K:JZ)(mg:Str→Option Value)(base:Heap)(N:List Str)(qual:Str)(scope:Scope)(f:Addr)(cd:Value)(A:Around)(outer:List Env)(s:Shared)(H:Hp)(E:XK):Cx where
 prog:=P
 w:=w
 K:=K
 mg:=mg
 base:=base
 A:=A.deeper (envOfC qual scope s.heap.objs.size f cd)
 N:=N
 s₀:=s
 H₀:=H
 env:=envOfC qual scope s.heap.objs.size f cd
 outer:=outer
 stack:=envOfC qual scope s.heap.objs.size f cd::outer
 ex:=[]
 calm:=true
 fn:=fun _=>true
 pn:=[]
 xe:=fun e s'=>wpAny (model P w) (A.deeper (envOfC qual scope s.heap.objs.size f cd)) (leaving (envOfC qual scope s.heap.objs.size f cd) e) (fun _ s''=>CX outer H s E e s'') (fun e' s''=>CX outer H s E e' s'') s'
def kd7{sc:Scope}{n:Nat}{x:Str}(h:sc.names.lookup x=some .cell):∃c,(cellsFrom n sc.names []).lookup x=some c:=by
 have q:=EU sc.names n [] (.inl h)
 exact Er.mp q
theorem kjl{CX:CXT}{P:Program}{w:World}{K:JZ}{mg:Str→Option Value}{base:Heap}{N ps:List Str}{qual:Str}{scope:Scope}{f:Addr}{cd:Value}{A:Around}{outer:List Env}{s s1:Shared}{H:Hp}{E:XK}{us:List Value}{vs:List V}
  (S:kan N ps scope) (hd:A.handled=none) (e0:Env0 P w K mg base A outer s H) (hl:vs.length=ps.length) (r:Vals vs us)
  (x:InCallC s s.heap.objs.size (bindL (envOfC qual scope s.heap.objs.size f cd).kindOf (ps.zip us) fun _=>none) (cellsFrom (s.heap.objs.size+1) scope.names []) (bindC (envOfC qual scope s.heap.objs.size f cd).kindOf (ps.zip us) fun _=>none) s1):
  Inv (cxOf CX P w K mg base N qual scope f cd A outer s H E) [] (start N vs) H s1:=by
 have hpl:ps.length≤N.length:=by have:=congrArg MT S.pre;rw[Nt] at this;omega
 obtain⟨h1,tk,rfl,hk⟩:=x.done
 have noA:∀b:Addr,b∉(cxOf CX P w K mg base N qual scope f cd A outer s H E).ex:=fun b z=>absurd (show b∈([]:List Addr) from z) (by simp)
 refine⟨⟨e0.mod,S.kind,rfl,rfl,J4 _,fun y z c h1 h2=>?_,fun y hy=>?_,fun y c _ h=>?_,fun _=>hd,Around.frames_deeper e0.frames, .inr ⟨rfl,rfl⟩,fun b z=>absurd z (noA b),e0.bs,e0.bsz,fun b _ _=>noA b,fun b z=>absurd z (noA b),e0.funs,e0.frf⟩,
  rfl,e0.bare,Un.kept hk,⟨_,x.toInCall.ns,fun i y v h1 h2 h3=>?_⟩,fun y c h=>⟨_,x.cell y c h⟩,e0.hok.fresh (J4 _),fun y c h=>?_,fun p hp=>absurd (show p∈([]:List (Addr×Obj)) from hp) (by simp),e0.hok.kept hk,?_⟩
 ·exact name_of_addr x.apart (PySem.mem_of_lookup h1) (PySem.mem_of_lookup h2)
 ·have hy:scope.names.lookup y=some .cell∨scope.names.lookup y=some .free:=hy
  rcases hy with hy|hy
  ·exact kd7 hy
  ·exact absurd rfl (S.nofree _ (PySem.mem_of_lookup hy))
 ·exact Ng (x.above y c (PySem.mem_of_lookup h))
 ·have hi:i<vs.length:=by
   unfold start at h2
   by_cases hi:i<vs.length
   ·exact hi
   ·rw[Mq (by simpa using hi)] at h2
    rw[Es] at h2
    split at h2 <;> cases h2
  have ha:vs[i]?=some v:=by
   unfold start at h2
   rw[MC (by simpa using hi),Nc] at h2
   cases e:vs[i]? with
   |none=>rw[e] at h2;cases h2
   |some a=>rw[e] at h2;cases h2;rfl
  obtain⟨u,hu,rv⟩:=r.get ha
  have hp:ps[i]?=some y:=by
   rw[←S.pre,EV (by omega)];exact h1
  have ndP:ps.Nodup:=by rw[←S.pre];exact S.nd.sublist (List.take_sublist _ _)
  refine⟨u,rv,?_⟩
  rcases S.par y (Nb hp) with k|k
  ·exact .inl ⟨k,kgr ndP hp hu k⟩
  ·obtain⟨c,e⟩:=kd7 (n:=s.heap.objs.size+1) k
   refine .inr ⟨.inl k,c,e,?_⟩
   have q:=x.cell y c e
   rw[kgt ndP hp hu (by show scope.names.lookup y≠_;rw[k];decide)] at q
   exact q
 ·exact e0.hok.fresh (Ng (x.above y c (PySem.mem_of_lookup h)))
 ·unfold start
  show _=N.length
  rw[Np,JY,Mj]
  omega
theorem fn_of{CX:CXT}{P:Program}{w:World}{K:JZ}{mg:Str→Option Value}{base:Heap}{k:Nat}{f:Addr}{name qual:Str}{params:Arguments}{body:List Stmt}{scope:Scope}{dV kV doc pm cdv ct oc:Value}{an od:Option Addr}
  {osl:Array (Option Value)} {N ps:List Str} {sp:Sp} (lk:K.lookup f=some ⟨oc,od, .func (Nj name qual params body scope dV kV doc pm an cdv ct),osl⟩) (hcd:NI K cdv qual=true) (S:kan N ps scope)
  (len:∀vs H Q E,sp vs H Q E→vs.length=ps.length)
  (hbody:∀(A:Around)(outer:List Env)(s:Shared)(H:Hp)(vs:List V)(Q:VK)(E:XK),Room k (A.deeper (envOfC qual scope s.heap.objs.size f cdv))→sp vs H Q E→
   ∃t,PSs (cxOf CX P w K mg base N qual scope f cdv A outer s H E) body t∧t {nx:=fun _ H'=>Q .non H',rt:=Q} (start N vs) H):
  FnOk P w K mg base CX (k+1) f (Nj name qual params body scope dV kV doc pm an cdv ct) ps sp:=by
 refine⟨len,fun A outer s H args us vs Q E hr e0 hb r hsp=>?_⟩
 have hl:=len _ _ _ _ hsp
 have KX:K.In s.heap:=e0.mod.kin.keeps fun b o e=>(e0.bs b o e).1
 have lim:s.heap.NoLimit:=e0.mod.nolimit.keeps fun b o e=>(e0.bs b o e).1
 have hkind:∀y∈ps.zip us,scope.names.lookup y.1=some .local∨(scope.names.lookup y.1=some .cell∧((cellsFrom (s.heap.objs.size+1) scope.names []).lookup y.1).isSome=true):=fun⟨n,v⟩ hy=>by
  rcases S.par n (Mi hy).1 with q|q
  ·exact .inl q
  ·exact .inr ⟨q,EU _ _ _ (.inl q)⟩
 refine codeAny_call_function hr.depth (KX _ _ lk) rfl S.co S.gen rfl (PySem.W.codeRec_of KX hcd) (hb _ _ _ _ ?_)
 refine wpAny_newFunctionEnv_cells S.kind hkind fun env he s1 x=>?_
 subst he
 refine⟨lim.keeps x.toInCall.keep,codeAny_func ?_⟩
 obtain⟨t,ht,hq⟩:=hbody A outer s H vs Q E (hr.deeper _) hsp
 have I:Inv (cxOf CX P w K mg base N qual scope f cdv A outer s H E) [] (start N vs) H s1:=kjl S hr.hd e0 hl r x
 refine wpAny_mono (ht [] s1 (start N vs) H _ I hq) (fun fl s' hs=>?_) fun e s' hs=>hs
 have fin:∀{σ':St}{H':Hp}{v:V}{u:Value},Inv (cxOf CX P w K mg base N qual scope f cdv A outer s H E) [] σ' H' s'→RelV v u→Q v H'→CE outer P w H s Q u s':=
  fun {σ' H' v u} J rv q=>⟨v,H',J.os,J.bare,J.base,J.hok,rv,q⟩
 cases fl with
 |ret u=>
  obtain⟨v,σ',H',J,rv,q⟩:=hs
  exact fin J rv q
 |next=>
  obtain⟨σ',H',J,q⟩:=hs
  exact fin (v:=V.non) (u:=Value.none) J rfl q
 |brk=>
  obtain⟨_,_,_,q⟩:=hs
  exact False.elim q
 |cont=>
  obtain⟨_,_,_,q⟩:=hs
  exact False.elim q
end L2
namespace L2
open PySem PySem.Spec PyProof.Rows
section
variable {X:Cx} {x:Str} {p pos:Pos} {e:Expr} {es:List Expr} {t:TA} {id T:String} {r:List V→Hp→VK→Prop}
noncomputable def tCB(r:List V→Hp→VK→Prop)(t:TA):TE:=fun σ H Q=>t σ H fun vs H1=>r vs H1 Q
theorem kau(hc:CallR X (.builtin id) r)(hg:Gl X x)(hm:X.mg x=none)(hv:bootBuiltins x=some (.builtin id))(ha:PA X (e::es) t)(hn:x≠"__name__":=by decide)(hdb:(x==("__debug__" :Str))=false:=by decide)
  (he:starEach (e::es) X.env=(false,eval e X.env)::starEach es X.env:=by rfl) (hpl:(backTo pos (starEach es X.env)).any (·.1)=false:=by rfl):PE X (.Call (.Name x p) (e::es) [] pos) (tCB r t):=by
 intro pins s σ H Q I h
 refine wpAny_Call_Name_kw (kcH I hg hm hv ?_ hn hdb)
 exact PyProof.Rows.callWith_builtin1 (thn (ha pos pins s σ H _ I h) fun us s1 ⟨vs,H1,I1,r1,q1⟩=>hc pins s1 σ H1 vs us Q I1 r1 q1) he hpl
theorem kaF(hc:CallR X (.type T) r)(hg:Gl X x)(hm:X.mg x=none)(hv:bootBuiltins x=some (.type T))(ha:PA X (e::es) t)(hn:x≠"__name__":=by decide)(hdb:(x==("__debug__" :Str))=false:=by decide)
  (he:starEach (e::es) X.env=(false,eval e X.env)::starEach es X.env:=by rfl) (hpl:(backTo pos (starEach es X.env)).any (·.1)=false:=by rfl):PE X (.Call (.Name x p) (e::es) [] pos) (tCB r t):=by
 intro pins s σ H Q I h
 refine wpAny_Call_Name_kw (kcH I hg hm hv ?_ hn hdb)
 exact PyProof.Rows.callWith_type1 (thn (ha pos pins s σ H _ I h) fun us s1 ⟨vs,H1,I1,r1,q1⟩=>hc pins s1 σ H1 vs us Q I1 r1 q1) he hpl
end
end L2
namespace HT
open PySem PyProof.Rows
section
open PySem.SeqAt
open PySem.AutoSeq1 (wpAny_loadPart')
open PySem.MeetsSeq PySem.MeetsSeq2 PySem.MeetsSeq3
end
section
variable {prog:Program} {w:World} {A:Around} {E:Value→Shared→Prop} {s:Shared}
noncomputable def sIx(n d:Nat):Option Int→Nat
 |none=>d
 |some v=>if v<0 then(v+(n:Int)).toNat else min v.toNat n
theorem sIx_none(n d:Nat):sIx n d none=d:=rfl
theorem sIx_nat(n d k:Nat):sIx n d (some (k:Int))=min k n:=by
 show(if(k:Int)<0 then((k:Int)+(n:Int)).toNat else min (k:Int).toNat n)=min k n
 rw[if_neg (by omega),Int.toNat_natCast]
end
end HT
namespace L2
open PySem PySem.Spec PyProof.Rows
noncomputable abbrev TO:=St→Hp→(Option Int→Hp→Prop)→Prop
noncomputable def PO(X:Cx)(e:Option Expr)(t:TO):Prop:=
 ∀(pins:List (Addr×Obj))(s:Shared)(σ:St)(H:Hp)(Q:Option Int→Hp→Prop),Inv X pins σ H s→t σ H Q→
  wpAny (model X.prog X.w) X.A (evalPart e X.env) (fun u s'=>∃o H',Inv X pins σ H' s'∧IsPart u o∧Q o H') X.xe s
noncomputable def kll:TO:=fun _ H Q=>Q none H
noncomputable def tPart(t:TE):TO:=fun σ H Q=>t σ H fun x H1=>∃i,x=.int i∧Q (some i) H1
theorem intsAre_of{ns:List Int}:∀{us:List Value},Vals (ns.map V.int) us→IntsAre us ns:=by
 induction ns with
 |nil=>intro us r;rw[Et] at r;cases r;exact .nil
 | cons n ns ih=>
  intro us r
  rw[Nv] at r
  cases r with
  |cons r1 r2=>
   obtain⟨t,e⟩:=r1
   subst e
   exact .cons n t (ih r2)
section
variable {X:Cx} {e:Expr} {te:TE} {lo hi:Option Expr} {tl th:TO} {pos p2:Pos}
theorem klx:PO X none kll:=by
 intro pins s σ H Q I h
 rw[evalPart_none]
 exact wpAny_pure ⟨none,H,I, .none,h⟩
theorem kgL(h:PE X e te):PO X (some e) (tPart te):=by
 intro pins s σ H Q I hw
 rw[evalPart_some]
 refine thn (h pins s σ H _ I hw) fun u s1 ⟨x,H1,I1,r1,q1⟩=>?_
 obtain⟨i,rfl,q⟩:=q1
 obtain⟨t,rfl⟩:=r1
 exact⟨some i,H1,I1, .int i t,q⟩
noncomputable def SlR(X:Cx)(r:V→Option Int→Option Int→Hp→VK→Prop):Prop:=
 ∀(pins:List (Addr×Obj))(s:Shared)(σ:St)(H:Hp)(x:V)(v vl vu:Value)(lo hi:Option Int)(sl:Addr)(Q:VK),Inv X pins σ H s→RelV x v→s.heap.IsSliceOf sl vl vu .none→IsPart vl lo→IsPart vu hi→r x lo hi H Q→
  ∃T id,typeLookup (.type T) "__getitem__"=pure (some (.builtin id))∧s.TypeIs v T∧wpAny (model X.prog X.w) X.A (getItem v (.ref sl)) (EP X pins σ Q) X.xe s
theorem SlR.or{r r':V→Option Int→Option Int→Hp→VK→Prop}(h:SlR X r)(h':SlR X r'):SlR X (fun x lo hi H Q=>r x lo hi H Q∨r' x lo hi H Q):=by
 intro pins s σ H x v vl vu lo hi sl Q I rx hs pl pu q
 rcases q with q|q
 ·exact h pins s σ H x v vl vu lo hi sl Q I rx hs pl pu q
 ·exact h' pins s σ H x v vl vu lo hi sl Q I rx hs pl pu q
noncomputable def tSl(r:V→Option Int→Option Int→Hp→VK→Prop)(te:TE)(tl th:TO):TE:=fun σ H Q=>te σ H fun x H1=>tl σ H1 fun l H2=>th σ H2 fun u H3=>r x l u H3 Q
theorem khp{r:V→Option Int→Option Int→Hp→VK→Prop}(hr:SlR X r)(he:PE X e te)(hl:PO X lo tl)(hu:PO X hi th):PE X (.Subscript e (.Slice lo hi none p2) pos) (tSl r te tl th):=by
 intro pins s σ H Q I h
 refine Subscript_ (thn (he pins s σ H _ I h) fun v s1 ⟨x,H1,I1,r1,q1⟩=>?_)
 refine wpAny_Slice (thn (hl pins s1 σ H1 _ I1 q1) fun vl s2 ⟨l,H2,I2,pl,q2⟩=>thn (hu pins s2 σ H2 _ I2 q2) fun vu s3 ⟨u,H3,I3,pu,q3⟩=>?_)
 rw[evalPart_none]
 refine wpAny_pure ?_
 have I4:Inv X pins σ H3 {s3 with heap:=s3.heap.push {cls:=.type "slice",data:=.fields #[vl,vu, .none]}}:=I3.kept (t':=s3.toks) fun b ob q=>Heap.get?_push_of_some _ q
 obtain⟨T,id,hT,ht,hg⟩:=hr pins {s3 with heap:=s3.heap.push {cls:=.type "slice",data:=.fields #[vl,vu, .none]}} σ H3 x v vl vu l u s3.heap.objs.size Q I4 r1 (Heap.IsSliceOf.new ..) pl pu q3
 show wpAny (model X.prog X.w) X.A (subscriptTail e (.Slice lo hi none p2) v (.ref s3.heap.objs.size)) (EP X pins σ Q) X.xe {s3 with heap:=s3.heap.push {cls:=.type "slice",data:=.fields #[vl,vu, .none]}}
 exact tail_any (ops:=[.ref s3.heap.objs.size,v]) ht hT hg (by with_unfolding_all rfl)
noncomputable def cutV(xs:List V)(lo hi:Option Int):List V:=(xs.drop (HT.sIx xs.length 0 lo)).take (HT.sIx xs.length xs.length hi-HT.sIx xs.length 0 lo)
theorem kgY(xs:List V)(lo hi:Option Int):(cutV xs lo hi).length≤xs.length:=by
 unfold cutV
 rw[Nt,MU]
 omega
end
end L2
namespace L2
open PySem PySem.Spec PyProof.Rows
noncomputable def ixN(n:Nat)(i:Int):Option Nat:=if 0≤i then(if i<n then some i.toNat else none) else if -(n:Int)≤i then some (i+n).toNat else none
noncomputable def atI{α:Type}(xs:List α)(i:Int):Option α:=(ixN xs.length i).bind fun j=>xs[j]?
def kji{n:Nat}{i:Int}{j:Nat}(h:ixN n i=some j):seqIndex? i n=some j∧j<n∧-(n:Int)≤i∧i<n:=by
 unfold ixN at h
 by_cases h0:0≤i
 ·rw[if_pos h0] at h
  by_cases h1:i<n
  ·rw[if_pos h1] at h
   have e:i.toNat=j:=Option.some.inj h
   exact⟨by rw[seqIndex_of h0 h1,e],by omega,by omega,h1⟩
  ·rw[if_neg h1] at h;cases h
 ·rw[if_neg h0] at h
  by_cases h1: -(n:Int)≤i
  ·rw[if_pos h1] at h
   have e:(i+n).toNat=j:=Option.some.inj h
   exact⟨by rw[seqIndex_neg (by omega) h1,e],by omega,h1,by omega⟩
  ·rw[if_neg h1] at h;cases h
theorem kjK{α:Type}{xs:List α}{i:Int}{v: α}(h:atI xs i=some v):∃j,seqIndex? i xs.length=some j∧xs[j]?=some v∧j<xs.length∧-(xs.length:Int)≤i∧i<xs.length:=by
 unfold atI at h
 cases e:ixN xs.length i with
 |none=>rw[e] at h;cases h
 |some j=>
  rw[e] at h
  obtain⟨h1,h2,h3,h4⟩:=kji e
  exact⟨j,h1,h,h2,h3,h4⟩
def kbe{α:Type}{xs:List α}{j:Nat}{v: α}(h:xs[j]?=some v):atI xs (j:Int)=some v:=by
 have hj:j<xs.length:=(Nh.mp h).1
 have e:ixN xs.length (j:Int)=some j:=by
  unfold ixN
  rw[if_pos (by omega),if_pos (by omega)];simp
 unfold atI;rw[e];exact h
noncomputable def kl0(b:Expr):Prop:=∀o i,subscripted b false o i=operate [o,i] (getItem o i)
noncomputable def IxR(X:Cx)(r:R2):Prop:=
 ∀(value slice:Expr)(pins:List (Addr×Obj))(s:Shared)(σ:St)(H:Hp)(x y:V)(v u:Value)(Q:VK),Inv X pins σ H s→RelV x v→RelV y u→r x y H Q→
  subscripted slice false v u=operate [v,u] (getItem v u)→wpAny (model X.prog X.w) X.A (subscriptTail value slice v u) (EP X pins σ Q) X.xe s
noncomputable def MtR(X:Cx)(id:String)(r:V→List V→Hp→VK→Prop):Prop:=
 ∀(pins:List (Addr×Obj))(s:Shared)(σ:St)(H:Hp)(x:V)(xs:List V)(v:Value)(us:List Value)(Q:VK),Inv X pins σ H s→RelV x v→Vals xs us→r x xs H Q→
  wpAny (model X.prog X.w) X.A (call (.builtin id) (v::us)) (EP X pins σ Q) X.xe s
section
variable {X:Cx} {a b:Expr} {ta tb:TE} {pos:Pos}
theorem IxR.or{r r':R2}(h:IxR X r)(h':IxR X r'):IxR X (fun x y H Q=>r x y H Q∨r' x y H Q):=by
 intro value slice pins s σ H x y v u Q I rx ry q hs
 rcases q with q|q
 ·exact h value slice pins s σ H x y v u Q I rx ry q hs
 ·exact h' value slice pins s σ H x y v u Q I rx ry q hs
theorem MtR.or{id:String}{r r':V→List V→Hp→VK→Prop}(h:MtR X id r)(h':MtR X id r'):MtR X id (fun x xs H Q=>r x xs H Q∨r' x xs H Q):=by
 intro pins s σ H x xs v us Q I rx rs q
 rcases q with q|q
 ·exact h pins s σ H x xs v us Q I rx rs q
 ·exact h' pins s σ H x xs v us Q I rx rs q
theorem pe_ix{r:R2}(hr:IxR X r)(ha:PE X a ta)(hb:PE X b tb)(hs:kl0 b):PE X (.Subscript a b pos) (tOp r ta tb):=by
 intro pins s σ H Q I h
 exact Subscript_ (binT ha hb I h fun v u s2 x y H2 I2 rx ry q=>hr a b pins s2 σ H2 x y v u Q I2 rx ry q (hs _ _))
noncomputable def rIxL(K:JZ):R2:=fun x y H Q=>∃p xs i v,x=.ref p∧y=.int i∧SqL K H p xs∧atI xs i=some v∧Q v H
noncomputable def rIxT(K:JZ):R2:=fun x y H Q=>∃p xs i v,x=.ref p∧y=.int i∧SqT K H p xs∧atI xs i=some v∧Q v H
theorem kaG:IxR X (rIxL X.K):=by
 intro value slice pins s σ H x y v u Q I rx ry h hs
 obtain⟨p,xs,i,z,rfl,rfl,hq,he,q⟩:=h
 cases rx
 obtain⟨t,rfl⟩:=ry
 obtain⟨its,r,pl,hz⟩:=I.list hq
 obtain⟨j,h1,h2,h3,h4,h5⟩:=kjK he
 obtain⟨w,ew,rw'⟩:=r.get h2
 have hl:=r.length
 have hn:=kgf
 have fin:EP X pins σ Q w s:=⟨z,H,I,rw',q⟩
 by_cases h0:0≤i
 ·have hj:i.toNat=j:=by
   rw[seqIndex_of h0 h5] at h1
   exact Option.some.inj h1
  exact item_listR pl.isList h0 (by omega) (by rw[hj];simpa using ew) fin hs
 ·have hj:(i+(its.toArray.size:Int)).toNat=j:=by
   rw[seqIndex_neg (by omega) h4] at h1
   rw[Nk,←hl]
   exact Option.some.inj h1
  exact subscriptTail_builtinR (x:=w) pl.isList.typeIs slot_list_getitem.lookup
   (wpAny_getItem_list_neg (Q:=fun r s'=>r=w∧EP X pins σ Q r s') pl.isList (by omega) (by rw[Nk] <;> omega) (by omega) (by rw[hj];simpa using ew) ⟨rfl,fin⟩) hs
theorem kew:IxR X (rIxT X.K):=by
 intro value slice pins s σ H x y v u Q I rx ry h hs
 obtain⟨p,xs,i,z,rfl,rfl,hq,he,q⟩:=h
 cases rx
 obtain⟨t,rfl⟩:=ry
 obtain⟨its,r,pl,hz⟩:=I.tuple hq
 obtain⟨j,h1,h2,h3,h4,h5⟩:=kjK he
 obtain⟨w,ew,rw'⟩:=r.get h2
 have hl:=r.length
 have hn:=kgf
 have fin:EP X pins σ Q w s:=⟨z,H,I,rw',q⟩
 exact subscriptTail_builtinR (x:=w) pl.typeIs slot_tuple_getitem.lookup
  (getItem_tuple (j:=j) (Q:=fun r s'=>r=w∧EP X pins σ Q r s') pl (by omega) (by omega) (by rw[Nk,←hl];exact h1) (by simpa using ew) ⟨rfl,fin⟩) hs
theorem khZ(its:List Value)(n j:Nat)(u:Value):Obj.mapSeq (·.setIfInBounds j u) {cls:=.type "list",data:=.seq its.toArray n}= {cls:=.type "list",data:=.seq (its.set j u).toArray n}:=by
 simp[Obj.mapSeq]
theorem Inv.lst{pins:List (Addr×Obj)}{σ:St}{H:Hp}{s:Shared}{p:Addr}{xs:List V}(I:Inv X pins σ H s)(h:H p=some (.lst xs)):
  ∃(its:List Value)(n:Nat),Vals xs its∧s.heap.get? p=some {cls:=.type "list",data:=.seq its.toArray n}∧xs.length≤sizeLine:=by
 obtain⟨z,its,n,r,e⟩:=I.hok p _ h
 exact⟨its,n,r,e,z⟩
theorem Inv.lstUpd{pins:List (Addr×Obj)}{σ:St}{H:Hp}{s:Shared}{p:Addr}{xs ys:List V}{its its':List Value}{n n':Nat}{f:Obj→Obj}(I:Inv X pins σ H s)(h:H p=some (.lst xs))
  (ho:s.heap.get? p=some {cls:=.type "list",data:=.seq its.toArray n}) (hf:f {cls:=.type "list",data:=.seq its.toArray n}= {cls:=.type "list",data:=.seq its'.toArray n'}) (r:Vals ys its') (hz:ys.length≤sizeLine) (t:Nat):
  Inv X pins σ (upd H p (.lst ys)) {s with heap:=s.heap.update p f,toks:=t}:=by
 have e:(s.heap.update p f).get? p=some {cls:=.type "list",data:=.seq its'.toArray n'}:=by
  rw[Heap.get?_update_self f ho (by rw[hf] <;> rfl),hf]
 refine I.write (x:=p) (e:=p) (by rw[h];trivial) (.inl rfl) (fun b u hb q=>(Heap.get?_update_other _ _ (Ne.symm hb)).trans q) ⟨_,e⟩ ?_
 exact⟨hz,its',n',r,e⟩
noncomputable def rSetL:V→V→V→Hp→(Hp→Prop)→Prop:=fun o i v H Q=>∃p xs k j,o=.ref p∧i=.int k∧H p=some (.lst xs)∧ixN xs.length k=some j∧Q (upd H p (.lst (xs.set j v)))
theorem set_list:PSet X rSetL:=by
 intro pins s σ H o i v ov iv u Q I ro ri rv h
 obtain⟨p,xs,k,j,rfl,rfl,hp,hj,q⟩:=h
 cases ro
 obtain⟨t,rfl⟩:=ri
 obtain⟨its,n,r,ho,hz⟩:=I.lst hp
 obtain⟨h1,h2,h3,h4⟩:=kji hj
 have hl:=r.length
 have hn:=kgf
 have I':Inv X pins σ (upd H p (.lst (xs.set j v))) {s with heap:=s.heap.update p (Obj.mapSeq (·.setIfInBounds j u))}:=
  I.lstUpd hp ho (khZ its n j u) (r.set rv j) (by rw[Eu];exact hz) s.toks
 by_cases h0:0≤k
 ·have hk:k.toNat=j:=by
   rw[seqIndex_of h0 h4] at h1
   exact Option.some.inj h1
  exact PySem.W.ki_setAt ho h0 (by omega) (by rw[Nk,←hl];exact h4) (by rw[hk];exact⟨_,I',q⟩)
 ·have hk:(k+(its.toArray.size:Int)).toNat=j:=by
   rw[seqIndex_neg (by omega) h3] at h1
   rw[Nk,←hl]
   exact Option.some.inj h1
  exact PySem.W.ki_setBack ho (by omega) (by rw[Nk,←hl];exact h3) (by omega) (by rw[hk];exact⟨_,I',q⟩)
theorem kfU(lo hi:Option Int)(n:Nat):(sliceBounds lo hi none n).1=((HT.sIx n 0 lo:Nat):Int)∧(sliceBounds lo hi none n).2.1=((HT.sIx n n hi:Nat):Int)∧(sliceBounds lo hi none n).2.2=1:=by
 refine⟨?_,?_,rfl⟩
 ·cases lo with
  |none=>simp[sliceBounds,HT.sIx]
  |some i=>
   simp only[sliceBounds,HT.sIx,Ew,show(1:Int) > 0 by decide,if_true]
   by_cases h:i<0
   ·simp only[h,if_true] <;> omega
   ·simp only[h,if_false] <;> omega
 ·cases hi with
  |none=>simp[sliceBounds,HT.sIx]
  |some i=>
   simp only[sliceBounds,HT.sIx,Ew,show(1:Int) > 0 by decide,if_true]
   by_cases h:i<0
   ·simp only[h,if_true] <;> omega
   ·simp only[h,if_false] <;> omega
theorem kfd(its:List Value)(lo hi:Option Int):slicePick its.toArray lo hi none=((its.drop (HT.sIx its.length 0 lo)).take (HT.sIx its.length its.length hi-HT.sIx its.length 0 lo)).toArray:=by
 obtain⟨h1,h2,h3⟩:=kfU lo hi its.toArray.size
 unfold slicePick
 rw[h1,h2,h3]
 simp only[sliceRange_one,pick_run,Nk] <;> rfl
noncomputable def rSlL(K:JZ):V→Option Int→Option Int→Hp→VK→Prop:=fun x lo hi H Q=>∃a xs,x=.ref a∧SqL K H a xs∧∀p,H p=none→Q (.ref p) (upd H p (.lst (cutV xs lo hi)))
theorem kiF:SlR X (rSlL X.K):=by
 intro pins s σ H x v vl vu lo hi sl Q I rx hs pl pu h
 obtain⟨a,xs,rfl,hx,q⟩:=h
 cases rx
 obtain⟨its,r,ht,hz⟩:=I.list hx
 have hlen:=r.length
 refine⟨"list",_,slot_list_getitem.lookup,ht.isList.typeIs,?_⟩
 refine wpAny_getItem_list_slice ht.isList hs pl pu .none (by simp) ?_ (by rw[Nk] <;> omega)
 rw[kfd,←hlen]
 refine⟨.ref s.heap.objs.size,_,I.laid (t':=s.toks) (o:=.lst (cutV xs lo hi)) (fun b ob q=>Heap.get?_push_of_some _ q) (J4 _) ?_,rfl,q _ (I.hok.fresh (J4 _))⟩
 exact⟨J5 (kgY xs lo hi) hz,_,0,(r.drop (HT.sIx xs.length 0 lo)).take (HT.sIx xs.length xs.length hi-HT.sIx xs.length 0 lo),Heap.get?_push_size _ rfl⟩
noncomputable def flatV:V→Bool
 | .non=>true
 | .bl _=>true
 | .int _=>true
 | .str _=>true
 |_=>false
noncomputable def eqV:V→V→Bool
 | .non, .non=>true
 | .bl a, .bl b=>a==b
 | .bl a, .int b=>(if a then 1 else 0)==b
 | .int a, .bl b=>a==(if b then 1 else 0)
 | .int a, .int b=>a==b
 | .str a, .str b=>a==b
 |_,_=>false
theorem kk5{A:Around}{s:Shared}{y x:V}{u v:Value}(ry:RelV y u)(rx:RelV x v)(fy:flatV y=true)(fx:flatV x=true):SeqAt.EqAt A s u v (eqV y x):=by
 cases y with
 |non=>
  cases ry
  cases x with
  |non=>cases rx;exact SeqAt.EqAt.same _
  |bl b=>cases rx;exact SeqAt.EqAt.none_bool b
  |int b=>obtain⟨t,rfl⟩:=rx;exact SeqAt.EqAt.none_int b t
  |str b=>obtain⟨t,rfl⟩:=rx;exact SeqAt.EqAt.none_str b t
  |_=>exact absurd (show false=true from fx) Na
 |bl a=>
  cases ry
  cases x with
  |non=>cases rx;exact SeqAt.EqAt.bool_none a
  |bl b=>cases rx;exact SeqAt.EqAt.bool_bool a b
  |int b=>obtain⟨t,rfl⟩:=rx;exact SeqAt.EqAt.bool_int a b t
  |str b=>obtain⟨t,rfl⟩:=rx;exact SeqAt.EqAt.bool_str a b t
  |_=>exact absurd (show false=true from fx) Na
 |int a=>
  obtain⟨t',rfl⟩:=ry
  cases x with
  |non=>cases rx;exact SeqAt.EqAt.int_none a t'
  |bl b=>cases rx;exact SeqAt.EqAt.int_bool a t' b
  |int b=>obtain⟨t,rfl⟩:=rx;exact SeqAt.EqAt.int_int a t' b t
  |str b=>obtain⟨t,rfl⟩:=rx;exact SeqAt.EqAt.int_str a t' b t
  |_=>exact absurd (show false=true from fx) Na
 |str a=>
  obtain⟨t',rfl⟩:=ry
  cases x with
  |non=>cases rx;exact SeqAt.EqAt.str_none a t'
  |bl b=>cases rx;exact SeqAt.EqAt.str_bool a t' b
  |int b=>obtain⟨t,rfl⟩:=rx;exact SeqAt.EqAt.str_int a t' b t
  |str b=>obtain⟨t,rfl⟩:=rx;exact SeqAt.EqAt.str_str a t' b t
  |_=>exact absurd (show false=true from fx) Na
 |_=>exact absurd (show false=true from fy) Na
noncomputable def eqU(x:V)(u:Value):Bool:=match u with
 | .none=>eqV .non x
 | .bool b=>eqV (.bl b) x
 | .int i _=>eqV (.int i) x
 | .str z _=>eqV (.str z) x
 |_=>false
theorem kk4{x y:V}{u:Value}(r:RelV y u)(f:flatV y=true):eqU x u=eqV y x:=by
 cases y with
 |non=>cases r;rfl
 |bl b=>cases r;rfl
 |int i=>obtain⟨t,rfl⟩:=r;rfl
 |str z=>obtain⟨t,rfl⟩:=r;rfl
 |_=>exact absurd (show false=true from f) Na
theorem keH{x:V}:∀{xs:List V}{us:List Value},Vals xs us→xs.all flatV=true→us.any (eqU x)=xs.any fun y=>eqV y x
 |_,_, .nil,_=>rfl
 |y::xs,u::us, .cons r t,f=>by
  rw[List.all_cons,N9] at f
  rw[Mr,Mr,kk4 r f.1,keH t f.2]
theorem kdl{A:Around}{s:Shared}{x:V}{v:Value}(rx:RelV x v)(fx:flatV x=true):∀{xs:List V}{us:List Value},Vals xs us→xs.all flatV=true→∀u∈us,SeqAt.EqAt A s u v (eqU x u)
 |_,_, .nil,_=>fun u hu=>by cases hu
 |y::xs,u::us, .cons r t,f=>fun u' hu=>by
  rw[List.all_cons,N9] at f
  rcases Nl.mp hu with rfl|hu
  ·rw[kk4 r f.1];exact kk5 r rx f.1 fx
  ·exact kdl rx fx t f.2 u' hu
noncomputable def inV(x:V)(xs:List V):Bool:=xs.any fun y=>eqV y x
noncomputable def rIn(K:JZ)(neg:Bool):R2:=fun x y H Q=>∃p xs,y=.ref p∧(SqL K H p xs∨SqT K H p xs)∧flatV x=true∧xs.all flatV=true∧Q (.bl (if neg then !inV x xs else inV x xs)) H
theorem kcE:OpR X (compareOp .In) (rIn X.K false):=by
 intro pins s σ H x y v u Q I rx ry h
 obtain⟨p,xs,rfl,hq,fx,fs,q⟩:=h
 cases ry
 rcases hq with hq|hq
 ·obtain⟨its,r,pl,hz⟩:=I.list hq
  refine SeqAt.in_listAt (eqU x) pl.isList (fun w hw=>kdl rx fx r fs w (by simpa using hw)) ⟨.bl _,H,I,rfl,?_⟩
  rw[show its.toArray.any (eqU x)=its.any (eqU x) by simp,keH r fs]
  exact q
 ·obtain⟨its,r,pl,hz⟩:=I.tuple hq
  refine SeqAt.in_tupleAt (eqU x) pl (fun w hw=>kdl rx fx r fs w (by simpa using hw)) ⟨.bl _,H,I,rfl,?_⟩
  rw[show its.toArray.any (eqU x)=its.any (eqU x) by simp,keH r fs]
  exact q
theorem kf6:OpR X (compareOp .NotIn) (rIn X.K true):=by
 intro pins s σ H x y v u Q I rx ry h
 obtain⟨p,xs,rfl,hq,fx,fs,q⟩:=h
 cases ry
 rcases hq with hq|hq
 ·obtain⟨its,r,pl,hz⟩:=I.list hq
  refine SeqAt.notIn_listAt (eqU x) pl.isList (fun w hw=>kdl rx fx r fs w (by simpa using hw)) ⟨.bl _,H,I,rfl,?_⟩
  rw[show its.toArray.any (eqU x)=its.any (eqU x) by simp,keH r fs]
  exact q
 ·obtain⟨its,r,pl,hz⟩:=I.tuple hq
  refine SeqAt.notIn_tupleAt (eqU x) pl (fun w hw=>kdl rx fx r fs w (by simpa using hw)) ⟨.bl _,H,I,rfl,?_⟩
  rw[show its.toArray.any (eqU x)=its.any (eqU x) by simp,keH r fs]
  exact q
theorem kaz:CallR X (.builtin "len") (fun xs H Q=>∃p ys,xs=[.ref p]∧(SqL X.K H p ys∨SqT X.K H p ys)∧Q (.int ys.length) H):=by
 intro pins s σ H xs us Q I r h
 obtain⟨p,ys,rfl,hq,q⟩:=h
 obtain⟨u,rfl,rx⟩:=vals1 r
 cases rx
 have hn:=kgf
 rcases hq with hq|hq
 ·obtain⟨its,r',pl,hz⟩:=I.list hq
  have hlen:=r'.length
  exact Calls.call_len_list pl.isList (by simp only[Nk] <;> omega) ⟨.int ys.length,H,I.tok _,⟨s.toks+1,by rw[Nk,hlen]⟩,q⟩
 ·obtain⟨its,r',pl,hz⟩:=I.tuple hq
  have hlen:=r'.length
  exact len_tuple pl (by simp only[Nk] <;> omega) ⟨.int ys.length,H,I.tok _,⟨s.toks+1,by rw[Nk,hlen]⟩,q⟩
theorem CallR.or{f:Value}{r r':List V→Hp→VK→Prop}(h:CallR X f r)(h':CallR X f r'):CallR X f (fun xs H Q=>r xs H Q∨r' xs H Q):=by
 intro pins s σ H xs us Q I rs q
 rcases q with q|q
 ·exact h pins s σ H xs us Q I rs q
 ·exact h' pins s σ H xs us Q I rs q
theorem kaC:CallR X (.type "list") (fun xs H Q=>∃p ys,xs=[.ref p]∧(SqL X.K H p ys∨SqT X.K H p ys)∧∀l,H l=none→Q (.ref l) (upd H l (.lst ys))):=by
 intro pins s σ H xs us Q I r h
 obtain⟨p,ys,rfl,hq,q⟩:=h
 obtain⟨u,rfl,rx⟩:=vals1 r
 cases rx
 have fin:∀(its:List Value),Vals ys its→ys.length≤sizeLine→∀(h':Heap)(c':Nat),(∀b o',s.heap.get? b=some o'→h'.get? b=some o')→
   h'.get? s.heap.objs.size=some {cls:=.type "list",dict:=none,data:=.seq its.toArray c',slots:=#[]}→EP X pins σ Q (.ref s.heap.objs.size) {s with heap:=h'}:=fun its r' hz h' c' kp e=>
  ⟨.ref s.heap.objs.size,_,I.laid (t':=s.toks) kp (J4 _) (show ObjOk X.prog X.w _ h' _ (.lst ys) from⟨hz,its,c',r',e⟩),rfl,q _ (I.hok.fresh (J4 _))⟩
 rcases hq with hq|hq
 ·obtain⟨its,r',pl,hz⟩:=I.list hq
  have hlen:=r'.length
  obtain⟨o,ho,hc,n,hd⟩:=pl.isList
  exact call_list_seq p (.inl rfl) ho hc hd (fun h' c' kp e=>fin its r' hz h' c' kp e) (by simp only[Nk] <;> omega)
 ·obtain⟨its,r',pl,hz⟩:=I.tuple hq
  have hlen:=r'.length
  obtain⟨o,ho,hc,n,hd⟩:=pl
  exact call_list_seq p (.inr rfl) ho hc hd (fun h' c' kp e=>fin its r' hz h' c' kp e) (by simp only[Nk] <;> omega)
noncomputable def tyV(K:JZ)(T:String)(x:V)(H:Hp):Prop:=match x with
 | .str _=>T="str"
 | .int _=>T="int"
 | .ref p=>(T="list"∧∃xs,SqL K H p xs)∨(T="tuple"∧∃o,K.lookup p=some o∧o.cls=.type "tuple"∧o.dict=none)∨
   (T="dict"∧((∃kvs,H p=some (.dK kvs))∨∃kvs,H p=some (.dT kvs)))∨(T="set"∧∃S n,H p=some (.set S n))
 |_=>False
theorem kid{pins:List (Addr×Obj)}{σ:St}{H:Hp}{s:Shared}{T:String}{x:V}{v:Value}(I:Inv X pins σ H s)(r:RelV x v)(ty:tyV X.K T x H):
  s.TypeIs v T∧∀a,v=.ref a→∃ob,s.heap.get? a=some ob∧ob.dict=none:=by
 cases x with
 |str z=>
  obtain⟨t,rfl⟩:=r
  cases(show T="str" from ty)
  exact⟨typeIs_str s z t,fun _ e=>nomatch e⟩
 |int i=>
  obtain⟨t,rfl⟩:=r
  cases(show T="int" from ty)
  exact⟨typeIs_int s i t,fun _ e=>nomatch e⟩
 | ref p=>
  cases r
  rcases ty with⟨rfl,xs,hq⟩|⟨rfl,o,hk,hc,hd⟩|⟨rfl,hk⟩|⟨rfl,S,n,hk⟩
  ·obtain⟨its,_,pl,_⟩:=I.list hq
   refine⟨pl.isList.typeIs,fun a e=>?_⟩
   cases e
   obtain⟨o,n,e,c,hd,_⟩:=pl
   exact⟨o,e,hd⟩
  ·refine⟨⟨o,I.kIn p o hk,hc⟩,fun a e=>?_⟩
   cases e
   exact⟨o,I.kIn _ o hk,hd⟩
  ·have z:∃o,s.heap.get? p=some o∧o.ExactDict:=by
    rcases hk with⟨kvs,hk⟩|⟨kvs,hk⟩
    ·obtain⟨_,_,_,_,o,_,_,e,ex,_⟩:=I.hok p _ hk
     exact⟨o,e,ex⟩
    ·obtain⟨_,_,_,_,o,_,_,e,ex,_⟩:=I.hok p _ hk
     exact⟨o,e,ex⟩
   obtain⟨o,e,ex⟩:=z
   refine⟨⟨o,e,ex.1⟩,fun a e2=>?_⟩
   cases e2
   exact⟨o,e,ex.2.1⟩
  ·obtain⟨o,_,_,_,e,ex,_⟩:=I.hok p _ hk
   refine⟨⟨o,e,ex.1⟩,fun a e2=>?_⟩
   cases e2
   exact⟨o,e,ex.2.1⟩
 |_=>exact False.elim ty
noncomputable def tBM0(K:JZ)(T:String)(r:V→List V→Hp→VK→Prop)(to:TE):TE:=fun σ H Q=>to σ H fun x H1=>tyV K T x H1∧r x [] H1 Q
noncomputable def tBM(K:JZ)(T:String)(r:V→List V→Hp→VK→Prop)(to:TE)(t:TA):TE:=fun σ H Q=>to σ H fun x H1=>tyV K T x H1∧t σ H1 fun xs H2=>r x xs H2 Q
variable {o e:Expr} {es:List Expr} {to:TE} {t:TA} {name:Str} {apos cpos:Pos} {T id:String} {r:V→List V→Hp→VK→Prop}
theorem ki0(pa:PlainAttrs T)(slot:Slot T name id)(hty:typeOf (.builtin id)=pure (.type "method_descriptor"))(hm:MtR X id r)(ho:PE X o to)
  (hbase:attributeBase o name X.env (eval o X.env)=eval o X.env:=by rfl) (hline:(apos.endLine==cpos.line)=true:=by rfl):PE X (.Call (.Attribute o name apos) [] [] cpos) (tBM0 X.K T r to):=by
 intro pins s σ H Q I h
 refine wpAny_Call_method0_late hbase hline (thn (ho pins s σ H _ I h) fun v s1 ⟨x,H1,I1,r1,ty,q1⟩=>?_)
 obtain⟨h1,h2⟩:=kid I1 r1 ty
 exact⟨T,id,pa,slot,hty,h1,h2,Calls.callWith_builtin rfl (PySem.evalArgs_none (hm pins s1 σ H1 x [] v [] Q I1 r1 .nil q1))⟩
theorem pe_bm(pa:PlainAttrs T)(slot:Slot T name id)(hty:typeOf (.builtin id)=pure (.type "method_descriptor"))(hm:MtR X id r)(ho:PE X o to)(ha:PA X (e::es) t)
  (hbase:attributeBase o name X.env (eval o X.env)=eval o X.env:=by rfl)
  (hfew:((backTo cpos (starEach (e::es) X.env)).all (fun x=>!x.1)&&(backToKw cpos (keywordEach [] X.env)).all (fun x=>x.1.isSome)
   &&decide ((e::es).length+([]:List Keyword).length+(if([]:List Keyword).isEmpty then 0 else 1)<30))=true:=by rfl)
  (hline:(apos.endLine==cpos.line)=true:=by rfl) (hs:starEach (e::es) X.env=(false,eval e X.env)::starEach es X.env:=by rfl) (hplain:(backTo cpos (starEach es X.env)).any (·.1)=false:=by rfl):
  PE X (.Call (.Attribute o name apos) (e::es) [] cpos) (tBM X.K T r to t):=by
 intro pins s σ H Q I h
 refine wpAny_Call_method_late hbase hfew hline rfl (thn (ho pins s σ H _ I h) fun v s1 ⟨x,H1,I1,r1,ty,q1⟩=>?_)
 obtain⟨h1,h2⟩:=kid I1 r1 ty
 refine⟨T,id,pa,slot,hty,h1,h2,?_⟩
 have hA:=ha cpos pins s1 σ H1 _ I1 q1
 rw[hs] at hA⊢
 refine Calls.callWith_builtin (by show(false||(backTo cpos (starEach es X.env)).any (·.1))=false;rw[hplain] <;> rfl) (Calls.evalArgs_plain ?_)
 exact thn hA fun us s2 ⟨vs,H2,I2,r2,q2⟩=>hm pins s2 σ H2 x vs v us Q I2 r1 r2 q2
end
end L2
namespace L2
open PySem PySem.Spec PyProof.Rows
noncomputable def MtM(X:Cx)(id:String)(r:V→List V→Hp→VK→Prop):Prop:=
 ∀(pins:List (Addr×Obj))(s:Shared)(σ:St)(H:Hp)(x:V)(xs:List V)(v:Value)(us:List Value)(Q:VK),Inv X pins σ H s→RelV x v→Vals xs us→r x xs H Q→
  wpAny (model X.prog X.w) X.A (call (.builtin id) (v::us)) (EP X pins σ Q) X.xe s
theorem Vals.one:∀{x:V}{us:List Value},Vals [x] us→∃u,us=[u]∧RelV x u
 |_,_, .cons r .nil=>⟨_,rfl,r⟩
theorem Vals.two:∀{x y:V}{us:List Value},Vals [x,y] us→∃u v,us=[u,v]∧RelV x u∧RelV y v
 |_,_,_, .cons r (.cons q .nil)=>⟨_,_,rfl,r,q⟩
theorem Vals.zero:∀{us:List Value},Vals [] us→us=[]
 |_, .nil=>rfl
theorem Vals.dropLast{xs:List V}{us:List Value}(h:Vals xs us):Vals xs.dropLast us.dropLast:=by
 induction h with
 |nil=>exact .nil
 |cons r t ih=>
  cases t with
  |nil=>exact .nil
  |cons q t'=>exact .cons r ih
theorem Vals.eraseIdx:∀{xs:List V}{us:List Value}(i:Nat),Vals xs us→Vals (xs.eraseIdx i) (us.eraseIdx i)
 |_,_,_, .nil=>.nil
 |_,_,0, .cons _ t=>t
 |_,_,i+1, .cons r t=>.cons r (Vals.eraseIdx i t)
theorem Vals.reverse{xs:List V}{us:List Value}(h:Vals xs us):Vals xs.reverse us.reverse:=by
 induction h with
 |nil=>exact .nil
 |cons r t ih=>rw[Mw,Mw];exact Vals.append ih (.cons r .nil)
theorem Vals.rep{xs:List V}{us:List Value}(h:Vals xs us):∀k:Nat,Vals (J6 k xs).flatten (J6 k us).flatten
 |0=>.nil
 |k+1=>by
  rw[Ml,Ml,NC,NC]
  exact Vals.append h (Vals.rep h k)
theorem kh8{α:Type}(l:List α):l.eraseIdx (l.length-1)=l.dropLast:=by
 induction l with
 |nil=>rfl
 | cons a r ih=>
  cases r with
  |nil=>rfl
  | cons b r=>
   have e:(a::b::r).length-1=((b::r).length-1)+1:=by
    have h1:(a::b::r).length=r.length+2:=rfl
    have h2:(b::r).length=r.length+1:=rfl
    omega
   rw[e,List.eraseIdx_cons_succ,ih]
   all_goals rfl
theorem foldl_rep(its:List Value):∀(k:Nat)(acc:List Value),
  List.foldl (fun x1 x2=>x1++x2) acc.toArray (J6 k its.toArray)=(acc++(J6 k its).flatten).toArray
 |0,acc=>by simp
 | k+1,acc=>by
  have e:acc.toArray++its.toArray=(acc++its).toArray:=by simp
  have e2:(acc++its)++(J6 k its).flatten=acc++(J6 (k+1) its).flatten:=by
   rw[Ml,NC,Mm]
  rw[←e2,←foldl_rep its k (acc++its),←e,Ml,List.foldl_cons]
section
variable {X:Cx} {pins:List (Addr×Obj)} {σ:St} {H:Hp} {s:Shared} {l b:Addr} {xs ys zs:List V}
theorem Inv.lset{its its':List Value}{n:Nat}{f:Array Value→Array Value}{t':Nat}(I:Inv X pins σ H s)(hH:H l=some (.lst xs))
  (e:s.heap.get? l=some {cls:=.type "list",data:=.seq its.toArray n}) (hf:f its.toArray=its'.toArray) (hv:Vals ys its') (hz:ys.length≤sizeLine):
  Inv X pins σ (upd H l (.lst ys)) {s with heap:=s.heap.update l (Obj.mapSeq f),toks:=t'}:=by
 have q:=PySem.IsL.update e f
 rw[hf] at q
 refine I.write (x:=l) (e:=l) (by rw[hH];exact trivial) (.inl rfl) (fun b' u hb hu=>(Heap.get?_update_other s.heap (Obj.mapSeq f) (Ne.symm hb)).trans hu) ⟨_,q⟩ ?_
 exact⟨hz,its',_,hv,q⟩
theorem Inv.lnew{its:List Value}{t':Nat}(I:Inv X pins σ H s)(hv:Vals ys its)(hz:ys.length≤sizeLine):
  Inv X pins σ (upd H s.heap.objs.size (.lst ys)) {s with heap:=s.heap.push {cls:=.type "list",data:=.seq its.toArray},toks:=t'}:=
 I.laid (fun _ _ q=>Heap.get?_push_of_some _ q) (J4 _) ⟨hz,its,0,hv,Heap.get?_push_size _ rfl⟩
theorem Inv.fresh(I:Inv X pins σ H s):H s.heap.objs.size=none:=I.hok.fresh (J4 _)
theorem Inv.lstM(I:Inv X pins σ H s)(hH:H l=some (.lst xs)):xs.length≤sizeLine∧∃(its:List Value)(n:Nat),Vals xs its∧xs.length=its.length∧s.heap.get? l=some {cls:=.type "list",data:=.seq its.toArray n}:=by
 obtain⟨z,its,n,r,e⟩:=I.hok l _ hH
 exact⟨z,its,n,r,r.length,e⟩
theorem khv{n:Nat}(h:n≤sizeLine):Builtin.List.listTooLong n=false:=by
 unfold Builtin.List.listTooLong
 exact decide_eq_false (by omega)
end
section
variable {X:Cx}
noncomputable def kiO:V→List V→Hp→VK→Prop:=fun x vs H Q=>∃l xs y,x=.ref l∧vs=[y]∧H l=some (.lst xs)∧xs.length<sizeLine∧Q .non (upd H l (.lst (xs++[y])))
theorem kaW:MtM X "list.append" kiO:=by
 intro pins s σ H x vs v us Q I rx rv h
 obtain⟨l,xs,y,rfl,rfl,hH,hz,q⟩:=h
 cases rx
 obtain⟨u,rfl,ru⟩:=rv.one
 obtain⟨z,its,n,r,hl,e⟩:=I.lstM hH
 refine call_meets F.slot_list_append ⟨_,e,rfl⟩ F.entry_list_append (F.args_list_append_2 _ _) (PySem.list_append l its.toArray n u (by rw[Nk];omega)) ⟨e,?_⟩
 refine⟨.non,_,I.lset (its':=its++[u]) hH e (by simp) (r.append (.cons ru .nil)) ?_,rfl,q⟩
 rw[Np,MV]
 omega
noncomputable def klv:V→List V→Hp→VK→Prop:=fun x vs H Q=>∃l b xs zs,x=.ref l∧vs=[.ref b]∧H l=some (.lst xs)∧H b=some (.lst zs)∧xs.length+zs.length≤sizeLine∧Q .non (upd H l (.lst (xs++zs)))
theorem kgc:MtM X "list.extend" klv:=by
 intro pins s σ H x vs v us Q I rx rv h
 obtain⟨l,b,xs,zs,rfl,rfl,hH,hB,hz,q⟩:=h
 cases rx
 obtain⟨u,rfl,ru⟩:=rv.one
 cases ru
 obtain⟨z,its,n,r,hl,e⟩:=I.lstM hH
 obtain⟨z2,its2,n2,r2,hl2,e2⟩:=I.lstM hB
 have hsz:its.toArray.size+its2.toArray.size≤sizeLine:=by rw[Nk,Nk];omega
 have hlong:¬(!its.toArray.isEmpty&&Builtin.List.listTooLong (its.toArray.size+its2.toArray.size))=true:=by
  rw[khv hsz,Bool.and_false]
  exact Na
 refine call_meets F.slot_list_extend ⟨_,e,rfl⟩ F.entry_list_extend (F.args_list_extend_2 _ _)
  (AutoSeq1.list_extend_list_list_0 l its.toArray n b its2.toArray n2 hlong (by rw[Nk];omega) (by omega)) ⟨e,e2,?_⟩
 refine⟨.non,_,I.lset (its':=its++its2) hH e (by simp) (r.append r2) ?_,rfl,q⟩
 rw[Np]
 omega
noncomputable def rPop:V→List V→Hp→VK→Prop:=fun x vs H Q=>∃l xs y,x=.ref l∧vs=[]∧H l=some (.lst xs)∧xs[xs.length-1]?=some y∧Q y (upd H l (.lst xs.dropLast))
theorem kkZ:MtM X "list.pop" rPop:=by
 intro pins s σ H x vs v us Q I rx rv h
 obtain⟨l,xs,y,rfl,rfl,hH,hy,q⟩:=h
 cases rx
 have hus:=rv.zero
 subst hus
 obtain⟨z,its,n,r,hl,e⟩:=I.lstM hH
 obtain⟨u,hu,ru⟩:=r.get hy
 have hy':its.toArray[its.toArray.size-1]?=some u:=by
  show its.toArray[its.length-1]?=some u
  rw[←MW,←hl]
  exact hu
 refine call_meets F.slot_list_pop ⟨_,e,rfl⟩ F.entry_list_pop (F.args_list_pop_1 _) (MeetsSeq.list_pop_last l its.toArray n u hy' (by rw[Nk];omega)) ⟨e,?_⟩
 refine⟨y,_,I.lset (its':=its.dropLast) hH e ?_ r.dropLast ?_,ru,q⟩
 ·show its.toArray.eraseIdxIfInBounds (its.toArray.size-1)=its.dropLast.toArray
  rw[Nk,List.eraseIdxIfInBounds_toArray,kh8]
 ·rw[MD]
  omega
noncomputable def kl9:V→List V→Hp→VK→Prop:=fun x vs H Q=>∃l xs,x=.ref l∧vs=[]∧H l=some (.lst xs)∧Q .non (upd H l (.lst []))
theorem kka:MtM X "list.clear" kl9:=by
 intro pins s σ H x vs v us Q I rx rv h
 obtain⟨l,xs,rfl,rfl,hH,q⟩:=h
 cases rx
 have hus:=rv.zero
 subst hus
 obtain⟨z,its,n,r,hl,e⟩:=I.lstM hH
 refine call_meets F.slot_list_clear ⟨_,e,rfl⟩ F.entry_list_clear (F.args_list_clear_1 _) (AutoSeq1.list_clear_list_0 l its.toArray n (by rw[Nk];omega)) ⟨e,?_⟩
 exact⟨.non,_,I.lset (its':=[]) (ys:=[]) hH e rfl .nil (NB _),rfl,q⟩
noncomputable def rCat:R2:=fun x y H Q=>∃l b xs zs,x=.ref l∧y=.ref b∧H l=some (.lst xs)∧H b=some (.lst zs)∧xs.length+zs.length≤sizeLine∧∀p,H p=none→Q (.ref p) (upd H p (.lst (xs++zs)))
theorem ki4:OpR X (binaryOp .Add) rCat:=by
 intro pins s σ H x y v u Q I rx ry h
 obtain⟨l,b,xs,zs,rfl,rfl,hH,hB,hz,q⟩:=h
 cases rx
 cases ry
 obtain⟨z,its,n,r,hl,e⟩:=I.lstM hH
 obtain⟨z2,its2,n2,r2,hl2,e2⟩:=I.lstM hB
 refine PySem.P.add_list e e2 ?_ (by rw[Nk,Nk];omega)
 have ea:its.toArray++its2.toArray=(its++its2).toArray:=by simp
 rw[ea]
 exact⟨.ref _,_,I.lnew (t':=s.toks) (r.append r2) (by rw[Np];omega),rfl,q _ I.fresh⟩
noncomputable def rRep:R2:=fun x y H Q=>∃l k xs,x=.ref l∧y=.int k∧H l=some (.lst xs)∧-(2 ^ 63)≤k∧k<2 ^ 63∧xs.length*k.toNat≤sizeLine∧
 ∀p,H p=none→Q (.ref p) (upd H p (.lst (J6 k.toNat xs).flatten))
theorem len_rep{α:Type}(xs:List α)(k:Nat):(J6 k xs).flatten.length=k*xs.length:=by
 induction k with
 |zero=>simp
 |succ k ih=>rw[Ml,NC,Np,ih,Nat.succ_mul,Nat.add_comm]
theorem kkW:OpR X (binaryOp .Mult) rRep:=by
 intro pins s σ H x y v u Q I rx ry h
 obtain⟨l,k,xs,rfl,rfl,hH,h1,h2,hz,q⟩:=h
 cases rx
 obtain⟨t,rfl⟩:=ry
 obtain⟨z,its,n,r,hl,e⟩:=I.lstM hH
 have hlen:its.toArray.size*k.toNat≤sizeLine:=by rw[Nk,←hl];exact hz
 have hcap:¬its.toArray.size*k.toNat > (2 ^ 63-1)/8:=by
  have:(sizeLine:Nat)≤(2 ^ 63-1)/8:=by decide
  omega
 have hfit:¬(!Builtin.List.listFitsIndex k)=true:=by
  rw[fitsIndex_both h1 h2]
  exact Na
 have hlong:¬Builtin.List.listTooLong (its.toArray.size*k.toNat)=true:=by
  rw[khv hlen]
  exact Na
 have hnew:List.foldl (fun x1 x2=>x1++x2) #[] (J6 (if its.toArray.isEmpty=true then 0 else k.toNat) its.toArray)=(J6 k.toNat its).flatten.toArray:=by
  have f0:∀m:Nat,List.foldl (fun x1 x2=>x1++x2) #[] (J6 m its.toArray)=(J6 m its).flatten.toArray:=fun m=>by
   have:=foldl_rep its m []
   rw[ME] at this
   exact this
  rw[f0]
  cases its with
  |nil=>simp
  |cons a r'=>rw[if_neg (by simp)]
 refine wpAny_binaryOp_repeat_ref (T:="list") (U:="int") (by decide) ⟨_,e,rfl⟩ (fun s'=>typeIs_int s' k t) noFill_list_mul F.fills_int_mul F.slot_int_rmul repeat_list F.slot_int_index.lookup
  (call_meets F.slot_int_rmul (typeIs_int s k t) F.entry_int_rmul (F.args_int_rmul_2 _ _) (int___rmul___int_list k t l its.toArray n)
   ⟨e,rfl,⟨_,e,rfl⟩,call_meets F.slot_list_mul ⟨_,e,rfl⟩ F.entry_list_mul (F.args_list_mul_2 _ _) (AutoListH.list___mul___list_int_3 l its.toArray n k t hfit hcap hlong) ⟨e,?_⟩⟩)
 rw[hnew]
 exact⟨.ref _,_,I.lnew (t':=s.toks) (r.rep k.toNat) (by rw[len_rep,Nat.mul_comm];exact hz),rfl,q _ I.fresh⟩
end
section
variable {prog:Program} {w:World} {A:Around} {E:Value→Shared→Prop} {s:Shared}
set_option maxRecDepth 100000 in
end
section
variable {X:Cx}
end
end L2
namespace Att
open PySem PySem.W PySem.Calls PyProof.Rows
theorem kex{P:Params}{h:Heap}:∀(ns:List Int)(vs:List Value),WellAll P h vs (ns.map WData.int)→IntsAre vs ns:=by
 intro ns
 induction ns with
 |nil=>
  intro vs w
  rw[Et] at w
  cases w
  exact .nil
 | cons n ns ih=>
  intro vs w
  rw[Nv] at w
  cases w with
  |cons a b=>
   cases a
   exact .cons _ _ (ih _ b)
theorem kiH{l:OpenLaw}{n:Nat}(hn:l.most=some n){P:Params}{h:Heap}{args:List WData}{vals:List Value}
  (hpre:l.row.toRowW.claim.pre args=true) (hwl:WellAll P h vals args):
  ∃a vs ns,vals=[Value.ref a]∧args=[WData.list (ns.map WData.int)]∧h.get? a=some {cls:=.type "list",data:=.seq vs.toArray}∧IntsAre vs ns∧ns.length≤n:=by
 have hsh:WShape.hasAll [] args [.list .int]=true:=(pre_splitW hpre).1
 have hc:l.pre.holds [] {args:=args}=true:=(pre_splitW hpre).2
 obtain⟨d,r,rfl,h1,h2⟩:=hasAllW_cons hsh
 obtain rfl:=hasAllW_nil h2
 obtain⟨xs,rfl,h3⟩:=hasW_list h1
 obtain⟨ns,rfl⟩:=items_int h3
 have hlen:ns.length≤n:=by
  unfold OpenLaw.pre at hc
  have h4:(WTm.not (.lt (.lit (.int (n:Int))) (.len (.arg 0)))).holds [] {args:=[.list (ns.map .int)]}=true:=by
   have h4:=(holds_andW hc).1
   rw[hn] at h4
   exact h4
  have h5:=condW_of h4 (w_not (w_lt w_lit (w_len_list (w_arg rfl))))
  rw[JY] at h5
  refine Nat.le_of_not_lt fun q=>?_
  have q':(n:Int)<((ns.length:Nat):Int):=by omega
  first
   |(rw[decide_eq_true q'] at h5;exact absurd h5 (by decide))
   |(simp at h5;omega)
 cases hwl with
 |cons w1 w2=>
  cases w2
  cases w1 with
  |list ho hall=>exact⟨_,_,ns,rfl,rfl,ho,kex ns _ hall,hlen⟩
def kiW(l:OpenLaw)(args:List WData):l.row.toRowW.claim.post args (.bool true) args=true:=
 postW_of (r:=l.row.toRowW) (X:=(true==true))
  (show WShape.has [] (.bool true) .bool=true by first|rfl|decide|simp[WShape.has,WShape.arms,WShape.armsAll])
  (show(WTm.eq .res (.lit (.bool true))).value [] {args:=args,res:=some (.bool true),after:=args}=some (.bool (true==true)) from w_eq_bool (w_res rfl) w_lit) rfl
theorem attach_call{l:OpenLaw}{n:Nat}{q:Program}{loose:List Str}{XP:(Str→Option Value)→Heap→Prop}{YP:World→Heap→Prop}{d:DefRec}
  (hn:l.most=some n) (hdf:d.params.defaults=[])
  (call:∀(w:World)(s₀ s₁:Shared)(mg mb:Str→Option Value)(fa:Addr)(o:Obj)(pm cd doc:Value)(a:Addr)(vs:List Value)(ns:List Int),
   Ground q loose [] XP w s₀ mg mb s₁.heap→YP w s₁.heap→
   s₁.heap.get? fa=some o→o.data=.func (docDef d.name d.params d.body d.scope pm cd doc)→s₁.heap.CodeRec cd d.name→mg d.name=some (.ref fa)→
   s₁.heap.get? a=some {cls:=.type "list",data:=.seq vs.toArray}→IntsAre vs ns→ns.length≤n→s₁.gens= #[]→
   codeAny (model l.prog w) callerA (.call (.ref fa) ⟨[.ref a],[]⟩) (fun r s'=>r=.ok (.ret (.bool true))∧OldK s₁.heap s'.heap∧s'.os=s₁.os∧AllBare s'.gens) s₁):
  WalkO q loose XP YP l.row.toRowW d [] (fun f vs=>PySem.call f vs):=by
 intro w s₀ s₁ mg mb G Y fa o pm cd doc dV kV ho hd hcd hD hmg hg args vals as hpre hlay hrd hwl hlo
 obtain rfl:dV=.none:=Dflts.none hD hdf
 obtain rfl:kV=.none:=Dflts.noKw hD
 obtain⟨a,vs,ns,rfl,rfl,hobj,hints,hlen⟩:=kiH hn hpre hwl
 refine enter_call (codeAny_mono (call w s₀ s₁ mg mb fa o pm cd doc a vs ns G Y ho (fd_plain hd) hcd hmg hobj hints hlen hg) fun r s' hq=>?_)
 obtain⟨rfl,h2,h3,h4⟩:=hq
 exact⟨.inl ⟨.bool true, .bool true,[],rfl,fun _=>rfl, .bool true,kiW l _,fun _=>⟨Mx.nil,fun _ hm=>(nomatch hm)⟩⟩,h2,h3,h4⟩
section
variable {prog:Program} {w:World} {A:Around} {E:Value→Shared→Prop} {s:Shared} {K:Frag}
end
end Att
namespace L2
open PySem PySem.Spec PyProof.Rows
theorem kfK:∀{vs:List Value}{ns:List Int},IntsAre vs ns→Vals (ns.map V.int) vs
 |_,_, .nil=>.nil
 |_,_, .cons n t h=>.cons ⟨t,rfl⟩ (kfK h)
end L2
namespace L2
open PySem PySem.Spec PyProof.Rows
end L2
namespace L2
open PySem PySem.Spec PyProof.Rows
noncomputable def inClass(s:Stmt)(j:Nat):Stmt:=match s with
 | .ClassDef _ _ _ body _ _ _ _ _ _ _=>body.getD j (.Pass ⟨0,0,0,0⟩)
 |_=>.Pass ⟨0,0,0,0⟩
noncomputable def kaB(s:Stmt):Arguments:=match s with
 | .FunctionDef _ a _ _ _ _ _ _ _ _=>a
 |_=>{posonlyargs:=[],args:=[],vararg:=none,kwonlyargs:=[],kw_defaults:=[],kwarg:=none,defaults:=[]}
noncomputable def kay(s:Stmt):List Stmt:=match s with
 | .FunctionDef _ _ b _ _ _ _ _ _ _=>b
 |_=>[]
noncomputable def kag(s:Stmt):Scope:=match s with
 | .FunctionDef _ _ _ _ _ _ sc _ _ _=>sc
 |_=>{kind:=.function,names:=[],isGenerator:=false,isCoroutine:=false}
noncomputable abbrev CX0:CXT:=fun _ _ _ _ _ _=>False
noncomputable abbrev E0:XK:=fun _ _ _=>False
def pass0{X:Cx}:kct CX0 X E0:=fun _ _ _ _ _ _ _ h=>h.elim
structure Fun (K:JZ) (x qual:Str) (st:Stmt) (f:Addr) (fd:FuncData):Prop where
 ex:∃(oc:Value)(od:Option Addr)(kV doc pm:Value)(an:Option Addr)(cdv ct:Value)(osl:Array (Option Value)),
  fd=Nj x qual (kaB st) (kay st) (kag st) .none kV doc pm an cdv ct∧K.lookup f=some ⟨oc,od, .func fd,osl⟩∧NI K cdv qual=true
 kp:Ni K (.ref f)=true
section
variable {P:Program} {w:World} {K:JZ} {mg:Str→Option Value} {base:Heap}
theorem Fun.ok{x qual:Str}{st:Stmt}{f:Addr}{fd:FuncData}{N ps:List Str}{k:Nat}{sp:Sp}(F:Fun K x qual st f fd)(S:kan N ps (kag st))(len:∀vs H Q E,sp vs H Q E→vs.length=ps.length)
  (hbody:∀(cdv:Value)(A:Around)(outer:List Env)(s:Shared)(H:Hp)(vs:List V)(Q:VK)(E:XK),Room k (A.deeper (envOfC qual (kag st) s.heap.objs.size f cdv))→sp vs H Q E→
   ∃t,PSs (cxOf CX0 P w K mg base N qual (kag st) f cdv A outer s H E).nox (kay st) t∧t {nx:=fun _ H'=>Q .non H',rt:=Q} (start N vs) H):FnOk P w K mg base CX0 (k+1) f fd ps sp:=by
 obtain⟨oc,od,kV,doc,pm,an,cdv,ct,osl,rfl,lk,hcd⟩:=F.ex
 refine fn_of lk hcd S len fun A outer s H vs Q E hr hsp=>?_
 obtain⟨t,h,q⟩:=hbody cdv A outer s H vs Q E hr hsp
 exact⟨t,h.nox,q⟩
theorem Fun.binds{x qual:Str}{st:Stmt}{f:Addr}{fd:FuncData}{ps:List Str}(F:Fun K x qual st f fd)
  (h:∀(kV doc pm:Value)(an:Option Addr)(cdv ct:Value)(us:List Value),us.length=ps.length→bindArgs (Nj x qual (kaB st) (kay st) (kag st) .none kV doc pm an cdv ct) ⟨us,[]⟩=pure (ps.zip us)):Binds K fd ps []:=by
 obtain⟨oc,od,kV,doc,pm,an,cdv,ct,osl,rfl,lk,hcd⟩:=F.ex
 exact .all (h kV doc pm an cdv ct)
end
def kaq{n:Nat}(h:n≤1000):n<sizeLine:=Md h (by decide)
section
variable {X:Cx}
theorem pv(i:Nat){x:Str}{pos:Pos}(hN:X.N[i]?=some x:=by rfl)(hv:Vis X.env.scope x:=by first|exact Or.inl rfl|exact Or.inr (Or.inl rfl)|exact Or.inr (Or.inr rfl))(hd:(x==("__debug__" :Str))=false:=by decide)
  (hcd:(x==("__classdict__" :Str))=false:=by decide):PE X (.Name x pos) (tVar i):=kmf hN hv hd hcd
end
def iteF{A B:Prop}(h:B):if false=true then A else B:=by
 rw[if_neg Na]
 exact h
def iteT{A B:Prop}(h:A):if true=true then A else B:=by
 rw[if_pos rfl]
 exact h
def ite2{c A B:Prop} [Decidable c] (h1:c→A) (h2:¬c→B):if c then A else B:=by
 by_cases h:c
 ·rw[if_pos h]
  exact h1 h
 ·rw[if_neg h]
  exact h2 h
end L2
set_option maxHeartbeats 4000000
namespace L3
end L3
namespace L2
open PySem PySem.Spec PyProof.Rows
section
variable {X:Cx}
theorem log2_small{n:Nat}(h:n<2 ^ 200):n.log2<9000:=by
 by_cases h0:n=0
 ·subst h0
  decide
 ·have h1:n.log2<200:=(Nat.log2_lt h0).mpr h
  omega
noncomputable def CDivB(_ j:Int):Prop:=0<j∧j<2 ^ 199
theorem kj5:OpR X (binaryOp .FloorDiv) (rI CDivB fun i j=>.int (i/j)):=opI fun i j _ _ _ _ _ hc q=>by
 have h1:(0:Int)<j:=hc.1
 have h2:j<2 ^ 199:=hc.2
 have h3:j.natAbs<2 ^ 200:=by omega
 exact floordiv_int (by omega) (by rw[Int.fdiv_eq_ediv_of_nonneg i (by omega)];exact q) (.inl (PyProof.noPylong_of_log2 (log2_small h3)))
theorem kcp(hc:X.calm=true):CallR X (.builtin "sum") (fun xs H Q=>∃(p:Addr)(ns:List Int),xs=[.ref p]∧SqL X.K H p (ns.map V.int)∧Q (.int ns.sum) H):=by
 intro pins s σ H xs us Q I r h
 obtain⟨p,ns,rfl,hq,q⟩:=h
 obtain⟨u,rfl,rx⟩:=vals1 r
 cases rx
 obtain⟨its,r',pl,hz⟩:=I.list hq
 have hi:IntsAre its ns:=intsAre_of r'
 have ha:=hi.allInts
 obtain⟨zs,hx⟩:=ha.items
 have hl:=pl.isList
 rw[hx] at hl
 refine sum_intListG (I.ok.hd hc) hl fun h' tk t' hk=>⟨.int ns.sum,H,I.kept hk,⟨t',?_⟩,q⟩
 have e2:preSum (numAt zs) zs.size=(numsOf (intItems zs).toList).sum:=by
  rw[nums_intItems,preSum_eq,N4 (by simp)]
 have e3:numsOf its.toArray.toList=ns:=hi.numsOf
 rw[e2,←hx,e3]
theorem kkt:∀{x:V},flatV x=true→eqV x x=true
 | .non,_=>rfl
 | .bl b,_=>by simp[eqV]
 | .int i,_=>by simp[eqV]
 | .str z,_=>by simp[eqV]
noncomputable def cV:V→Value
 | .ty n=>.type n
 | .ref a=>.ref a
 |_=>.none
theorem kaT:CallR X (.builtin "isinstance") (fun xs H Q=>∃x c t b,xs=[x,c]∧((∃n,c=.ty n)∨∃a,c=.ref a)∧TyOf X.K H x t∧Nd X.K t (cV c)=some b∧Q (.bl b) H):=by
 intro pins s σ H xs us Q I r h
 obtain⟨x,c,t,b,rfl,hc,ty,e,q⟩:=h
 obtain⟨u,w',rfl,r1,r2⟩:=vals2 r
 have ew:w'=cV c:=by
  rcases hc with⟨n,rfl⟩|⟨a,rfl⟩
  ·exact r2
  ·exact r2
 subst ew
 exact kjk I r1 ty e fun tk=>⟨.bl b,H,I.tok tk,rfl,q⟩
theorem b_isi:bootBuiltins "isinstance"=some (.builtin "isinstance"):=by decide +kernel
theorem b_int:bootBuiltins "int"=some (.type "int"):=by decide +kernel
theorem kmC:bootBuiltins "bool"=some (.type "bool"):=by decide +kernel
theorem kbo:bootBuiltins "list"=some (.type "list"):=by decide +kernel
theorem b_sum:bootBuiltins "sum"=some (.builtin "sum"):=by decide +kernel
theorem b_min:bootBuiltins "min"=some (.builtin "min"):=by decide +kernel
theorem b_max:bootBuiltins "max"=some (.builtin "max"):=by decide +kernel
theorem b_len:bootBuiltins "len"=some (.builtin "len"):=by decide +kernel
theorem kbu(K:JZ)(t:Value):Nd K t t=some true:=by
 unfold Nd
 rw[if_pos (by simp)]
theorem kgg(K:JZ):Nd K (.type "int") (.type "bool")=some false:=by
 have e:(Value.type "int" ==Value.type "bool")=false:=by decide +kernel
 unfold Nd PySem.W.kitCls Ex
 rw[e,if_neg Na]
 show(if PySem.W.kitMeta "bool"=true then _ else _)=_
 rw[if_pos (by decide +kernel)]
 show(fastBuiltinMro "int").map (·.contains (Value.type "bool"))=some false
 decide +kernel
noncomputable def tCut(t:TS):TS:=fun D σ H=>∃P:St→Hp→Prop,t {D with nx:=P} σ H∧∀σ' H',P σ' H'→D.nx σ' H'
theorem kcC{st:Stmt}{t:TS}(h:PS X st t):PS X st (tCut t):=by
 intro pins s σ H D I hw
 obtain⟨P,h1,h2⟩:=hw
 refine thn (h pins s σ H {D with nx:=P} I h1) fun f s' q=>?_
 cases f with
 |next=>
  obtain⟨σ',H',I',q'⟩:=q
  exact⟨σ',H',I',h2 σ' H' q'⟩
 |brk=>exact q
 |cont=>exact q
 |ret u=>exact q
noncomputable def tCutE(t:TE):TE:=fun σ H Q=>∃P:V→Hp→Prop,t σ H P∧∀v H',P v H'→Q v H'
theorem kmi{e:Expr}{t:TE}(h:PE X e t):PE X e (tCutE t):=by
 intro pins s σ H Q I hw
 obtain⟨P,h1,h2⟩:=hw
 exact thn (h pins s σ H P I h1) fun u s' ⟨v,H',I',r,q⟩=>⟨v,H',I',r,h2 v H' q⟩
noncomputable def Its(lo st:Int)(n:Nat):It:=⟨fun i _=>i<n,fun i H x H'=>H'=H∧x=.int (lo+i*st),fun i _=>n≤i⟩
theorem kie{P:Program}{w:World}{K:JZ}{tg:Expr}(it:Addr)(lo st:Int)(n:Nat):Turn P w K tg (Its lo st n) [it] it (fun i h=>IsRangeIter h it (lo+(i:Nat)*st) ((n:Int)-(i:Nat)) st) where
 mem:=by simp
 obj:=fun i h st b hb=>by
  have e:b=it:=by simpa using hb
  subst e
  exact⟨_,st,fun v z=>by
   have z':Data.fields _=Data.cell v:=z
   cases z'⟩
 keep:=fun i h h' st k=>k it (by simp) _ st
 item:=by
  intro X hP hw hK hc i pins s σ H E I hf st' hg
  subst hP hw hK
  obtain⟨f0,f1,f2,f3,f4,f5⟩:=hf it (by simp)
  have W:=Walks.range (prog:=X.prog) (w:=X.w) (I.ok.hd hc) it lo st n
  refine W.item i s _ _ hg st' fun v h' tk hv st'' kk=>?_
  obtain⟨t,rfl⟩:=hv
  have I1:Inv X pins σ H {s with heap:=h',toks:=tk}:=I.turned (fun b o hb e=>kk b o (by simpa using hb) e) f0 f1 f3 f4 f5
  exact⟨_,rfl,go_of (s:={s with heap:=h',toks:=tk}) (n:="range_iterator") st'' rfl rfl (by decide) ⟨.int (lo+i*st),H,I1,⟨t,rfl⟩,⟨rfl,rfl⟩,st'',fun b hb=>(hf b hb).1⟩⟩
 done:=by
  intro X hP hw hK hc i pins s σ H E I hf st hg
  subst hP hw hK
  obtain⟨f0,f1,f2,f3,f4,f5⟩:=hf it (by simp)
  exact wpAny_pyNext_range_end (I.ok.hd hc) st (by have:n≤i:=hg;omega) fun h' eb=>⟨rfl,I.turned (t':=s.toks) (fun b o hb e=>eb b o hb e) f0 f1 f3 f4 f5⟩
 self:=fun _ _ _ _ _ st h=>wpAny_pyIter_rangeiter st h
theorem kfV{a b c:Int}(hc:0<c)(ha: -(2 ^ 31)≤a∧a<2 ^ 31)(hb: -(2 ^ 31)≤b∧b<2 ^ 31):0≤Builtin.Range.rangeSize a b c∧Builtin.Range.rangeSize a b c<2 ^ 33:=by
 unfold Builtin.Range.rangeSize
 rw[if_pos hc]
 split
 ·have h1:0≤(b-a-1)/c:=Int.ediv_nonneg (by omega) (by omega)
  have h2:(b-a-1)/c≤b-a-1:=Int.ediv_le_self _ (by omega)
  omega
 ·omega
theorem khP{a b c:Int}(hc:0<c)(hc2:c<2 ^ 30)(ha: -(2 ^ 31)≤a∧a<2 ^ 31)(hb: -(2 ^ 31)≤b∧b<2 ^ 31):Builtin.Range.small a b c=true:=by
 have h:=kfV hc ha hb
 unfold Builtin.Range.small
 generalize Builtin.Range.rangeSize a b c=n at h
 simp only[Builtin.Range.rangeFitsLong,N9,Ey,decide_eq_true_eq,beq_iff_eq,show c > 0 from hc,if_true]
 omega
end
def kmz(xs:List V)(k:Nat):cutV xs none (some (k:Int))=xs.take k:=by
 unfold cutV
 rw[HT.sIx_none,HT.sIx_nat,Ez,Nat.sub_zero,EW]
 omega
end L2
namespace L2
open PySem PySem.Spec PyProof.Rows
def Inv.adopt{X:Cx}{pins:List (Addr×Obj)}{σ:St}{H:Hp}{s:Shared}{a:Addr}{o:HO}(I:Inv X pins σ H s)(f:FpOk X pins H a)(h0:X.s₀.heap.objs.size≤a)(new:ObjOk X.prog X.w (upd H a o) s.heap a o):Inv X pins σ (upd H a o) s:=by
 obtain⟨hn,hL,_,_,hC,hp⟩:=f
 have nt:∀b u,H b=some u→b≠a:=fun b u e=>kai e hn
 refine⟨I.ok,I.os,I.bare,⟨I.base.keep,I.base.slot,fun b ob e n hx=>?_,I.base.there,fun b xs e=>?_,fun b ob u e=>?_,fun b ps e=>?_⟩,I.loc,I.cell,?_,fun x c e=>?_,fun p hp'=>?_,fun b u e=>?_,I.len⟩
 ·rw[kaj (Nr (Ny (Heap.lt_size e) h0))]
  exact I.base.free b ob e n hx
 ·have q:=I.base.tups b xs e
  rw[kaj (nt _ _ q)]
  exact q
 ·have q:=I.base.frzs b ob u e
  rw[kaj (nt _ _ q)]
  exact q
 ·obtain⟨m,q⟩:=I.base.tbls b ps e
  exact⟨m,by rw[kaj (nt _ _ q)];exact q⟩
 ·rw[kaj (Ne.symm hL)]
  exact I.free
 ·rw[kaj (hC x c e)]
  exact I.freeC x c e
 ·obtain⟨e,n,r⟩:=I.pin p hp'
  exact⟨e,by rw[kaj (hp p hp')];exact n,r⟩
 ·by_cases hb:b=a
  ·subst hb
   rw[kad] at e
   cases e
   exact new
  ·rw[kaj hb] at e
   exact(I.hok b u e).stay (fun c v _ q=>q) (fun c q=>by rw[kaj (nt _ _ q)];exact q) fun c xs q=>by rw[kaj (nt _ _ q)];exact q
noncomputable def capσ(cap:List (Option Nat))(σ:St):St:=cap.map fun o=>match o with
 |some i=>(σ[i]?).getD none
 |none=>none
noncomputable def closL(cells:List (Str×Addr))(names:List (Str×NameKind)):List (Str×Addr)→List (Str×Addr):=fun acc=>names.foldl (fun acc p=>if p.2== .free then(p.1,(cells.lookup p.1).getD 0)::acc else acc) acc
theorem kez{α β:Type}{f: α→β→Sem (ForInStep β)}{g: β→α→β}:∀(l:List α)(b: β),(∀x∈l,∀b,f x b=pure (.yield (g b x)))→forIn l b f=pure (l.foldl g b)
 |[],b,_=>by rw[List.forIn_nil];rfl
 |x::l,b,h=>by
  rw[List.forIn_cons,h x Nz]
  show forIn l (g b x) f=_
  rw[kez l (g b x) fun y hy=>h y (Nw _ hy)]
  rfl
def kfE{scope:Scope}{env:Env}(h:∀x∈scope.names,x.2=.free→∃c,env.cells.lookup x.1=some c):closureFor scope env=pure (closL env.cells scope.names []):=by
 unfold closureFor
 dsimp only
 rw[kez (g:=fun acc p=>if p.2== .free then(p.1,(env.cells.lookup p.1).getD 0)::acc else acc) scope.names [] fun x hx b=>?_]
 ·rfl
 ·obtain⟨n,k⟩:=x
  by_cases hk:k=.free
  ·subst hk
   obtain⟨c,ec⟩:=h _ hx rfl
   have ec':env.cells.lookup n=some c:=ec
   have e1:cellOf env n=pure c:=by unfold cellOf;rw[ec']
   simp only[beq_self_eq_true,if_true,e1,ec',Option.getD_some]
   rfl
  ·have:(k==NameKind.free)=false:=by simpa using hk
   simp only[this,NS,if_false]
def ke5(cells:List (Str×Addr))(p:Str×NameKind)(r:List (Str×NameKind))(acc:List (Str×Addr)):closL cells (p::r) acc=closL cells r (if p.2== .free then(p.1,(cells.lookup p.1).getD 0)::acc else acc):=rfl
theorem kd6{cells:List (Str×Addr)}{x:Str}{c:Addr}:∀(names:List (Str×NameKind))(acc:List (Str×Addr)),(closL cells names acc).lookup x=some c→(((x,NameKind.free)∈names∧c=(cells.lookup x).getD 0)∨acc.lookup x=some c)
 |[],acc,h=>.inr h
 | (n,k)::r,acc,h=>by
  rw[ke5] at h
  rcases kd6 r _ h with⟨h1,h2⟩|h1
  ·exact .inl ⟨Nw _ h1,h2⟩
  ·by_cases hk:k=.free
   ·subst hk
    simp only[beq_self_eq_true,if_true] at h1
    rw[ND] at h1
    by_cases hx:x=n
    ·subst hx
     simp only[beq_self_eq_true] at h1
     exact .inl ⟨Nz,(Option.some.inj h1).symm⟩
    ·have hb:(x==n)=false:=beq_eq_false_iff_ne.mpr hx
     rw[hb] at h1
     exact .inr h1
   ·have:(k==NameKind.free)=false:=by simpa using hk
    simp only[this,NS,if_false] at h1
    exact .inr h1
theorem kcO{cells:List (Str×Addr)}{x:Str}:∀(names:List (Str×NameKind))(acc:List (Str×Addr)),((x,NameKind.free)∈names∨∃c,acc.lookup x=some c)→∃c,(closL cells names acc).lookup x=some c
 |[],acc,h=>by
  rcases h with h|h
  ·cases h
  ·exact h
 | (n,k)::r,acc,h=>by
  rw[ke5]
  refine kcO r _ ?_
  by_cases hm:(x,NameKind.free)∈r
  ·exact .inl hm
  ·refine .inr ?_
   rcases h with h|⟨c,h⟩
   ·rcases Nl.mp h with e|h
    ·cases e
     simp[ND]
    ·exact absurd h hm
   ·split
    ·rw[ND]
     by_cases hx:x=n
     ·subst hx
      simp
     ·have hb:(x==n)=false:=beq_eq_false_iff_ne.mpr hx
      rw[hb]
      exact⟨c,h⟩
    ·exact⟨c,h⟩
theorem kco:∀(names:List (Str×NameKind))(n:Nat)(acc acc':List (Str×Addr)),cellsFrom n names (acc++acc')=cellsFrom n names acc++acc'
 |[],_,_,_=>rfl
 |(m,k)::r,n,acc,acc'=>by
  unfold cellsFrom
  split
  ·exact kco r (n+1) ((m,n)::acc) acc'
  ·exact kco r n acc acc'
def kbR(names:List (Str×NameKind))(n:Nat)(acc:List (Str×Addr))(x:Str):(cellsFrom n names acc).lookup x=((cellsFrom n names []).lookup x).or (acc.lookup x):=by
 rw[←List.lookup_append,←kco,ME]
theorem kcn{x:Str}:∀(names:List (Str×NameKind))(n:Nat)(acc:List (Str×Addr)),(x,NameKind.cell)∉names→(cellsFrom n names acc).lookup x=acc.lookup x
 |[],_,_,_=>rfl
 | (m,k)::r,n,acc,h=>by
  unfold cellsFrom
  by_cases hk:k=.cell
  ·subst hk
   simp only[beq_self_eq_true,if_true]
   rw[kcn r _ _ fun z=>h (Nw _ z),ND]
   have hx:x≠m:=fun e=>h (by rw[e];exact Nz)
   have hb:(x==m)=false:=beq_eq_false_iff_ne.mpr hx
   rw[hb]
  ·have:(k==NameKind.cell)=false:=by simpa using hk
   simp only[this,NS,if_false]
   exact kcn r _ _ fun z=>h (Nw _ z)
noncomputable def relN(names ns:List (Str×NameKind)):List (Str×NameKind):=names.map fun(n,k)=>if(k== .free&&ns.lookup n==some .cell) then(n, .cell) else(n,k)
def kde{scope:Scope}{env:Env}(hk:env.scope.kind=.function):(relabel scope env).names=relN scope.names env.scope.names:=by
 unfold relabel relN
 have e:(ScopeKind.function==ScopeKind.function)=true:=by decide
 simp only[hk,e,Bool.and_true]
 rfl
theorem kc3{ns:List (Str×NameKind)}{x:Str}:∀(names:List (Str×NameKind)),(relN names ns).lookup x=(names.lookup x).map fun k=>if(k== .free&&ns.lookup x==some .cell) then .cell else k
 |[]=>rfl
 | (n,k)::r=>by
  have ih:=kc3 (ns:=ns) (x:=x) r
  show NZ x ((if(k== .free&&ns.lookup n==some .cell)=true then(n,NameKind.cell) else(n,k))::relN r ns)=_
  by_cases hx:x=n
  ·subst hx
   by_cases hc:(k== .free&&ns.lookup x==some .cell)=true
   ·rw[if_pos hc]
    simp only[ND,beq_self_eq_true,MX]
    rw[if_pos hc]
   ·rw[if_neg hc]
    simp only[ND,beq_self_eq_true,MX]
    rw[if_neg hc]
  ·have hb:(x==n)=false:=beq_eq_false_iff_ne.mpr hx
   by_cases hc:(k== .free&&ns.lookup n==some .cell)=true
   ·rw[if_pos hc]
    simp only[ND,hb]
    exact ih
   ·rw[if_neg hc]
    simp only[ND,hb]
    exact ih
theorem kls{names ns:List (Str×NameKind)}{x:Str}(h:(relN names ns).lookup x=some .cell∨(relN names ns).lookup x=some .free):names.lookup x=some .cell∨names.lookup x=some .free:=by
 rw[kc3] at h
 cases e:names.lookup x with
 |none=>rw[e] at h;simp at h
 |some k=>
  rw[e] at h
  cases k <;> simp_all
def kiN{names ns:List (Str×NameKind)}{x:Str}(h:names.lookup x=some .free):(relN names ns).lookup x=some .cell∨(relN names ns).lookup x=some .free:=by
 rw[kc3,h]
 by_cases hc:ns.lookup x==some .cell
 ·left;simp[hc]
 ·right;simp[hc]
structure CompScope (X:Cx) (scope:Scope) (N:List Str) (cap:List (Option Nat)):Prop where
 kind:scope.kind=.function
 names:∀x∈scope.names,x.2=.local→scope.names.lookup x.1=some .local
 free:∀x∈scope.names,x.2=.free→X.env.scope.names.lookup x.1=some .cell∨X.env.scope.names.lookup x.1=some .free
 nd:N.Nodup
 len:cap.length=N.length
 cap:∀(j i:Nat)(x:Str),cap[j]?=some (some i)→N[j]?=some x→X.N[i]?=some x∧scope.names.lookup x=some .free∧(x,NameKind.cell)∉scope.names
noncomputable def kdN(X:Cx)(scope:Scope)(C:Addr):List (Str×Addr):=cellsFrom (C+1) scope.names (closL X.env.cells scope.names [])
noncomputable def cxC(X:Cx)(scope:Scope)(N:List Str)(fp:List Addr)(s:Shared)(H:Hp)(C:Addr):Cx:=
 {X with N:=N,s₀:=s,H₀:=H,env:=compEnvC scope (kdN X scope C) C X.env,outer:=X.stack,ex:=fp,fn:=fun x=>scope.names.lookup x==some .cell,pn:=[],xe:=fun _ _=>False}
theorem kfx{M:Model}{A:Around}{E:Value→Shared→Prop}{s:Shared}{scope:Scope}{globals:Addr}{cl:List (Str×Addr)}{qual:Str}{func:Option Addr}{code:Value}{outer:Env}{builtins:Addr}{Q:Env→Shared→Prop}
  (hQ:Q (newEnv scope s.heap.objs.size globals (cellsFrom (s.heap.objs.size+1) scope.names cl) qual func code (some outer) builtins) {s with heap:=pushCells (s.heap.push {cls:=.type "dict",data:=.dict #[]}) scope.names}):
  wpAny M A (newFunctionEnv scope globals cl [] qual func code (some outer) builtins) Q E s:=by
 simp only[newFunctionEnv,Option.isSome_some,if_true]
 refine wpAny_bind (wpAny_alloc ?_)
 refine wpAny_bind (wpAny_layCells _ (fun name kind cells=>by cases hkc:kind==NameKind.cell <;> simp[hkc]) _ _ _ _ ?_)
 rw[show({s with heap:=s.heap.push {cls:=.type "dict",data:=.dict #[]}}:Shared).heap.objs.size=s.heap.objs.size+1 from Heap.size_push ..]
 exact wpAny_bind (wpAny_pure (wpAny_pure hQ))
section
variable {X:Cx} {scope:Scope} {N:List Str} {cap:List (Option Nat)} {pins:List (Addr×Obj)} {σ:St} {H:Hp} {s:Shared}
theorem kil(I:Inv X pins σ H s){b:Addr}(hb:b∈frs X.stack):b<s.heap.objs.size:=by
 obtain⟨_,o,ho,_⟩:=I.stack.mem hb
 exact Heap.lt_size ho
theorem kcN(S:CompScope X scope N cap)(I:Inv X pins σ H s):closureFor scope X.env=pure (closL X.env.cells scope.names []):=
 kfE fun x hx hf=>I.ok.has x.1 (S.free x hx hf)
theorem kbS{C:Addr}{x:Str}{c:Addr}(S:CompScope X scope N cap)(I:Inv X pins σ H s)(h:(kdN X scope C).lookup x=some c):(cellsFrom (C+1) scope.names []).lookup x=some c∨X.env.cells.lookup x=some c:=by
 unfold kdN at h
 rw[kbR] at h
 cases e:(cellsFrom (C+1) scope.names []).lookup x with
 |some c'=>
  rw[e] at h
  exact .inl h
 | none=>
  rw[e] at h
  have h':(closL X.env.cells scope.names []).lookup x=some c:=h
  rcases kd6 _ _ h' with⟨h1,h2⟩|h1
  ·obtain⟨c',ec⟩:=I.ok.has x (S.free _ h1 rfl)
   rw[ec] at h2
   rw[h2]
   exact .inr ec
  ·cases h1
theorem kkj{fp:List Addr}{C D:Addr}{o:Obj}{s4:Shared}{m:Str→Option Value}(S:CompScope X scope N cap)(I:Inv X pins σ H s)(f:∀b∈fp,FpOk X pins H b)(hfp:∀b∈fp,b<s.heap.objs.size)
  (hk:∀b u,s.heap.get? b=some u→s4.heap.get? b=some u) (hns:s4.heap.Ns C m) (hC:s.heap.objs.size≤C) (hD:s.heap.objs.size≤D) (hDC:D≠C) (eD:s4.heap.get? D=some o) (hcell:∀v,o.data≠.cell v)
  (hnew:CellsOk s4.heap (C+1) (cellsFrom (C+1) scope.names [])) (hos:s4.os=s.os) (hg:s4.gens=s.gens):Inv (cxC X scope N fp s H C) [(D,o)] (capσ cap σ) H s4:=by
 have stkne:∀b∈fp,b∉frs X.stack:=fun b hb hz=>by
  obtain⟨_,h1,h2,_⟩:=f b hb
  rcases Nl.mp (I.stkSub b hz) with e|e
  ·exact h1 e
  ·exact h2 e
 have nw:∀{x:Str}{c:Addr},(cellsFrom (C+1) scope.names []).lookup x=some c→s4.heap.IsCell c none∧Nat.lt C c:=fun {x c} h=>hnew.empty x c (PySem.mem_of_lookup h)
 have od:∀{x:Str}{c:Addr},X.env.cells.lookup x=some c→c<s.heap.objs.size:=fun {x c} h=>let⟨_,q⟩:=I.cell x c h;q.lt
 refine⟨⟨I.ok.mod,S.kind,I.ok.glob,I.ok.blt,hC,fun x y c h1 h2=>?_,fun x h=>?_,fun x c h1 h2=>?_,I.ok.hd,I.ok.frames, .inl rfl,fun b hb=>⟨?_,fun x c e=>?_⟩,I.bs,J5 I.ok.bsz I.sz,fun b ob e hb=>?_,stkne,I.stack,I.stkFree⟩,
  hos,by rw[hg];exact I.bare,Un.kept hk,⟨m,hns,fun j x v e1 e2 e3=>?_⟩,fun x c e=>?_,I.hok.fresh hC,fun x c e=>?_,fun p hp=>?_,I.hok.kept hk,?_⟩
 ·rcases kbS S I h1 with q1|q1 <;> rcases kbS S I h2 with q2|q2
  ·exact name_of_addr hnew.apart (PySem.mem_of_lookup q1) (PySem.mem_of_lookup q2)
  ·exact absurd (Md hC (nw q1).2) (Nat.not_lt_of_lt (od q2))
  ·exact absurd (Md hC (nw q2).2) (Nat.not_lt_of_lt (od q1))
  ·exact I.ok.inj x y c q1 q2
 ·have h':(relabel scope X.env).names.lookup x=some .cell∨(relabel scope X.env).names.lookup x=some .free:=h
  rw[kde I.ok.kind] at h'
  show ∃c,(cellsFrom (C+1) scope.names (closL X.env.cells scope.names [])).lookup x=some c
  rw[kbR]
  rcases kls h' with q|q
  ·obtain⟨c,e⟩:=kd7 (n:=C+1) q
   exact⟨c,by rw[e];rfl⟩
  ·obtain⟨c,e⟩:=kcO (cells:=X.env.cells) scope.names [] (.inl (PySem.mem_of_lookup q))
   cases e2:(cellsFrom (C+1) scope.names []).lookup x with
   |some c'=>exact⟨c',rfl⟩
   |none=>exact⟨c,e⟩
 ·have h1':(scope.names.lookup x==some .cell)=true:=h1
  have q:scope.names.lookup x=some .cell:=by simpa using h1'
  obtain⟨c',e⟩:=kd7 (n:=C+1) q
  have h2':(cellsFrom (C+1) scope.names (closL X.env.cells scope.names [])).lookup x=some c:=h2
  rw[kbR,e] at h2'
  have h3:c'=c:=Option.some.inj h2'
  rw[←h3]
  exact Ng (Md hC (nw e).2)
 ·exact Nr (Ny (hfp b hb) hC)
 ·rcases kbS S I e with q|q
  ·exact NQ (Nat.lt_trans (Ny (hfp b hb) hC) (nw q).2)
  ·exact(f b hb).2.2.2.2.1 x c q
 ·obtain⟨_,_,_,h4,_⟩:=f b hb
  rcases h4 with h4|h4
  ·exact I.ok.noex b ob e h4
  ·exact absurd (Ny (Heap.lt_size e) (J5 I.ok.bsz h4)) (N6 _)
 ·
  have e2':(cap.map fun o=>match o with|some i=>(σ[i]?).getD none|none=>none)[j]?=some (some v):=e2
  rw[Nc] at e2'
  cases ec:cap[j]? with
  |none=>rw[ec] at e2';cases e2'
  | some oi=>
   rw[ec] at e2'
   cases oi with
   |none=>cases e2'
   | some i=>
    have e4:(σ[i]?).getD none=some v:=Option.some.inj e2'
    have e5: σ[i]?=some (some v):=by
     cases q: σ[i]? with
     |none=>rw[q] at e4;cases e4
     |some w=>rw[q] at e4;exact congrArg some e4
    obtain⟨h1,hf,hnc⟩:=S.cap j i x ec e1
    have hm:=PySem.mem_of_lookup hf
    have h2:=S.free _ hm rfl
    obtain⟨mo,_,hl⟩:=I.loc
    obtain⟨u,ru,lk⟩:=hl i x v h1 e5 (.inr h2)
    have h3:(relabel scope X.env).names.lookup x=some .cell∨(relabel scope X.env).names.lookup x=some .free:=by
     rw[kde I.ok.kind]
     exact kiN hf
    refine⟨u,ru, .inr ⟨h3,?_⟩⟩
    rcases lk with⟨k1,_⟩|⟨_,c,ec',z⟩
    ·have k1':X.env.scope.names.lookup x=some .local:=k1
     rcases h2 with h2|h2 <;> rw[h2] at k1' <;> cases k1'
    ·obtain⟨c',ec2⟩:=kcO (cells:=X.env.cells) scope.names [] (.inl hm)
     have ec3:(kdN X scope C).lookup x=some c':=by
      unfold kdN
      rw[kcn _ _ _ hnc]
      exact ec2
     rcases kd6 _ _ ec2 with⟨_,q2⟩|q2
     ·rw[ec'] at q2
      have q3:c'=c:=q2
      subst q3
      obtain⟨oc,ho,hd⟩:=z
      exact⟨c',ec3,oc,hk _ _ ho,hd⟩
     ·cases q2
 ·rcases kbS S I e with q|q
  ·exact⟨none,(nw q).1⟩
  ·obtain⟨v,oc,ho,hd⟩:=I.cell x c q
   exact⟨v,oc,hk _ _ ho,hd⟩
 ·rcases kbS S I e with q|q
  ·exact I.hok.fresh (J5 hC (Ng (nw q).2))
  ·exact I.freeC x c q
 ·have e:p=(D,o):=by simpa[cxC] using hp
  subst e
  exact⟨eD,I.hok.fresh hD,hDC,fun hz=>absurd (kil I hz) (MF.mpr hD),hcell⟩
 ·show(cap.map _).length=N.length
  rw[JY,S.len]
theorem comp_back{fp:List Addr}{C:Addr}{σ':St}{H':Hp}{s':Shared}(I:Inv X pins σ H s)(f:∀b∈fp,FpOk X pins H b)(J:Inv (cxC X scope N fp s H C) [] σ' H' s'):Inv X pins σ H' s':=
 I.call' (ch:=fp) J.os J.base J.hok J.bare fun b hb=>let⟨_,h1,_,h3,h4,h5⟩:=f b hb;⟨h3,h1,h4,h5⟩
end
noncomputable def PIf(X:Cx)(ifs:List Expr)(t:TT):Prop:=∀(pins:List (Addr×Obj))(s:Shared)(σ:St)(H:Hp)(Q:Bool→Hp→Prop),Inv X pins σ H s→t σ H Q→
 wpAny (model X.prog X.w) X.A (forIn ifs true fun c r=>if r=true then do let ok ←isTrue c X.env (eval c X.env);pure (ForInStep.yield ok) else pure (ForInStep.yield r)) (TP X pins σ Q) X.xe s
noncomputable def tYes:TT:=fun _ H Q=>Q true H
def kiX{X:Cx}:PIf X [] tYes:=fun _ _ _ H _ I h=>wpAny_tests_nil ⟨H,I,h⟩
def kly{X:Cx}{c:Expr}{t:TT}(h:PT X c t):PIf X [c] t:=fun pins s σ H Q I hw=>wpAny_tests_one (h pins s σ H Q I hw)
theorem kgn{prog:Program}{w:World}{A:Around}{R:Result→Shared→Prop}{s:Shared}{elt target iter:Expr}{ifs:List Expr}{scope:Scope}{pos:Pos}{it acc:Value}{env:Env}(I:Nat→Shared→Prop)
  (turn:∀n s,I n s→wpAny (model prog w) A (pyNext it) (fun r s₁=>match r with
   |none=>R (.ok .next) s₁
   | some v=>wpAny (model prog w) A (letOwnedTupleGo target it v) (fun _ s₁'=>wpAny (model prog w) A (assign target env v) (fun _ s₂=>
     wpAny (model prog w) A (forIn ifs true fun c r=>if r=true then do let ok ←isTrue c env (eval c env);pure (ForInStep.yield ok) else pure (ForInStep.yield r)) (fun ok s₂'=>
      if ok=true then wpAny (model prog w) A (eval elt env) (fun x s₃=>
       wpAny (model prog w) A (call (.builtin "list.append") [acc,x]) (fun _ s₄=>∃m,m<n∧I m s₄) (fun _ _=>False) s₃) (fun _ _=>False) s₂'
      else ∃m,m<n∧I m s₂') (fun _ _=>False) s₂) (fun _ _=>False) s₁') (fun _ _=>False) s₁) (fun _ _=>False) s)
  (n:Nat) (h:I n s):codeAny (model prog w) A (.compLoop (.ListComp elt [⟨target,iter,ifs,0⟩] scope pos) 0 it acc env) R s:=by
 refine codeAny_loop rfl I (fun n s hI=>?_) n h
 show wpAny _ _ ((compTurn (.ListComp elt [⟨target,iter,ifs,0⟩] scope pos) 0 it acc env).onRaise (fun x=>do noteFrame x env;theTreesLotGoes x)) _ _ s
 refine wpAny_noted ?_
 rw[compTurn_list]
 refine wpAny_bind (wpAny_standAt (wpAny_bind (wpAny_mono (turn n s hI) (fun r s₁ h₁=>?_) fun _ _ h'=>h'.elim)))
 cases r with
 |none=>exact wpAny_pure h₁
 | some v=>
  refine wpAny_bind (wpAny_mono h₁ (fun _ s₁' h₁'=>?_) fun _ _ h'=>h'.elim)
  refine wpAny_bind (wpAny_mono h₁' (fun _ s₂ h₂=>wpAny_bind (wpAny_mono h₂ (fun ok s₂' h₂'=>?_) fun _ _ h'=>h'.elim)) fun _ _ h'=>h'.elim)
  cases ok with
  |false=>exact wpAny_pure ⟨rfl,h₂'⟩
  |true=>
   exact wpAny_bind (wpAny_bind (wpAny_mono h₂' (fun x s₃ h₃=>wpAny_bind (wpAny_mono h₃ (fun _ s₄ h₄=>wpAny_pure (wpAny_pure ⟨rfl,h₄⟩)) fun _ _ h'=>h'.elim)) fun _ _ h'=>h'.elim))
noncomputable def kl4(wi:TI)(cap:List (Option Nat))(g:TG)(tt:TT)(te:TE):TE:=fun σ H Q=>wi σ H fun J H1=>∃W:Nat→Nat→St→List V→Hp→Prop,(∃m,W 0 m (capσ cap σ) [] H1)∧∀i m σ' ys H',W i m σ' ys H'→
 (J.stop i H'∧∀D,H' D=none→Q (.ref D) (upd H' D (.lst ys)))∨(J.go i H'∧ys.length<sizeLine∧∃(N:St→V→Hp→Prop)(N0:St→Hp→Prop),(∀σ2 y H4,N σ2 y H4→∃m',m'<m∧W (i+1) m' σ2 (ys++[y]) H4)∧(∀σ2 H4,N0 σ2 H4→∃m',m'<m∧W (i+1) m' σ2 ys H4)∧
  ∀x H2,J.yld i H' x H2→g x σ' H2 fun σ2 H3=>tt σ2 H3 fun b H4=>if b=true then te σ2 H4 (N σ2) else N0 σ2 H4)
noncomputable def tComp(wi:TI)(cap:List (Option Nat))(g:TG)(te:TE):TE:=fun σ H Q=>wi σ H fun J H1=>∃W:Nat→Nat→St→List V→Hp→Prop,(∃m,W 0 m (capσ cap σ) [] H1)∧∀i m σ' ys H',W i m σ' ys H'→
 (J.stop i H'∧∀D,H' D=none→Q (.ref D) (upd H' D (.lst ys)))∨(J.go i H'∧ys.length<sizeLine∧∃N:St→V→Hp→Prop,(∀σ2 y H4,N σ2 y H4→∃m',m'<m∧W (i+1) m' σ2 (ys++[y]) H4)∧
  ∀x H2,J.yld i H' x H2→g x σ' H2 fun σ2 H3=>te σ2 H3 (N σ2))
section
variable {X:Cx} {scope:Scope} {N:List Str} {cap:List (Option Nat)} {pins:List (Addr×Obj)} {σ:St} {H2:Hp} {s2:Shared} {tg elt iter:Expr} {ifs:List Expr} {pos:Pos} {g:TG} {tt:TT} {te:TE}
theorem kdF{fp:List Addr}{it:Addr}{tn:Nat→Heap→Prop}{J:It}{Q:VK}{RR:Value→Addr→Result→Shared→Prop}{E:Value→Shared→Prop}(S:CompScope X scope N cap)(hc:X.calm=true)
  (hg:∀fp s H C,PG (cxC X scope N fp s H C) tg g) (ht:∀fp s H C,PIf (cxC X scope N fp s H C) ifs tt) (he:∀fp s H C,PE (cxC X scope N fp s H C) elt te)
  (I2:Inv X pins σ H2 s2) (T:Turn X.prog X.w X.K tg J fp it tn) (st2:tn 0 s2.heap) (f2:∀b∈fp,FpOk X pins H2 b)
  (W:Nat→Nat→St→List V→Hp→Prop) {m0:Nat} (w0:W 0 m0 (capσ cap σ) [] H2)
  (turn:∀i m σ' ys H',W i m σ' ys H'→(J.stop i H'∧∀D,H' D=none→Q (.ref D) (upd H' D (.lst ys)))∨(J.go i H'∧ys.length<sizeLine∧∃(N:St→V→Hp→Prop)(N0:St→Hp→Prop),(∀σ2 y H4,N σ2 y H4→∃m',m'<m∧W (i+1) m' σ2 (ys++[y]) H4)∧(∀σ2 H4,N0 σ2 H4→∃m',m'<m∧W (i+1) m' σ2 ys H4)∧
   ∀x H2,J.yld i H' x H2→g x σ' H2 fun σ2 H3=>tt σ2 H3 fun b H4=>if b=true then te σ2 H4 (N σ2) else N0 σ2 H4))
  (hRR:∀(D C:Addr)(H':Hp)(s':Shared)(m:Str→Option Value),Inv X pins σ H' s'→FpOk X pins H' C→C≠D→s'.heap.Ns C m→Q (.ref D) H'→RR (.ref D) C (.ok .next) s'):
  wpAny (model X.prog X.w) X.A (newList []) (fun acc s₃=>wpAny (model X.prog X.w) X.A (newFunctionEnv scope X.env.globals (closL X.env.cells scope.names []) [] X.env.qual none .none (some X.env)) (fun cenv s₄=>
   codeAny (model X.prog X.w) X.A (.compStart (.ListComp elt [⟨tg,iter,ifs,0⟩] scope pos) 0 (.ref it) acc {cenv with scope:=relabel scope X.env}) (RR acc cenv.locals) s₄) E s₃) E s2:=by
 refine wpAny_newObj_type (kfx ?_)
 dsimp only
 generalize hP:s2.heap.push {cls:=.type "list",dict:=none,data:=.seq ([]:List Value).toArray}=P
 have hnew:CellsOk (pushCells (P.push {cls:=.type "dict",data:=.dict #[]}) scope.names) (P.objs.size+1) (cellsFrom (P.objs.size+1) scope.names []):=by
  have q:=cellsFrom_ok scope.names (P.push {cls:=.type "dict",data:=.dict #[]}) (P.objs.size+1) [] ⟨fun _ _ hm=>(nomatch hm),Mx.nil⟩ (by rw[Heap.size_push];exact J4 _)
  rwa [Heap.size_push] at q
 have hns₁:(pushCells (P.push {cls:=.type "dict",data:=.dict #[]}) scope.names).Ns P.objs.size (fun _=>none):=(Heap.Ns.new P (.type "dict")).keeps (pushCells_keeps _ _)
 have keep₁:∀b o,P.get? b=some o→(pushCells (P.push {cls:=.type "dict",data:=.dict #[]}) scope.names).get? b=some o:=fun b o e=>pushCells_keeps _ _ b o (Heap.get?_push_of_some _ e)
 generalize pushCells (P.push {cls:=.type "dict",data:=.dict #[]}) scope.names=h₁ at hnew hns₁ keep₁⊢
 have hC:P.objs.size=s2.heap.objs.size+1:=by rw[←hP,Heap.size_push]
 have hDC:s2.heap.objs.size≠P.objs.size:=by rw[hC];exact Nr (MS _)
 have hCle:s2.heap.objs.size≤P.objs.size:=by rw[hC];exact N8 _
 have hDle:s2.heap.objs.size≤s2.heap.objs.size:=J4 _
 have old:∀b o,s2.heap.get? b=some o→h₁.get? b=some o:=fun b o e=>keep₁ b o (hP▸Heap.get?_push_of_some _ e)
 have hacc:h₁.get? s2.heap.objs.size=some {cls:=.type "list",data:=.seq ([]:List Value).toArray}:=keep₁ _ _ (hP▸Heap.get?_push_size _ rfl)
 have hfp:∀b∈fp,b<s2.heap.objs.size:=fun b hb=>let⟨_,e,_⟩:=T.obj 0 _ st2 b hb;Heap.lt_size e
 generalize hDd:s2.heap.objs.size=D at hacc hDC hDle⊢
 rw[hDd] at hCle hC
 generalize P.objs.size=C at hnew hns₁ hC hDC hCle⊢
 have dne:∀b∈fp,D≠b:=fun b hb=>NQ (hDd▸hfp b hb)
 have cne:∀b∈fp,b≠C:=fun b hb=>Nr (Ny (hDd▸hfp b hb) hCle)
 have stkne:∀b∈fp,b∉frs X.stack:=fun b hb hz=>by
  obtain⟨_,h1,h2,_⟩:=f2 b hb
  rcases Nl.mp (I2.stkSub b hz) with e|e
  ·exact h1 e
  ·exact h2 e
 have dfs:D∉frs X.stack:=fun hz=>absurd (kil I2 hz) (by rw[hDd];exact N6 _)
 have dcell:∀x c,(kdN X scope C).lookup x=some c→c≠D:=fun x c e z=>by
  rcases kbS S I2 e with e|e
  ·have q:Nat.lt C c:=(hnew.empty x c (PySem.mem_of_lookup e)).2
   rw[z] at q
   exact absurd (Md hCle q) (N6 _)
  ·obtain⟨v,q⟩:=I2.cell x c e
   have:=q.lt
   rw[z,hDd] at this
   exact absurd this (N6 _)
 have bcell:∀b∈fp,∀x c,(kdN X scope C).lookup x=some c→c≠b:=fun b hb x c e=>by
  rcases kbS S I2 e with e|e
  ·have q:Nat.lt C c:=(hnew.empty x c (PySem.mem_of_lookup e)).2
   exact NQ (Nat.lt_trans (Ny (hDd▸hfp b hb) hCle) q)
  ·exact(f2 b hb).2.2.2.2.1 x c e
 have stat:∀{o:Obj}{H':Hp},(∀b∈fp,H' b=none)→∀b∈fp,FpOk (cxC X scope N fp s2 H2 C) [(D,o)] H' b:=fun {o H'} hn b hb=>
  ⟨hn b hb,cne b hb,stkne b hb, .inl hb,bcell b hb,fun p hp=>by
   have e:p=(D,o):=by simpa[cxC] using hp
   subst e
   exact dne b hb⟩
 have loop:∀s₃:Shared,s₃= {s2 with heap:=h₁}→
   codeAny (model X.prog X.w) X.A (.compLoop (.ListComp elt [⟨tg,iter,ifs,0⟩] scope pos) 0 (.ref it) (.ref D) (compEnvC scope (kdN X scope C) C X.env)) (RR (.ref D) C) s₃:=by
  rintro s₃ rfl
  have I3:Inv (cxC X scope N fp s2 H2 C) [(D,_)] (capσ cap σ) H2 {s2 with heap:=h₁}:=
   kkj S I2 f2 hfp old hns₁ (by rw[hDd];exact hCle) (by rw[hDd];exact J4 _) hDC hacc (fun v z=>by cases z) hnew rfl rfl
  refine kgn (fun n s'=>∃i σ' ys H' its k,Inv (cxC X scope N fp s2 H2 C) [] σ' H' s'∧tn i s'.heap∧(∀b∈fp,H' b=none)∧H' D=none∧s'.heap.get? D=some {cls:=.type "list",data:=.seq (its:List Value).toArray k}∧Vals ys its∧ys.length≤sizeLine∧W i n σ' ys H') ?_ m0
   ⟨0,_,[],H2,[],_,I3.pins_of (fun p hp=>nomatch hp),T.keep _ _ _ st2 (fun b hb o e=>old b o e),fun b hb=>(f2 b hb).1,I2.hok.fresh (by rw[hDd];exact J4 _),hacc, .nil,NB _,w0⟩
  rintro n s3 ⟨i,σ3,ys,H3,its,k,J3,st3,fr3,hD3,e3,r3,z3,w3⟩
  have J3':Inv (cxC X scope N fp s2 H2 C) [(D,{cls:=.type "list",data:=.seq its.toArray k})] σ3 H3 s3:=J3.pins_of fun p hp=>by
   have e:p=(D,{cls:=.type "list",data:=.seq its.toArray k}):=by simpa using hp
   subst e
   exact⟨e3,hD3,hDC,dfs,fun v z=>by cases z⟩
  rcases turn i n σ3 ys H3 w3 with⟨stop,qn⟩|⟨go,hlt,N',N0',hN,hN0,step⟩
  ·refine thn (T.done (cxC X scope N fp s2 H2 C) rfl rfl rfl hc i _ s3 σ3 H3 (fun _ _=>False) J3' (stat fr3) st3 stop) fun r s4 ⟨hr,I4⟩=>?_
   subst hr
   have e4:=(I4.pin (D,{cls:=.type "list",data:=.seq its.toArray k}) (by simp[cxC])).1
   have B:Inv X pins σ H3 s4:=comp_back I2 f2 (I4.pins_of fun p hp=>nomatch hp)
   obtain⟨m,hm,_⟩:=I4.loc
   have fD:FpOk X pins H3 D:=I2.fpOk (by rw[hDd];exact J4 _) hD3
   have B':Inv X pins σ (upd H3 D (.lst ys)) s4:=B.adopt fD (by rw[←hDd];exact I2.sz) ⟨z3,its,k,r3,e4⟩
   refine hRR D C _ s4 m B' (I2.fpOk (by rw[hDd];exact hCle) ?_) hDC.symm hm (qn D hD3)
   rw[kaj hDC.symm]
   exact I4.free
  ·refine thn (T.item (cxC X scope N fp s2 H2 C) rfl rfl rfl hc i _ s3 σ3 H3 (fun _ _=>False) J3' (stat fr3) st3 go) fun r s4 ⟨u,hr,h4⟩=>?_
   subst hr
   refine thn h4 fun _ s5 ⟨x,H5,I5,r5,y5,st5,fr5⟩=>?_
   have I5':=I5.pinned (stat fr5) (T.obj _ _ st5)
   refine thn (hg fp s2 H2 C _ s5 σ3 H5 x u _ I5' r5 (step x H5 y5)) fun _ s6 ⟨σ6,H6,I6,q6⟩=>?_
   refine thn (ht fp s2 H2 C _ s6 σ6 H6 _ I6 q6) fun ok s6' ⟨H6',I6',q6'⟩=>?_
   cases ok with
   | false=>
    have q6':N0' σ6 H6':=by simpa using q6'
    obtain⟨m',hm',w7⟩:=hN0 σ6 H6' q6'
    have p7:=I6'.pin (D,{cls:=.type "list",data:=.seq its.toArray k}) (by simp[cxC])
    have e7:s6'.heap.get? D=some {cls:=.type "list",data:=.seq its.toArray k}:=p7.1
    have pf:∀b∈fp,∀o,s5.heap.get? b=some o→s6'.heap.get? b=some o∧H6' b=none:=fun b hb o e=>
     let z:=I6'.pin (b,o) (NR _ (NR _ (kcR hb e)))
     ⟨z.1,z.2.1⟩
    refine⟨m',hm',i+1,σ6,ys,H6',its,_,I6'.pins_of (fun p hp=>nomatch hp),T.keep _ _ _ st5 (fun b hb o e=>(pf b hb o e).1),fun b hb=>?_,p7.2.1,e7,r3,z3,w7⟩
    obtain⟨o,e,_⟩:=T.obj _ _ st5 b hb
    exact(pf b hb o e).2
   |true=>
   have q6':te σ6 H6' (N' σ6):=by simpa using q6'
   refine thn (he fp s2 H2 C _ s6' σ6 H6' _ I6' q6') fun v s7 ⟨y,H7,I7,r7,q7⟩=>?_
   obtain⟨m',hm',w7⟩:=hN σ6 y H7 q7
   have p7:=I7.pin (D,{cls:=.type "list",data:=.seq its.toArray k}) (by simp[cxC])
   have e7:s7.heap.get? D=some {cls:=.type "list",data:=.seq its.toArray k}:=p7.1
   have hl7:=r3.length
   refine call_meets F.slot_list_append ⟨_,e7,rfl⟩ F.entry_list_append (F.args_list_append_2 _ _) (PySem.list_append D its.toArray k v (by rw[Nk];omega)) ⟨e7,?_⟩
   have q8:=PySem.IsL.update e7 (·.push v)
   have ex8:its.toArray.push v=(its++[v]).toArray:=by simp
   rw[ex8] at q8
   have pf:∀b∈fp,∀o,s5.heap.get? b=some o→s7.heap.get? b=some o∧H7 b=none:=fun b hb o e=>
    let z:=I7.pin (b,o) (NR _ (NR _ (kcR hb e)))
    ⟨z.1,z.2.1⟩
   have I7':Inv (cxC X scope N fp s2 H2 C) [] σ6 H7 s7:=I7.pins_of fun p hp=>nomatch hp
   refine⟨m',hm',i+1,σ6,ys++[y],H7,its++[v],_,I7'.turned (it:=D) (fun b o hb e=>(Heap.get?_update_other _ _ (Ne.symm hb)).trans e) p7.2.1 hDC (.inr (by show s2.heap.objs.size≤D;rw[hDd];exact J4 _)) dcell (fun p hp=>nomatch hp),
    T.keep _ _ _ st5 (fun b hb o e=>(Heap.get?_update_other _ _ (dne b hb)).trans (pf b hb o e).1),fun b hb=>?_,p7.2.1,q8,r3.append (.cons r7 .nil),by rw[Np,MV];omega,w7⟩
   obtain⟨o,e,_⟩:=T.obj _ _ st5 b hb
   exact(pf b hb o e).2
 have st1:tn 0 h₁:=T.keep _ _ _ st2 (fun b hb o e=>old b o e)
 exact codeAny_compStart_list (loop _ rfl) (T.self X.A 0 _ _ _ st1 (loop _ rfl))
theorem kj2{wi:TI}(S:CompScope X scope N cap)(hc:X.calm=true)(hi:PI X tg iter wi)(hg:∀fp s H C,PG (cxC X scope N fp s H C) tg g)(ht:∀fp s H C,PIf (cxC X scope N fp s H C) ifs tt)(he:∀fp s H C,PE (cxC X scope N fp s H C) elt te)
  (hs:∀x,foldedSetIterable iter X.env x=pure x:=by intro _;rfl):PE X (.ListComp elt [⟨tg,iter,ifs,0⟩] scope pos) (kl4 wi cap g tt te):=by
 intro pins s σ H Q I h
 rw[eval_ListComp]
 refine wpAny_comprehension_free (use:=none) rfl hs (kcN S I) S.kind S.names (thn (hi pins s σ H _ I h) fun v s1 h1=>thn h1 fun itv s2 h2=>?_)
 obtain⟨it,fp,tn,J,H2,e,I2,T,st2,f2,W,⟨m0,w0⟩,turn⟩:=h2
 subst e
 refine kdF (RR:=fun acc C=>compPost (model X.prog X.w) X.A X.xe none (EP X pins σ Q) acc C) S hc hg ht he I2 T st2 f2 W w0 turn fun D C H' s' m B fC hCD hm q=>?_
 obtain⟨c0,c1,c2,c3,c4,c5⟩:=fC
 exact⟨m,hm,fun h' hs'=>⟨.ref D,H',B.turned (t':=s'.toks) (fun b o hb e=>(hs'.2 b hb).trans e) c0 c1 c3 c4 c5,rfl,q⟩⟩
theorem kgm{J:It}{Q:VK}{W:Nat→Nat→St→List V→Hp→Prop}(h:∀i m σ' ys H',W i m σ' ys H'→(J.stop i H'∧∀D,H' D=none→Q (.ref D) (upd H' D (.lst ys)))∨(J.go i H'∧ys.length<sizeLine∧∃N:St→V→Hp→Prop,(∀σ2 y H4,N σ2 y H4→∃m',m'<m∧W (i+1) m' σ2 (ys++[y]) H4)∧
   ∀x H2,J.yld i H' x H2→g x σ' H2 fun σ2 H3=>te σ2 H3 (N σ2))):∀i m σ' ys H',W i m σ' ys H'→(J.stop i H'∧∀D,H' D=none→Q (.ref D) (upd H' D (.lst ys)))∨(J.go i H'∧ys.length<sizeLine∧∃(N:St→V→Hp→Prop)(N0:St→Hp→Prop),(∀σ2 y H4,N σ2 y H4→∃m',m'<m∧W (i+1) m' σ2 (ys++[y]) H4)∧(∀σ2 H4,N0 σ2 H4→∃m',m'<m∧W (i+1) m' σ2 ys H4)∧
   ∀x H2,J.yld i H' x H2→g x σ' H2 fun σ2 H3=>tYes σ2 H3 fun b H4=>if b=true then te σ2 H4 (N σ2) else N0 σ2 H4):=by
 intro i m σ' ys H' w
 rcases h i m σ' ys H' w with h|⟨go,hl,N,hN,st⟩
 ·exact .inl h
 ·refine .inr ⟨go,hl,N,fun _ _=>False,hN,(fun _ _ z=>z.elim),fun x H2 y=>?_⟩
  have e:(fun(σ2:St)(H3:Hp)=>tYes σ2 H3 fun b H4=>if b=true then te σ2 H4 (N σ2) else False)=fun σ2 H3=>te σ2 H3 (N σ2):=by
   funext σ2 H3
   show(if true=true then te σ2 H3 (N σ2) else False)=te σ2 H3 (N σ2)
   rw[if_pos rfl]
  rw[e]
  exact st x H2 y
theorem ka6{wi:TI}(S:CompScope X scope N cap)(hc:X.calm=true)(hi:PI X tg iter wi)(hg:∀fp s H C,PG (cxC X scope N fp s H C) tg g)(he:∀fp s H C,PE (cxC X scope N fp s H C) elt te)
  (hs:∀x,foldedSetIterable iter X.env x=pure x:=by intro _;rfl):PE X (.ListComp elt [⟨tg,iter,[],0⟩] scope pos) (tComp wi cap g te):=by
 intro pins s σ H Q I h
 rw[eval_ListComp]
 refine wpAny_comprehension_free (use:=none) rfl hs (kcN S I) S.kind S.names (thn (hi pins s σ H _ I h) fun v s1 h1=>thn h1 fun itv s2 h2=>?_)
 obtain⟨it,fp,tn,J,H2,e,I2,T,st2,f2,W,⟨m0,w0⟩,turn⟩:=h2
 subst e
 refine kdF (RR:=fun acc C=>compPost (model X.prog X.w) X.A X.xe none (EP X pins σ Q) acc C) S hc hg (fun _ _ _ _=>kiX) he I2 T st2 f2 W w0 (kgm turn) fun D C H' s' m B fC hCD hm q=>?_
 obtain⟨c0,c1,c2,c3,c4,c5⟩:=fC
 exact⟨m,hm,fun h' hs'=>⟨.ref D,H',B.turned (t':=s'.toks) (fun b o hb e=>(hs'.2 b hb).trans e) c0 c1 c3 c4 c5,rfl,q⟩⟩
theorem kgK{wi:TI}{i:Nat}{y:Str}{py spos:Pos}(S:CompScope X scope N cap)(hc:X.calm=true)(hi:PI X tg iter wi)(hg:∀fp s H C,PG (cxC X scope N fp s H C) tg g)(he:∀fp s H C,PE (cxC X scope N fp s H C) elt te)
  (hA:PG X (.Name y py) (gName i)) (hsw:swapsWith (.ListComp elt [⟨tg,iter,[],0⟩] scope pos) (some (.Name y py)) spos.line X.env=pure true:=by rfl)
  (hs:∀x,foldedSetIterable iter X.env x=pure x:=by intro _;rfl):PS X (.Assign [.Name y py] (.ListComp elt [⟨tg,iter,[],0⟩] scope pos) spos) (tAsg (tComp wi cap g te) (gName i)):=by
 intro pins s σ H D I h
 rw[exec_Assign_Name_used _ _ _ _ hsw]
 refine wpAny_bind (wpAny_standAt (wpAny_bind ?_))
 show wpAny _ X.A (do let _ ←comprehension (.ListComp elt [⟨tg,iter,[],0⟩] scope pos) scope X.env _ (newList []) false (eval iter X.env) (some (assign (.Name y py) X.env))) _ _ s
 refine wpAny_bind (wpAny_mono (wpAny_comprehension_free (use:=some (assign (.Name y py) X.env)) (Q:=fun _ s'=>SP X pins D .next s') rfl hs (kcN S I) S.kind S.names
  (thn (hi pins s σ H _ I h) fun v s1 h1=>thn h1 fun itv s2 h2=>?_)) (fun _ s' hq=>wpAny_pure (wpAny_pure hq)) fun _ _ e=>e)
 obtain⟨it,fp,tn,J,H2,e,I2,T,st2,f2,W,⟨m0,w0⟩,turn⟩:=h2
 subst e
 refine kdF (Q:=fun v H'=>gName i v σ H' D.nx) (RR:=fun acc C=>compPost (model X.prog X.w) X.A X.xe (some (assign (.Name y py) X.env)) (fun _ s'=>SP X pins D .next s') acc C) S hc hg (fun _ _ _ _=>kiX) he I2 T st2 f2 W w0 (kgm (Q:=fun v H'=>gName i v σ H' D.nx) turn) fun D' C H' s' m B fC hCD hm q=>?_
 obtain⟨c0,c1,c2,c3,c4,c5⟩:=fC
 obtain⟨oC,es,ep,eC,dC,kC⟩:=hm
 have B':Inv X (pins++[(C,oC)]) σ H' s':=B.pins_of fun p hp=>by
  rcases NJ.mp hp with hp|hp
  ·exact B.pin p (NR _ hp)
  ·have e:p=(C,oC):=by simpa using hp
   subst e
   exact⟨eC,c0,c1,c2,fun v z=>by rw[dC] at z;cases z⟩
 refine thn (hA _ s' σ H' (.ref D') (.ref D') _ B' rfl q) fun _ s'' ⟨σ2,H3,I3,q3⟩=>?_
 obtain⟨e3,n3,_⟩:=I3.pin (C,oC) (NR _ (NR _ (by simp)))
 exact⟨m,⟨oC,es,ep,e3,dC,kC⟩,fun h' hs'=>⟨σ2,H3,I3.unpinned.turned (t':=s''.toks) (fun b o hb e=>(hs'.2 b hb).trans e) n3 c1 c3 c4 c5,q3⟩⟩
end
section
variable {g:TG} {te:TE} {σ:St} {H:Hp} {R:List V→Hp→Addr→Prop}
theorem kaS{K:JZ}{a:Addr}{xs:List V}(Pv:Nat→St→List V→Hp→Prop)(h0:Pv 0 σ [] H)(hz:xs.length≤sizeLine)(hl:∀i σ ys H,i≤xs.length→Pv i σ ys H→SqL K H a xs∧ys.length=i)
  (hs:∀i x σ ys H,xs[i]?=some x→Pv i σ ys H→g x σ H fun σ2 H2=>te σ2 H2 fun y H3=>Pv (i+1) σ2 (ys++[y]) H3) (hd:∀σ ys H,Pv xs.length σ ys H→∀D,H D=none→R ys H D):
  ∃ W:Nat→Nat→St→List V→Hp→Prop,(∃m,W 0 m σ [] H)∧∀i m σ' ys H',W i m σ' ys H'→
   ((Itl K a).stop i H'∧∀D,H' D=none→R ys H' D)∨((Itl K a).go i H'∧ys.length<sizeLine∧∃N:St→V→Hp→Prop,(∀σ2 y H4,N σ2 y H4→∃m',m'<m∧W (i+1) m' σ2 (ys++[y]) H4)∧
    ∀x H2,(Itl K a).yld i H' x H2→g x σ' H2 fun σ2 H3=>te σ2 H3 (N σ2)):=by
 refine⟨fun i m σ ys H=>m=xs.length-i∧i≤xs.length∧Pv i σ ys H,⟨xs.length,by simp,NB _,h0⟩,?_⟩
 rintro i m σ ys H ⟨rfl,hi,p⟩
 obtain⟨q,el⟩:=hl i σ ys H hi p
 by_cases hlt:i<xs.length
 ·refine .inr ⟨⟨xs,xs[i],q,by simp[hlt]⟩,by omega,fun σ2 y H3=>Pv (i+1) σ2 (ys++[y]) H3,fun σ' y H' p'=>⟨xs.length-(i+1),by omega,rfl,hlt,p'⟩,fun x H' yl=>?_⟩
  obtain⟨e,yl⟩:=yl
  subst e
  exact hs i x σ ys _ (yl xs q) p
 ·have e:i=xs.length:=by omega
  subst e
  exact .inl ⟨⟨xs,q,J4 _⟩,hd σ ys H p⟩
theorem ke4{lo:Int}{n:Nat}(Pv:Nat→St→List V→Hp→Prop)(h0:Pv 0 σ [] H)(hz:n≤sizeLine)(hl:∀i σ ys H,i≤n→Pv i σ ys H→ys.length=i)
  (hs:∀i σ ys H,i<n→Pv i σ ys H→g (.int (lo+i)) σ H fun σ2 H2=>te σ2 H2 fun y H3=>Pv (i+1) σ2 (ys++[y]) H3) (hd:∀σ ys H,Pv n σ ys H→∀D,H D=none→R ys H D):
  ∃ W:Nat→Nat→St→List V→Hp→Prop,(∃m,W 0 m σ [] H)∧∀i m σ' ys H',W i m σ' ys H'→
   ((Itr lo n).stop i H'∧∀D,H' D=none→R ys H' D)∨((Itr lo n).go i H'∧ys.length<sizeLine∧∃N:St→V→Hp→Prop,(∀σ2 y H4,N σ2 y H4→∃m',m'<m∧W (i+1) m' σ2 (ys++[y]) H4)∧
    ∀x H2,(Itr lo n).yld i H' x H2→g x σ' H2 fun σ2 H3=>te σ2 H3 (N σ2)):=by
 refine⟨fun i m σ ys H=>m=n-i∧i≤n∧Pv i σ ys H,⟨n,by simp,NB _,h0⟩,?_⟩
 rintro i m σ ys H ⟨rfl,hi,p⟩
 have el:=hl i σ ys H hi p
 by_cases hlt:i<n
 ·refine .inr ⟨hlt,by omega,fun σ2 y H3=>Pv (i+1) σ2 (ys++[y]) H3,fun σ' y H' p'=>⟨n-(i+1),by omega,rfl,hlt,p'⟩,fun x H' yl=>?_⟩
  obtain⟨e,yl⟩:=yl
  subst e yl
  exact hs i σ ys _ hlt p
 ·have e:i=n:=by omega
  subst e
  exact .inl ⟨J4 _,hd σ ys H p⟩
end
theorem CompScope.plain{X:Cx}{scope:Scope}{N:List Str}(kind:scope.kind=.function)(names:∀x∈scope.names,x.2=.local→scope.names.lookup x.1=some .local)(_:∀x∈scope.names,x.2≠.cell)(nf:∀x∈scope.names,x.2≠.free)(nd:N.Nodup):
  CompScope X scope N (J6 N.length none):=by
 refine⟨kind,names,fun x hx hf=>absurd hf (nf x hx),nd,by simp,fun j i x e _=>?_⟩
 rw[Es] at e
 split at e
 ·cases e
 ·cases e
noncomputable def kk9(scope:Scope)(ns:List (Str×NameKind))(XN N:List Str)(cap:List (Option Nat)):Bool:=
 scope.kind== .function&&scope.names.all (fun x=>!(x.2== .local)||scope.names.lookup x.1==some .local)&&scope.names.all (fun x=>!(x.2== .free)||(ns.lookup x.1==some .cell||ns.lookup x.1==some .free))&&decide N.Nodup&&decide (cap.length=N.length) &&
  (cap.zip N).all fun p=>match p.1 with
   |none=>true
   |some i=>XN[i]? ==some p.2&&scope.names.lookup p.2==some .free&&scope.names.all fun y=>!(y.1==p.2&&y.2== .cell)
def CompScope.of{X:Cx}{scope:Scope}{N:List Str}{cap:List (Option Nat)}(ns:List (Str×NameKind))(XN:List Str)(hn:X.env.scope.names=ns)(hN:X.N=XN)(h:kk9 scope ns XN N cap=true):CompScope X scope N cap:=by
 unfold kk9 at h
 simp only[N9,decide_eq_true_eq,MG,Ey,Bool.not_eq_true',beq_iff_eq,beq_eq_false_iff_ne] at h
 obtain⟨⟨⟨⟨⟨h1,h2⟩,h3⟩,h4⟩,h5⟩,h6⟩:=h
 refine⟨h1,fun x hx hl=>?_,fun x hx hf=>?_,h4,h5,fun j i x e1 e2=>?_⟩
 ·rcases h2 x hx with q|q
  ·exact absurd hl q
  ·exact q
 ·rw[hn]
  rcases h3 x hx with q|q
  ·exact absurd hf q
  ·exact q
 ·have hz:(cap.zip N)[j]?=some (some i,x):=by
   rw[List.getElem?_zip_eq_some]
   exact⟨e1,e2⟩
  have q:=h6 _ (Nb hz)
  simp only[N9,beq_iff_eq,MG,Bool.not_eq_true',Bool.and_eq_false_iff,beq_eq_false_iff_ne] at q
  obtain⟨⟨q1,q2⟩,q3⟩:=q
  refine⟨by rw[hN];exact q1,q2,fun z=>?_⟩
  rcases q3 _ z with q|q
  ·exact q rfl
  ·exact q rfl
end L2
namespace L2
open PySem PySem.Spec PyProof.Rows
theorem Inv.turnedL{X:Cx}{pins:List (Addr×Obj)}{σ:St}{H:Hp}{s:Shared}{h':Heap}{t':Nat}{ch:List Addr}(I:Inv X pins σ H s)(k:∀b o,b∉ch→s.heap.get? b=some o→h'.get? b=some o)(hf:∀b∈ch,FpOk X pins H b):
  Inv X pins σ H {s with heap:=h',toks:=t'}:=by
 have nch:∀b u,H b=some u→b∉ch:=fun b u e z=>by
  have:=(hf b z).1
  rw[this] at e
  cases e
 refine I.step (g':=s.gens) (d':=s.drawn) (ch:=ch) (fun b hb=>let⟨_,h1,_,h3,h4,h5⟩:=hf b hb;⟨h3,h1,h4,h5⟩) (fun b o _ _ hc e _=>k b o hc e) (fun b o _ _ hc e _=>⟨o.slots,k b o hc e⟩) (fun _ _ _ _ n=>n)
  (fun b o hc e=>⟨o,k b o hc e⟩) (fun _ _ e=>e) (fun _ _ _ e=>e) (fun b ps e=>⟨#[],by rw[e];simp⟩) (fun m hm=>?_) (fun b u e=>?_) I.bare
 ·obtain⟨o,es,ep,ho,r⟩:=hm
  exact⟨o,es,ep,k _ o (fun z=>(hf _ z).2.1 rfl) ho,r⟩
 ·refine(I.hok b u e).stay (fun c v hc q=>k c v ?_ q) (fun _ q=>q) fun _ _ q=>q
  rcases hc with z|z
  ·rw[z];exact nch b u e
  ·exact nch c _ z
noncomputable def Ite(a:Addr):It:=⟨fun i H=>∃xs x,H a=some (.lst xs)∧xs[i]?=some x,fun i H x H'=>∃t y,H t=none∧x=.ref t∧H'=upd H t (.tup [.int i,y])∧∀xs,H a=some (.lst xs)→xs[i]?=some y,fun i H=>∃xs,H a=some (.lst xs)∧xs.length≤i⟩
theorem kig{P:Program}{w:World}{K:JZ}{es:List Expr}{k:Nat}{pos:Pos}(a e it:Addr)(hne:e≠it):Turn P w K (.Tuple es k pos) (Ite a) [e,it] e (fun i h=>(∃old,IsEnum h e it ((i:Nat):Int) old)∧h.IsListIter it a i) where
 mem:=by simp
 obj:=fun i h st b hb=>by
  obtain⟨⟨old,he⟩,o,eo,c,d⟩:=st
  have hb':b=e∨b=it:=by simpa using hb
  rcases hb' with rfl|rfl
  ·exact⟨_,he,fun v z=>by
    have z':Data.fields _=Data.cell v:=z
    cases z'⟩
  ·exact⟨o,eo,fun v z=>by rw[d] at z;cases z⟩
 keep:=fun i h h' st k=>⟨let⟨old,he⟩:=st.1;⟨old,k e (by simp) _ he⟩,st.2.at fun o eo=>k it (by simp) o eo⟩
 item:=by
  intro X hP hw hK hc i pins s σ H E I hf st hg
  subst hP hw hK
  obtain⟨⟨old,he⟩,hit⟩:=st
  obtain⟨xs,x,hq,hx⟩:=hg
  obtain⟨its,n,r,ho,hz⟩:=I.lst hq
  obtain⟨u,hu,ru⟩:=r.get hx
  have hl:s.heap.IsList a its.toArray:=⟨_,ho,rfl,n,rfl⟩
  refine wpAny_pyNext_enum_item he hit hl (x:=u) (by simpa using hu) hne fun h1 heo hit1 ht1 hz1 hk1=>?_
  refine⟨.ref s.heap.objs.size,rfl,wpAny_letOwnedTupleGo_enum heo fun h2 he2 hs2=>?_⟩
  have hs2':Heap.SameBut e h1 h2:=hs2
  have el:e<s.heap.objs.size:=Heap.lt_size he
  have kk:∀b o,b∉[e,it]→s.heap.get? b=some o→h2.get? b=some o:=fun b o hb eo=>by
   have hb':b≠e∧b≠it:=by simpa using hb
   exact(hs2'.2 b hb'.1).trans (hk1 b o hb'.1 hb'.2 eo)
  have I1:Inv X pins σ H {s with heap:=h2,toks:=s.toks+1}:=I.turnedL (ch:=[e,it]) kk hf
  have fr:H s.heap.objs.size=none:=I.hok.fresh (J4 _)
  have ft:FpOk X pins H s.heap.objs.size:=I.fpOk (J4 _) fr
  have ht2:h2.get? s.heap.objs.size=some {cls:=.type "tuple",data:=.seq #[.int i s.toks,u]}:=(hs2'.2 _ (NQ el)).trans ht1
  have I2:Inv X pins σ (upd H s.heap.objs.size (.tup [.int i,x])) {s with heap:=h2,toks:=s.toks+1}:=
   I1.adopt ft I.sz ⟨by show 2≤sizeLine;decide,[.int i s.toks,u], .cons ⟨_,rfl⟩ (.cons ru .nil),_,ht2,rfl,_,rfl⟩
  have hit2:h2.IsListIter it a (i+1):=hit1.extBut hs2'.extBut (Ne.symm hne)
  refine⟨.ref s.heap.objs.size,_,I2,rfl,⟨s.heap.objs.size,x,fr,rfl,rfl,fun ys hy=>by rw[hq] at hy;cases hy;exact hx⟩,⟨⟨u,?_⟩,hit2⟩,fun b hb=>?_⟩
  ·have e1:((i+1:Nat):Int)=(i:Int)+1:=rfl
   rw[e1]
   exact he2
  ·have hbl:b<s.heap.objs.size:=by
    have hb':b=e∨b=it:=by simpa using hb
    rcases hb' with rfl|rfl
    ·exact el
    ·obtain⟨o,eo,_⟩:=hit
     exact Heap.lt_size eo
   rw[kaj (Nr hbl)]
   exact(hf b hb).1
 done:=by
  intro X hP hw hK hc i pins s σ H E I hf st hg
  subst hP hw hK
  obtain⟨⟨old,he⟩,hit⟩:=st
  obtain⟨xs,hq,hx⟩:=hg
  obtain⟨its,n,r,ho,hz⟩:=I.lst hq
  have hl:s.heap.IsList a its.toArray:=⟨_,ho,rfl,n,rfl⟩
  have hlen:=r.length
  obtain⟨f0,f1,f2,f3,f4,f5⟩:=hf it (by simp)
  exact wpAny_pyNext_enum_end (I.ok.hd hc) he hit hl (by simp;omega) fun h' eb=>⟨rfl,I.turned (t':=s.toks) (fun b o hb e=>eb b o hb e) f0 f1 f3 f4 f5⟩
 self:=fun _ _ _ _ _ st h=>let⟨_,he⟩:=st.1;wpAny_pyIter_enum he h
section
variable {X:Cx}
noncomputable def iEnum(ta:TA):TI:=fun σ H R=>ta σ H fun vs H1=>∃a xs,vs=[.ref a]∧H1 a=some (.lst xs)∧R (Ite a) H1
theorem kiY{es:List Expr}{k:Nat}{tpos:Pos}{e:Expr}{ta:TA}{p pos:Pos}(hg:Gl X "enumerate")(hm:X.mg "enumerate"=none)(ha:PA X [e] ta)(he:starEach [e] X.env=(false,eval e X.env)::starEach [] X.env:=by rfl)
  (hpl:(backTo pos (starEach [] X.env)).any (·.1)=false:=by rfl):PI X (.Tuple es k tpos) (.Call (.Name "enumerate" p) [e] [] pos) (iEnum ta):=by
 intro pins s σ H R I h
 refine Call_ (kcH I hg hm boot_enumerate (PyProof.Rows.callWith_type1 (thn (ha pos pins s σ H _ I h) fun us s1 ⟨vs,H1,I1,r1,q1⟩=>?_) he hpl))
 obtain⟨a,xs,rfl,hq,q⟩:=q1
 obtain⟨u,rfl,rx⟩:=vals1 r1
 cases rx
 obtain⟨its,n,r,ho,hz⟩:=I1.lst hq
 refine call_enumerate_1 ho fun h' he' hit' hsz hk=>wpAny_pyIter_enum he' ?_
 have I2:Inv X pins σ H1 {s1 with heap:=h'}:=I1.kept (t':=s1.toks) hk
 refine⟨s1.heap.objs.size+1,[s1.heap.objs.size+1,s1.heap.objs.size],_,_,H1,rfl,I2,kig a (s1.heap.objs.size+1) s1.heap.objs.size (Nat.succ_ne_self _),⟨⟨_,he'⟩,hit'⟩,fun b hb=>?_,q⟩
 have hb':b=s1.heap.objs.size+1∨b=s1.heap.objs.size:=by simpa using hb
 have hle:s1.heap.objs.size≤b:=by rcases hb' with rfl|rfl <;> omega
 exact I1.fpOk hle (I1.hok.fresh hle)
end
theorem kkq{a:Addr}{xs:List V}{g:TG}{tb:TS}{D:Ends}{σ:St}{H:Hp}(Pv:Nat→St→Hp→Prop)(h0:Pv 0 σ H)(hl:∀i σ H,i≤xs.length→Pv i σ H→H a=some (.lst xs))
  (hs:∀i y t σ H,xs[i]?=some y→Pv i σ H→H t=none→g (.ref t) σ (upd H t (.tup [.int (i:Nat),y])) fun σ2 H2=>tb {D with nx:=Pv (i+1),ct:=Pv (i+1),bk:=D.nx} σ2 H2) (hd:∀σ H,Pv xs.length σ H→D.nx σ H):
  ∃W:Nat→Nat→St→Hp→Prop,(∃m,W 0 m σ H)∧∀i m σ H,W i m σ H→
   ((Ite a).stop i H∧D.nx σ H)∨((Ite a).go i H∧∃N:St→Hp→Prop,(∀σ' H',N σ' H'→∃m',m'<m∧W (i+1) m' σ' H')∧∀x H',(Ite a).yld i H x H'→g x σ H' fun σ2 H2=>tb {D with nx:=N,ct:=N,bk:=D.nx} σ2 H2):=by
 refine⟨fun i m σ H=>m=xs.length-i∧i≤xs.length∧Pv i σ H,⟨xs.length,by simp,NB _,h0⟩,?_⟩
 rintro i m σ H ⟨rfl,hi,p⟩
 have q:=hl i σ H hi p
 by_cases hlt:i<xs.length
 ·refine .inr ⟨⟨xs,xs[i],q,by simp[hlt]⟩,Pv (i+1),fun σ' H' p'=>⟨xs.length-(i+1),by omega,rfl,hlt,p'⟩,fun x H' y=>?_⟩
  obtain⟨t,y,hn,rfl,rfl,hy⟩:=y
  exact hs i y t σ _ (hy xs q) p hn
 ·have e:i=xs.length:=by omega
  subst e
  exact .inl ⟨⟨xs,q,J4 _⟩,hd σ H p⟩
section
variable {X:Cx}
theorem khK:∀{bs:List Bool}{us:List Value}{i:Nat}{v:Value},Vals (bs.map V.bl) us→us[i]?=some v→∃b,bs[i]?=some b∧v=.bool b
 |[],_,_,_, .nil,e=>by simp at e
 |b::bs,u::us,0,v, .cons r _,e=>by
  have e':u=v:=by simpa using e
  subst e'
  exact⟨b,rfl,r⟩
 |b::bs,u::us,i+1,v, .cons _ t,e=>by
  obtain⟨b',h1,h2⟩:=khK (i:=i) (v:=v) t (by simpa using e)
  exact⟨b',by simpa using h1,h2⟩
theorem khI(hc:X.calm=true):CallR X (.builtin "all") (fun xs H Q=>∃(p:Addr)(bs:List Bool),xs=[.ref p]∧SqL X.K H p (bs.map V.bl)∧Q (.bl (bs.all id)) H):=by
 intro pins s σ H xs us Q I r h
 obtain⟨p,bs,rfl,hq,q⟩:=h
 obtain⟨u,rfl,rx⟩:=vals1 r
 cases rx
 obtain⟨its,r',pl,hz⟩:=I.list hq
 have hl:=pl.isList
 have hlt:p<s.heap.objs.size:=by obtain⟨_,e,_⟩:=hl;exact Heap.lt_size e
 have hlen:=r'.length
 refine call_all_walk (wpAny_pyIter_list hl ?_)
 refine⟨s.heap.objs.size,[s.heap.objs.size,p],[s.heap.objs.size],its.toArray.size,_,_,fun i=>(bs[i]?).getD true,rfl,Walks.list (A:=X.A.in1) (I.ok.hd hc) _ p (Nr hlt) its.toArray,
  ⟨⟨_,Heap.get?_push_size _ rfl,rfl,rfl⟩,hl.push _⟩,fun i v s' Q' E' hP hQ=>?_,fun h' tk hk=>?_⟩
 ·obtain⟨b,e,rfl⟩:=khK (i:=i) (v:=v) r' (by simpa using hP)
  simp only[e,Option.getD_some] at hQ
  exact wpAny_truthy_bool hQ
 ·have e:((J8 its.toArray.size).all fun i=>(bs[i]?).getD true)=bs.all id:=by
   rw[Nk,←hlen,JY]
   exact LSm.range_all bs
  rw[e]
  exact⟨.bl _,H,I.kept (LSm.kept_iter hk),rfl,q⟩
theorem b_all:bootBuiltins "all"=some (.builtin "all"):=by decide +kernel
noncomputable def klu:V→List V→Hp→VK→Prop:=fun x vs H Q=>∃(l:Addr)(xs:List V)(k:Int)(y:V),x=.ref l∧vs=[.int k,y]∧H l=some (.lst xs)∧0≤k∧k≤xs.length∧xs.length<sizeLine∧Q .non (upd H l (.lst (xs.take k.toNat++y::xs.drop k.toNat)))
theorem klO(its:List Value)(k:Nat)(u:Value):(its.toArray.extract 0 k).push u++its.toArray.extract k=(its.take k++u::its.drop k).toArray:=by
 apply Array.ext'
 simp
 exact N4 (by simp)
theorem ki7:MtM X "list.insert" klu:=by
 intro pins s σ H x vs v us Q I rx rv h
 obtain⟨l,xs,k,y,rfl,rfl,hH,hk0,hk,hz,q⟩:=h
 cases rx
 obtain⟨uk,u,rfl,⟨t,rfl⟩,ru⟩:=rv.two
 obtain⟨z,its,n,r,hl,e⟩:=I.lstM hH
 have hn:=kgf
 have hfit:¬(!Builtin.List.listFitsIndex k)=true:=by
  unfold Builtin.List.listFitsIndex
  simp
  omega
 have hsz:its.toArray.size≤sizeLine:=by rw[Nk];omega
 refine call_meets F.slot_list_insert ⟨_,e,rfl⟩ F.entry_list_insert (F.args_list_insert_3 _ _ _) (AutoSeq1.list_insert_list_int_val_1 l its.toArray n k t u hfit hsz) ⟨e,?_⟩
 refine⟨.non,_,I.lset (its':=its.take k.toNat++u::its.drop k.toNat) hH e ?_ ((r.take k.toNat).append (.cons ru (r.drop k.toNat))) ?_,rfl,q⟩
 ·have e1:(if k<0 then(k+(its.toArray.size:Int)).toNat else min k.toNat its.toArray.size)=k.toNat:=by
   rw[if_neg (by omega),MH (by simp;omega)]
  show(its.toArray.extract 0 (if k<0 then(k+(its.toArray.size:Int)).toNat else min k.toNat its.toArray.size)).push u++its.toArray.extract (if k<0 then(k+(its.toArray.size:Int)).toNat else min k.toNat its.toArray.size)=_
  rw[e1]
  exact klO its k.toNat u
 ·simp
  omega
end
section
variable {X:Cx}
end
end L2
namespace L2
open PySem PySem.Spec PyProof.Rows
def kh2:typeLookup (.type "list_reverseiterator") "__len__"=pure none:=by rw[typeLookup_type,builtinLookup_eq_fast];kernel_rfl
def kke:typeLookup (.type "list_reverseiterator") "__length_hint__"=pure (some (.builtin "list_reverseiterator.__length_hint__")):=by rw[typeLookup_type,builtinLookup_eq_fast];kernel_rfl
section
variable {prog:Program} {w:World} {A:Around} {E:Value→Shared→Prop} {s:Shared}
theorem kkl{it l:Addr}{i:Int}{Q:Bool→Shared→Prop}(x:s.heap.IsRevIter it l i)(h:Q false s):wpAny (model prog w) A (Builtin.List.listLengthHint (.ref it)) Q E s:=by
 unfold Builtin.List.listLengthHint
 refine wpAny_bind (wpAny_specialOf x.typeIs kh2 ?_)
 show wpAny _ A (specialOf (Value.ref it) (Str.ofString "__length_hint__") >>= _) _ _ _
 refine wpAny_bind (wpAny_specialOf x.typeIs kke ?_)
 generalize hid:("list_reverseiterator.__length_hint__" :String)=id0
 wp_delta
 rw[show splitId id0=some ("list_reverseiterator","__length_hint__") from by subst hid;decide +kernel]
 subst hid
 refine wpAny_bind (wpAny_isInstance (T:="list_reverseiterator") (b:=true) x.typeIs (by rw[isSubtype_type];kernel_rfl) ?_)
 refine wpAny_ite_split (fun z=>absurd z (by decide)) (fun _=>?_)
 refine wpAny_ite_split (fun _=>?_) (fun z=>absurd (by decide +kernel) z)
 refine wpAny_ite_split (fun z=>absurd z (by decide +kernel)) (fun _=>wpAny_pure h)
theorem kh7{R:Result→Shared→Prop}(hh:A.handled=none){it l S:Addr}{items:Array Value}{res:Value}{c0:Nat}(x:s.heap.IsRevIter it l ((items.size:Int)-1))(hl:s.heap.IsList l items)(hne:l≠it)(hSi:S≠it)(hSl:S≠l)(hz:items.size≤sizeLine)
  (hS:s.heap.get? S=some {cls:=.type "list",data:=.seq #[] c0})
  (hR:∀h' tk acc' c',(∀b o,b≠S→b≠it→s.heap.get? b=some o→h'.get? b=some o)→h'.get? S=some {cls:=.type "list",dict:=none,data:=.seq acc' c',slots:=#[]}→ItemsOf (fun i v=>items[items.size-1-i]?=some v) acc' items.size→
   R (.ok (.ret res)) {s with heap:=h',toks:=tk}):
  wpAny (model prog w) A.in1 (Builtin.List.listExtendWith (.ref S) (.ref it) res)
   (fun fin s'=>match fin with| .done f=>R (.ok f) s'| .again c'=>c'.quiet=true∧codeAny (model prog w) A c' R s') (fun e s'=>R (.error e) s') s:=by
 unfold Builtin.List.listExtendWith
 refine wpAny_bind (wpAny_typeOf x.typeIs ?_)
 have a1:Builtin.List.listSameRef (.ref S) (.ref it)=false:=by simp[Builtin.List.listSameRef,hSi]
 have a2:(Value.type "list_reverseiterator" ==Value.type "list")=false:=by decide
 have a3:(Value.type "list_reverseiterator" ==Value.type "tuple")=false:=by decide
 simp only[a1,a2,a3,EA,NS,if_false]
 refine wpAny_bind (wpAny_pyIter_revIter x (wpAny_bind (wpAny_holding (kkl x ?_))))
 rw[if_neg (by decide)]
 have W:=(Walks.listRev (prog:=prog) (w:=w) (A:=A.in1) hh it l hne items).toS
 have hSf:S∉[it,l]:=fun hm=>by
  rcases Nl.mp hm with e|hm
  ·exact hSi e
  ·exact hSl (NP.mp hm)
 have st:0≤items.size∧s.heap.IsRevIter it l ((items.size:Int)-1-((0:Nat):Int))∧s.heap.IsList l items:=⟨NB _,by rw[show(items.size:Int)-1-((0:Nat):Int)=(items.size:Int)-1 by omega];exact x,hl⟩
 refine wpAny_pure ⟨plainId_quiet F.plain_extend_loop _,codeAny_extend_loopS W hz S hSf res items.size 0 s #[] c0 rfl (NB _) st hS (ItemsOf.nil _) fun s' acc' c' hm hS' hacc=>?_⟩
 rw[Moved.eq_with hm]
 refine hR s'.heap s'.toks acc' c' (fun b o h1 h2 e=>hm.heap b o (fun q=>?_) e) hS' hacc
 rcases Nl.mp q with e|q
 ·exact h1 e
 ·exact h2 (NP.mp q)
theorem kge{R:Result→Shared→Prop}(hh:A.handled=none){it l S:Addr}{items:Array Value}(x:s.heap.IsRevIter it l ((items.size:Int)-1))(hl:s.heap.IsList l items)(hne:l≠it)(hSi:S≠it)(hSl:S≠l)(hz:items.size≤sizeLine)
  (hS:s.heap.get? S=some {cls:=.type "list",data:=.seq #[]})
  (hR:∀h' tk acc' c',(∀b o,b≠S→b≠it→s.heap.get? b=some o→h'.get? b=some o)→h'.get? S=some {cls:=.type "list",dict:=none,data:=.seq acc' c',slots:=#[]}→ItemsOf (fun i v=>items[items.size-1-i]?=some v) acc' items.size→
   R (.ok (.ret .none)) {s with heap:=h',toks:=tk}):
  wpAny (model prog w) A.in1 (Builtin.«list.__init__» ⟨[.ref S, .ref it],[]⟩)
   (fun fin s'=>match fin with| .done f=>R (.ok f) s'| .again c'=>c'.quiet=true∧codeAny (model prog w) A c' R s') (fun e s'=>R (.error e) s') s:=by
 show wpAny _ A.in1 (do let was ←Builtin.List.listItems (.ref S);Builtin.List.listUpdate (.ref S) (fun _=>#[]);letGo was.toList.reverse;Builtin.List.listExtendWith (.ref S) (.ref it) .none) _ _ s
 refine wpAny_bind ?_
 unfold Builtin.List.listItems
 refine wpAny_bind (wpAny_seqItems hS rfl (wpAny_pure ?_))
 show wpAny _ A.in1 (updateSeq S (fun _=>#[]) >>= fun _=>letGo (#[]:Array Value).toList.reverse >>= fun _=>Builtin.List.listExtendWith (.ref S) (.ref it) .none) _ _ s
 refine wpAny_bind (wpAny_updateSeq hS rfl ?_)
 have g2:=Heap.get?_update_self (Obj.mapSeq (fun _=>(#[]:Array Value))) hS rfl
 have ot:∀b o,b≠S→s.heap.get? b=some o→(s.heap.update S (Obj.mapSeq (fun _=>(#[]:Array Value)))).get? b=some o:=fun b o hb e=>(Heap.get?_update_other _ _ (Ne.symm hb)).trans e
 refine wpAny_bind (wpAny_letGo ?_)
 refine kh7 hh (x.at fun o e=>ot it o (Ne.symm hSi) e) (hl.at fun o e=>ot l o (Ne.symm hSl) e) hne hSi hSl hz g2 fun h' tk acc' c' hk hS' hacc=>?_
 exact hR h' tk acc' c' (fun b o h1 h2 e=>hk b o h1 h2 (ot b o h1 e)) hS' hacc
theorem kfF{Q:Value→Shared→Prop}(hh:A.handled=none){it l:Addr}{items:Array Value}(x:s.heap.IsRevIter it l ((items.size:Int)-1))(hl:s.heap.IsList l items)(hne:l≠it)(hz:items.size≤sizeLine)
  (hQ:∀h' tk acc' c',(∀b o,b≠it→s.heap.get? b=some o→h'.get? b=some o)→h'.get? s.heap.objs.size=some {cls:=.type "list",dict:=none,data:=.seq acc' c',slots:=#[]}→ItemsOf (fun i v=>items[items.size-1-i]?=some v) acc' items.size→
   Q (.ref s.heap.objs.size) {s with heap:=h',toks:=tk}):wpAny (model prog w) A (call (.type "list") [.ref it]) Q E s:=by
 have il:it<s.heap.objs.size:=by obtain⟨o,e,_⟩:=x;exact Heap.lt_size e
 have ll:l<s.heap.objs.size:=by obtain⟨o,e,_⟩:=hl;exact Heap.lt_size e
 refine callType_codes (Q₁:=fun u s1=>u=.ref s.heap.objs.size∧s1= {s with heap:=s.heap.push {cls:=.type "list",data:=.seq #[]}}) F.called_list (F.typeCall_list_1 _) F.entry_list_init (code_list_new _ ⟨rfl,rfl⟩) fun u s1 q=>?_
 obtain⟨rfl,rfl⟩:=q
 have hS:(s.heap.push {cls:=.type "list",data:=.seq #[]}).get? s.heap.objs.size=some {cls:=.type "list",data:=.seq #[]}:=Heap.get?_push_size _ rfl
 refine⟨⟨_,hS,rfl⟩,F.args_list_init_2 _ _,kge (A:=A.in1) hh (x.at fun o e=>Heap.get?_push_of_some _ e) (hl.at fun o e=>Heap.get?_push_of_some _ e) hne (NQ il) (NQ ll) hz hS fun h' tk acc' c' hk hS' hacc=>?_⟩
 exact⟨rfl,hQ h' tk acc' c' (fun b o hb e=>hk b o (Nr (Heap.lt_size e)) hb (Heap.get?_push_of_some _ e)) hS' hacc⟩
end
def klZ{its:List Value}{acc:Array Value}(h:ItemsOf (fun i v=>its.toArray[its.toArray.size-1-i]?=some v) acc its.toArray.size):acc=its.reverse.toArray:=by
 obtain⟨h1,h2⟩:=h
 apply Array.ext'
 apply EB
 intro i
 rcases Nat.lt_or_ge i acc.size with hi|hi
 ·have e:=h2 i acc[i] (by simp[hi])
  have hi':i<its.length:=by simpa[h1] using hi
  simp only[Nk,List.getElem?_toArray] at e
  rw[MW,MY hi]
  show _=its.reverse[i]?
  rw[List.getElem?_reverse hi',e]
 ·rw[MW,EY hi]
  show _=its.reverse[i]?
  rw[MI (by simpa[h1] using hi)]
section
variable {X:Cx}
noncomputable def kg4(K:JZ)(te:TE):TE:=fun σ H Q=>te σ H fun v H1=>∃a xs,v=.ref a∧SqL K H1 a xs∧∀l,H1 l=none→Q (.ref l) (upd H1 l (.lst xs.reverse))
theorem khV{e:Expr}{te:TE}{p1 p2 pos1 pos2:Pos}(hc:X.calm=true)(h1:Gl X "list")(m1:X.mg "list"=none)(h2:Gl X "reversed")(m2:X.mg "reversed"=none)(he:PE X e te)(s1:starEach [e] X.env=[(false,eval e X.env)]:=by rfl)
  (s2:starEach [.Call (.Name "reversed" p2) [e] [] pos2] X.env=[(false,eval (.Call (.Name "reversed" p2) [e] [] pos2) X.env)]:=by rfl):PE X (.Call (.Name "list" p1) [.Call (.Name "reversed" p2) [e] [] pos2] [] pos1) (kg4 X.K te):=by
 intro pins s σ H Q I h
 refine wpAny_Call_Name_kw (kcH I h1 m1 kbo ?_ (by decide) (by decide))
 refine PyProof.Rows.callWith_type1 ?_ s2 rfl
 rw[s2]
 refine Calls.spliced_cons (wpAny_Call_Name_kw (kcH I h2 m2 boot_reversed ?_ (by decide) (by decide)))
 refine PyProof.Rows.callWith_type1 ?_ s1 rfl
 rw[s1]
 refine Calls.spliced_cons (thn (he pins s σ H _ I h) fun u s3 ⟨v,H1,I1,r1,a,xs,ev,hq,q⟩=>Calls.spliced_nil ?_)
 subst ev
 cases r1
 obtain⟨its,r',pl,hz⟩:=I1.list hq
 have hl:=pl.isList
 have hlen:=r'.length
 have al:a<s3.heap.objs.size:=by obtain⟨_,e,_⟩:=hl;exact Heap.lt_size e
 refine call_reversed_list hl (Calls.spliced_nil ?_)
 refine kfF (I1.ok.hd hc) (it:=s3.heap.objs.size) (items:=its.toArray) ⟨_,Heap.get?_push_size _ rfl,rfl,rfl⟩ (hl.push _) (Nr al) (by simp;omega) fun h' tk acc' c' hk hS hacc=>?_
 have e:=klZ hacc
 subst e
 have hsz:(s3.heap.push (revObj a ((its.toArray.size:Int)-1))).objs.size=s3.heap.objs.size+1:=Heap.size_push ..
 have I2:Inv X pins σ (upd H1 (s3.heap.push (revObj a ((its.toArray.size:Int)-1))).objs.size (.lst xs.reverse)) {s3 with heap:=h',toks:=tk}:=
  I1.laid (fun b o e=>hk b o (Nr (Heap.lt_size e)) (Heap.get?_push_of_some _ e)) (by rw[hsz];exact N8 _) (show ObjOk X.prog X.w _ h' _ (.lst xs.reverse) from⟨by rw[EC];exact hz,its.reverse,c',r'.reverse,hS⟩)
 exact⟨.ref _,_,I2,rfl,q _ (I1.hok.fresh (by rw[hsz];exact N8 _))⟩
end
section
variable {X:Cx} {CX:CXT} {k:Nat} {f C:Addr} {fd:FuncData} {ps ks:List Str} {sp:Sp} {E:XK} {x:Str} {p pos:Pos} {e:Expr} {es:List Expr} {kws:List Keyword} {t tk:TA} {g:List Value→List Value→List Value} {gV:List V→List V→List V}
end
end L2
namespace L2
open PySem PySem.Spec PyProof.Rows
noncomputable def kbd(K:JZ):List V→Hp→VK→Prop:=fun xs H Q=>∃p ys,xs=[.ref p]∧(SqL K H p ys∨SqT K H p ys)∧∀l,H l=none→Q (.ref l) (upd H l (.lst ys))
noncomputable def kba(K:JZ):List V→Hp→VK→Prop:=fun xs H Q=>∃p ys,xs=[.ref p]∧(SqL K H p ys∨SqT K H p ys)∧Q (.int ys.length) H
noncomputable def rSum(K:JZ):List V→Hp→VK→Prop:=fun xs H Q=>∃(p:Addr)(ns:List Int),xs=[.ref p]∧SqL K H p (ns.map V.int)∧Q (.int ns.sum) H
noncomputable def rIsi(K:JZ):List V→Hp→VK→Prop:=fun xs H Q=>∃x c t b,xs=[x,c]∧((∃n,c=.ty n)∨∃a,c=.ref a)∧TyOf K H x t∧Nd K t (cV c)=some b∧Q (.bl b) H
section
variable {X:Cx} {K:JZ} {pos:Pos}
theorem kam{e:Expr}{ta:TE}{f:Str}(he:PE X e ta)(hb:attributeBase e f X.env (eval e X.env)=eval e X.env)(hK:X.K=K:=by rfl):PE X (.Attribute e f pos) (tFld K ta f):=by
 subst hK
 exact kmh he hb
theorem kaH{tg l:Expr}{tl:TE}(hl:PE X l tl)(hK:X.K=K:=by rfl):PI X tg l (iList K tl):=by
 subst hK
 exact klz hl
theorem kbl{es:List Expr}{k:Nat}{t:TGs}{n:Nat}(hc:X.calm=true)(h:PGs X es t)(hK:X.K=K:=by rfl)
  (hn:(assignEach es X.env).length=n:=by rfl) (hst:(assignEach es X.env).findIdx? (·.1)=none:=by rfl):PG X (.Tuple es k pos) (gTup K n t):=by
 subst hK
 exact kme hc h hn hst
theorem kgN{e:Expr}{te:TE}{p1 p2 pos1 pos2:Pos}(hc:X.calm=true)(h1:Gl X "list")(m1:X.mg "list"=none)(h2:Gl X "reversed")(m2:X.mg "reversed"=none)(he:PE X e te)(hK:X.K=K:=by rfl)(s1:starEach [e] X.env=[(false,eval e X.env)]:=by rfl)
  (s2:starEach [.Call (.Name "reversed" p2) [e] [] pos2] X.env=[(false,eval (.Call (.Name "reversed" p2) [e] [] pos2) X.env)]:=by rfl):PE X (.Call (.Name "list" p1) [.Call (.Name "reversed" p2) [e] [] pos2] [] pos1) (kg4 K te):=by
 subst hK
 exact khV hc h1 m1 h2 m2 he s1 s2
end
end L2
namespace L2
open PySem PySem.Spec PyProof.Rows
inductive DEq (K:JZ) (H:Hp):Nat→V→V→Prop
 |flat {n:Nat} {x y:V} (fx:flatV x=true) (fy:flatV y=true) (e:eqV x y=true):DEq K H n x y
 |same {n:Nat} (a:Addr):DEq K H n (.ref a) (.ref a)
 |lst {n:Nat} {a b:Addr} {xs ys:List V} (ha:SqL K H a xs) (hb:SqL K H b ys) (hl:xs.length=ys.length) (h:∀(i:Nat)(x y:V),xs[i]?=some x→ys[i]?=some y→DEq K H n x y):DEq K H (n+1) (.ref a) (.ref b)
 |tup {n:Nat} {a b:Addr} {xs ys:List V} (ha:SqT K H a xs) (hb:SqT K H b ys) (hl:xs.length=ys.length) (h:∀(i:Nat)(x y:V),xs[i]?=some x→ys[i]?=some y→DEq K H n x y):DEq K H (n+1) (.ref a) (.ref b)
def DEq.self{K:JZ}{H:Hp}{n:Nat}{x:V}(h:flatV x=true):DEq K H n x x:=.flat h h (kkt h)
def DEq.int{K:JZ}{H:Hp}{n:Nat}(i:Int):DEq K H n (.int i) (.int i):=.self rfl
def DEq.bl{K:JZ}{H:Hp}{n:Nat}(i:Bool):DEq K H n (.bl i) (.bl i):=.self rfl
def DEq.non{K:JZ}{H:Hp}{n:Nat}:DEq K H n .non .non:=.self rfl
def DEq.str{K:JZ}{H:Hp}{n:Nat}(i:Str):DEq K H n (.str i) (.str i):=.self rfl
def DEq.flats{K:JZ}{H:Hp}{n:Nat}{a b:Addr}{xs:List V}(ha:SqL K H a xs)(hb:SqL K H b xs)(f:xs.all flatV=true):DEq K H (n+1) (.ref a) (.ref b):=
 .lst ha hb rfl fun i x y e1 e2=>by
  rw[e1] at e2
  cases e2
  exact .self (MG.mp f _ (Nb e1))
section
variable {X:Cx}
theorem all_true(n:Nat):(J8 n).all (fun _=>true)=true:=by simp
theorem kdK{xs:List V}{us:List Value}(r:Vals xs us){j:Nat}(h:j<us.toArray.size):∃x,xs[j]?=some x∧RelV x us.toArray[j]:=by
 have h':j<us.length:=by simpa using h
 have l:=r.length
 obtain⟨u,e,ru⟩:=r.get (i:=j) (x:=xs[j]'(by omega)) (by simp[show j<xs.length by omega])
 refine⟨xs[j]'(by omega),by simp[show j<xs.length by omega],?_⟩
 have:us.toArray[j]=u:=by
  obtain⟨_,e'⟩:=Nh.mp e
  simpa using e'
 rw[this]
 exact ru
theorem kk6{pins:List (Addr×Obj)}{σ:St}{H:Hp}{s:Shared}(I:Inv X pins σ H s){n:Nat}{x y:V}(h:DEq X.K H n x y):∀{A:Around}{u w:Value},A.units+n<cLine→RelV x u→RelV y w→SeqAt.EqAt A s u w true:=by
 induction h with
 |flat fx fy e=>
  intro A u w _ r1 r2
  have:=kk5 (A:=A) (s:=s) r1 r2 fx fy
  rw[e] at this
  exact this
 |same a=>
  intro A u w _ r1 r2
  cases r1
  cases r2
  exact SeqAt.EqAt.same _
 | @lst n a b xs ys ha hb hl h ih=>
  intro A u w hu r1 r2
  cases r1
  cases r2
  by_cases e:a=b
  ·subst e
   exact SeqAt.EqAt.same _
  obtain⟨us,q1,p1,z1⟩:=I.list ha
  obtain⟨ws,q2,p2,z2⟩:=I.list hb
  have l1:=q1.length
  have l2:=q2.length
  have key:=SeqAt.RcAt.lists (A:=A) (e:=fun _=>true) p1.isList p2.isList (by simp;omega) (by omega) fun j h1 h2=>by
   obtain⟨x,e1,g1⟩:=kdK q1 h1
   obtain⟨y,e2,g2⟩:=kdK q2 h2
   exact ih j x y e1 e2 (A:=A.in1) (by show A.units+1+n<cLine;omega) g1 g2
  rw[all_true] at key
  exact SeqAt.EqAt.of_refs e key
 | @tup n a b xs ys ha hb hl h ih=>
  intro A u w hu r1 r2
  cases r1
  cases r2
  by_cases e:a=b
  ·subst e
   exact SeqAt.EqAt.same _
  obtain⟨us,q1,p1,z1⟩:=I.tuple ha
  obtain⟨ws,q2,p2,z2⟩:=I.tuple hb
  have l1:=q1.length
  have l2:=q2.length
  have key:=SeqAt.RcAt.tuples (A:=A) (e:=fun _=>true) p1 p2 (by omega) fun j h1 h2=>by
   obtain⟨x,e1,g1⟩:=kdK q1 h1
   obtain⟨y,e2,g2⟩:=kdK q2 h2
   exact ih j x y e1 e2 (A:=A.in1) (by show A.units+1+n<cLine;omega) g1 g2
  rw[all_true,show(us.toArray.size==ws.toArray.size)=true by simp;omega] at key
  exact SeqAt.EqAt.of_refs e key
noncomputable def kma(K:JZ)(b:Bool):R2:=fun x y H Q=>∃(a c:Addr)(xs ys:List V),x=.ref a∧y=.ref c∧((SqL K H a xs∧SqL K H c ys)∨(SqT K H a xs∧SqT K H c ys))∧xs.length=ys.length∧(∀(i:Nat)(x y:V),xs[i]?=some x→ys[i]?=some y→DEq K H 32 x y)∧Q (.bl b) H
theorem kmk(hu:X.A.units+64<cLine):OpR X (compareOp .NotEq) (kma X.K false):=by
 intro pins s σ H x y v u Q I rx ry h
 obtain⟨a,c,xs,ys,rfl,rfl,hq,hl,hd,q⟩:=h
 cases rx
 cases ry
 show wpAny _ _ (richCompare .NotEq (.ref a) (.ref c)) _ _ s
 rcases hq with⟨ha,hb⟩|⟨ha,hb⟩
 ·obtain⟨us,q1,p1,z1⟩:=I.list ha
  obtain⟨ws,q2,p2,z2⟩:=I.list hb
  have l1:=q1.length
  have l2:=q2.length
  refine SeqAt.RcNeAt.lists (e:=fun _=>true) p1.isList p2.isList (by simp;omega) (by omega) (fun j h1 h2=>?_) _ _ _ _ ⟨.bl false,H,I,?_,q⟩
  ·obtain⟨x,e1,g1⟩:=kdK q1 h1
   obtain⟨y,e2,g2⟩:=kdK q2 h2
   exact kk6 I (hd j x y e1 e2) (by show X.A.units+1+32<cLine;omega) g1 g2
  ·rw[all_true]
   rfl
 ·obtain⟨us,q1,p1,z1⟩:=I.tuple ha
  obtain⟨ws,q2,p2,z2⟩:=I.tuple hb
  have l1:=q1.length
  have l2:=q2.length
  refine SeqAt.RcNeAt.tuples (e:=fun _=>true) p1 p2 (by omega) (fun j h1 h2=>?_) _ _ _ _ ⟨.bl false,H,I,?_,q⟩
  ·obtain⟨x,e1,g1⟩:=kdK q1 h1
   obtain⟨y,e2,g2⟩:=kdK q2 h2
   exact kk6 I (hd j x y e1 e2) (by show X.A.units+1+32<cLine;omega) g1 g2
  ·rw[all_true,show(us.toArray.size==ws.toArray.size)=true by simp;omega]
   rfl
end
noncomputable def Itz(a b:Addr):It:=⟨fun i H=>∃xs ys x y,H a=some (.lst xs)∧H b=some (.lst ys)∧xs[i]?=some x∧ys[i]?=some y,
 fun i H v H'=>∃t x y,H t=none∧v=.ref t∧H'=upd H t (.tup [x,y])∧(∀xs,H a=some (.lst xs)→xs[i]?=some x)∧∀ys,H b=some (.lst ys)→ys[i]?=some y,
 fun i H=>∃xs ys,H a=some (.lst xs)∧H b=some (.lst ys)∧(xs.length≤i∨ys.length≤i)⟩
theorem kjR{P:Program}{w:World}{K:JZ}{es:List Expr}{k:Nat}{pos:Pos}(a b z TI TO i1 i2:Addr)(nd:[z,TI,TO,i1,i2].Nodup):
  Turn P w K (.Tuple es k pos) (Itz a b) [z,TI,TO,i1,i2] z (fun i h=>IsZip h z TI TO .none∧IsPair h TI (.ref i1) (.ref i2)∧(∃u v,IsPair h TO u v)∧h.IsListIter i1 a i∧h.IsListIter i2 b i) where
 mem:=by simp
 obj:=fun i h st b hb=>by
  obtain⟨hz,hI,⟨_,_,hO⟩,⟨o1,e1,_,d1⟩,⟨o2,e2,_,d2⟩⟩:=st
  simp only[Nl,N5,or_false] at hb
  rcases hb with rfl|rfl|rfl|rfl|rfl
  ·exact⟨_,hz,fun v q=>by cases(show Data.fields _=Data.cell v from q)⟩
  ·exact⟨_,hI,fun v q=>by cases(show Data.seq _ _=Data.cell v from q)⟩
  ·exact⟨_,hO,fun v q=>by cases(show Data.seq _ _=Data.cell v from q)⟩
  ·exact⟨o1,e1,fun v q=>by rw[d1] at q;cases q⟩
  ·exact⟨o2,e2,fun v q=>by rw[d2] at q;cases q⟩
 keep:=fun i h h' st kk=>by
  obtain⟨hz,hI,⟨u,v,hO⟩,h1,h2⟩:=st
  exact⟨kk z (by simp) _ hz,kk TI (by simp) _ hI,⟨u,v,kk TO (by simp) _ hO⟩,h1.at fun o e=>kk i1 (by simp) o e,h2.at fun o e=>kk i2 (by simp) o e⟩
 item:=by
  intro X hP hw hK hc i pins s σ H E I hf st hg
  subst hP hw hK
  obtain⟨hz,hI,⟨u,v,hO⟩,h1,h2⟩:=st
  obtain⟨xs,ys,x,y,ha,hb,hx,hy⟩:=hg
  obtain⟨its1,n1,r1,ho1,_⟩:=I.lst ha
  obtain⟨its2,n2,r2,ho2,_⟩:=I.lst hb
  obtain⟨u1,g1,ru1⟩:=r1.get hx
  obtain⟨u2,g2,ru2⟩:=r2.get hy
  have L1:s.heap.IsList a its1.toArray:=⟨_,ho1,rfl,n1,rfl⟩
  have L2':s.heap.IsList b its2.toArray:=⟨_,ho2,rfl,n2,rfl⟩
  have off:∀{l:Addr}{zs:List V},H l=some (.lst zs)→l∉[z,TI,TO,i1,i2]:=fun {l zs} e m=>by
   have:=(hf l m).1
   rw[this] at e
   cases e
  have oa:=off ha
  have ob:=off hb
  have nd':=nd
  simp only[N3,Nl,N5,or_false,not_or,ED,and_true,not_false_eq_true] at nd' oa ob
  obtain⟨⟨nzI,nzO,nz1,nz2⟩,⟨nIO,nI1,nI2⟩,⟨nO1,nO2⟩,n12⟩:=nd'
  have D:ZipApart z TI TO i1 i2 a b:=⟨Ne.symm nzI,Ne.symm nzO,Ne.symm nz1,Ne.symm nz2,nIO,nI1,nI2,nO1,nO2,n12,oa.1,oa.2.2.1,oa.2.2.2.1,oa.2.2.2.2,ob.1,ob.2.2.1,ob.2.2.2.1,ob.2.2.2.2⟩
  refine wpAny_pyNext_zip_item D hz hI hO h1 h2 L1 L2' (x:=u1) (y:=u2) (by simpa using g1) (by simpa using g2) fun h' a1 a2 a3 a4 a5 a6 a7=>?_
  refine⟨.ref s.heap.objs.size,rfl,wpAny_letOwnedTupleGo_zip a1 fun h2' z2 s2=>?_⟩
  have s2':Heap.SameBut z h' h2':=s2
  have zl:z<s.heap.objs.size:=Heap.lt_size hz
  have kk:∀b o,b∉[z,TI,TO,i1,i2]→s.heap.get? b=some o→h2'.get? b=some o:=fun b o hb eo=>by
   simp only[Nl,N5,or_false,not_or] at hb
   exact(s2'.2 b hb.1).trans (a7 b o hb.1 hb.2.2.1 hb.2.2.2.1 hb.2.2.2.2 eo)
  have I1:Inv X pins σ H {s with heap:=h2',toks:=s.toks}:=I.turnedL (ch:=[z,TI,TO,i1,i2]) kk hf
  have fr:H s.heap.objs.size=none:=I.hok.fresh (J4 _)
  have ft:FpOk X pins H s.heap.objs.size:=I.fpOk (J4 _) fr
  have t2:h2'.get? s.heap.objs.size=some {cls:=.type "tuple",data:=.seq #[u1,u2]}:=(s2'.2 _ (NQ zl)).trans a5
  have I2:Inv X pins σ (upd H s.heap.objs.size (.tup [x,y])) {s with heap:=h2',toks:=s.toks}:=
   I1.adopt ft I.sz ⟨by show 2≤sizeLine;decide,[u1,u2], .cons ru1 (.cons ru2 .nil),_,t2,rfl,_,rfl⟩
  have hI2:IsPair h2' TI (.ref i1) (.ref i2):=(s2'.2 _ (Ne.symm nzI)).trans (a7 TI _ (Ne.symm nzI) nIO nI1 nI2 hI)
  refine⟨.ref s.heap.objs.size,_,I2,rfl,⟨s.heap.objs.size,x,y,fr,rfl,rfl,fun ws e=>by rw[ha] at e;cases e;exact hx,fun ws e=>by rw[hb] at e;cases e;exact hy⟩,
   ⟨z2,hI2,⟨_,_,(s2'.2 _ (Ne.symm nzO)).trans a2⟩,a3.extBut s2'.extBut (Ne.symm nz1),a4.extBut s2'.extBut (Ne.symm nz2)⟩,fun b hb=>?_⟩
  have hbl:b<s.heap.objs.size:=by
   simp only[Nl,N5,or_false] at hb
   rcases hb with rfl|rfl|rfl|rfl|rfl
   ·exact zl
   ·exact Heap.lt_size hI
   ·exact Heap.lt_size hO
   ·obtain⟨o,e,_⟩:=h1;exact Heap.lt_size e
   ·obtain⟨o,e,_⟩:=h2;exact Heap.lt_size e
  rw[kaj (Nr hbl)]
  exact(hf b hb).1
 done:=by
  intro X hP hw hK hc i pins s σ H E I hf st hg
  subst hP hw hK
  obtain⟨hz,hI,⟨u,v,hO⟩,h1,h2⟩:=st
  obtain⟨xs,ys,ha,hb,hx⟩:=hg
  obtain⟨its1,n1,r1,ho1,_⟩:=I.lst ha
  obtain⟨its2,n2,r2,ho2,_⟩:=I.lst hb
  have L1:s.heap.IsList a its1.toArray:=⟨_,ho1,rfl,n1,rfl⟩
  have L2':s.heap.IsList b its2.toArray:=⟨_,ho2,rfl,n2,rfl⟩
  have hlen1:=r1.length
  have hlen2:=r2.length
  have off:∀{l:Addr}{zs:List V},H l=some (.lst zs)→l∉[z,TI,TO,i1,i2]:=fun {l zs} e m=>by
   have:=(hf l m).1
   rw[this] at e
   cases e
  have oa:=off ha
  have ob:=off hb
  have nd':=nd
  simp only[N3,Nl,N5,or_false,not_or,ED,and_true,not_false_eq_true] at nd' oa ob
  obtain⟨⟨nzI,nzO,nz1,nz2⟩,⟨nIO,nI1,nI2⟩,⟨nO1,nO2⟩,n12⟩:=nd'
  have D:ZipApart z TI TO i1 i2 a b:=⟨Ne.symm nzI,Ne.symm nzO,Ne.symm nz1,Ne.symm nz2,nIO,nI1,nI2,nO1,nO2,n12,oa.1,oa.2.2.1,oa.2.2.2.1,oa.2.2.2.2,ob.1,ob.2.2.1,ob.2.2.2.1,ob.2.2.2.2⟩
  refine wpAny_pyNext_zip_end (I.ok.hd hc) D hz hI hO h1 h2 L1 L2' ?_ fun h' hk=>⟨rfl,?_⟩
  ·rcases hx with hx|hx
   ·exact .inl (by simp;omega)
   ·exact .inr (by simp;omega)
  ·refine I.turnedL (t':=s.toks) (ch:=[z,TI,TO,i1,i2]) (fun b o hb e=>?_) hf
   simp only[Nl,N5,or_false,not_or] at hb
   exact hk b o hb.1 hb.2.2.1 hb.2.2.2.1 hb.2.2.2.2 e
 self:=fun _ _ _ _ _ st h=>wpAny_pyIter_zip st.1 h
def klQ(n:Nat):([n+4,n+2,n+3,n,n+1]:List Nat).Nodup:=by
 simp only[N3,Nl,N5,or_false,not_or,ED,and_true,not_false_eq_true]
 omega
def klR{n x:Nat}(h:x∈([n+4,n+2,n+3,n,n+1]:List Nat)):n≤x:=by
 simp only[Nl,N5,or_false] at h
 omega
section
variable {X:Cx}
noncomputable def iZip(ta:TA):TI:=fun σ H R=>ta σ H fun vs H1=>∃a b xs ys,vs=[.ref a, .ref b]∧H1 a=some (.lst xs)∧H1 b=some (.lst ys)∧R (Itz a b) H1
theorem kmB:bootBuiltins "zip"=some (.type "zip"):=by decide +kernel
theorem kef{es:List Expr}{k:Nat}{tpos:Pos}{e1 e2:Expr}{ta:TA}{p pos:Pos}(hg:Gl X "zip")(hm:X.mg "zip"=none)(ha:PA X [e1,e2] ta)(he:starEach [e1,e2] X.env=(false,eval e1 X.env)::starEach [e2] X.env:=by rfl)
  (hpl:(backTo pos (starEach [e2] X.env)).any (·.1)=false:=by rfl):PI X (.Tuple es k tpos) (.Call (.Name "zip" p) [e1,e2] [] pos) (iZip ta):=by
 intro pins s σ H R I h
 refine Call_ (kcH I hg hm kmB (PyProof.Rows.callWith_type1 (thn (ha pos pins s σ H _ I h) fun us s1 ⟨vs,H1,I1,r1,q1⟩=>?_) he hpl))
 obtain⟨a,b,xs,ys,rfl,qa,qb,q⟩:=q1
 cases r1 with
 | cons ra rr=>
  cases rr with
  |cons rb rr=>
   cases rr
   cases ra
   cases rb
   obtain⟨its1,n1,_,ho1,_⟩:=I1.lst qa
   obtain⟨its2,n2,_,ho2,_⟩:=I1.lst qb
   refine call_zip_2 (xs:=its1.toArray) (ys:=its2.toArray) ⟨_,ho1,rfl,n1,rfl⟩ ⟨_,ho2,rfl,n2,rfl⟩ fun h' b1 b2 b3 b4 b5 _ hk=>wpAny_pyIter_zip b1 ?_
   have I2:Inv X pins σ H1 {s1 with heap:=h'}:=I1.kept (t':=s1.toks) hk
   refine⟨s1.heap.objs.size+4,[s1.heap.objs.size+4,s1.heap.objs.size+2,s1.heap.objs.size+3,s1.heap.objs.size,s1.heap.objs.size+1],_,_,H1,rfl,I2,kjR a b _ _ _ _ _ (klQ _),⟨b1,b2,⟨_,_,b3⟩,b4,b5⟩,fun x hx=>?_,q⟩
   have hle:s1.heap.objs.size≤x:=klR hx
   exact I1.fpOk hle (I1.hok.fresh hle)
end
theorem kjt{a b:Addr}{xs ys:List V}{g:TG}{tb:TS}{D:Ends}{σ:St}{H:Hp}(Pv:Nat→St→Hp→Prop)(h0:Pv 0 σ H)(hl:∀i σ H,i≤min xs.length ys.length→Pv i σ H→H a=some (.lst xs)∧H b=some (.lst ys))
  (hs:∀i x y t σ H,xs[i]?=some x→ys[i]?=some y→Pv i σ H→H t=none→g (.ref t) σ (upd H t (.tup [x,y])) fun σ2 H2=>tb {D with nx:=Pv (i+1),ct:=Pv (i+1),bk:=D.nx} σ2 H2) (hd:∀σ H,Pv (min xs.length ys.length) σ H→D.nx σ H):
  ∃W:Nat→Nat→St→Hp→Prop,(∃m,W 0 m σ H)∧∀i m σ H,W i m σ H→
   ((Itz a b).stop i H∧D.nx σ H)∨((Itz a b).go i H∧∃N:St→Hp→Prop,(∀σ' H',N σ' H'→∃m',m'<m∧W (i+1) m' σ' H')∧∀x H',(Itz a b).yld i H x H'→g x σ H' fun σ2 H2=>tb {D with nx:=N,ct:=N,bk:=D.nx} σ2 H2):=by
 refine⟨fun i m σ H=>m=min xs.length ys.length-i∧i≤min xs.length ys.length∧Pv i σ H,⟨min xs.length ys.length,by simp,NB _,h0⟩,?_⟩
 rintro i m σ H ⟨rfl,hi,p⟩
 obtain⟨q1,q2⟩:=hl i σ H hi p
 by_cases hlt:i<min xs.length ys.length
 ·refine .inr ⟨⟨xs,ys,xs[i]'(by omega),ys[i]'(by omega),q1,q2,by simp[show i<xs.length by omega],by simp[show i<ys.length by omega]⟩,Pv (i+1),fun σ' H' p'=>⟨min xs.length ys.length-(i+1),by omega,rfl,hlt,p'⟩,fun x H' y=>?_⟩
  obtain⟨t,x,y,hn,rfl,rfl,h1,h2⟩:=y
  exact hs i x y t σ _ (h1 _ q1) (h2 _ q2) p hn
 ·have e:i=min xs.length ys.length:=by omega
  refine .inl ⟨⟨xs,ys,q1,q2,by omega⟩,?_⟩
  rw[e] at p
  exact hd σ H p
theorem kfD{a b:Addr}{xs ys:List V}{g:TG}{te:TE}{σ:St}{H:Hp}{R:List V→Hp→Addr→Prop}(Pv:Nat→St→List V→Hp→Prop)(h0:Pv 0 σ [] H)(hz:min xs.length ys.length≤sizeLine)(hl:∀i σ zs H,i≤min xs.length ys.length→Pv i σ zs H→H a=some (.lst xs)∧H b=some (.lst ys)∧zs.length=i)
  (hs:∀i x y t σ zs H,xs[i]?=some x→ys[i]?=some y→Pv i σ zs H→H t=none→g (.ref t) σ (upd H t (.tup [x,y])) fun σ2 H2=>te σ2 H2 fun z H3=>Pv (i+1) σ2 (zs++[z]) H3) (hd:∀σ zs H,Pv (min xs.length ys.length) σ zs H→∀D,H D=none→R zs H D):
  ∃ W:Nat→Nat→St→List V→Hp→Prop,(∃m,W 0 m σ [] H)∧∀i m σ' zs H',W i m σ' zs H'→
   ((Itz a b).stop i H'∧∀D,H' D=none→R zs H' D)∨((Itz a b).go i H'∧zs.length<sizeLine∧∃N:St→V→Hp→Prop,(∀σ2 y H4,N σ2 y H4→∃m',m'<m∧W (i+1) m' σ2 (zs++[y]) H4)∧
    ∀x H2,(Itz a b).yld i H' x H2→g x σ' H2 fun σ2 H3=>te σ2 H3 (N σ2)):=by
 refine⟨fun i m σ zs H=>m=min xs.length ys.length-i∧i≤min xs.length ys.length∧Pv i σ zs H,⟨min xs.length ys.length,by simp,NB _,h0⟩,?_⟩
 rintro i m σ zs H ⟨rfl,hi,p⟩
 obtain⟨q1,q2,el⟩:=hl i σ zs H hi p
 by_cases hlt:i<min xs.length ys.length
 ·refine .inr ⟨⟨xs,ys,xs[i]'(by omega),ys[i]'(by omega),q1,q2,by simp[show i<xs.length by omega],by simp[show i<ys.length by omega]⟩,by omega,fun σ2 y H3=>Pv (i+1) σ2 (zs++[y]) H3,fun σ' y H' p'=>⟨min xs.length ys.length-(i+1),by omega,rfl,hlt,p'⟩,fun x H' yl=>?_⟩
  obtain⟨t,x,y,hn,rfl,rfl,h1,h2⟩:=yl
  exact hs i x y t σ zs _ (h1 _ q1) (h2 _ q2) p hn
 ·have e:i=min xs.length ys.length:=by omega
  refine .inl ⟨⟨xs,ys,q1,q2,by omega⟩,?_⟩
  rw[e] at p
  exact hd σ zs H p
end L2
namespace L2
open PySem PySem.Spec PyProof.Rows
section
variable {g:TG} {tt:TT} {te:TE} {σ:St} {H:Hp} {R:List V→Hp→Addr→Prop}
theorem kkx{J:It}{n:Nat}(Pv:Nat→St→List V→Hp→Prop)(h0:Pv 0 σ [] H)(hz:n≤sizeLine)(hl:∀i σ ys H,i≤n→Pv i σ ys H→ys.length≤i)(hgo:∀i σ ys H,i<n→Pv i σ ys H→J.go i H)(hst:∀σ ys H,Pv n σ ys H→J.stop n H)
  (hs:∀i σ ys H x H',i<n→Pv i σ ys H→J.yld i H x H'→g x σ H' fun σ2 H2=>tt σ2 H2 fun b H3=>if b=true then te σ2 H3 (fun y H4=>Pv (i+1) σ2 (ys++[y]) H4) else Pv (i+1) σ2 ys H3) (hd:∀σ ys H,Pv n σ ys H→∀D,H D=none→R ys H D):
  ∃ W:Nat→Nat→St→List V→Hp→Prop,(∃m,W 0 m σ [] H)∧∀i m σ' ys H',W i m σ' ys H'→
   (J.stop i H'∧∀D,H' D=none→R ys H' D)∨(J.go i H'∧ys.length<sizeLine∧∃(N:St→V→Hp→Prop)(N0:St→Hp→Prop),(∀σ2 y H4,N σ2 y H4→∃m',m'<m∧W (i+1) m' σ2 (ys++[y]) H4)∧(∀σ2 H4,N0 σ2 H4→∃m',m'<m∧W (i+1) m' σ2 ys H4)∧
    ∀x H2,J.yld i H' x H2→g x σ' H2 fun σ2 H3=>tt σ2 H3 fun b H4=>if b=true then te σ2 H4 (N σ2) else N0 σ2 H4):=by
 refine⟨fun i m σ ys H=>m=n-i∧i≤n∧Pv i σ ys H,⟨n,by simp,NB _,h0⟩,?_⟩
 rintro i m σ ys H ⟨rfl,hi,p⟩
 have el:=hl i σ ys H hi p
 by_cases hlt:i<n
 ·refine .inr ⟨hgo i σ ys H hlt p,by omega,fun σ2 y H3=>Pv (i+1) σ2 (ys++[y]) H3,fun σ2 H3=>Pv (i+1) σ2 ys H3,fun σ' y H' p'=>⟨n-(i+1),by omega,rfl,hlt,p'⟩,fun σ' H' p'=>⟨n-(i+1),by omega,rfl,hlt,p'⟩,fun x H' yl=>?_⟩
  exact hs i σ ys H x H' hlt p yl
 ·have e:i=n:=by omega
  subst e
  exact .inl ⟨hst σ ys H p,hd σ ys H p⟩
theorem kh9{a:Addr}{xs:List V}(Pv:Nat→St→List V→Hp→Prop)(h0:Pv 0 σ [] H)(hz:xs.length≤sizeLine)(hl:∀i σ ys H,i≤xs.length→Pv i σ ys H→H a=some (.lst xs)∧ys.length≤i)
  (hs:∀i y t σ ys H,xs[i]?=some y→Pv i σ ys H→H t=none→g (.ref t) σ (upd H t (.tup [.int (i:Nat),y])) fun σ2 H2=>tt σ2 H2 fun b H3=>if b=true then te σ2 H3 (fun y H4=>Pv (i+1) σ2 (ys++[y]) H4) else Pv (i+1) σ2 ys H3) (hd:∀σ ys H,Pv xs.length σ ys H→∀D,H D=none→R ys H D):
  ∃ W:Nat→Nat→St→List V→Hp→Prop,(∃m,W 0 m σ [] H)∧∀i m σ' ys H',W i m σ' ys H'→
   ((Ite a).stop i H'∧∀D,H' D=none→R ys H' D)∨((Ite a).go i H'∧ys.length<sizeLine∧∃(N:St→V→Hp→Prop)(N0:St→Hp→Prop),(∀σ2 y H4,N σ2 y H4→∃m',m'<m∧W (i+1) m' σ2 (ys++[y]) H4)∧(∀σ2 H4,N0 σ2 H4→∃m',m'<m∧W (i+1) m' σ2 ys H4)∧
    ∀x H2,(Ite a).yld i H' x H2→g x σ' H2 fun σ2 H3=>tt σ2 H3 fun b H4=>if b=true then te σ2 H4 (N σ2) else N0 σ2 H4):=
 kkx Pv h0 hz (fun i σ ys H hi p=>(hl i σ ys H hi p).2) (fun i σ ys H hi p=>⟨xs,xs[i],(hl i σ ys H (Ng hi) p).1,by simp[hi]⟩) (fun σ ys H p=>⟨xs,(hl _ σ ys H (J4 _) p).1,J4 _⟩)
  (fun i σ ys H x H' hi p yl=>by
   obtain⟨t,y,hn,rfl,rfl,hy⟩:=yl
   exact hs i y t σ ys _ (hy xs (hl i σ ys _ (Ng hi) p).1) p hn) hd
end
section
variable {X:Cx}
noncomputable def isI(k:Int):Value→Bool
 | .int a _=>a==k
 |_=>false
theorem kgi:∀{ns:List Int}{us:List Value},Vals (ns.map V.int) us→∀(j:Nat)(n:Int),ns[j]?=some n→∃t,us[j]?=some (.int n t)
 |[],_,_,j,n,e=>by simp at e
 | m::ns,u::us, .cons r t,j,n,e=>by
  cases j with
  |zero=>
   have e':m=n:=by simpa using e
   subst e'
   obtain⟨t,rfl⟩:=r
   exact⟨t,rfl⟩
  |succ j=>
   obtain⟨q,h⟩:=kgi t j n (by simpa using e)
   exact⟨q,by simpa using h⟩
end
end L2
namespace L2
open PySem PySem.Spec PyProof.Rows
structure BaseT (K:JZ) (C:Addr) (m:Str) (f:Addr):Prop where
 rd:PySem.W.readsIn K C (.type "type")=true
 ga:MB K (.ref C) "__getattribute__"=some (some (.builtin "type.__getattribute__"))
 fc:PySem.W.findCls K (.ref C) (.type "type") m=some (.val (.ref f))
section
variable {X:Cx} {CX:CXT} {k:Nat} {f C:Addr} {fd:FuncData} {ps:List Str} {sp:Sp} {dvs:List V} {ds:List Value} {E:XK} {x m:Str} {p pos apos:Pos} {e o:Expr} {es:List Expr} {ta:TE} {t:TA}
theorem keh{pl:Sem Bool}(B:BaseT X.K C m f)(F:FnOk X.prog X.w X.K X.mg X.base CX k f fd ps sp)(hr:Room k X.A)(hg:Gl X x)(hm:X.mg x=some (.ref C))(hk:Ni X.K (.ref f)=true)(hb:Binds X.K fd ps ds)(hd:Vals dvs ds)(hx:kct CX X E)
  (ha:PA X (e::es) t) (hdb:(x==("__debug__" :Str))=false:=by decide)
  (hst:starEach (e::es) X.env=(false,eval e X.env)::starEach es X.env:=by rfl) (hpl:(backTo pos (starEach es X.env)).any (·.1)=false:=by rfl)
  (ht:eval (.Call (.Attribute (.Name x p) m apos) (e::es) [] pos) X.env=(do
   let ov ←eval (.Name x p) X.env
   standAt apos.atName
   let(f,first) ←holding [ov] (getMethod ov m pl)
   callWith pos f first (backTo pos (starEach (e::es) X.env)) (backToKw pos (keywordEach [] X.env))):=by rfl):
  PE X (.Call (.Attribute (.Name x p) m apos) (e::es) [] pos) (tCall sp dvs E t):=by
 intro pins s σ H Q I h
 refine Ep (pl:=pl) (thn (kb8 (v:=.ref C) hg hm rfl hdb pins s σ H (fun y H1=>y=.ref C∧H1=H) I ⟨rfl,rfl⟩) fun u s1 ⟨y,H1,I1,ry,ey,eH⟩=>?_) ht
 subst ey eH
 obtain rfl:u=Value.ref C:=ry
 refine PySem.W.method_cls I1.kIn B.ga (PySem.W.cls_value I1.kIn B.rd B.fc rfl ?_)
 have I2:=I1.tok (s1.toks+1)
 refine Mv (h₀:=X.base) I.ok.mod.kin hk (thn (ha pos pins _ σ H1 _ I2 h) fun us s2 ⟨vs,H2,I3,r,q2⟩=>⟨I3.kIn,?_⟩) hst hpl
 exact khm F hr hb hd hx I3 r q2
end
def kjj{n j:Nat}(h:j<n):ixN n (j:Int)=some j:=by
 unfold ixN
 rw[if_pos (by omega),if_pos (by omega)]
 simp
section
variable {X:Cx}
end
section
variable {X:Cx}
noncomputable def kmt(ta:TA):TI:=fun σ H R=>ta σ H fun vs H1=>∃i j k:Int,vs=[.int i, .int j, .int k]∧(-(2 ^ 31)≤i∧i<2 ^ 31)∧(-(2 ^ 31)≤j∧j<2 ^ 31)∧0<k∧k<2 ^ 30∧R (Its i k (Builtin.Range.rangeSize i j k).toNat) H1
theorem khT{tg a b c:Expr}{ta:TA}{p pos:Pos}(hg:Gl X "range")(hm:X.mg "range"=none)(ha:PA X [a,b,c] ta)(he:starEach [a,b,c] X.env=(false,eval a X.env)::starEach [b,c] X.env:=by rfl)
  (hpl:(backTo pos (starEach [b,c] X.env)).any (·.1)=false:=by rfl):PI X tg (.Call (.Name "range" p) [a,b,c] [] pos) (kmt ta):=by
 intro pins s σ H R I h
 refine Call_ (kcH I hg hm boot_range (PyProof.Rows.callWith_type1 (thn (ha pos pins s σ H _ I h) fun us s1 ⟨vs,H1,I1,r1,q1⟩=>?_) he hpl))
 obtain⟨i,j,k,e,hi,hj,hk,hk2,q⟩:=q1
 subst e
 cases r1 with
 | cons r rr=>
  cases rr with
  | cons r' rr=>
   cases rr with
   | cons r'' rr=>
    cases rr
    obtain⟨t,rfl⟩:=r
    obtain⟨t',rfl⟩:=r'
    obtain⟨t'',rfl⟩:=r''
    refine call_range_3 (by omega) ?_ (.inl (PyProof.noPylong_small (by omega)))
    refine wpAny_pyIter_range (IsRange.new ..) (khP hk hk2 hi hj) ?_
    have I2:Inv X pins σ H1 {s1 with heap:=s1.heap.push {cls:=.type "range",data:=.fields #[.int i t, .int j t', .int k t'']},toks:=s1.toks}:=I1.kept fun b o e=>Heap.get?_push_of_some _ e
    have hn:=kfV hk hi hj
    refine⟨(s1.heap.push {cls:=.type "range",data:=.fields #[.int i t, .int j t', .int k t'']}).objs.size,[(s1.heap.push {cls:=.type "range",data:=.fields #[.int i t, .int j t', .int k t'']}).objs.size],_,_,H1,rfl,
     I2.kept (t':=s1.toks) fun b o e=>Heap.get?_push_of_some _ e,kie _ i k (Builtin.Range.rangeSize i j k).toNat,?_,fun b hb=>?_,q⟩
    ·have e1:i+((0:Nat):Int)*k=i:=by simp
     have e2:(((Builtin.Range.rangeSize i j k).toNat:Nat):Int)-((0:Nat):Int)=Builtin.Range.rangeSize i j k:=by omega
     show IsRangeIter _ _ (i+((0:Nat):Int)*k) ((((Builtin.Range.rangeSize i j k).toNat:Nat):Int)-((0:Nat):Int)) k
     rw[e1,e2]
     exact Heap.get?_push_size _ rfl
    ·have e:b=(s1.heap.push {cls:=.type "range",data:=.fields #[.int i t, .int j t', .int k t'']}).objs.size:=by simpa using hb
     subst e
     exact I2.fpOk (J4 _) (I2.hok.fresh (J4 _))
end
section
variable {g:TG} {te:TE} {σ:St} {H:Hp} {R:List V→Hp→Addr→Prop}
theorem kjD{lo st:Int}{n:Nat}(Pv:Nat→St→List V→Hp→Prop)(h0:Pv 0 σ [] H)(hz:n≤sizeLine)(hl:∀i σ ys H,i≤n→Pv i σ ys H→ys.length=i)
  (hs:∀i σ ys H,i<n→Pv i σ ys H→g (.int (lo+i*st)) σ H fun σ2 H2=>te σ2 H2 fun y H3=>Pv (i+1) σ2 (ys++[y]) H3) (hd:∀σ ys H,Pv n σ ys H→∀D,H D=none→R ys H D):
  ∃ W:Nat→Nat→St→List V→Hp→Prop,(∃m,W 0 m σ [] H)∧∀i m σ' ys H',W i m σ' ys H'→
   ((Its lo st n).stop i H'∧∀D,H' D=none→R ys H' D)∨((Its lo st n).go i H'∧ys.length<sizeLine∧∃N:St→V→Hp→Prop,(∀σ2 y H4,N σ2 y H4→∃m',m'<m∧W (i+1) m' σ2 (ys++[y]) H4)∧
    ∀x H2,(Its lo st n).yld i H' x H2→g x σ' H2 fun σ2 H3=>te σ2 H3 (N σ2)):=by
 refine⟨fun i m σ ys H=>m=n-i∧i≤n∧Pv i σ ys H,⟨n,by simp,NB _,h0⟩,?_⟩
 rintro i m σ ys H ⟨rfl,hi,p⟩
 have el:=hl i σ ys H hi p
 by_cases hlt:i<n
 ·refine .inr ⟨hlt,by omega,fun σ2 y H3=>Pv (i+1) σ2 (ys++[y]) H3,fun σ' y H' p'=>⟨n-(i+1),by omega,rfl,hlt,p'⟩,fun x H' yl=>?_⟩
  obtain⟨e,yl⟩:=yl
  subst e yl
  exact hs i σ ys _ hlt p
 ·have e:i=n:=by omega
  subst e
  exact .inl ⟨J4 _,hd σ ys H p⟩
end
def kgD{L m:Nat}(hm:0<m):(Builtin.Range.rangeSize 0 ((L:Int)-(m:Int)+1) (m:Int)).toNat=L/m:=by
 unfold Builtin.Range.rangeSize
 rw[if_pos (by omega)]
 by_cases h:m≤L
 ·rw[if_pos (by omega),show(L:Int)-(m:Int)+1-0-1=((L-m:Nat):Int) by omega,←Int.natCast_ediv,Nat.div_eq_sub_div hm h]
  generalize (L-m)/m=q
  omega
 ·rw[if_neg (by omega),Nat.div_eq_of_lt (by omega)]
  rfl
def b_str:bootBuiltins "str"=some (.type "str"):=by decide +kernel
end L2
namespace L2
open PySem PySem.Spec PyProof.Rows
inductive Src where
 |p (i:Nat)
 |k (j:Nat)
 |d (v:Value) (x:V)
noncomputable def Src.val(us ws:List Value):Src→Value
 | .p i=>us.getD i .none
 | .k j=>ws.getD j .none
 | .d v _=>v
noncomputable def Src.abs(vs zs:List V):Src→V
 | .p i=>vs.getD i .non
 | .k j=>zs.getD j .non
 | .d _ x=>x
noncomputable def Src.Ok:Src→Prop
 | .d v x=>RelV x v
 |_=>True
section
variable {X:Cx} {CX:CXT} {k:Nat} {f C:Addr} {fd:FuncData} {ps ks:List Str} {sp:Sp} {E:XK} {x:Str} {p pos:Pos} {kws:List Keyword} {tk:TA} {g:List Value→List Value→List Value} {gV:List V→List V→List V}
end
end L2
namespace L2
open PySem PySem.Spec PyProof.Rows
noncomputable def atK(kvs:List (Key×V))(k:Key):Option V:=(kvs.find? fun p=>decide (p.1=k)).map Prod.snd
theorem kg1:∀{kvs:List (Key×V)}{vs:List (Key×Value)},KV kvs vs→∀k,RelO (atK kvs k) (valueAt vs k)
 |_,_, .nil,_=>True.intro
 | p::ps,q::qs, .cons h t,k=>by
  obtain⟨h1,h2⟩:=h
  have ih:=kg1 t k
  unfold atK valueAt at *
  by_cases e:p.1=k
  ·have e':q.1=k:=h1.symm.trans e
   simp only[MJ,e,e',decide_true,MX]
   exact h2
  ·have e':¬q.1=k:=fun z=>e (h1.trans z)
   simp only[MJ,e,e',decide_false]
   exact ih
theorem kvAny:∀{kvs:List (Key×V)}{vs:List (Key×Value)},KV kvs vs→∀k:Key,atK kvs k=none→(vs.any fun p=>decide (p.1=k))=false
 |_,_, .nil,_,_=>rfl
 | p::ps,q::qs, .cons h t,k,hn=>by
  obtain⟨h1,h2⟩:=h
  unfold atK at hn
  by_cases e:p.1=k
  ·simp[MJ,e] at hn
  ·have e':¬q.1=k:=fun z=>e (h1.trans z)
   rw[Mr,decide_eq_false e',Bool.false_or]
   refine kvAny t k ?_
   unfold atK
   simpa[MJ,e] using hn
theorem kk1:∀{kvs:List (Key×V)}{vs:List (Key×Value)},KV kvs vs→∀{k:Key}{y:V}{u:Value},RelV y u→KV (kvs++[(k,y)]) (vs++[(k,u)])
 |_,_, .nil,_,_,_,r=>.cons ⟨rfl,r⟩ .nil
 |_,_, .cons h t,_,_,_,r=>.cons h (kk1 t r)
theorem kvLen:∀{kvs:List (Key×V)}{vs:List (Key×Value)},KV kvs vs→kvs.length=vs.length
 |_,_, .nil=>rfl
 |_,_, .cons _ t=>by rw[NM,NM,kvLen t]
theorem kk0:∀{kvs:List (Key×V)}{vs:List (Key×Value)},KV kvs vs→Vals (kvs.map Prod.snd) (vs.map Prod.snd)
 |_,_, .nil=>.nil
 |_,_, .cons h t=>.cons h.2 (kk0 t)
section
variable {X:Cx}
noncomputable def kl3:TE:=fun _ H Q=>∀p,H p=none→Q (.ref p) (upd H p (.dK []))
theorem kj1{pos:Pos}:PE X (.Dict [] [] pos) kl3:=fun pins s σ H Q I h=>
 have big:sysModules<s.heap.objs.size:=Nat.lt_trans (by decide) (show mainGlobals<s.heap.objs.size from(I.mod.glob.keeps I.bk).lt)
 wpAny_Dict_empty ⟨.ref s.heap.objs.size,_,I.laid (a:=s.heap.objs.size) (o:=.dK []) (t':=s.toks) (fun _ _ q=>Heap.get?_push_of_some _ q) (J4 _)
  (show ObjOk X.prog X.w _ _ _ (.dK []) from⟨NB _,beq_eq_false_iff_ne.mpr (Ne.symm (Nr big)),[], .nil,Heap.DictOf.new _⟩),rfl,h _ (I.hok.fresh (J4 _))⟩
noncomputable def rSetd:V→List V→Hp→VK→Prop:=fun x vs H Q=>∃(a:Addr)(kvs:List (Key×V))(i:Int)(y:V),x=.ref a∧vs=[.int i,y]∧H a=some (.dK kvs)∧kvs.length<sizeLine∧(∀v,atK kvs (.inl i)=some v→Q v H)∧(atK kvs (.inl i)=none→Q y (upd H a (.dK (kvs++[(.inl i,y)]))))
theorem kfy:MtM X "dict.setdefault" rSetd:=by
 intro pins s σ H x vs v us Q I rx rv h
 obtain⟨a,kvs,i,y,rfl,rfl,e,hz,h1,h2⟩:=h
 cases rx
 obtain⟨u1,u2,rfl,⟨t,rfl⟩,ru2⟩:=vals2 rv
 obtain⟨z,hd,ws,rel,dd⟩:=(show ObjOk X.prog X.w H s.heap a (.dK kvs) from I.hok a _ e)
 have key:(kc6 X.prog X.w).is (Sum.inl i:Key) (.int i t)=true:=kgQ _ _ i t
 refine call_meetsIn EZ dd.typeIs PySem.F.entry_dict_setdefault (PySem.F.args_dict_setdefault_3 _ _ _) (kt_meets_setdefault (kc6 X.prog X.w) a key hd u2)
  ⟨ws,dd,by rw[←kvLen rel];exact z,fun v hv=>?_,fun hn h' dd' hs=>?_⟩
 ·have r:=kg1 rel (Sum.inl i)
  rw[hv] at r
  cases ea:atK kvs (Sum.inl i) with
  |none=>rw[ea] at r;exact(show False from r).elim
  |some w'=>
   rw[ea] at r
   exact⟨w',H,I.tok _,r,h1 w' ea⟩
 ·have r:=kg1 rel (Sum.inl i)
  rw[hn] at r
  have ea:atK kvs (Sum.inl i)=none:=by
   cases ea:atK kvs (Sum.inl i) with
   |none=>rfl
   |some w'=>rw[ea] at r;exact(show False from r).elim
  have est:stored ws (Sum.inl i:Key) u2=ws++[(Sum.inl i,u2)]:=by
   unfold stored
   rw[kvAny rel _ ea,if_neg Na]
  rw[est] at dd'
  have he:∃q,h'.get? a=some q:=let⟨q,_,_,hq,_⟩:=dd';⟨q,hq⟩
  refine⟨y,_,I.write (x:=a) (e:=a) (by rw[e];exact True.intro) (.inl rfl) (fun b q hb w'=>(hs.2 b hb).trans w') he ?_,ru2,h2 ea⟩
  exact(show ObjOk X.prog X.w _ h' a (.dK (kvs++[(.inl i,y)])) from⟨by rw[Np,MV];omega,hd,_,kk1 rel ru2,dd'⟩)
noncomputable def kii(te:TE):TE:=fun σ H Q=>te σ H fun v H1=>∃(a:Addr)(kvs:List (Key×V)),v=.ref a∧H1 a=some (.dK kvs)∧∀l,H1 l=none→Q (.ref l) (upd H1 l (.lst (kvs.map Prod.snd)))
theorem kgM{e:Expr}{te:TE}{p1 pos1 apos cpos:Pos}(hc:X.calm=true)(h1:Gl X "list")(m1:X.mg "list"=none)(he:PE X e te)
  (hbase:attributeBase e "values" X.env (eval e X.env)=eval e X.env:=by rfl) (hline:(apos.endLine==cpos.line)=true:=by rfl)
  (s2:starEach [.Call (.Attribute e "values" apos) [] [] cpos] X.env=[(false,eval (.Call (.Attribute e "values" apos) [] [] cpos) X.env)]:=by rfl):PE X (.Call (.Name "list" p1) [.Call (.Attribute e "values" apos) [] [] cpos] [] pos1) (kii te):=by
 intro pins s σ H Q I h
 refine wpAny_Call_Name_kw (kcH I h1 m1 kbo ?_ (by decide) (by decide))
 refine PyProof.Rows.callWith_type1 ?_ s2 rfl
 rw[s2]
 refine Calls.spliced_cons (wpAny_Call_method0_late hbase hline (thn (he pins s σ H _ I h) fun u s3 ⟨v,H1,I1,r1,a,kvs,ev,ea,q⟩=>?_))
 subst ev
 cases r1
 obtain⟨t1,t2⟩:=kid (T:="dict") (x:=.ref a) (v:=.ref a) I1 rfl (.inr (.inr (.inl ⟨rfl, .inl ⟨kvs,ea⟩⟩)))
 obtain⟨z,hd,ws,rel,dd⟩:=(show ObjOk X.prog X.w H1 s3.heap a (.dK kvs) from I1.hok a _ ea)
 obtain⟨ep,hat⟩:=dd.dictAt
 refine⟨"dict","dict.values",E1,E2,PySem.F.type_dict_values,t1,t2,Calls.callWith_builtin rfl (PySem.evalArgs_none ?_)⟩
 refine call_meetsIn E2 dd.typeIs PySem.F.entry_dict_values (PySem.F.args_dict_values_1 _) (meets_dict_values (kc6 X.prog X.w) a hd) ⟨⟨ws,dd⟩,Calls.spliced_nil ?_⟩
 refine PySem.W.kdl_call (PySem.W.kdl_values (knd:=kc6 X.prog X.w) (kvs:=ws) (ep:=ep)) (I1.ok.hd hc) ⟨⟨_,Heap.get?_push_size _ rfl,rfl,rfl⟩,hat.push _⟩ (by rw[←kvLen rel];exact z) fun h' tk acc' c' hk hS hacc=>?_
 have hv:acc'.toList=ws.map (·.2):=PySem.W.kdl_vals_eq acc'.toList (by rw[Mu];exact hacc.1) fun j v' ej=>hacc.2 j v' (by rw[←MW];exact ej)
 generalize ho:({cls:=.type "dict_values",data:=.fields #[.ref a]}:Obj)=ob at *
 have hsz:(s3.heap.push ob).objs.size=s3.heap.objs.size+1:=Heap.size_push ..
 have rv:Vals (kvs.map Prod.snd) acc'.toList:=by rw[hv];exact kk0 rel
 have I2:Inv X pins σ (upd H1 (s3.heap.push ob).objs.size (.lst (kvs.map Prod.snd))) {s3 with heap:=h',toks:=tk}:=
  I1.laid (fun b o e=>hk b o (Heap.get?_push_of_some _ e)) (by rw[hsz];exact N8 _) (show ObjOk X.prog X.w _ h' _ (.lst (kvs.map Prod.snd)) from⟨by rw[JY];exact z,acc'.toList,c',rv,by simpa using hS⟩)
 exact⟨.ref _,_,I2,rfl,q _ (I1.hok.fresh (by rw[hsz];exact N8 _))⟩
end
end L2
namespace L2
open PySem PySem.Spec PyProof.Rows
section
variable {X:Cx}
end
end L2
namespace Stb
open PySem PyProof.Rows
noncomputable def T(xs:Array Keyed)(i:Nat):Int:=match xs[i]? with
 |some p=>numOf p.2
 |none=>0
def T_at{xs ys:Array Keyed}{i j:Nat}(h:xs[i]?=ys[j]?):T xs i=T ys j:=by unfold T;rw[h]
noncomputable def Lx(xs:Array Keyed)(i j:Nat):Prop:=K xs i<K xs j∨(K xs i=K xs j∧T xs i<T xs j)
def Lx.trans{xs:Array Keyed}{i j k:Nat}(h:Lx xs i j)(h':Lx xs j k):Lx xs i k:=by unfold Lx at *;omega
def Lx.le{xs:Array Keyed}{i j:Nat}(h:Lx xs i j):K xs i≤K xs j:=by unfold Lx at *;omega
noncomputable def Up(xs:Array Keyed)(k:Nat):Prop:=∀i j,i<j→j<k→Lx xs i j
noncomputable def Dn(xs:Array Keyed)(k:Nat):Prop:=∀i j,i<j→j<k→Lx xs j i
noncomputable def Lat(a₀ xs:Array Keyed)(k:Nat):Prop:=∀i j,i<j→k≤j→j<a₀.size→T xs i<T xs j
def Lat.mono{a₀ xs:Array Keyed}{k k':Nat}(h:Lat a₀ xs k)(hk:k≤k'):Lat a₀ xs k':=fun i j h1 h2 h3=>h i j h1 (by omega) h3
theorem khJ{xs:Array Keyed}{src d:Nat}(hs:src<xs.size)(hd:d≤src)(k:Nat):
  ∃k',(K (bubble xs src d) k=K xs k'∧T (bubble xs src d) k=T xs k')∧k'=if k=src-d then src else if src-d<k∧k≤src then k-1 else k:=by
 refine⟨_,?_,rfl⟩
 have e:=getElem?_bubble hs d hd k
 have e':(bubble xs src d)[k]?=xs[if k=src-d then src else if src-d<k∧k≤src then k-1 else k]?:=by
  rw[e]
  split
  ·rfl
  ·split <;> rfl
 exact⟨K_congr e',T_at e'⟩
theorem kcs{xs:Array Keyed}{i j:Nat}(hj:j≤xs.size)(k:Nat):
  ∃k',(K (mirror xs i j ((j-i)/2)) k=K xs k'∧T (mirror xs i j ((j-i)/2)) k=T xs k')∧k'=if i≤k∧k<j then i+j-1-k else k:=by
 refine⟨_,?_,rfl⟩
 have e:=getElem?_mirror_all (i:=i) hj k
 have e':(mirror xs i j ((j-i)/2))[k]?=xs[if i≤k∧k<j then i+j-1-k else k]?:=by
  rw[e]
  split <;> rfl
 exact⟨K_congr e',T_at e'⟩
def kgS{a₀ xs:Array Keyed}{i j k:Nat}(hj:j≤xs.size)(hk:j≤k)(h:Lat a₀ xs k):Lat a₀ (mirror xs i j ((j-i)/2)) k:=by
 intro a b hab hkb hb
 obtain⟨a',⟨_,ea⟩,ha⟩:=kcs (i:=i) hj a
 obtain⟨b',⟨_,eb⟩,hb'⟩:=kcs (i:=i) hj b
 rw[ea,eb]
 rw[if_neg (by omega)] at hb'
 subst hb'
 refine h _ _ ?_ hkb hb
 rw[ha]
 split <;> omega
section
variable {prog:Program} {w:World} {A:Around} {E:Value→Shared→Prop} {s:Shared} {a₀:Array Keyed}
theorem asc{st:SortSt}{a nrem:Nat}{Q:AscSt→SortSt→Prop}(h0:IntKeys a₀)(hn:nrem≤a₀.size)(ha:1≤a)(han:a≤nrem)(hB:SBase a₀ st)(hs:Up (arrOf st) a)(hl:Lat a₀ (arrOf st) a)
  (h:∀n,a≤n→n≤nrem→Up (arrOf st) n→(n=nrem∨K (arrOf st) n<K (arrOf st) (n-1))→Q (none,n) st):wpS (model prog w) A E s (ascLoop a nrem) Q st:=by
 unfold ascLoop
 refine wpS_forRange (I:=fun x c st'=>st'=st∧c=(none,x)∧Up (arrOf st) x) ?turn ?over ⟨rfl,rfl,hs⟩
 case over=>
  rintro c st' ⟨rfl,rfl,u⟩
  rw[show max a nrem=nrem by omega] at u⊢
  exact h nrem han (J4 _) u (.inl rfl)
 case turn=>
  rintro x c st' hax hxn ⟨rfl,rfl,u⟩
  dsimp only
  refine wpS_bind (wpS_ltK hB h0 (by omega) (by omega) ?_)
  by_cases c1:K (arrOf st') x<K (arrOf st') (x-1)
  ·simp only[c1,decide_true,if_true]
   exact wpS_pure (h x hax (by omega) u (.inr c1))
  ·simp only[c1,decide_false,NS,if_false]
   refine wpS_pure ⟨rfl,rfl,fun i j hij hj=>?_⟩
   by_cases hjx:j<x
   ·exact u i j hij hjx
   ·have e:j=x:=by omega
    subst e
    have t1:=hl (j-1) j (by omega) hax (by omega)
    have l1:Lx (arrOf st') (j-1) j:=by unfold Lx;omega
    by_cases e2:i=j-1
    ·rw[e2];exact l1
    ·exact(u i (j-1) (by omega) (by omega)).trans l1
theorem tail{st:SortSt}{n nrem:Nat}{Q:Option Nat→SortSt→Prop}(h0:IntKeys a₀)(hn:nrem≤a₀.size)(h1:1≤n)(hnn:n≤nrem)(hB:SBase a₀ st)(hs:Dn (arrOf st) n)(hl:Lat a₀ (arrOf st) n)
  (h:∀m st',SBase a₀ st'→1≤m→m≤nrem→Up (arrOf st') m→Lat a₀ (arrOf st') m→Q (some m) st'):wpS (model prog w) A E s (tail3 n nrem) Q st:=by
 unfold tail3
 have sz:n≤(arrOf st).size:=by rw[hB.size];omega
 refine wpS_bind (wpS_reverse ?_)
 have hB2:SBase a₀ (setArr st (mirror (arrOf st) 0 n ((n-0)/2))):=hB.setArr (mirror_perm _ _ _ _)
 have hl2:Lat a₀ (mirror (arrOf st) 0 n ((n-0)/2)) n:=kgS sz (J4 _) hl
 refine wpS_bind (asc h0 hn h1 hnn hB2 ?_ hl2 fun m hm1 hm2 hu _=>wpS_pure (h m _ hB2 (by omega) hm2 hu (hl2.mono hm1)))
 intro i j hij hj
 show Lx (mirror (arrOf st) 0 n ((n-0)/2)) i j
 obtain⟨i',⟨k1,t1⟩,e1⟩:=kcs (i:=0) sz i
 obtain⟨j',⟨k2,t2⟩,e2⟩:=kcs (i:=0) sz j
 rw[if_pos (by omega)] at e1 e2
 have:=hs j' i' (by omega) (by omega)
 unfold Lx at this⊢
 rw[k1,k2,t1,t2]
 exact this
structure Fl (a₀ xs:Array Keyed) (x neq:Nat):Prop where
 few:neq+1≤x
 hd:Dn xs (x-(neq+1))
 cr:∀i j,i<x-(neq+1)→x-(neq+1)≤j→j<x→K xs j<K xs i
 tl:∀i j,x-(neq+1)≤i→i<j→j<x→K xs i=K xs j∧T xs i<T xs j
 lat:Lat a₀ xs x
theorem Fl.turned{xs:Array Keyed}{x neq:Nat}(h:Fl a₀ xs x neq)(hx:x≤xs.size):Dn (mirror xs (x-(neq+1)) x ((x-(x-(neq+1)))/2)) x∧(∀i,i<x→K xs (x-1)≤K (mirror xs (x-(neq+1)) x ((x-(x-(neq+1)))/2)) i)∧Lat a₀ (mirror xs (x-(neq+1)) x ((x-(x-(neq+1)))/2)) x∧
  ∀k,x≤k→K (mirror xs (x-(neq+1)) x ((x-(x-(neq+1)))/2)) k=K xs k:=by
 have hf:=h.few
 refine⟨fun i j hij hj=>?_,fun i hi=>?_,kgS hx (J4 _) h.lat,fun k hk=>?_⟩
 ·obtain⟨i',⟨k1,t1⟩,e1⟩:=kcs (i:=x-(neq+1)) hx i
  obtain⟨j',⟨k2,t2⟩,e2⟩:=kcs (i:=x-(neq+1)) hx j
  unfold Lx
  rw[k1,k2,t1,t2]
  by_cases c1:j<x-(neq+1)
  ·rw[if_neg (by omega)] at e1 e2
   subst e1 e2
   exact h.hd i' j' hij c1
  ·rw[if_pos (by omega)] at e2
   by_cases c2:i<x-(neq+1)
   ·rw[if_neg (by omega)] at e1
    subst e1
    exact .inl (h.cr i' j' c2 (by omega) (by omega))
   ·rw[if_pos (by omega)] at e1
    have:=h.tl j' i' (by omega) (by omega) (by omega)
    omega
 ·obtain⟨i',⟨k1,_⟩,e1⟩:=kcs (i:=x-(neq+1)) hx i
  rw[k1]
  by_cases c2:i<x-(neq+1)
  ·rw[if_neg (by omega)] at e1
   subst e1
   have:=h.cr i' (x-1) c2 (by omega) (by omega)
   omega
  ·rw[if_pos (by omega)] at e1
   by_cases c3:i'=x-1
   ·rw[c3];exact Int.le_refl _
   ·have:=h.tl i' (x-1) (by omega) (by omega) (by omega)
    omega
 ·obtain⟨k',⟨k1,_⟩,e1⟩:=kcs (i:=x-(neq+1)) hx k
  rw[if_neg (by omega)] at e1
  rw[k1,e1]
theorem Fl.plain{xs:Array Keyed}{x:Nat}(h:Fl a₀ xs x 0):Dn xs x∧(∀i,i<x→K xs (x-1)≤K xs i):=by
 have hf:=h.few
 refine⟨fun i j hij hj=>?_,fun i hi=>?_⟩
 ·by_cases c1:j<x-(0+1)
  ·exact h.hd i j hij c1
  ·exact .inl (h.cr i j (by omega) (by omega) hj)
 ·by_cases c3:i=x-1
  ·rw[c3];exact Int.le_refl _
  ·have:=h.cr i (x-1) (by omega) (by omega) (by omega)
   omega
theorem Fl.next{xs:Array Keyed}{x:Nat}(hd:Dn xs x)(hk:∀i,i<x→K xs x<K xs i)(hl:Lat a₀ xs x):Fl a₀ xs (x+1) 0:=
 ⟨by omega,fun i j h1 h2=>hd i j h1 (by omega),fun i j h1 h2 h3=>by
  have e:j=x:=by omega
  subst e
  exact hk i (by omega),fun i j h1 h2 h3=>by omega,hl.mono (by omega)⟩
theorem desc{st:SortSt}{n nrem:Nat}{Q:DescSt→SortSt→Prop}(h0:IntKeys a₀)(hn:nrem≤a₀.size)(hnn:n≤nrem)(hB:SBase a₀ st)(hs:Fl a₀ (arrOf st) n 0)
  (h:∀m neq st',SBase a₀ st'→n≤m→m≤nrem→Fl a₀ (arrOf st') m neq→Q (none,m,neq) st'):wpS (model prog w) A E s (descLoop n nrem) Q st:=by
 unfold descLoop
 refine wpS_forRange (I:=fun x c st'=>∃neq,c=(none,x,neq)∧SBase a₀ st'∧Fl a₀ (arrOf st') x neq) ?turn ?over ⟨0,rfl,hB,hs⟩
 case over=>
  rintro c st' ⟨neq,rfl,hB',f⟩
  rw[show max n nrem=nrem by omega] at f⊢
  exact h nrem neq st' hB' hnn (J4 _) f
 case turn=>
  rintro x c st' hax hxn ⟨neq,rfl,hB',f⟩
  dsimp only
  have few:=f.few
  have sz:x≤(arrOf st').size:=by rw[hB'.size];omega
  refine wpS_bind (wpS_ltK hB' h0 (by omega) (by omega) ?_)
  by_cases c1:K (arrOf st') x<K (arrOf st') (x-1)
  ·simp only[c1,decide_true,if_true]
   by_cases c2:neq > 0
   ·rw[if_pos c2]
    obtain⟨d1,d2,d3,d4⟩:=f.turned sz
    refine wpS_bind (wpS_reverse (wpS_pure ⟨0,rfl,hB'.setArr (mirror_perm _ _ _ _),Fl.next d1 (fun i hi=>?_) d3⟩))
    have:=d2 i hi
    have e:=d4 x (J4 _)
    show K (mirror (arrOf st') _ _ _) x<K (mirror (arrOf st') _ _ _) i
    omega
   ·rw[if_neg c2]
    have e:neq=0:=by omega
    subst e
    obtain⟨d1,d2⟩:=f.plain
    exact wpS_pure ⟨0,rfl,hB',Fl.next d1 (fun i hi=>by have:=d2 i hi;omega) f.lat⟩
  ·simp only[c1,decide_false,NS,if_false]
   refine wpS_bind (wpS_ltK hB' h0 (by omega) (by omega) ?_)
   by_cases c2:K (arrOf st') (x-1)<K (arrOf st') x
   ·simp only[c2,decide_true,if_true]
    exact wpS_pure (h x neq st' hB' hax (by omega) f)
   ·simp only[c2,decide_false,NS,if_false]
    have ek:K (arrOf st') x=K (arrOf st') (x-1):=by omega
    refine wpS_pure ⟨neq+1,rfl,hB',⟨by omega,?_,?_,?_,f.lat.mono (by omega)⟩⟩
    ·rw[show x+1-(neq+1+1)=x-(neq+1) by omega]
     exact f.hd
    ·rw[show x+1-(neq+1+1)=x-(neq+1) by omega]
     intro i j h1 h2 h3
     by_cases c3:j<x
     ·exact f.cr i j h1 h2 c3
     ·have e:j=x:=by omega
      subst e
      rw[ek]
      exact f.cr i (j-1) h1 (by omega) (by omega)
    ·rw[show x+1-(neq+1+1)=x-(neq+1) by omega]
     intro i j h1 h2 h3
     by_cases c3:j<x
     ·exact f.tl i j h1 h2 c3
     ·have e:j=x:=by omega
      subst e
      refine⟨?_,f.lat i j h2 (J4 _) (by omega)⟩
      rw[ek]
      by_cases c4:i=j-1
      ·rw[c4]
      ·exact(f.tl i (j-1) h1 (by omega) (by omega)).1
theorem falls{st:SortSt}{n nrem:Nat}{Q:Option Nat→SortSt→Prop}(h0:IntKeys a₀)(hn:nrem≤a₀.size)(hnn:n+1≤nrem)(hB:SBase a₀ st)(hs:Fl a₀ (arrOf st) (n+1) 0)
  (h:∀m st',SBase a₀ st'→1≤m→m≤nrem→Up (arrOf st') m→Lat a₀ (arrOf st') m→Q (some m) st'):wpS (model prog w) A E s (descPart n nrem) Q st:=by
 unfold descPart
 refine wpS_bind (wpS_lift (wpAny_rule ⟨rfl,?_⟩))
 refine wpS_bind (desc h0 hn hnn hB hs fun m neq st' hB' hm1 hm2 f=>?_)
 dsimp only
 have sz:m≤(arrOf st').size:=by rw[hB'.size];omega
 by_cases c2:neq > 0
 ·rw[if_pos c2]
  obtain⟨d1,_,d3,_⟩:=f.turned sz
  exact wpS_bind (wpS_reverse (tail h0 hn (by omega) hm2 (hB'.setArr (mirror_perm _ _ _ _)) d1 d3 h))
 ·rw[if_neg c2]
  have e:neq=0:=by omega
  subst e
  exact tail h0 hn (by omega) hm2 hB' f.plain.1 f.lat h
theorem count{st:SortSt}{nrem:Nat}{Q:Option Nat→SortSt→Prop}(h0:IntKeys a₀)(hn:nrem≤a₀.size)(h1:1≤nrem)(hB:SBase a₀ st)(hl:Lat a₀ (arrOf st) 1)
  (h:∀m st',SBase a₀ st'→1≤m→m≤nrem→Up (arrOf st') m→Lat a₀ (arrOf st') m→Q (some m) st'):wpS (model prog w) A E s (countRun' 0 nrem) Q st:=by
 rw[countRun0_eq]
 refine wpS_bind (asc h0 hn (J4 1) h1 hB (fun i j hij hj=>by omega) hl fun n hn1 hn2 hu hor=>?_)
 dsimp only
 by_cases c1:n=nrem
 ·rw[if_pos (by simpa using c1)]
  exact wpS_pure (h n st hB hn1 hn2 hu (hl.mono hn1))
 ·rw [if_neg (by simpa using c1)]
  have lt:K (arrOf st) n<K (arrOf st) (n-1):=hor.resolve_left c1
  by_cases c2:n > 1
  ·rw [if_pos c2]
   refine wpS_bind (wpS_ltK hB h0 (by omega) (by omega) ?_)
   by_cases c3:K (arrOf st) 0<K (arrOf st) (n-1)
   ·simp only[c3,decide_true,if_true]
    exact wpS_pure (h n st hB hn1 hn2 hu (hl.mono hn1))
   ·simp only[c3,decide_false,NS,if_false]
    have sz:n≤(arrOf st).size:=by rw[hB.size];omega
    have same:∀i,i<n→K (arrOf st) i=K (arrOf st) (n-1):=fun i hi=>by
     by_cases z:i=0
     ·subst z
      have:=(hu 0 (n-1) (by omega) (by omega)).le
      omega
     ·have a1:=(hu 0 i (by omega) hi).le
      by_cases z2:i=n-1
      ·rw[z2]
      ·have a2:=(hu i (n-1) (by omega) (by omega)).le
       omega
    refine wpS_bind (wpS_reverse (falls h0 hn (by omega) (hB.setArr (mirror_perm _ _ _ _)) (Fl.next (fun i j hij hj=>?_) (fun i hi=>?_) (kgS sz (J4 _) (hl.mono hn1))) h))
    ·show Lx (mirror (arrOf st) 0 n ((n-0)/2)) j i
     obtain⟨i',⟨k1,t1⟩,e1⟩:=kcs (i:=0) sz i
     obtain⟨j',⟨k2,t2⟩,e2⟩:=kcs (i:=0) sz j
     rw[if_pos (by omega)] at e1 e2
     have:=hu j' i' (by omega) (by omega)
     unfold Lx at this⊢
     rw[k1,k2,t1,t2]
     exact this
    ·show K (mirror (arrOf st) 0 n ((n-0)/2)) n<K (mirror (arrOf st) 0 n ((n-0)/2)) i
     obtain⟨i',⟨k1,_⟩,e1⟩:=kcs (i:=0) sz i
     obtain⟨n',⟨k2,_⟩,e2⟩:=kcs (i:=0) sz n
     rw[if_pos (by omega)] at e1
     rw[if_neg (by omega)] at e2
     subst e2
     rw[k1,k2,same i' (by omega)]
     exact lt
  ·rw[if_neg c2]
   have e:n=1:=by omega
   subst e
   refine falls h0 hn (by omega) hB (Fl.next (fun i j hij hj=>by omega) (fun i hi=>?_) hl) h
   have z:i=0:=by omega
   subst z
   exact lt
theorem insert{st:SortSt}{n ok:Nat}{Q:Bool→SortSt→Prop}(h0:IntKeys a₀)(hn:n≤a₀.size)(h1:1≤ok)(hok:ok≤n)(hB:SBase a₀ st)(hs:Up (arrOf st) ok)(hl:Lat a₀ (arrOf st) ok)
  (h:∀st',SBase a₀ st'→Up (arrOf st') n→Q true st'):wpS (model prog w) A E s (binarySort' 0 n ok) Q st:=by
 rw[binarySort'_eq]
 simp only[Nat.zero_add]
 refine wpS_bind (wpS_mono (wpS_forRange (I:=fun k c st'=>c=(none,())∧SBase a₀ st'∧Up (arrOf st') (min k n)∧Lat a₀ (arrOf st') (min k n)) (Q:=fun c st'=>c=(none,())∧SBase a₀ st'∧Up (arrOf st') n) ?turn ?over ?begin) ?behind)
 case behind=>
  rintro c st' ⟨rfl,hB',hu⟩
  exact wpS_pure (h st' hB' hu)
 case begin=>
  rw[show max ok 1=ok by omega,show min ok n=ok by omega]
  exact⟨rfl,hB,hs,hl⟩
 case over=>
  rintro c st' ⟨hc,hB',hu,_⟩
  refine⟨hc,hB',?_⟩
  rwa [show min (max (max ok 1) n) n=n by omega] at hu
 case turn=>
  rintro k c st' hak hkn ⟨rfl,hB',hu,hla⟩
  rw[show min k n=k by omega] at hu hla
  have hk:k<a₀.size:=by omega
  refine wpS_bind (wpS_mono (wpS_forRange (I:=fun x c st''=>st''=st'∧∃l r,c=(none,l,r)∧l≤r∧r≤k∧r-l≤k-x∧(∀i,i<l→K (arrOf st') i≤K (arrOf st') k)∧(∀i,r≤i→i<k→K (arrOf st') k<K (arrOf st') i))
   (Q:=fun c st''=>st''=st'∧∃l r,c=(none,l,r)∧l≤k∧(∀i,i<l→K (arrOf st') i≤K (arrOf st') k)∧(∀i,l≤i→i<k→K (arrOf st') k<K (arrOf st') i)) ?turn2 ?over2 ?begin2) ?behind2)
  case begin2=>exact⟨rfl,0,k,rfl,by omega,by omega,by omega,fun i hi=>by omega,fun i a b=>by omega⟩
  case over2=>
   rintro c st'' ⟨rfl,l,r,rfl,hlr,hrk,hm,lo,hi⟩
   have e:l=r:=by omega
   subst e
   exact⟨rfl,l,l,rfl,hrk,lo,hi⟩
  case turn2=>
   rintro x c st'' _ hxk ⟨rfl,l,r,rfl,hlr,hrk,hm,lo,hi⟩
   dsimp only
   by_cases c1:l≥r
   ·rw[if_pos c1]
    have e:l=r:=by omega
    subst e
    exact wpS_pure ⟨rfl,l,l,rfl,hrk,lo,hi⟩
   ·rw[if_neg c1]
    refine wpS_bind (wpS_ltK hB' h0 hk (by omega) ?_)
    by_cases c2:K (arrOf st'') k<K (arrOf st'') ((l+r)/2)
    ·simp only[c2,decide_true,if_true]
     refine wpS_pure ⟨rfl,l,(l+r)/2,rfl,by omega,by omega,by omega,lo,fun i a b=>?_⟩
     by_cases z:i=(l+r)/2
     ·rw[z];exact c2
     ·exact Int.lt_of_lt_of_le c2 (hu _ _ (by omega) b).le
    ·simp only[c2,decide_false,NS,if_false]
     refine wpS_pure ⟨rfl,(l+r)/2+1,r,rfl,by omega,by omega,by omega,fun i a=>?_,hi⟩
     by_cases z:i=(l+r)/2
     ·rw[z];omega
     ·exact Int.le_trans (hu i ((l+r)/2) (by omega) (by omega)).le (Int.not_lt.mp c2)
  case behind2=>
   rintro c st'' ⟨rfl,l,r,rfl,hlk,lo,hi⟩
   show wpS _ _ _ _ (do moveDown' k l;pure (ForInStep.yield (none,()))) _ _
   rw[moveDown'_eq]
   have hks:k<(arrOf st'').size:=by rw[hB'.size];exact hk
   refine wpS_bind (wpS_modify (wpS_pure ⟨rfl,hB'.setArr (bubble_perm _ _ _),?_,?_⟩))
   ·rw [show min (k+1) n=k+1 by omega]
    intro i j hij hj
    show Lx (bubble (arrOf st'') k (k-l)) i j
    obtain⟨i',⟨k1,t1⟩,e1⟩:=khJ hks (show k-l≤k by omega) i
    obtain⟨j',⟨k2,t2⟩,e2⟩:=khJ hks (show k-l≤k by omega) j
    rw[show k-(k-l)=l by omega] at e1 e2
    unfold Lx
    rw[k1,k2,t1,t2]
    by_cases z1:i=l
    ·rw[if_pos z1] at e1
     rw[if_neg (by omega),if_pos (by omega)] at e2
     subst e1
     exact .inl (hi j' (by omega) (by omega))
    ·rw[if_neg z1] at e1
     by_cases z2:j=l
     ·rw[if_pos z2] at e2
      rw[if_neg (by omega)] at e1
      subst e2
      have a1:=lo i' (by omega)
      have a2:=hla i' j' (by omega) (J4 _) hk
      omega
     ·rw[if_neg z2] at e2
      refine hu i' j' ?_ ?_
      ·rw[e1,e2]
       repeat' split
       all_goals omega
      ·rw[e2]
       split <;> omega
   ·rw[show min (k+1) n=k+1 by omega]
    intro a b hab hkb hb
    show T (bubble (arrOf st'') k (k-l)) a<T (bubble (arrOf st'') k (k-l)) b
    obtain⟨a',⟨_,t1⟩,e1⟩:=khJ hks (show k-l≤k by omega) a
    obtain⟨b',⟨_,t2⟩,e2⟩:=khJ hks (show k-l≤k by omega) b
    rw[show k-(k-l)=l by omega] at e1 e2
    rw[if_neg (by omega),if_neg (by omega)] at e2
    subst e2
    rw[t1,t2]
    refine hla a' b' ?_ (by omega) hb
    rw[e1]
    repeat' split
    all_goals omega
noncomputable def Done(a₀:Array Keyed)(st:SortSt):Prop:=(arrOf st).Perm a₀∧failedOf st=none∧pendingOf st= #[(0,a₀.size,0)]∧Up (arrOf st) a₀.size
theorem done{st:SortSt}(hB:SBase a₀ st)(hu:Up (arrOf st) a₀.size):Done a₀ (setPending st ((pendingOf st).push (0,a₀.size,0))):=⟨hB.perm,hB.failed,by show(pendingOf st).push _=_;rw[hB.pend];rfl,hu⟩
theorem runs{st:SortSt}{Q:Unit→SortSt→Prop}(h0:IntKeys a₀)(hB:SBase a₀ st)(h2:2≤a₀.size)(h64:a₀.size<64)(hl:Lat a₀ (arrOf st) 1)
  (h:∀st',(arrOf st').Perm a₀→failedOf st'=none→Up (arrOf st') a₀.size→Q () st'):wpS (model prog w) A E s sortRuns' Q st:=by
 rw[sortRuns'_eq]
 refine wpS_bind (wpS_get ?_)
 dsimp only
 have mr:minRun' a₀.size a₀.size 0=a₀.size:=by
  obtain⟨f,hf⟩:∃f,a₀.size=f+1:=⟨a₀.size-1,by omega⟩
  have z:minRun' (f+1) a₀.size 0=a₀.size:=by rw[minRun'_succ,if_pos h64];rfl
  rwa [←hf] at z
 simp only[hB.size,mr]
 refine wpS_bind (wpS_mono (wpS_forRange (I:=fun x c st'=>(x=0∧c=(none,0)∧st'=st)∨(1≤x∧c=(none,a₀.size)∧Done a₀ st')) (Q:=fun c st'=>c=(none,a₀.size)∧Done a₀ st') ?turn ?over (.inl ⟨rfl,rfl,rfl⟩)) ?behind)
 case over=>
  rintro c st' (⟨hx,_,_⟩|⟨_,hc,hD⟩)
  ·omega
  ·exact⟨hc,hD⟩
 case turn=>
  rintro x c st' _ hx (⟨rfl,rfl,rfl⟩|⟨hx1,rfl,hD⟩)
  ·dsimp only
   rw[if_neg (by omega)]
   simp only[Nat.sub_zero,My,Nat.zero_add]
   refine wpS_bind (count h0 (J4 _) (by omega) hB hl fun m st2 hB2 hm1 hm2 hu2 hl2=>?_)
   dsimp only
   by_cases c1:m<a₀.size
   ·rw[if_pos c1]
    refine wpS_bind (wpS_lift (wpAny_rule ⟨rfl,?_⟩))
    refine wpS_bind (insert h0 (J4 _) hm1 hm2 hB2 hu2 hl2 fun st3 hB3 hu3=>?_)
    simp only[Bool.not_true,NS,if_false]
    refine wpS_bind (wpS_get ?_)
    have hb:(pendingOf st3).back?=none:=by rw[hB3.pend];rfl
    rw[hb]
    dsimp only
    exact wpS_bind (wpS_modify (wpS_pure (.inr ⟨by omega,rfl,done hB3 hu3⟩)))
   ·rw[if_neg c1]
    have e:m=a₀.size:=by omega
    subst e
    refine wpS_bind (wpS_get ?_)
    have hb:(pendingOf st2).back?=none:=by rw[hB2.pend];rfl
    rw[hb]
    dsimp only
    exact wpS_bind (wpS_modify (wpS_pure (.inr ⟨by omega,rfl,done hB2 hu2⟩)))
  ·dsimp only
   rw[if_pos (J4 _)]
   exact wpS_pure ⟨rfl,hD⟩
 case behind=>
  rintro c st' ⟨rfl,hD⟩
  dsimp only
  refine wpS_bind (wpS_mono (wpS_forRange (I:=fun _ c st''=>st''=st'∧c=(none,())) (Q:=fun c st''=>st''=st'∧c=(none,())) ?_ (fun _ _ z=>z) ⟨rfl,rfl⟩) ?_)
  ·rintro x c st'' _ _ ⟨rfl,rfl⟩
   refine wpS_bind (wpS_get ?_)
   rw[if_pos (by rw[hD.2.2.1];exact J4 1)]
   exact wpS_pure ⟨rfl,rfl⟩
  ·rintro c st'' ⟨rfl,rfl⟩
   exact wpS_pure (h _ hD.1 hD.2.1 hD.2.2.2)
end
end Stb
namespace Stb
open PySem PyProof.Rows
structure SJ (J:Shared→Prop) (n0:Nat):Prop where
 sz:∀s,J s→n0≤s.heap.objs.size
 push:∀s c xs n,J s→J {s with heap:=s.heap.push (seqObj c xs n)}
 upd:∀s b g,J s→n0≤b→J {s with heap:=s.heap.update b (Obj.mapSeq g)}
noncomputable def Tells(J:Shared→Prop)(n0:Nat)(k:Int)(s:Shared)(v:Value)(s':Shared):Prop:=(∃t,v=.int k t)∧J s'∧∀b o,n0≤b→s.heap.get? b=some o→s'.heap.get? b=some o
noncomputable def Rows(keys:Array Value)(vs:List Value)(out:Array Value):Prop:=∃xs:Array Keyed,xs.Perm (keys.zip vs.toArray)∧Up xs xs.size∧out=xs.map (·.2)
section
variable {prog:Program} {w:World} {A:Around} {E:Value→Shared→Prop} {s:Shared} {J:Shared→Prop} {n0:Nat} {a kS:Addr} {vs:List Value} {kz:List Int} {keys:Array Value} {e e1:Nat} {P:PySem.Fin→Shared→Prop}
theorem tailK(S:SJ J n0)(hJ:J s)(hk:s.heap.get? kS=some (seqObj "list" keys e))(ha:s.heap.get? a=some (seqObj "list" #[] e1))(ne:kS≠a)(nk:n0≤kS)(na:n0≤a){st:SortSt}(hz:keys.size≤64)(hp:(arrOf st).Perm (keys.zip vs.toArray))(hu:Up (arrOf st) (arrOf st).size)
  (hf:failedOf st=none) (hv:vs.length≤64) (h:∀h' out c,J {s with heap:=h'}→h'.get? a=some (seqObj "list" out c)→Rows keys vs out→P (.done (.ret .none)) {s with heap:=h'}):wpAny (model prog w) A (ksk_tail a false e1 (.ref kS) st) P E s:=by
 have sz2:(arrOf st).size≤64:=by
  have hvs:vs.toArray.size=vs.length:=by simp
  rw[hp.size_eq,MZ]
  omega
 have q1:=Heap.SameBut.update s.heap kS (Obj.mapSeq fun _=>(#[]:Array Value))
 have g1:(s.heap.update kS (Obj.mapSeq fun _=>(#[]:Array Value))).get? a=some (seqObj "list" #[] e1):=(q1.2 a ne.symm).trans ha
 have J1:=S.upd s kS (fun _=>#[]) hJ nk
 have J2:=S.upd _ a (fun _=>(arrOf st).map (·.2)) J1 na
 unfold ksk_tail
 try dsimp only
 refine wpAny_bind (listUpdate_at hk rfl ?_ (by rw[sizeLine_eq];omega) (NB _))
 refine wpAny_bind (wpAny_letGo ?_)
 refine wpAny_bind (seqEpoch_at g1 rfl ?_)
 refine wpAny_bind (listUpdate_at g1 rfl ?_ (NB _) (by simp only[NS,if_false,Array.size_map];rw[sizeLine_eq];omega))
 rw[hf]
 simp only[bne_self_eq_false,NS,if_false]
 exact wpAny_pure (h _ _ _ J2 (get?_update_seq g1 fun _=>(arrOf st).map (·.2)) ⟨arrOf st,hp,hu,rfl⟩)
theorem zip_T{keys:Array Value}{vs:List Value}{i:Nat}(hl:keys.size=vs.length):T (keys.zip vs.toArray) i=match vs[i]? with|some v=>numOf v|none=>0:=by
 unfold T
 have hvs:vs.toArray.size=vs.length:=by simp
 cases ev:vs[i]? with
 |none=>
  have hi:vs.length≤i:=Eg.mp ev
  have e:(keys.zip vs.toArray)[i]?=none:=EY (by rw[MZ];omega)
  rw[e]
 | some v=>
  have hi:i<vs.length:=(Nh.mp ev).1
  have hz:i<(keys.zip vs.toArray).size:=by rw[MZ];omega
  have ev':vs[i]=v:=by
   rw[Me hi] at ev
   exact Option.some.inj ev
  have e:(keys.zip vs.toArray)[i]?=some (keys[i]'(by omega),vs[i]):=by
   rw[MY hz]
   simp
  rw[e,ev']
theorem endK(S:SJ J n0)(hJ:J s)(hk:s.heap.get? kS=some (seqObj "list" keys e))(ha:s.heap.get? a=some (seqObj "list" #[] e1))(ne:kS≠a)(nk:n0≤kS)(na:n0≤a)(hi:IntsAre keys.toList kz)(hl:keys.size=vs.length)(h64:vs.length<64)
  (up:∀(i j:Nat)(x y:Value),i<j→vs[i]?=some x→vs[j]?=some y→numOf x<numOf y)
  (h:∀h' out c,J {s with heap:=h'}→h'.get? a=some (seqObj "list" out c)→Rows keys vs out→P (.done (.ret .none)) {s with heap:=h'}):wpAny (model prog w) A (ksk_end a false vs.toArray e1 (.ref kS) keys) P E s:=by
 have hvs:vs.toArray.size=vs.length:=by simp
 have zs:(keys.zip vs.toArray).size=vs.length:=by rw[MZ];omega
 unfold ksk_end
 try dsimp only
 simp only[NS,if_false]
 by_cases h2:vs.toArray.size<2
 ·rw[if_pos h2,if_pos h2]
  refine wpAny_bind (wpAny_pure ?_)
  rw[StateT.run_pure]
  refine wpAny_bind (wpAny_pure ?_)
  try dsimp only
  refine tailK (st:=SortSt.mk' general' (keys.zip vs.toArray) #[] 7 none) S hJ hk ha ne nk na (by omega) (Array.Perm.refl _) ?_ rfl (by omega) h
  intro i j hij hj
  have hj2:j<(keys.zip vs.toArray).size:=hj
  rw[zs] at hj2
  rw[Nk] at h2
  omega
 ·rw[if_neg h2,if_neg h2]
  rw[Nk] at h2
  rw[ksk_kind hi (by rw[hl];omega)]
  refine wpAny_bind (wpAny_pure ?_)
  have lat:Lat (keys.zip vs.toArray) (keys.zip vs.toArray) 1:=fun i j hij _ hj=>by
   rw[zs] at hj
   rw[zip_T hl,zip_T hl,Me (show i<vs.length by omega),Me hj]
   exact up i j _ _ hij (Me (show i<vs.length by omega)) (Me hj)
  refine wpAny_bind (wpAny_mono (runs (a₀:=keys.zip vs.toArray) (st:=SortSt.mk' oneType' (keys.zip vs.toArray) #[] 7 none) (Q:=fun _ st'=>(arrOf st').Perm (keys.zip vs.toArray)∧failedOf st'=none∧Up (arrOf st') (keys.zip vs.toArray).size)
   (ksk_intKeys hi) ⟨Array.Perm.refl _,rfl,rfl,rfl⟩ (by rw[zs];omega) (by rw[zs];exact h64) lat fun st' b1 b2 b3=>⟨b1,b2,b3⟩) ?_ fun _ _ z=>z)
  rintro⟨⟨⟩,st'⟩ s' ⟨rfl,b1,b2,b3⟩
  try dsimp only
  exact tailK S hJ hk ha ne nk na (by omega) b1 (by rw[b1.size_eq];exact b3) b2 (by omega) h
theorem restK{f:Value}(S:SJ J n0)(hJ:J s)(hk:s.heap.get? kS=some (seqObj "list" #[] 0))(ha:s.heap.get? a=some (seqObj "list" #[] e1))(ne:kS≠a)(nk:n0≤kS)(na:n0≤a)(hl:kz.length=vs.length)(h64:vs.length<64)
  (up:∀(i j:Nat)(x y:Value),i<j→vs[i]?=some x→vs[j]?=some y→numOf x<numOf y)
  (turn:∀(i:Nat)(v:Value)(k:Int),vs[i]?=some v→kz[i]?=some k→∀s',J s'→wpAny (model prog w) A (call f [v]) (Tells J n0 k s') (fun _ _=>False) s')
  (h:∀s' keys out c,J s'→s'.heap.get? a=some (seqObj "list" out c)→IntsAre keys.toList kz→keys.size=vs.length→Rows keys vs out→P (.done (.ret .none)) s'):wpAny (model prog w) A (ksk_rest a f false vs.toArray e1 (.ref kS)) P E s:=by
 unfold ksk_rest
 refine wpAny_bind (wpAny_rule ?_)
 first
  |rw[List.forIn_toArray]
  |rw[←Array.forIn_toList]
 refine wpAny_bind (ksk_fold (fun i s'=>J s'∧∃kA e,s'.heap.get? kS=some (seqObj "list" kA e)∧s'.heap.get? a=some (seqObj "list" #[] e1)∧IntsAre kA.toList (kz.take i)) vs 0 s ⟨hJ,#[],0,hk,ha,by simpa using IntsAre.nil⟩ ?turnP ?doneP)
 case turnP=>
  rintro j x s' hx ⟨J',kA,e,g1,g2,hi⟩
  simp only[Nat.zero_add] at hi⊢
  have hj:j<vs.length:=(Nh.mp hx).1
  obtain⟨k,ek⟩:∃k,kz[j]?=some k:=⟨_,Me (by omega)⟩
  have lz:kA.size≤vs.length:=by
   have h1:=hi.length
   rw[Mu,Nt] at h1
   omega
  refine wpAny_bind (wpAny_attempt (wpAny_mono (turn j x k hx ek s' J') (fun v s'' hT=>?_) fun _ _ z=>z.elim))
  obtain⟨⟨t,rfl⟩,J2,kp⟩:=hT
  try dsimp only
  have g1':=kp _ _ nk g1
  have g2':=kp _ _ na g2
  have q1:=Heap.SameBut.update s''.heap kS (Obj.mapSeq (·.push (.int k t)))
  refine wpAny_bind (listUpdate_at g1' rfl ?_ (by rw[sizeLine_eq];omega) (J5 (MR (Array.size_push ..)) (by rw[sizeLine_eq];omega)))
  have et:kz.take (j+1)=kz.take j++[k]:=by rw[Mf,ek];simp
  have ep:(kA.push (Value.int k t)).toList=kA.toList++[Value.int k t]:=by simp
  exact wpAny_pure ⟨rfl,S.upd _ kS _ J2 nk,kA.push (.int k t),_,get?_update_seq g1' (·.push (.int k t)),(q1.2 a ne.symm).trans g2',by rw[ep,et];exact ksk_snoc hi⟩
 case doneP=>
  rintro s' ⟨J',kA,e,g1,g2,hi⟩
  have e3:kz.take (0+vs.length)=kz:=N4 (by omega)
  rw[e3] at hi
  have lk:kA.size=vs.length:=by
   have:=hi.length
   rw[Mu] at this
   omega
  try dsimp only
  refine wpAny_bind (listItems_at g1 rfl ?_)
  exact endK S J' g1 g2 ne nk na hi lk h64 up fun h' out c z1 z2 z3=>h _ kA out c z1 z2 hi lk z3
theorem sortK{f:Value}{n:Nat}(S:SJ J n0)(hJ:J s)(ho:s.heap.get? a=some (seqObj "list" vs.toArray n))(na:n0≤a)(hl:kz.length=vs.length)(h64:vs.length<64)
  (up:∀(i j:Nat)(x y:Value),i<j→vs[i]?=some x→vs[j]?=some y→numOf x<numOf y)
  (turn:∀(i:Nat)(v:Value)(k:Int),vs[i]?=some v→kz[i]?=some k→∀s',J s'→wpAny (model prog w) A (call f [v]) (Tells J n0 k s') (fun _ _=>False) s')
  (h:∀s' keys out c,J s'→s'.heap.get? a=some (seqObj "list" out c)→IntsAre keys.toList kz→keys.size=vs.length→Rows keys vs out→P (.done (.ret .none)) s'):wpAny (model prog w) A (ksk_tree a f false) P E s:=by
 have la:a<s.heap.objs.size:=Heap.lt_size ho
 have J1:=S.upd s a (fun _=>#[]) hJ na
 have J2:=S.push _ "tuple" vs.toArray 0 J1
 have J3:=S.push _ "list" #[] 0 J2
 obtain⟨e1,g1⟩:∃e1,(s.heap.update a (Obj.mapSeq fun _=>(#[]:Array Value))).get? a=some (seqObj "list" #[] e1):=⟨_,get?_update_seq ho fun _=>#[]⟩
 have sz:((s.heap.update a (Obj.mapSeq fun _=>(#[]:Array Value))).push (seqObj "tuple" vs.toArray 0)).objs.size=s.heap.objs.size+1:=by rw[size_push',Heap.size_update]
 have n0s:=S.sz s hJ
 unfold ksk_tree
 refine wpAny_bind (listItems_at ho rfl ?_)
 refine wpAny_bind (listUpdate_at ho rfl ?_ (by rw[Nk,sizeLine_eq];omega) (NB _))
 refine wpAny_bind (seqEpoch_at g1 rfl ?_)
 refine wpAny_bind (wpAny_newTuple ?_ (by show vs.length≤_;rw[sizeLine_eq];omega))
 refine wpAny_bind (wpAny_newList ?_ (NB _))
 refine wpAny_holding ?_
 refine restK (s:={s with heap:=((s.heap.update a (Obj.mapSeq fun _=>(#[]:Array Value))).push (seqObj "tuple" vs.toArray 0)).push (seqObj "list" #[] 0)}) (kS:=((s.heap.update a (Obj.mapSeq fun _=>(#[]:Array Value))).push (seqObj "tuple" vs.toArray 0)).objs.size)
  S J3 (Heap.get?_push_size _ rfl) (Heap.get?_push_of_some _ (Heap.get?_push_of_some _ g1)) (by rw[sz];exact NQ (Nat.lt_succ_of_lt la)) (by rw[sz];omega) na hl h64 up turn h
end
section
variable {prog:Program} {w:World} {A:Around} {E:Value→Shared→Prop} {s:Shared} {J:Shared→Prop} {n0:Nat} {vs:List Value} {kz:List Int} {Q:Value→Shared→Prop}
theorem sortedK{l f:Addr}(S:SJ J n0)(hJ:J s)(hL:s.heap.IsList l vs.toArray)(hl:kz.length=vs.length)(h64:vs.length<64)
  (up:∀(i j:Nat)(x y:Value),i<j→vs[i]?=some x→vs[j]?=some y→numOf x<numOf y)
  (turn:∀(i:Nat)(v:Value)(k:Int),vs[i]?=some v→kz[i]?=some k→∀s',J s'→wpAny (model prog w) A.in1.in1 (call (.ref f) [v]) (Tells J n0 k s') (fun _ _=>False) s')
  (h:∀s' D keys out c,n0≤D→J s'→s'.heap.get? D=some (seqObj "list" out c)→IntsAre keys.toList kz→keys.size=vs.length→Rows keys vs out→Q (.ref D) s'):wpAny (model prog w) A (call (.builtin "sorted") [.ref l] [(Str.ofString "key", .ref f)]) Q E s:=by
 refine call_function_entry_kw kind_sorted plain_sorted entry_sorted (ksk_s1 _ _) ?_
 unfold Builtin.«sorted»
 refine wpAny_bind (m:=checkCount "sorted" 1 1 _) (wpAny_pure ?_)
 refine wpAny_bind (collect_list hL ?_ (by rw[sizeLine_eq];omega))
 refine wpAny_bind (wpAny_newList ?_ (by rw[sizeLine_eq];omega))
 have n0s:=S.sz s hJ
 have J1:=S.push s "list" #[] 0 hJ
 have J2:=S.upd _ s.heap.objs.size (· ++vs.toArray) J1 n0s
 have J3:=S.push _ "list" vs.toArray 0 J2
 have sz:((s.heap.push (seqObj "list" #[] 0)).update s.heap.objs.size (Obj.mapSeq (· ++vs.toArray))).objs.size=s.heap.objs.size+1:=by rw[Heap.size_update,size_push']
 have g1:(((s.heap.push (seqObj "list" #[] 0)).update s.heap.objs.size (Obj.mapSeq (· ++vs.toArray))).push (seqObj "list" vs.toArray 0)).get? (s.heap.objs.size+1)=some (seqObj "list" vs.toArray 0):=by
  rw[←sz]
  exact Heap.get?_push_size _ rfl
 show wpAny _ _ _ _ _ {s with heap:=((s.heap.push (seqObj "list" #[] 0)).update s.heap.objs.size (Obj.mapSeq (· ++vs.toArray))).push (seqObj "list" vs.toArray 0)}
 rw[sz]
 refine wpAny_bind (wpAny_holding (wpAny_call_entry_kw slot_list_sort ⟨_,g1,rfl⟩ entry_list_sort ?inner (ksk_l1 _ _)))
 case inner=>
  show wpAny (model prog w) A.in1.in1 (Builtin.«list.sort» ⟨[.ref (s.heap.objs.size+1)],[(Str.ofString "key", .ref f)]⟩) _ _ _
  rw[ksk_t1]
  refine sortK (s:={s with heap:=((s.heap.push (seqObj "list" #[] 0)).update s.heap.objs.size (Obj.mapSeq (· ++vs.toArray))).push (seqObj "list" vs.toArray 0)}) S J3 g1 (by omega) hl h64 up turn fun s' keys out c z1 z2 z3 z4 z5=>⟨_,rfl,?_⟩
  exact wpAny_pure ⟨_,rfl,h s' _ keys out c (by omega) z1 z2 z3 z4 z5⟩
end
end Stb
namespace L2
open PySem PySem.Spec PyProof.Rows
structure kdr (X:Cx) (scope:Scope) (x:Str) (N:List Str) (cap:List (Option Nat)):Prop where
 S:CompScope X scope N (none::cap)
 hd:N[0]?=some x
 par:scope.names.lookup x=some .local
 co:scope.isCoroutine=false
 gen:scope.isGenerator=false
 nocell:∀y∈scope.names,y.2≠.cell
noncomputable abbrev kjf(X:Cx)(scope:Scope)(qual:Str)(L f c:Addr):Env:=PySem.W.envX qual scope L f (.ref c) (closL X.env.cells scope.names [])
noncomputable def cxL(X:Cx)(A:Around)(scope:Scope)(N:List Str)(qual:Str)(f c:Addr)(s:Shared)(H:Hp):Cx:=
 {X with A:=A.deeper (kjf X scope qual s.heap.objs.size f c),N:=N,s₀:=s,H₀:=H,env:=kjf X scope qual s.heap.objs.size f c,outer:=X.stack,stack:=kjf X scope qual s.heap.objs.size f c::X.stack,ex:=[],fn:=fun _=>false,calm:=true,pn:=[],xe:=fun _ _=>False}
section
variable {X:Cx} {A:Around} {scope:Scope} {x:Str} {N:List Str} {cap:List (Option Nat)} {pins:List (Addr×Obj)} {σ:St} {H:Hp} {s s1:Shared} {qual:Str} {f c:Addr}
theorem kcI(S:kdr X scope x N cap)(I:Inv X pins σ H s){y:Str}{a:Addr}(h:(closL X.env.cells scope.names []).lookup y=some a):X.env.cells.lookup y=some a:=by
 rcases kd6 _ _ h with⟨h1,h2⟩|h1
 ·obtain⟨a',ea⟩:=I.ok.has y (S.S.free _ h1 rfl)
  rw[ea] at h2
  rw[h2]
  exact ea
 ·cases h1
theorem klN(S:kdr X scope x N cap)(I:Inv X pins σ H s)(hfr:A.frames=some X.stack)(hh:A.handled=none){v:V}{u:Value}(r:RelV v u){h1:Heap}{t:Nat}(hns:h1.Ns s.heap.objs.size fun y=>[(x,u)].reverse.lookup y)(hk:∀b o,s.heap.get? b=some o→h1.get? b=some o):
  Inv (cxL X A scope N qual f c s H) [] (some v::capσ cap σ) H {s with heap:=h1,toks:=t}:=by
 have noA:∀b:Addr,b∉(cxL X A scope N qual f c s H).ex:=fun b z=>absurd (show b∈([]:List Addr) from z) (by simp)
 have od:∀{y:Str}{a:Addr},X.env.cells.lookup y=some a→a<s.heap.objs.size:=fun {y a} h=>let⟨_,q⟩:=I.cell y a h;q.lt
 refine⟨⟨I.ok.mod,S.S.kind,rfl,rfl,J4 _,fun y z a e1 e2=>I.ok.inj y z a (kcI S I e1) (kcI S I e2),fun y hy=>?_,fun y a e1 _=>?_,fun _=>hh,Around.frames_deeper hfr, .inr ⟨rfl,rfl⟩,fun b z=>absurd z (noA b),I.bs,J5 I.ok.bsz I.sz,fun b _ _=>noA b,fun b z=>absurd z (noA b),I.stack,I.stkFree⟩,
  rfl,I.bare,Un.kept hk,⟨_,hns,fun j y w e1 e2 e3=>?_⟩,fun y a e=>?_,I.hok.fresh (J4 _),fun y a e=>I.freeC y a (kcI S I e),fun p hp=>absurd (show p∈([]:List (Addr×Obj)) from hp) (by simp),I.hok.kept hk,?_⟩
 ·have hy':scope.names.lookup y=some .cell∨scope.names.lookup y=some .free:=hy
  rcases hy' with q|q
  ·exact absurd rfl (S.nocell _ (PySem.mem_of_lookup q))
  ·exact kcO (cells:=X.env.cells) scope.names [] (.inl (PySem.mem_of_lookup q))
 ·cases(show false=true from e1)
 ·cases j with
  | zero=>
   have ex:y=x:=by
    have e1':N[0]?=some y:=e1
    rw[S.hd] at e1'
    exact(Option.some.inj e1').symm
   have ev:w=v:=by
    have e2':some (some v)=some (some w):=e2
    exact(Option.some.inj (Option.some.inj e2')).symm
   subst ex ev
   refine⟨u,r, .inl ⟨S.par,?_⟩⟩
   simp
  | succ j=>
   have e2':(capσ cap σ)[j]?=some (some w):=by simpa using e2
   have e2'':(cap.map fun o=>match o with|some i=>(σ[i]?).getD none|none=>none)[j]?=some (some w):=e2'
   rw[Nc] at e2''
   cases ec:cap[j]? with
   |none=>rw[ec] at e2'';cases e2''
   | some oi=>
    rw[ec] at e2''
    cases oi with
    |none=>cases e2''
    | some i=>
     have e4:(σ[i]?).getD none=some w:=Option.some.inj e2''
     have e5: σ[i]?=some (some w):=by
      cases q: σ[i]? with
      |none=>rw[q] at e4;cases e4
      |some w'=>rw[q] at e4;exact congrArg some e4
     obtain⟨q1,hf,_⟩:=S.S.cap (j+1) i y (by simpa using ec) e1
     have hm:=PySem.mem_of_lookup hf
     have q2:=S.S.free _ hm rfl
     obtain⟨mo,_,hl⟩:=I.loc
     obtain⟨u',ru,lk⟩:=hl i y w q1 e5 (.inr q2)
     refine⟨u',ru, .inr ⟨.inr hf,?_⟩⟩
     rcases lk with⟨k1,_⟩|⟨_,a,ea,z⟩
     ·have k1':X.env.scope.names.lookup y=some .local:=k1
      rcases q2 with q2|q2 <;> rw[q2] at k1' <;> cases k1'
     ·obtain⟨a',ea2⟩:=kcO (cells:=X.env.cells) scope.names [] (.inl hm)
      have e6:=kcI S I ea2
      rw[ea] at e6
      have e7:a=a':=Option.some.inj e6
      subst e7
      obtain⟨oc,ho,hd⟩:=z
      exact⟨a,ea2,oc,hk _ _ ho,hd⟩
 ·obtain⟨w,oc,ho,hd⟩:=I.cell y a (kcI S I e)
  exact⟨w,oc,hk _ _ ho,hd⟩
 ·have:=S.S.len
  show(some v::capσ cap σ).length=N.length
  rw[←this,NM,NM]
  unfold capσ
  rw[JY]
theorem kkg{name:Str}{params:Arguments}{body:Expr}{pm ctv:Value}{te:TE}{v:V}{u:Value}{Q:VK}(S:kdr X scope x N cap)(I:Inv X pins σ H s)(hfr:A.frames=some X.stack)(hh:A.handled=none)(hdp:A.depth<recursionLimit)
  (ho:s.heap.get? f=some (M0 name qual params body scope (closL X.env.cells scope.names []) pm c ctv)) (hcd:s.heap.CodeRec (.ref c) qual)
  (hbind:bindArgs (PySem.W.kla_fn name qual params body scope (closL X.env.cells scope.names []) pm (.ref c) ctv) ⟨[u],[]⟩=pure [(x,u)]) (r:RelV v u) (he:PE (cxL X A scope N qual f c s H) body te) (hq:te (some v::capσ cap σ) H Q):
  wpAny (model X.prog X.w) A (call (.ref f) [u]) (fun w' s'=>∃v' H',Inv X pins σ H' s'∧RelV v' w'∧Q v' H'∧Un (frs X.stack) [] H H' s.heap s'.heap∧s.heap.objs.size≤s'.heap.objs.size) (fun _ _=>False) s:=by
 refine wpAny_call (PySem.W.kla_callFunE hdp ho rfl S.co S.gen rfl hcd ?_)
 rw[hbind]
 refine wpAny_pure (wpAny_newFunctionEnv S.nocell (fun y hy=>?_) (fun h1 hns hsb=>⟨I.nolimit.fresh _ hsb,?_⟩) S.S.kind)
 ·rw[NP] at hy
  subst hy
  exact S.par
 have hk:∀b o,s.heap.get? b=some o→h1.get? b=some o:=fun b o e=>hsb.extBut b o (Nr (Heap.lt_size e)) (Heap.get?_push_of_some _ e)
 have J:=klN (A:=A) (qual:=qual) (f:=f) (c:=c) (t:=s.toks+1) S I hfr hh r hns hk
 refine PySem.W.kla_codeExpr (wpAny_mono (he [] _ _ _ Q J hq) (fun w' s' hw=>?_) fun _ _ z=>z.elim)
 obtain⟨v',H',J',rv,qv⟩:=hw
 exact⟨v',H',I.call' (ch:=[]) J'.os J'.base J'.hok J'.bare (fun b hb=>by simp at hb),rv,qv,J'.base,J'.sz⟩
end
end L2
namespace L2
open PySem PySem.Spec PyProof.Rows
noncomputable def CodeO(c:Addr)(qual:Str):HO:=.ext fun h=>h.CodeRec (.ref c) qual
noncomputable def lamN(p:Pos):Str:=if p.col=38 then "first_use.<locals>.<lambda>" else "falling_groups.<locals>.<lambda>"
def kkh{p p':Pos}(h:p.col=p'.col):lamN p=lamN p':=by unfold lamN;rw[h]
noncomputable def TbAt(P:Addr)(H:Hp):Prop:=∃ps:Array Value,H P=some (.tbl ps)∧TriplesOk ps.toList∧∀pos c,codeAmong pos ps.toList=some c→∃c',c=.ref c'∧H c'=some (CodeO c' (lamN pos))
structure Grew (P:Addr) (H H':Hp):Prop where
 kp:∀b o,b≠P→H b=some o→H' b=some o
 tb:TbAt P H'
theorem kjN{pos:Pos}{a b:Int}{c:Value}(l:List Value)(h:TriplesOk l){x:Value}(e:codeAmong pos (l++[rawInt a,rawInt b,c])=some x):codeAmong pos l=some x∨(x=c∧b=pos.col):=by
 fun_induction TriplesOk l with
 |case1=>
  right
  unfold rawInt codeAmong at e
  simp only[ME] at e
  split at e
  next hc=>exact⟨(Option.some.inj e).symm,by simpa using(Bool.and_eq_true_iff.mp hc).2⟩
  ·simp[codeAmong] at e
 | case2 n t m u d rest ih=>
  simp only[M1,codeAmong] at e⊢
  split at e
  ·left
   rename_i hc
   rw[if_pos hc]
   exact e
  ·rename_i hc
   rw[if_neg hc]
   exact ih h e
 |case3=>exact h.elim
noncomputable def CodeK(K:JZ)(c P:Addr):Prop:=
 ∃o vs file tf flags tg inF text tt,K.lookup c=some o∧o.cls=.type "code"∧o.data=.fields vs∧vs[11]?=some (.ref P)∧vs.getD 11 .none=.ref P∧vs.getD 18 .none=.str file tf∧vs.getD 7 .none=.int flags tg∧vs.getD 9 .none=.bool inF∧vs.getD 10 .none=.int text tt∧c≠P
def CodeK.hd{K:JZ}{c P:Addr}{h:Heap}(x:CodeK K c P)(X:K.In h):PySem.W.CodeHd h c P:=by
 obtain⟨o,vs,file,tf,flags,tg,inF,text,tt,e,r⟩:=x
 exact⟨o,vs,file,tf,flags,tg,inF,text,tt,X _ _ e,r⟩
noncomputable def BltM(mg:Str→Option Value)(base:Heap):Prop:=∃bm ob,mg "__builtins__"=some (.ref bm)∧bm≠builtinsNs∧base.get? bm=some ob∧ob.cls=.type "module"∧ob.dict=some builtinsNs∧ob.data=.plain
section
variable {X:Cx} {scope:Scope} {x:Str} {N:List Str} {cap:List (Option Nat)} {pins:List (Addr×Obj)} {σ:St} {H:Hp} {s:Shared} {c0 P:Addr} {params:Arguments} {body:Expr} {lpos:Pos}
theorem kkf{E:Value→Shared→Prop}{Q:Value→Shared→Prop}(S:kdr X scope x N cap)(I:Inv X pins σ H s)(hcode:X.env.code=.ref c0)(CK:CodeK X.K c0 P)(hB:BltM X.mg X.base)(TB:TbAt P H)(hq:X.env.qual++ "<lambda>"=(lamN lpos))(hdef:defaultsOf params X.env=([],[]))
  (h:∀(s':Shared)(H':Hp)(f c:Addr)(pm ctv:Value),Inv X pins σ H' s'→Grew P H H'→s'.heap.get? f=some (M0 "<lambda>" (lamN lpos) params body scope (closL X.env.cells scope.names []) pm c ctv)→H' f=none→s.heap.objs.size≤f→(∀b,s.heap.objs.size≤b→s'.heap.objs.size≤b→H' b=none)→H' c=some (CodeO c (lamN lpos))→Q (.ref f) s'):
  wpAny (model X.prog X.w) X.A (eval (.Lambda params body scope lpos) X.env) Q E s:=by
 obtain⟨ps,eP,ht,hor⟩:=TB
 have hP:s.heap.get? P=some (M3 ps):=(show ObjOk X.prog X.w H s.heap P (.tbl ps) from I.hok P _ eP)
 have hg:=I.mod.glob.keeps I.bk
 have nbP:∀b o,X.base.get? b=some o→b≠P:=fun b o e z=>by
  have:=(I.bs b o e).2
  rw[z,eP] at this
  cases this
 have hgP:mainGlobals≠P:=by
  obtain⟨o,_,_,e,_⟩:=I.mod.glob
  exact nbP _ o e
 have hb:s.heap.BuiltinsAt X.mg P:=by
  obtain⟨bm,ob,b1,b2,b3,b4,b5,b6⟩:=hB
  refine⟨bm,ob,b1,b2,fun z=>?_,nbP _ ob b3,I.bk _ _ b3,b4,b5,b6⟩
  obtain⟨o,es,ep,e,hd,_⟩:=I.mod.glob
  rw[←z,b3] at e
  cases e
  rw[b6] at hd
  cases hd
 have CH:=CK.hd I.kIn
 refine PySem.W.kla_eval hdef ?_
 rw[hq]
 cases hor':codeAmong lpos ps.toList with
 | none=>
  have hnf:=hor'
  refine PySem.W.kla_makeFunction (mg:=X.mg) (kcN S.S I) I.ok.glob hg hcode CH hP ht hnf hgP hb fun c' ctv h' tk hx hge hlt hrec htb=>?_
  have hc0:H c'=none:=I.hok.fresh hge
  have nPc:P≠c':=kai eP hc0
  have szP:P<s.heap.objs.size:=Heap.lt_size hP
  generalize hob:M0 "<lambda>" (lamN lpos) params body scope (closL X.env.cells scope.names []) ((X.mg "__name__").getD .none) c' ctv=ob
  have k2:∀b o,b≠P→s.heap.get? b=some o→(h'.push ob).get? b=some o:=fun b o hbp e=>Heap.get?_push_of_some _ (hx b o hbp e)
  have nN:∀{b:Addr},H b=none→b≠P:=fun {b} n z=>by rw[z,eP] at n;cases n
  have at2:∀{b:Addr},b≠P→b≠c'→(upd (upd H P (.tbl (ps++ #[rawInt lpos.line,rawInt lpos.col, .ref c']))) c' (CodeO c' (lamN lpos))) b=H b:=fun {b} h1 h2=>by rw[kaj h2,kaj h1]
  have eP2:(upd (upd H P (.tbl (ps++ #[rawInt lpos.line,rawInt lpos.col, .ref c']))) c' (CodeO c' (lamN lpos))) P=some (.tbl (ps++ #[rawInt lpos.line,rawInt lpos.col, .ref c'])):=by rw[kaj nPc,kad]
  have ec2:(upd (upd H P (.tbl (ps++ #[rawInt lpos.line,rawInt lpos.col, .ref c']))) c' (CodeO c' (lamN lpos))) c'=some (CodeO c' (lamN lpos)):=kad
  have fresh2:∀b,s.heap.objs.size≤b→(h'.push ob).objs.size≤b→(upd (upd H P (.tbl (ps++ #[rawInt lpos.line,rawInt lpos.col, .ref c']))) c' (CodeO c' (lamN lpos))) b=none:=fun b h1 h2=>by
   rw[Heap.size_push] at h2
   rw[at2 (NQ (Ny szP h1)) (NQ (Ny hlt (Nat.le_of_succ_le h2)))]
   exact I.hok.fresh h1
  have ff:(upd (upd H P (.tbl (ps++ #[rawInt lpos.line,rawInt lpos.col, .ref c']))) c' (CodeO c' (lamN lpos))) h'.objs.size=none:=by
   have h1:s.heap.objs.size≤h'.objs.size:=J5 hge (Ng hlt)
   rw[at2 (NQ (Ny szP h1)) (NQ hlt)]
   exact I.hok.fresh h1
  generalize upd (upd H P (.tbl (ps++ #[rawInt lpos.line,rawInt lpos.col, .ref c']))) c' (CodeO c' (lamN lpos))=H2 at *
  have un:Un X.fs [] H H2 s.heap (h'.push ob):=by
   refine⟨fun b o e n _ _=>k2 b o (nN n) e,fun b o e n _ _=>⟨o.slots,k2 b o (nN n) e⟩,fun b o e n _=>?_,fun b o e _=>?_,fun b xs e=>?_,fun b o u e=>?_,fun b qs e=>?_⟩
   ·rw[at2 (nN n) (Nr (Ny (Heap.lt_size e) hge))]
    exact n
   ·by_cases hbp:b=P
    ·subst hbp
     exact⟨_,Heap.get?_push_of_some _ htb⟩
    ·exact⟨o,k2 b o hbp e⟩
   ·rw[at2 (ne_of e eP (by intro z;cases z)) (kai e hc0)]
    exact e
   ·rw[at2 (ne_of e eP (by intro z;cases z)) (kai e hc0)]
    exact e
   ·by_cases hbp:b=P
    ·subst hbp
     rw[eP] at e
     cases e
     exact⟨_,eP2⟩
    ·refine⟨#[],?_⟩
     rw[at2 hbp (kai e hc0),e]
     simp
  have hok2:HOk X.prog X.w H2 (h'.push ob):=fun b u e=>by
   by_cases hbp:b=P
   ·subst hbp
    rw[eP2] at e
    cases e
    exact(show(h'.push ob).get? b=some _ from Heap.get?_push_of_some _ htb)
   ·by_cases hbc:b=c'
    ·subst hbc
     rw[ec2] at e
     cases e
     obtain⟨cc,oc,vs,t,e1,e2,e3,e4⟩:=hrec
     cases e1
     refine(show ObjOk X.prog X.w H2 (h'.push ob) b (CodeO b (lamN lpos)) from⟨⟨b,oc,vs,t,rfl,Heap.get?_push_of_some _ e2,e3,e4⟩,⟨oc,Heap.get?_push_of_some _ e2⟩,fun h1 h2 q k=>?_⟩)
     obtain⟨c3,o3,vs3,t3,z1,z2,z3,z4⟩:=q
     cases z1
     exact⟨b,o3,vs3,t3,rfl,k _ z2,z3,z4⟩
    ·rw[at2 hbp hbc] at e
     have nown:∀d y,H d=some (.own y)→d≠P∧d≠c':=fun d y r=>⟨ne_of r eP (by intro z;cases z),kai r hc0⟩
     refine(I.hok b u e).stay (fun d v hd r=>k2 d v ?_ r) (fun d r=>by rw[at2 (nown d b r).1 (nown d b r).2];exact r) fun d xs r=>by rw[at2 (ne_of r eP (by intro z;cases z)) (kai r hc0)];exact r
     rcases hd with rfl|hd
     ·exact hbp
     ·exact(nown d b hd).1
  subst hob
  refine h _ H2 h'.objs.size c' _ ctv (I.un (t':=tk) un hok2) ⟨fun b o hbp e=>by rw[at2 hbp (kai e hc0)];exact e,_,eP2,?_,fun pos d ed=>?_⟩ (Heap.get?_push_size _ rfl) ff (J5 hge (Ng hlt)) fresh2 ec2
  ·have:=TriplesOk_snoc lpos.line lpos.col (.ref c') ps.toList ht
   simpa using this
  ·have ed':codeAmong pos (ps.toList++[rawInt lpos.line,rawInt lpos.col, .ref c'])=some d:=by simpa using ed
   rcases kjN ps.toList ht ed' with z|z
   ·obtain⟨d',rfl,ed2⟩:=hor pos d z
    exact⟨d',rfl,by rw[at2 (ne_of ed2 eP (by intro z;cases z)) (kai ed2 hc0)];exact ed2⟩
   ·exact⟨c',z.1,by rw[kkh (p:=pos) (p':=lpos) (by have:=z.2;omega)];exact ec2⟩
 |some cv=>
  have hf:=hor'
  obtain⟨c',rfl,ec'⟩:=hor lpos cv hf
  refine PySem.W.kla_makeFunctionHit (mg:=X.mg) (kcN S.S I) I.ok.glob hg hcode CH hP ht hf hb fun ctv h' tk hk hsz=>?_
  have k2:∀b o,s.heap.get? b=some o→(h'.push (M0 "<lambda>" (lamN lpos) params body scope (closL X.env.cells scope.names []) ((X.mg "__name__").getD .none) c' ctv)).get? b=some o:=fun b o e=>Heap.get?_push_of_some _ (hk b o e)
  exact h _ H h'.objs.size c' _ ctv (I.kept (t':=tk) k2) ⟨fun b o _ e=>e,ps,eP,ht,hor⟩ (Heap.get?_push_size _ rfl) (I.hok.fresh hsz) hsz (fun b h1 _=>I.hok.fresh h1) ec'
end
end L2
namespace L2
open PySem PySem.Spec PyProof.Rows
theorem khC:∀{ns:List Int}{us:List Value},Vals (ns.map V.int) us→IntsAre us ns
 |[],_, .nil=>.nil
 |n::ns,_, .cons h t=>by
  obtain⟨tk,rfl⟩:=h
  exact .cons n tk (khC t)
theorem kg3:∀{us:List Value}{ns:List Int},IntsAre us ns→Vals (ns.map V.int) us
 |_,_, .nil=>.nil
 |_,_, .cons n t h=>.cons ⟨t,rfl⟩ (kg3 h)
theorem kjU{ns:List Int}{key:Int→Int}{keys:Array Value}{us:List Value}{out:Array Value}(hu:IntsAre us ns)(hk:IntsAre keys.toList (ns.map key))(hl:keys.size=us.length)(h:Stb.Rows keys us out):
  ∃ms:List Int,IntsAre out.toList ms∧ms.Perm ns∧ms.Pairwise fun a b=>key a<key b∨(key a=key b∧a<b):=by
 obtain⟨xs,hp,hup,rfl⟩:=h
 have pl:xs.toList.Perm (keys.toList.zip us):=by
  rw[←ksk_zip]
  exact Array.perm_iff_toList_perm.mp hp
 have mem:∀p∈keys.toList.zip us,p.2∈us∧numOf p.1=key (numOf p.2):=fun p hp=>by
  obtain⟨i,hi,rfl⟩:=List.mem_iff_getElem.mp hp
  have l1:i<keys.toList.length:=by
   rw[List.length_zip] at hi
   omega
  have l2:i<us.length:=by
   rw[List.length_zip] at hi
   omega
  rw[List.getElem_zip]
  refine⟨List.getElem_mem l2,?_⟩
  have e1:(keys.toList.map numOf)[i]?=(ns.map key)[i]?:=by rw[hk.nums]
  have e2:(us.map numOf)[i]?=ns[i]?:=by rw[hu.nums]
  rw[Nc,Me l1,Nc] at e1
  rw[Nc,Me l2] at e2
  rw[←e2] at e1
  exact Option.some.inj e1
 have memx:∀p∈xs.toList,p.2∈us∧numOf p.1=key (numOf p.2):=fun p hp=>mem p (pl.mem_iff.mp hp)
 refine⟨xs.toList.map fun p=>numOf p.2,?_,?_,?_⟩
 ·have e:(xs.map (·.2)).toList=xs.toList.map (·.2):=by simp
  rw[e]
  have:=intsAre_map (xs.toList.map (·.2)) fun v hv=>by
   obtain⟨p,hp',rfl⟩:=Nq.mp hv
   exact hu.all _ (memx p hp').1
  rw[Nx] at this
  exact this
 ·have h1:=pl.map (fun p:Keyed=>numOf p.2)
  have e2:(keys.toList.zip us).map (fun p:Keyed=>numOf p.2)=ns:=by
   have e3:(keys.toList.zip us).map (fun p:Keyed=>numOf p.2)=((keys.toList.zip us).map Prod.snd).map numOf:=by rw[Nx];rfl
   rw[e3,List.map_snd_zip (by have e:=Mu (xs:=keys);omega),hu.nums]
  rw[e2] at h1
  exact h1
 ·rw[Ms]
  intro i j hi hj hij
  have hi':i<xs.size:=by simpa using hi
  have hj':j<xs.size:=by simpa using hj
  have q:=hup i j hij hj'
  have ki:=(memx xs[i] (by simp)).2
  have kj:=(memx xs[j] (by simp)).2
  unfold Stb.Lx Stb.T at q
  rw[K_eq hi',K_eq hj',MY hi',MY hj'] at q
  simp only[MK,Array.getElem_toList]
  rw[←ki,←kj]
  exact q
section
variable {X:Cx} {scope:Scope} {x:Str} {N:List Str} {cap:List (Option Nat)} {pins:List (Addr×Obj)} {σ:St} {H:Hp} {s1:Shared} {f:Addr} {fo:Obj}
noncomputable def Held(X:Cx)(pins:List (Addr×Obj))(σ:St)(H:Hp)(n0:Nat)(f:Addr)(fo:Obj)(s:Shared):Prop:=Inv X pins σ H s∧n0≤s.heap.objs.size∧s.heap.get? f=some fo
theorem klP(I:Inv X pins σ H s1)(hf:f<s1.heap.objs.size):Stb.SJ (Held X pins σ H s1.heap.objs.size f fo) s1.heap.objs.size where
 sz:=fun s h=>h.2.1
 push:=fun s c xs n h=>⟨h.1.kept (t':=s.toks) fun b o e=>Heap.get?_push_of_some _ e,J5 h.2.1 (by rw[Heap.size_push];exact N8 _),Heap.get?_push_of_some _ h.2.2⟩
 upd:=fun s b g h hb=>by
  obtain⟨q1,q2,q3,q4,q5,q6⟩:=I.fpOk hb (I.hok.fresh hb)
  have sb:=Heap.SameBut.update s.heap b (Obj.mapSeq g)
  exact⟨h.1.turned (t':=s.toks) (it:=b) (fun d o hd e=>(sb.2 d hd).trans e) q1 q2 q4 q5 q6,by rw[Heap.size_update];exact h.2.1,(sb.2 f (Nr (Ny hf hb))).trans h.2.2⟩
noncomputable def kjS(K:JZ)(P:Addr)(tl:TE)(cap:List (Option Nat))(te:TE):TE:=fun σ H Q=>tl σ H fun v H1=>∃(a:Addr)(ns:List Int)(key:Int→Int),v=.ref a∧SqL K H1 a (ns.map V.int)∧ns.length<64∧ns.Pairwise (· < ·)∧TbAt P H1∧a≠P∧
 (∀H2,Grew P H1 H2→∀n∈ns,te (some (.int n)::capσ cap σ) H2 fun v H3=>v=.int (key n)∧H3=H2)∧
 ∀(H2:Hp)(l:Addr)(ms:List Int),Grew P H1 H2→H1 l=none→H2 l=none→ms.Perm ns→(ms.Pairwise fun a b=>key a<key b∨(key a=key b∧a<b))→Q (.ref l) (upd H2 l (.lst (ms.map V.int)))
theorem kkA:bootBuiltins "sorted"=some (.builtin "sorted"):=by decide +kernel
theorem Grew.seq{K:JZ}{P:Addr}{H H':Hp}{a:Addr}{xs:List V}(g:Grew P H H')(ha:a≠P)(h:SqL K H a xs):SqL K H' a xs:=by
 rcases h with(h|⟨o,h⟩)|h
 ·exact .inl (.inl (g.kp _ _ ha h))
 ·exact .inl (.inr ⟨o,g.kp _ _ ha h⟩)
 ·exact .inr h
theorem khU{l:Expr}{tl te:TE}{c0 P:Addr}{params:Arguments}{body:Expr}{lpos p pos kpos:Pos}(hl:PE X l tl)(S:kdr X scope x N cap)(hc:X.calm=true)(hdp:X.A.depth<recursionLimit)(hcode:X.env.code=.ref c0)(CK:CodeK X.K c0 P)(hB:BltM X.mg X.base)
  (hg:Gl X "sorted") (hm:X.mg "sorted"=none) (hbind:∀(cl:List (Str×Addr))(pm:Value)(c:Addr)(ctv u:Value),bindArgs (PySem.W.kla_fn "<lambda>" (lamN lpos) params body scope cl pm (.ref c) ctv) ⟨[u],[]⟩=pure [(x,u)])
  (he:∀A f c s H,PE (cxL X A scope N (lamN lpos) f c s H) body te) (hq:X.env.qual++ "<lambda>"=(lamN lpos)) (hdef:defaultsOf params X.env=([],[]):=by rfl) (s1:starEach [l] X.env=[(false,eval l X.env)]:=by rfl):
  PE X (.Call (.Name "sorted" p) [l] [⟨some "key", .Lambda params body scope lpos,kpos⟩] pos) (kjS X.K P tl cap te):=by
 intro pins s σ H Q I h
 refine wpAny_Call_Name_kw (kcH I hg hm kkA ?_ (by decide) (by decide))
 refine callWith_kw ?_ (by rw[s1];rfl) (by rw[s1];rfl)
 rw[s1]
 refine Calls.spliced_cons (thn (hl pins s σ H _ I h) fun u s3 ⟨v,H1,I1,r1,a,ns,key,ev,hS,h64,hup,TB,haP,hte,q⟩=>Calls.spliced_nil ?_)
 subst ev
 cases r1
 show wpAny _ _ (evalAll ((do let v ←eval (.Lambda params body scope lpos) X.env;standAt pos;pure v):: [])) _ _ s3
 refine wpAny_evalAll_cons (wpAny_bind (kkf S I1 hcode CK hB TB hq hdef fun s4 H4 lf c pm ctv I4 G ef ff hsf hfr ec=>wpAny_bind (wpAny_standAt (wpAny_pure (wpAny_evalAll_nil ?_)))))
 show wpAny _ _ (call (.builtin "sorted") [.ref a] [(Str.ofString "key", .ref lf)]) _ _ s4
 obtain⟨its,rv,pl,hz⟩:=I4.list (G.seq haP hS)
 have hi:=khC rv
 have lu:=hi.length
 have lf4:lf<s4.heap.objs.size:=Heap.lt_size ef
 have rising:∀(i j:Nat)(y z:Value),i<j→its[i]?=some y→its[j]?=some z→numOf y<numOf z:=fun i j y z hij ey ez=>by
  have e1:ns[i]?=some (numOf y):=by rw[←hi.nums,Nc,ey];rfl
  have e2:ns[j]?=some (numOf z):=by rw[←hi.nums,Nc,ez];rfl
  obtain⟨l1,q1⟩:=Nh.mp e1
  obtain⟨l2,q2⟩:=Nh.mp e2
  have:=Ms.mp hup i j l1 l2 hij
  rw[q1,q2] at this
  exact this
 refine Stb.sortedK (kz:=ns.map key) (J:=Held X pins σ H4 s4.heap.objs.size lf _) (klP I4 lf4) ⟨I4,J4 _,ef⟩ pl.isList (by rw[JY,lu]) (by omega) rising (fun i v k ev ek s5 hJ=>?_) fun s5 D keys out cc hD hJ eD hk hkl hR=>?_
 ·have en:ns[i]?=some (numOf v):=by rw[←hi.nums,Nc,ev];rfl
  have ek':k=key (numOf v):=by
   rw[Nc,en] at ek
   exact(Option.some.inj ek).symm
  subst ek'
  obtain⟨n,t,rfl⟩:=hi.all v (Nb ev)
  have hcr:s5.heap.CodeRec (.ref c) (lamN lpos):=(show ObjOk X.prog X.w H4 s5.heap c (CodeO c (lamN lpos)) from hJ.1.hok c _ ec).1
  refine wpAny_mono (kkg (A:=X.A.in1.in1) (v:=.int n) (u:=.int n t) S hJ.1 I.ok.frames (I.ok.hd hc) hdp hJ.2.2 hcr (hbind _ _ _ _ _) ⟨t,rfl⟩ (he _ _ _ _ _) (hte H4 G n (Nb en))) (fun w' s6 hw=>?_) fun _ _ z=>z
  obtain⟨v',H6,I6,rv',⟨e1,e2⟩,un,sz6⟩:=hw
  subst e1 e2
  have nst:∀b,s3.heap.objs.size≤b→b∉frs X.stack:=fun b hb z=>absurd (kil I1 z) (MF.mpr hb)
  have s34:s3.heap.objs.size≤s4.heap.objs.size:=Ng (Md hsf lf4)
  have kp:∀b o,s3.heap.objs.size≤b→H6 b=none→s5.heap.get? b=some o→s6.heap.get? b=some o:=fun b o hb hn e=>un.keep b o e hn (nst b hb) (by simp)
  refine⟨rv',⟨I6,?_,kp lf _ hsf ff hJ.2.2⟩,fun b o hb e=>kp b o (J5 s34 hb) (I4.hok.fresh hb) e⟩
  exact J5 hJ.2.1 sz6
 ·obtain⟨ms,m1,m2,m3⟩:=kjU hi hk (by omega) hR
  have hn:H4 D=none:=I4.hok.fresh hD
  have fp:=I4.fpOk hD hn
  have h10:H1 D=none:=I1.hok.fresh (J5 (Ng (Md hsf lf4)) hD)
  have vm:=kg3 m1
  have lz:(ms.map V.int).length≤sizeLine:=by
   rw[JY,m2.length_eq,sizeLine_eq]
   omega
  refine⟨.ref D,_,hJ.1.adopt (a:=D) (o:=.lst (ms.map V.int)) fp ?_ ?_,rfl,q H4 D ms G h10 hn m2 m3⟩
  ·exact J5 I4.sz hD
  ·exact(show ObjOk X.prog X.w _ s5.heap D (.lst (ms.map V.int)) from⟨lz,out.toList,cc,vm,by simpa using eD⟩)
end
end L2
namespace L2
open PySem PySem.W PyProof.Rows
section
variable {X:Cx}
noncomputable def kl8:V→List V→Hp→VK→Prop:=fun x vs H Q=>∃(l:Addr)(ns:List Int)(k:Int),x=.ref l∧vs=[.int k]∧H l=some (.lst (ns.map V.int))∧Q (.int (ns.count k:Nat)) H
theorem keC:∀{ns:List Int}{us:List Value}(k:Int),Vals (ns.map V.int) us→us.countP (isI k)=ns.count k
 |[],_,_, .nil=>rfl
 |m::ns,_::us,k, .cons r t=>by
  obtain⟨tk,rfl⟩:=r
  rw[List.countP_cons,EE,keC k t]
  rfl
theorem kj9:MtM X "list.count" kl8:=by
 intro pins s σ H x vs v us Q I rx rv h
 obtain⟨l,ns,k,rfl,rfl,hH,q⟩:=h
 cases rx
 obtain⟨u,rfl,ru⟩:=rv.one
 obtain⟨t,rfl⟩:=ru
 obtain⟨z,its,n,r,hl,e⟩:=I.lstM hH
 refine call_meets F.slot_list_count ⟨_,e,rfl⟩ F.entry_list_count (F.args_list_count_2 _ _)
  (MeetsSeq.list_count l its.toArray n (.int k t) (isI k) (fun y hy=>?_)) ⟨e,?_⟩
 ·obtain⟨j,hj',rfl⟩:=Array.mem_iff_getElem.mp hy
  have hjl:j<its.length:=by simpa using hj'
  have hln:its.length=ns.length:=by rw[←hl,JY]
  obtain⟨tk,et⟩:=kgi r j ns[j] (by simp)
  obtain⟨_,e'⟩:=Nh.mp et
  have e2:its.toArray[j]=.int ns[j] tk:=by simpa using e'
  rw[e2]
  exact MeetsSeq.EqGives.int _ k tk t
 ·refine⟨.int (ns.count k:Nat),H,I.tok _,⟨s.toks,?_⟩,q⟩
  rw[List.toList_toArray,keC k r]
end
end L2
namespace L2
open PySem PySem.W PyProof.Rows
section
variable {X:Cx} {pins:List (Addr×Obj)} {σ:St} {H:Hp} {s:Shared} {A:Around} {E:Value→Shared→Prop} {Q:Value→Shared→Prop}
end
end L2
namespace L2
open PySem PySem.W PyProof.Rows
section
variable {X:Cx}
end
end L2
namespace L2
open PySem PySem.Spec PyProof.Rows
section
variable {prog:Program} {w:World} {A:Around} {E:Value→Shared→Prop} {s:Shared}
end
end L2
namespace L2
open PySem PySem.Spec PyProof.Rows
section
variable {prog:Program} {w:World} {A:Around} {E:Value→Shared→Prop} {s:Shared}
end
section
variable {X:Cx}
end
end L2
namespace L2
open PySem PySem.Spec PyProof.Rows
section
variable {X:Cx}
end
end L2
namespace L2
open PySem PySem.Spec PyProof.Rows
noncomputable def nxo:HO→Bool
 | .ext _=>false
 |_=>true
noncomputable def NX(H:Hp)(p:Addr):Prop:=∀φ,H p≠some (.ext φ)
def nx{H:Hp}{p:Addr}{o:HO}(h:H p=some o)(n:nxo o=true:=by rfl):NX H p:=fun φ z=>by
 rw[h] at z
 cases z
 cases n
def nx0{H:Hp}{p:Addr}(h:H p=none):NX H p:=fun φ z=>by
 rw[h] at z
 cases z
def kcW{H:Hp}{p q:Addr}{o:HO}(h:NX H p)(n:nxo o=true:=by rfl):NX (upd H q o) p:=fun φ z=>by
 by_cases e:p=q
 ·subst e
  rw[kad] at z
  cases z
  cases n
 ·rw[kaj e] at z
  exact h φ z
noncomputable abbrev Ev(H H':Hp)(b:Addr)(o:HO):Prop:=match o with
 | .tbl _=>(∃ps,H' b=some (.tbl ps))∧(TbAt b H→TbAt b H')
 |o=>H' b=some o
def ev_eq{H H':Hp}{b:Addr}{o:HO}(e:H' b=some o)(t:TbAt b H→TbAt b H'):Ev H H' b o:=by
 cases o <;> first|exact e|exact⟨⟨_,e⟩,t⟩
def kfC{H H':Hp}{b:Addr}{o:HO}(e:Ev H H' b o):∃o',H' b=some o':=by
 cases o <;> first|exact⟨_,e⟩|exact⟨_,e.1.choose_spec⟩
theorem kbv{H H1 H2:Hp}{b:Addr}{o:HO}(e:Ev H H1 b o)(k:∀o,H1 b=some o→Ev H1 H2 b o):Ev H H2 b o:=by
 cases o with
 |tbl ps=>
  obtain⟨⟨ps1,e1⟩,t1⟩:=e
  obtain⟨e2,t2⟩:=(show Ev H1 H2 b (.tbl ps1) from k _ e1)
  exact⟨e2,fun h=>t2 (t1 h)⟩
 |_=>exact k _ e
def kdG{b p:Addr}{H:Hp}{o:HO}(h:TbAt b H)(n:b≠p)(hx:NX H p):TbAt b (upd H p o):=by
 obtain⟨ps,e,t,hor⟩:=h
 refine⟨ps,by rw[kaj n];exact e,t,fun pos d ed=>?_⟩
 obtain⟨c,rfl,z2⟩:=hor pos d ed
 have hc:c≠p:=fun e=>by
  subst e
  exact hx _ z2
 exact⟨c,rfl,by rw[kaj hc];exact z2⟩
noncomputable def Same(H H':Hp):Prop:=∀b o,H b=some o→Ev H H' b o
def Same.refl(H:Hp):Same H H:=fun _ _ h=>ev_eq h fun t=>t
def Same.trans{H H1 H2:Hp}(a:Same H H1)(b:Same H1 H2):Same H H2:=fun c o h=>kbv (a c o h) fun o' e=>b c o' e
theorem Same.free{H H':Hp}(e:Same H H'){l:Addr}(h:H' l=Option.none):H l=Option.none:=by
 cases q:H l with
 |none=>rfl
 |some o=>
  obtain⟨o',e'⟩:=kfC (e l o q)
  rw[e'] at h
  cases h
def Same.seq{K:JZ}{H H':Hp}{a:Addr}{xs:List V}(e:Same H H')(h:SqL K H a xs):SqL K H' a xs:=by
 rcases h with(h|⟨o,h⟩)|h
 ·exact .inl (.inl (e _ _ h))
 ·exact .inl (.inr ⟨o,e _ _ h⟩)
 ·exact .inr h
def Same.tb{H H':Hp}(s:Same H H'){b:Addr}(h:TbAt b H):TbAt b H':=by
 obtain⟨ps,e,r⟩:=id h
 exact(show Ev H H' b (.tbl ps) from s b _ e).2 h
def Grew.same{P:Addr}{H H':Hp}(g:Grew P H H')(TB:TbAt P H):Same H H':=fun b o e=>by
 obtain⟨ps,eP,ht,hor⟩:=TB
 by_cases h:b=P
 ·subst h
  rw[eP] at e
  cases e
  obtain⟨qs,e1,_⟩:=id g.tb
  exact⟨⟨qs,e1⟩,fun _=>g.tb⟩
 ·refine ev_eq (g.kp b o h e) fun t=>?_
  obtain⟨qs,e1,t1,h1⟩:=t
  refine⟨qs,g.kp b _ h e1,t1,fun pos d ed=>?_⟩
  obtain⟨c,rfl,z⟩:=h1 pos d ed
  exact⟨c,rfl,g.kp c _ (ne_of z eP (by intro z;cases z)) z⟩
end L2
namespace L2
open PySem PySem.Spec PyProof.Rows
noncomputable def kfQ(K:JZ)(tP:Addr):Sp:=fun vs H Q _=>∃(a:Addr)(ns:List Int),vs=[.ref a]∧SqL K H a (ns.map V.int)∧ns.length≤63∧TbAt tP H∧∀H',Q (.bl true) H'
theorem kjd{P:Program}{w:World}{K:JZ}{mg mb:Str→Option Value}{k:Nat}{fa a tP c0:Addr}{fd:FuncData}{x:Str}{s₁:Shared}{vs:List Value}{ns:List Int}
  (KX:K.In s₁.heap) (hns:s₁.heap.Ns mainGlobals mg) (hb:s₁.heap.Ns builtinsNs mb) (hbb:∀x:Str,x≠"__name__"→mb x=bootBuiltins x) (hlim:s₁.heap.NoLimit) (hg:s₁.gens= #[])
  (ha:s₁.heap.get? a=some {cls:=.type "list",data:=.seq vs.toArray}) (hi:IntsAre vs ns) (hl:ns.length≤63) (hr:Room k callerA) (hT:s₁.heap.get? tP=some (M3 #[])) (CK:CodeK K c0 tP) (kT:K.lookup tP=none) (hBM:BltM mg s₁.heap)
  (F:∀base:Heap,K.In base→base.Ns mainGlobals mg→BltM mg base→FnOk P w K mg base CX0 k fa fd [x] (kfQ K tP)) (hbind:∀(s:Shared)(u:Value),BindsTo s fd ⟨[u],[]⟩ [(x,u)]):
  codeAny (model P w) callerA (.call (.ref fa) ⟨[.ref a],[]⟩) (fun r s'=>r=.ok (.ret (.bool true))∧OldK s₁.heap s'.heap∧s'.os=s₁.os∧AllBare s'.gens) s₁:=by
 have rv:=kfK hi
 have lenV:=hi.length
 have hlz:ns.length≤sizeLine:=J5 hl (by decide)
 have nTa:tP≠a:=fun e=>by
  rw[e,ha] at hT
  have:=Option.some.inj hT
  injection this with z
  cases z
 have core:∀H:Hp,SqL K H a (ns.map V.int)→HOk P w H s₁.heap→H tP=some (.tbl #[])→(∀b,b≠tP→H b=none∨(b=a∧∃o xs,H b=some (.frz o (.lst xs))))→(H a≠none→K.lookup a=none)→
   codeAny (model P w) callerA (.call (.ref fa) ⟨[.ref a],[]⟩) (fun r s'=>r=.ok (.ret (.bool true))∧OldK s₁.heap s'.heap∧s'.os=s₁.os∧AllBare s'.gens) s₁:=by
  intro H hS hok eT hO hK
  have base_of:∀{b:Addr}{o:Obj},s₁.heap.get? b=some o→H b=none→(hidT s₁.heap H).get? b=some o:=fun e n=>kkm e n
  have noT:∀{b:Addr}{o:Obj},s₁.heap.get? b=some o→o.cls≠.none→(∀us n,o.data≠.seq us n)→H b=none:=fun {b o} e hc hd=>by
   by_cases hbT:b=tP
   ·rw[hbT,hT] at e
    cases e
    exact absurd rfl hc
   ·rcases hO b hbT with z|⟨z,_⟩
    ·exact z
    ·rw[z,ha] at e
     cases e
     exact absurd rfl (hd _ _)
  have noA:∀{b:Addr}{o:Obj}{es:Array DictEntry}{ep:Nat},s₁.heap.get? b=some o→o.data=.dict es ep→H b=none:=fun {b o es ep} e d=>by
   by_cases hbT:b=tP
   ·rw[hbT,hT] at e
    cases e
    cases d
   ·rcases hO b hbT with z|⟨z,_⟩
    ·exact z
    ·rw[z,ha] at e
     cases e
     cases d
  have nsK:∀{b:Addr}{m:Str→Option Value},s₁.heap.Ns b m→(hidT s₁.heap H).Ns b m:=fun {b m} ⟨o,es,ep,e,d,r⟩=>⟨o,es,ep,base_of e (noA e d),d,r⟩
  have hKb:K.In (hidT s₁.heap H):=fun b o e=>base_of (KX b o e) (by
   by_cases hbT:b=tP
   ·rw[hbT,kT] at e
    cases e
   ·rcases hO b hbT with z|⟨z,o',xs,z2⟩
    ·exact z
    ·subst z
     rw[hK (by rw[z2];simp)] at e
     cases e)
  have hM:Mod K mg (hidT s₁.heap H):=⟨hKb,nsK hns,⟨mb,nsK hb,hbb⟩,let⟨mc,h1,h2⟩:=hlim;⟨mc,nsK h1,h2⟩⟩
  have hBb:BltM mg (hidT s₁.heap H):=by
   obtain⟨bm,ob,b1,b2,b3,b4,b5,b6⟩:=hBM
   exact⟨bm,ob,b1,b2,base_of b3 (noT b3 (by rw[b4];intro z;cases z) (fun us n z=>by rw[b6] at z;cases z)),b4,b5,b6⟩
  have e0:Env0 P w K mg (hidT s₁.heap H) callerA [] s₁ H:=⟨rfl,hM,fun b o e=>klF e,MR (kjn _ _),trivial,fun b hb=>absurd (show b∈([]:List Addr) from hb) (by simp),hok, .of_eq hg⟩
  have hsp:kfQ K tP [.ref a] H (fun v _=>v=.bl true) fun _ _ _=>False:=⟨a,ns,rfl,hS,hl,⟨#[],eT,by trivial,fun pos c e=>by cases e⟩,fun _=>rfl⟩
  refine codeAny_mono ((F _ hKb (nsK hns) hBb).run callerA [] s₁ H ⟨[.ref a],[]⟩ [.ref a] [.ref a] _ _ hr e0 (hbind s₁ (.ref a)) (.cons rfl .nil) hsp) fun r s' h=>?_
  cases r with
  |error e=>exact(show False from h).elim
  | ok fl=>
   cases fl with
   |next=>exact False.elim h
   |brk=>exact False.elim h
   |cont=>exact False.elim h
   | ret u=>
    obtain⟨v,H',os,bare,un,hok',r',q⟩:=h
    have q':v=.bl true:=q
    subst q'
    obtain rfl:u=Value.bool true:=r'
    have kp:∀b o,b≠tP→s₁.heap.get? b=some o→s'.heap.get? b=some o:=fun b o hbT e=>by
     rcases hO b hbT with z|⟨z,o',xs,z2⟩
     ·exact un.keep b o e z (fun z=>absurd (show b∈([]:List Addr) from z) (by simp)) (by simp)
     ·have z3:=un.frzs b o' _ z2
      obtain⟨e1,_⟩:=hok b _ z2
      obtain⟨e2,_⟩:=hok' b _ z3
      rw[e] at e1
      cases e1
      exact e2
    obtain⟨more,eM⟩:=un.tbls tP #[] eT
    have tM:s'.heap.get? tP=some (M3 (#[]++more)):=(show ObjOk P w H' s'.heap tP (.tbl (#[]++more)) from hok' tP _ eM)
    refine⟨rfl,⟨fun b o e=>?_,fun b o e=>?_⟩,os,bare⟩
    ·by_cases hbT:b=tP
     ·subst hbT
      rw[hT] at e
      cases e
      obtain⟨oc,us,_,_,_,_,_,_,_,c1,c2,c3,c4,_⟩:=CK
      exact .inr (.inl ⟨⟨c0,oc,us,KX _ _ c1,c2,c3,c4⟩,rfl,#[],more,rfl,tM⟩)
     ·exact .inl (kp b o hbT e)
    ·by_cases hbT:b=tP
     ·subst hbT
      exact⟨_,tM⟩
     ·exact⟨o,kp b o hbT e⟩
 cases hk:K.lookup a with
 | some o=>
  have e:=KX a o hk
  rw[ha] at e
  cases e
  refine core (fun b=>if b=tP then some (.tbl #[]) else none) (.inr ⟨_,vs.toArray,_,hk,rfl,rfl,rfl,by rw[Nk,lenV];exact hlz,by simpa using rv⟩) (fun b u z=>?_) (if_pos rfl) (fun b hbT=>.inl (if_neg hbT)) fun z=>absurd (if_neg nTa.symm) z
  by_cases hbT:b=tP
  ·have z':=(if_pos hbT).symm.trans z
   cases z'
   subst hbT
   exact(show s₁.heap.get? b=some _ from hT)
  ·have z':=(if_neg hbT).symm.trans z
   cases z'
 | none=>
  refine core (fun b=>if b=tP then some (.tbl #[]) else if b=a then some (.frz {cls:=.type "list",data:=.seq vs.toArray} (.lst (ns.map V.int))) else none) (.inl (.inr ⟨{cls:=.type "list",data:=.seq vs.toArray},by show(if a=tP then _ else _)=_;rw[if_neg nTa.symm,if_pos rfl]⟩)) (fun b u z=>?_) (if_pos rfl) (fun b hbT=>?_) fun _=>hk
  ·by_cases hbT:b=tP
   ·have z':=(if_pos hbT).symm.trans z
    cases z'
    subst hbT
    exact(show s₁.heap.get? b=some _ from hT)
   ·have z1:=(if_neg hbT).symm.trans z
    by_cases hb2:b=a
    ·have z':=(if_pos hb2).symm.trans z1
     cases z'
     subst hb2
     exact⟨ha,by rw[JY];exact hlz,vs,_,rv,ha⟩
    ·have z':=(if_neg hb2).symm.trans z1
     cases z'
  ·by_cases hb2:b=a
   ·exact .inr ⟨hb2,_,_,by show(if b=tP then _ else _)=_;rw[if_neg hbT,if_pos hb2]⟩
   ·exact .inl (by show(if b=tP then _ else _)=_;rw[if_neg hbT,if_neg hb2])
theorem walkT_of{l:PySem.W.OpenLaw}{k:Nat}{q:Program}{loose:List Str}{XP:(Str→Option Value)→Heap→Prop}{YP:World→Heap→Prop}{d:DefRec}{K:Params→JZ}{ts:List Addr}{x:Str}
  (hn:l.most=some 63) (hdf:d.params.defaults=[]) (hr:Room k callerA) (hY:∀(w:World)(h:Heap),YP w h→(K w.params).In h) (hTs:∀(w:World)(h:Heap),YP w h→∀P∈ts,h.get? P=some (M3 #[]))
  (F:∀(w:World)(mg:Str→Option Value)(fa:Addr)(h:Heap),(K w.params).In h→h.Ns mainGlobals mg→mg d.name=some (.ref fa)→
   ∃(fd:FuncData)(tP c0:Addr),tP∈ts∧CodeK (K w.params) c0 tP∧(K w.params).lookup tP=none∧(∀(s:Shared)(u:Value),BindsTo s fd ⟨[u],[]⟩ [(x,u)])∧
    ∀base:Heap,(K w.params).In base→base.Ns mainGlobals mg→BltM mg base→FnOk l.prog w (K w.params) mg base CX0 k fa fd [x] (kfQ (K w.params) tP)):
  PySem.W.WalkO q loose XP YP l.row.toRowW d [] (fun f vs=>PySem.call f vs):=by
 refine Att.attach_call hn hdf fun w s₀ s₁ mg mb fa o pm cd doc a vs ns G Y ho hd hcd hmg hobj hints hlen hg=>?_
 have KX:=hY w _ Y
 obtain⟨fd,tP,c0,hm,CK,kT,hb,hF⟩:=F w mg fa _ KX G.T.g hmg
 obtain⟨bm,ob,b1,b2,b3,b4,b5,b6⟩:=G.T.bmain
 exact kjd KX G.T.g G.T.b G.T.builtins G.T.nolimit hg hobj hints hlen hr (hTs w _ Y tP hm) CK kT ⟨bm,ob,b1,b2,b3,b4,b5,b6⟩ hF hb
end L2
namespace L2
open PySem PySem.Spec PyProof.Rows
def nd1(x:Str):([x]:List Str).Nodup:=by simp
noncomputable def But(x:Addr)(H H':Hp):Prop:=∀b o,b≠x→H b=some o→Ev H H' b o
def But.trans{x:Addr}{H H1 H2:Hp}(a:But x H H1)(b:But x H1 H2):But x H H2:=fun c o n h=>kbv (a c o n h) fun o' e=>b c o' n e
def But.same{x:Addr}{H H1 H2:Hp}(a:But x H H1)(b:Same H1 H2):But x H H2:=fun c o n h=>kbv (a c o n h) fun o' e=>b c o' e
def But.of_same{x:Addr}{H H1:Hp}(b:Same H H1):But x H H1:=fun c o _ h=>b c o h
def But.refl{x:Addr}{H:Hp}:But x H H:=fun b o _ h=>Same.refl H b o h
def kar{x:Addr}{H:Hp}{o:HO}(hx:NX H x:=by first|exact nx kad|exact nx (by assumption)|exact nx0 (by assumption)|exact kcW (nx kad) rfl|exact kcW (nx (by assumption)) rfl):But x H (upd H x o):=fun b u n e=>ev_eq (by rw[kaj n];exact e) fun t=>kdG t n hx
def kak{H:Hp}{p:Addr}{o:HO}(hp:H p=none):Same H (upd H p o):=fun b u e=>ev_eq (by rw[kaj (kai e hp)];exact e) fun t=>kdG t (kai e hp) (nx0 hp)
def kao{H H':Hp}{p:Addr}{o:HO}(hp:H p=none)(s:Same H H')(hx:NX H' p:=by first|exact nx (by assumption)|exact nx kad|exact kcW (nx (by assumption)) rfl|exact kcW (nx kad) rfl|exact kcW (nx0 (by assumption)) rfl|exact kcW (kcW (nx (by assumption)) rfl) rfl):Same H (upd H' p o):=fun b u e=>
 kbv (s b u e) fun u' e'=>ev_eq (by rw[kaj (kai e hp)];exact e') fun t=>kdG t (kai e hp) hx
def kaX{H:Hp}{x dx C:Addr}(hx:H x=none)(nd:H dx=none):Same H (upd (upd H dx (.own x)) x (.ins C dx [])):=fun b u e=>by
 have n1:=kai e hx
 have n2:=kai e nd
 exact ev_eq (by rw[kaj n1,kaj n2];exact e) fun t=>kdG (kdG t n2 (nx0 nd)) n1 (kcW (nx0 hx) rfl)
def kbb{H H':Hp}{x dx C:Addr}(hx:H x=none)(nd:H dx=none)(k:But x (upd (upd H dx (.own x)) x (.ins C dx [])) H'):Same H H':=fun b o e=>kbv (kaX (C:=C) hx nd b o e) fun o' e'=>k b o' (kai e hx) e'
def kdm{H:Hp}{x dx C y:Addr}(h:(upd (upd H dx (.own x)) x (.ins C dx [])) y=none):H y=none:=by
 by_cases e1:y=x
 ·subst e1
  rw[kad] at h
  cases h
 ·rw[kaj e1] at h
  by_cases e2:y=dx
  ·subst e2
   rw[kad] at h
   cases h
  ·rw[kaj e2] at h
   exact h
def kgd{H:Hp}{x dx C y:Addr}{o:HO}(nx:H x=none)(nd:H dx=none)(h:H y=some o):(upd (upd H dx (.own x)) x (.ins C dx [])) y=some o:=by
 rw[kaj (kai h nx),kaj (kai h nd)]
 exact h
theorem kal{f:Str}{v:V}:∀{fs:List (Str×V)}{n:Nat},fs.length≤n→(putF f v fs).length≤n+1
 |[],n,_=>by
  show 1≤n+1
  omega
 | (g,x)::r,n,h=>by
  show(if g=f then(g,v)::r else(g,x)::putF f v r).length≤n+1
  have h':r.length+1≤n:=h
  split
  ·show r.length+1≤n+1
   omega
  ·show(putF f v r).length+1≤n+1
   have:=kal (f:=f) (v:=v) (fs:=r) (n:=n-1) (by omega)
   omega
def few{fs:List (Str×V)}(h:fs.length≤20):fs.length<1000:=by omega
theorem kbN{ns:List Addr}{i:Nat}{x:V}(h:(ns.map V.ref)[i]?=some x):∃z,ns[i]?=some z∧x=V.ref z:=by
 rw[Nc] at h
 cases e:ns[i]? with
 |none=>rw[e] at h;cases h
 |some z=>rw[e] at h;exact⟨z,rfl,(Option.some.inj h).symm⟩
theorem kbQ{α:Type}{g: α→V}{ns:List α}{i:Nat}{x:V}(h:(ns.map g)[i]?=some x):∃z,ns[i]?=some z∧x=g z:=by
 rw[Nc] at h
 cases e:ns[i]? with
 |none=>rw[e] at h;cases h
 |some z=>rw[e] at h;exact⟨z,rfl,(Option.some.inj h).symm⟩
def at_lt{α:Type}{xs:List α}{i:Nat}{x: α}(h:xs[i]?=some x):i<xs.length:=(Nh.mp h).1
def at_of{α:Type}{xs:List α}{i:Nat}(h:i<xs.length):∃x,xs[i]?=some x:=⟨xs[i],by simp[h]⟩
def kbh{α:Type}{rs:List α}{i:Nat}{r: α}(h:rs[i]?=some r):rs.take (i+1)=rs.take i++[r]:=by
 rw[Mf,h]
 rfl
inductive P2 {α β:Type} (R: α→β→Prop):List α→List β→Prop
 |nil:P2 R [] []
 |cons {a: α} {b: β} {as:List α} {bs:List β} (h:R a b) (t:P2 R as bs):P2 R (a::as) (b::bs)
section
variable {α β:Type} {R R': α→β→Prop} {as as':List α} {bs bs':List β}
theorem P2.of(hl:as.length=bs.length)(h:∀(i:Nat)(a: α)(b: β),as[i]?=some a→bs[i]?=some b→R a b):P2 R as bs:=by
 induction as generalizing bs with
 |nil=>
  cases bs with
  |nil=>exact .nil
  |cons b bs=>cases hl
 |cons a as ih=>
  cases bs with
  |nil=>cases hl
  |cons b bs=>exact .cons (h 0 a b rfl rfl) (ih (by simpa using hl) fun i x y e1 e2=>h (i+1) x y (by simpa using e1) (by simpa using e2))
theorem P2.len(h:P2 R as bs):as.length=bs.length:=by
 induction h with
 |nil=>rfl
 |cons r t ih=>simp[ih]
theorem P2.get(h:P2 R as bs){i:Nat}{a: α}{b: β}(e1:as[i]?=some a)(e2:bs[i]?=some b):R a b:=by
 induction h generalizing i with
 |nil=>simp at e1
 | cons r t ih=>
  cases i with
  |zero=>
   simp at e1 e2
   subst e1 e2
   exact r
  |succ i=>exact ih (by simpa using e1) (by simpa using e2)
theorem P2.at(h:P2 R as bs){i:Nat}{a: α}(e1:as[i]?=some a):∃b,bs[i]?=some b∧R a b:=by
 obtain⟨b,e2⟩:=at_of (xs:=bs) (i:=i) (by rw[←h.len];exact at_lt e1)
 exact⟨b,e2,h.get e1 e2⟩
theorem P2.mono(h:P2 R as bs)(k:∀a b,R a b→R' a b):P2 R' as bs:=by
 induction h with
 |nil=>exact .nil
 |cons r t ih=>exact .cons (k _ _ r) ih
theorem P2.append(h:P2 R as bs)(h':P2 R as' bs'):P2 R (as++as') (bs++bs'):=by
 induction h with
 |nil=>exact h'
 |cons r t ih=>exact .cons r ih
theorem P2.snoc(h:P2 R as bs){a: α}{b: β}(r:R a b):P2 R (as++[a]) (bs++[b]):=h.append (.cons r .nil)
theorem P2.take(h:P2 R as bs)(k:Nat):P2 R (as.take k) (bs.take k):=by
 induction h generalizing k with
 |nil=>simpa using P2.nil
 |cons r t ih=>
  cases k with
  |zero=>exact .nil
  |succ k=>exact .cons r (ih k)
theorem P2.drop(h:P2 R as bs)(k:Nat):P2 R (as.drop k) (bs.drop k):=by
 induction h generalizing k with
 |nil=>simpa using P2.nil
 |cons r t ih=>
  cases k with
  |zero=>exact .cons r t
  |succ k=>exact ih k
theorem P2.reverse(h:P2 R as bs):P2 R as.reverse bs.reverse:=by
 induction h with
 |nil=>exact .nil
 |cons r t ih=>
  rw[Mw,Mw]
  exact ih.append (.cons r .nil)
end
theorem rep1(n:Nat)(v:V):(J6 n [v]).flatten=J6 n v:=by
 induction n with
 |zero=>rfl
 |succ n ih=>rw[Ml,NC,ih,Ml];rfl
def kiM(n:Nat)(z:Int):J6 n (V.int z)=(J6 n z).map V.int:=by simp
def kkY(k:Int):(!decide (V.int k=V.non))=true:=by simp
def kkX:(!decide (V.non=V.non))=false:=by simp
noncomputable def oV:Option Int→V
 |none=>.non
 |some z=>.int z
structure TxtB (mg:Str→Option Value):Prop where
 range:mg "range"=none
 len:mg "len"=none
 min:mg "min"=none
 max:mg "max"=none
 isi:mg "isinstance"=none
 bool:mg "bool"=none
 int:mg "int"=none
 list:mg "list"=none
 sum:mg "sum"=none
 enum:mg "enumerate"=none
 any:mg "any"=none
 all:mg "all"=none
 rev:mg "reversed"=none
 zip:mg "zip"=none
 abs:mg "abs"=none
 sorted:mg "sorted"=none
 tuple:mg "tuple"=none
 str:mg "str"=none
structure FunD (K:JZ) (x qual:Str) (st:Stmt) (f:Addr) (fd:FuncData):Prop where
 ex:∃(oc:Value)(od:Option Addr)(dV kV doc pm:Value)(an:Option Addr)(cdv ct:Value)(osl:Array (Option Value)),
  fd=Nj x qual (kaB st) (kay st) (kag st) dV kV doc pm an cdv ct∧K.lookup f=some ⟨oc,od, .func fd,osl⟩∧NI K cdv qual=true
 kp:Ni K (.ref f)=true
theorem FunD.ok{P:Program}{w:World}{K:JZ}{mg:Str→Option Value}{base:Heap}{x qual:Str}{st:Stmt}{f:Addr}{fd:FuncData}{N ps:List Str}{k:Nat}{sp:Sp}(F:FunD K x qual st f fd)(S:kan N ps (kag st))(len:∀vs H Q E,sp vs H Q E→vs.length=ps.length)
  (hbody:∀(cdv:Value)(A:Around)(outer:List Env)(s:Shared)(H:Hp)(vs:List V)(Q:VK)(E:XK),Room k (A.deeper (PyProof.Rows.envOfC qual (kag st) s.heap.objs.size f cdv))→sp vs H Q E→
   ∃t,PSs (cxOf CX0 P w K mg base N qual (kag st) f cdv A outer s H E).nox (kay st) t∧t {nx:=fun _ H'=>Q .non H',rt:=Q} (start N vs) H):FnOk P w K mg base CX0 (k+1) f fd ps sp:=by
 obtain⟨oc,od,dV,kV,doc,pm,an,cdv,ct,osl,rfl,lk,hcd⟩:=F.ex
 refine fn_of lk hcd S len fun A outer s H vs Q E hr hsp=>?_
 obtain⟨t,h,q⟩:=hbody cdv A outer s H vs Q E hr hsp
 exact⟨t,h.nox,q⟩
theorem FunD.okC{P:Program}{w:World}{K:JZ}{mg:Str→Option Value}{base:Heap}{x qual:Str}{st:Stmt}{f:Addr}{fd:FuncData}{N ps:List Str}{k:Nat}{sp:Sp}(F:FunD K x qual st f fd)(S:kan N ps (kag st))(len:∀vs H Q E,sp vs H Q E→vs.length=ps.length)
  (hbody:∀(A:Around)(outer:List Env)(s:Shared)(H:Hp)(vs:List V)(Q:VK)(E:XK),Room k (A.deeper (PyProof.Rows.envOfC qual (kag st) s.heap.objs.size f fd.code))→sp vs H Q E→
   ∃t,PSs (cxOf CX0 P w K mg base N qual (kag st) f fd.code A outer s H E).nox (kay st) t∧t {nx:=fun _ H'=>Q .non H',rt:=Q} (start N vs) H):FnOk P w K mg base CX0 (k+1) f fd ps sp:=by
 obtain⟨oc,od,dV,kV,doc,pm,an,cdv,ct,osl,rfl,lk,hcd⟩:=F.ex
 refine fn_of lk hcd S len fun A outer s H vs Q E hr hsp=>?_
 obtain⟨t,h,q⟩:=hbody A outer s H vs Q E hr hsp
 exact⟨t,h.nox,q⟩
theorem kbn{K:JZ}{x qual:Str}{st:Stmt}{f:Addr}{oc:Value}{od an:Option Addr}{osl:Array (Option Value)}{dV kV doc pm cdv ct:Value}(l:K.lookup f=some ⟨oc,od, .func (Nj x qual (kaB st) (kay st) (kag st) dV kV doc pm an cdv ct),osl⟩)
  (c:NI K cdv qual=true) (k:Ni K (.ref f)=true):FunD K x qual st f (Nj x qual (kaB st) (kay st) (kag st) dV kV doc pm an cdv ct):=⟨⟨oc,od,dV,kV,doc,pm,an,cdv,ct,osl,rfl,l,c⟩,k⟩
structure Dn (K:JZ) (mg:Str→Option Value) (x:Str) (st:Stmt) (ps:List Str) (f:Addr) (fd:FuncData):Prop where
 F:FunD K x x st f fd
 b:Binds K fd ps []
 m:mg x=some (.ref f)
structure Isi (K:JZ) (C:Addr):Prop where
 ha:J0 K (.ref C) "__class__"=some (some (.builtin "object.__class__"))
 hn:MB K (.builtin "object.__class__") "__get__"=some (some (.builtin "getset_descriptor.__get__"))
 ht:Eo K (.builtin "object.__class__")=some true
 hm:J7 K C (.type "object")=some true
def kaN{K:JZ}{A B:Addr}{b:Bool}(mA:J7 K A (.ref B)=some b)(ob:J7 K B (.type "object")=some true)(ty:NH K (.ref B)=some (.type "type"))(ne:A≠B):Nd K (.ref A) (.ref B)=some b:=by
 have e:(Value.ref A==Value.ref B)=false:=beq_eq_false_iff_ne.mpr fun z=>ne (by injection z)
 obtain⟨cd,a,_⟩:=Option.bind_eq_some_iff.mp ob
 unfold Nd PySem.W.kitCls Ex
 rw[e,if_neg Na]
 show(if((PySem.W.clsIn K B).isSome&&NH K (.ref B)==some (.type "type"))=true then J7 K A (.ref B) else none)=some b
 rw[a,ty,mA,if_pos (by simp)]
def kbg{K:JZ}{A B:Addr}(h:J7 K A (.ref B)=some false)(hA:J7 K A (.ref A)=some true):A≠B:=fun e=>by
 rw[←e,hA] at h
 cases h
structure ClsT (K:JZ) (mg:Str→Option Value) (nm:Str) (C:Addr):Prop where
 cl:Cls K C
 m:mg nm=some (.ref C)
 isi:Isi K C
 self:J7 K C (.ref C)=some true
 ty:NH K (.ref C)=some (.type "type")
 makes:NN K C=true
 kp:Ni K (.ref C)=true
structure MthT (K:JZ) (C:Addr) (m qual:Str) (st:Stmt) (ps:List Str) (f:Addr) (fd:FuncData):Prop where
 at_:J0 K (.ref C) m=some (some (.ref f))
 fn:NL K (.ref f)=true
 F:FunD K m qual st f fd
 b:Binds K fd ps []
def MthT.me{K:JZ}{C:Addr}{m qual:Str}{st:Stmt}{ps:List Str}{f:Addr}{fd:FuncData}(h:MthT K C m qual st ps f fd):Meth K C m f:=⟨h.at_,h.fn,h.F.kp⟩
def MthT.mk'{K:JZ}{mg:Str→Option Value}{C:Addr}{nm qual:Str}{st:Stmt}{ps:List Str}{f:Addr}{fd:FuncData}(h:MthT K C "__init__" qual st ps f fd)(c:ClsT K mg nm C):Mk K C f:=⟨c.makes,h.at_,h.fn,c.kp⟩
end L2
namespace L2
open PySem PySem.Spec PyProof.Rows
section
variable {X:Cx}
theorem pcl{k:Nat}{f:Addr}{fd:FuncData}{ps:List Str}{sp:Sp}{x:Str}{st:Stmt}{e:Expr}{es:List Expr}{t:TA}{p pos:Pos}(F:FnOk X.prog X.w X.K X.mg X.base CX0 k f fd ps sp)(hr:Room k X.A)(D:Dn X.K X.mg x st ps f fd)(ha:PA X (e::es) t)
  (hg:Gl X x:=by rfl) (hdb:(x==("__debug__" :Str))=false:=by decide) (he:starEach (e::es) X.env=(false,eval e X.env)::starEach es X.env:=by rfl) (hpl:(backTo pos (starEach es X.env)).any (·.1)=false:=by rfl):
  PE X (.Call (.Name x p) (e::es) [] pos) (tCall sp [] E0 t):=kiZ F hr hg D.m D.F.kp D.b .nil pass0 ha hdb he hpl
theorem psl{i:Nat}{x:Str}{e:Expr}{te:TE}{pos pos':Pos}(hN:X.N.Nodup)(he:PE X e te)(hi:X.N[i]?=some x:=by rfl)(hx:Loc X.env.scope x:=by first|exact Or.inl rfl|exact Or.inr rfl)(hs:swapsWith e (some (.Name x pos')) pos.line X.env=pure false:=by rfl)(hf:X.fn x=true∨X.env.scope.names.lookup x=some .local:=by first|exact .inl rfl|exact .inr rfl|assumption):
  PS X (.Assign [.Name x pos'] e pos) (tAsg te (gName i)):=kmc hN hi hx he hs hf
theorem pgn{i:Nat}{x:Str}{pos:Pos}(hN:X.N.Nodup)(hi:X.N[i]?=some x:=by rfl)(hx:Loc X.env.scope x:=by first|exact Or.inl rfl|exact Or.inr rfl)(hf:X.fn x=true∨X.env.scope.names.lookup x=some .local:=by first|exact .inl rfl|exact .inr rfl|assumption):PG X (.Name x pos) (gName i):=klA hN hi hx hf
end
end L2
namespace L2
open PySem PySem.Spec PyProof.Rows
section
variable {X:Cx}
end
end L2
namespace L2
open PySem PySem.Spec PyProof.Rows
structure ExStep (fr:List Addr) (ol:List Addr) (e:Addr) (oe:Obj) (T:Addr) (fl:Value) (h h':Heap):Prop where
 keep:∀b o,h.get? b=some o→b∉fr→b≠e→b∉ol→h'.get? b=some o
 slot:∀b o,h.get? b=some o→b∈fr→b∉ol→b≠e→∃sl,h'.get? b=some {o with slots:=sl}
 ex:h'.get? e=some (oe.mapFields (·.setIfInBounds 1 (.ref T)))
 new:h.get? T=none
 sz:h.objs.size≤T
 there:∀b o,h.get? b=some o→∃o',h'.get? b=some o'
 tb:∃oT ts,h'.get? T=some oT∧oT.data=.fields ts∧ts[3]?=some fl
section
variable {M:Model} {A:Around} {E:Value→Shared→Prop} {s:Shared}
theorem khG{base:Heap}{env:Env}{outer:List Env}{L e:Addr}{oe:Obj}{vs:Array Value}{head:Value}{hadNext:Bool}{Q:Unit→Shared→Prop}
  (hfr:A.frames=some (env::outer)) (hl:s.heap.FunFrames base (env::outer)) (hf:env.frame=some L) (he:s.heap.get? e=some oe) (hd:oe.data=.fields vs) (hsz:1<vs.size)
  (h:∀h' T,ExStep (frs (env::outer)) [] e oe T (rawInt L) s.heap h'→Q () {s with heap:=h'}):
  wpAny M A (do let a ←frameOf env;let pl ←entryPlaceOf L hadNext;let b ←EntryCells.newEntry head a .none (rawInt L) .none pl;setField (.ref e) 1 b) Q E s:=by
 have hene:e∉frs (env::outer):=fun hm=>by
  obtain⟨_,o,ho,hnf⟩:=hl.mem hm
  rw[he] at ho
  cases ho
  exact hnf vs hd
 refine wpAny_bind (wpAny_frameOf_fun hfr hl hf fun h₁ hs₁=>?_)
 refine wpAny_bind (wpAny_entryPlaceOf fun pl hpl=>?_)
 unfold EntryCells.newEntry newFields
 refine wpAny_bind (wpAny_newObj_type ?_ (hpl.sizeOk5 _ _ _ _ _))
 have he₁:h₁.get? e=some oe:=(hs₁.2.1 e hene).trans he
 generalize hob:({cls:=.type "traceback",dict:=none,data:=.fields ([head, .ref L, .none,rawInt L, .none]++(if pl.isEmpty then J6 6 Value.none else pl)).toArray}:Obj)=ob
 have he₂:=Heap.get?_push_of_some (h:=h₁) ob he₁
 refine wpAny_setField he₂ hd hsz (h _ h₁.objs.size ?_)
 have hTe:h₁.objs.size≠e:=NQ (Heap.lt_size he₁)
 have hd₃:=Obj.data_mapFields hd (·.setIfInBounds 1 (Value.ref h₁.objs.size))
 have kp:∀b o,b≠e→h₁.get? b=some o→((h₁.push ob).update e (Obj.mapFields (·.setIfInBounds 1 (Value.ref h₁.objs.size)))).get? b=some o:=fun b o hbe hb=>by
  rw[Heap.get?_update_other _ _ (Ne.symm hbe)]
  exact Heap.get?_push_of_some _ hb
 have ex:=Heap.get?_update_self (Obj.mapFields (·.setIfInBounds 1 (Value.ref h₁.objs.size))) he₂ (Obj.isFreed_of_fields hd₃)
 refine⟨fun b o hb hnf hbe _=>kp b o hbe ((hs₁.2.1 b hnf).trans hb),fun b o hb _ _ hbe=>?_,ex,Heap.get?_none_of_le (by rw[hs₁.1];exact J4 _),by rw[hs₁.1];exact J4 _,fun b o hb=>?_,?_⟩
 ·obtain⟨sl,e1⟩:=hs₁.2.2 b o hb
  exact⟨sl,kp b _ hbe e1⟩
 ·by_cases hbe:b=e
  ·rw[hbe]
   exact⟨_,ex⟩
  ·obtain⟨sl,e1⟩:=hs₁.2.2 b o hb
   exact⟨_,kp b _ hbe e1⟩
 ·subst hob
  refine⟨_,_,(Heap.get?_update_other _ _ (Ne.symm hTe)).trans (Heap.get?_push_size h₁ rfl),rfl,?_⟩
  rcases hpl with rfl|⟨_,_,_,_,_,_,_,rfl⟩ <;> simp
theorem ExStep.nT{fr ol:List Addr}{e T:Addr}{oe:Obj}{fl:Value}{h h':Heap}(x:ExStep fr ol e oe T fl h h'){b:Addr}{o:Obj}(hb:h.get? b=some o):T≠b:=fun z=>by
 have:=x.new
 rw[z,hb] at this
 cases this
theorem keB{fr ol:List Addr}{e T:Addr}{oe:Obj}{vs:Array Value}{fl:Value}{h:Heap}{Q:Unit→Shared→Prop}(x:ExStep fr ol e oe T fl h s.heap)(hoe:h.get? e=some oe)(hd:oe.data=.fields vs)(hsz:1<vs.size)
  (k:∀h',ExStep fr ol e oe T .none h h'→Q () {s with heap:=h'}):wpAny M A (setFlight (.ref e) none) Q E s:=by
 obtain⟨oT,ts,hT,hdT,h3⟩:=x.tb
 have nTe:=x.nT hoe
 have hd₃:=Obj.data_mapFields hd (·.setIfInBounds 1 (Value.ref T))
 have hz:3<ts.size:=(Ma.mp h3).1
 unfold setFlight
 refine wpAny_bind (wpAny_field x.ex hd₃ (x:=.ref T) (by simp[hsz]) ?_)
 rw[if_pos (show(Value.ref T !=Value.none)=true from by simp)]
 have hdT':=Obj.data_mapFields hdT (·.setIfInBounds 3 ((none:Option Addr).elim Value.none fun f=>rawInt f))
 refine wpAny_setField hT hdT hz (k _ ⟨fun b o hb h1 h2 h3=>?_,fun b o hb h1 h2 h3=>?_,?_,x.new,x.sz,fun b o hb=>?_,_,_,Heap.get?_update_self _ hT (Obj.isFreed_of_fields hdT'),hdT',?_⟩)
 ·rw[Heap.get?_update_other _ _ (x.nT hb)]
  exact x.keep b o hb h1 h2 h3
 ·rw[Heap.get?_update_other _ _ (x.nT hb)]
  exact x.slot b o hb h1 h2 h3
 ·rw[Heap.get?_update_other _ _ nTe]
  exact x.ex
 ·rw[Heap.get?_update_other _ _ (x.nT hb)]
  exact x.there b o hb
 ·simp[hz]
theorem kfA{base:Heap}{env:Env}{outer:List Env}{L e:Addr}{oe:Obj}{vs:Array Value}{Q:Unit→Shared→Prop}
  (hfr:A.frames=some (env::outer)) (hl:s.heap.FunFrames base (env::outer)) (hf:env.frame=some L) (he:s.heap.get? e=some oe) (hd:oe.data=.fields vs) (h1:vs[1]?=some .none)
  (h:∀h' T,ExStep (frs (env::outer)) [] e oe T (rawInt L) s.heap h'→Q () {s with heap:=h'}):wpAny M A (noteFrame (.ref e) env) Q E s:=by
 unfold noteFrame
 simp only[hf]
 refine wpAny_bind (wpAny_field he hd h1 ?_)
 rw[if_neg (by decide)]
 exact khG hfr hl hf he hd (Ma.mp h1).1 h
theorem kdM{base:Heap}{env:Env}{outer:List Env}{L e T0:Addr}{oe oT:Obj}{vs ts:Array Value}{Q:Unit→Shared→Prop}
  (hfr:A.frames=some (env::outer)) (hl:s.heap.FunFrames base (env::outer)) (hf:env.frame=some L) (he:s.heap.get? e=some oe) (hd:oe.data=.fields vs) (h1:vs[1]?=some (.ref T0)) (nT:T0≠e) (hT:s.heap.get? T0=some oT) (hdT:oT.data=.fields ts) (h3:ts[3]?=some .none)
  (h:∀h' T,ExStep (frs (env::outer)) [T0] e oe T (rawInt L) s.heap h'→Q () {s with heap:=h'}):wpAny M A (noteFrame (.ref e) env) Q E s:=by
 unfold noteFrame
 simp only[hf]
 refine wpAny_bind (wpAny_field he hd h1 ?_)
 rw[if_pos (show(Value.ref T0 !=Value.none)=true from by simp)]
 refine wpAny_bind (wpAny_field hT hdT h3 ?_)
 rw[if_neg (show ¬((Value.none==rawInt L)=true) from by simp[rawInt])]
 refine wpAny_bind (wpAny_setField hT hdT (Ma.mp h3).1 ?_)
 have other:∀b,b≠T0→(s.heap.update T0 (Obj.mapFields (·.setIfInBounds 3 Value.none))).get? b=s.heap.get? b:=fun b hb=>Heap.get?_update_other _ _ (Ne.symm hb)
 have hdT':=Obj.data_mapFields hdT (·.setIfInBounds 3 Value.none)
 have self0:=Heap.get?_update_self (Obj.mapFields (·.setIfInBounds 3 Value.none)) hT (Obj.isFreed_of_fields hdT')
 have nrec:∀b o,s.heap.get? b=some o→(∀vs,o.data≠.fields vs)→b≠T0:=fun b o hb hnf q=>by
  rw[q,hT] at hb
  cases hb
  exact hnf ts hdT
 refine khG (s:={s with heap:=s.heap.update T0 (Obj.mapFields (·.setIfInBounds 3 Value.none))}) hfr (hl.of_keeps fun b o hb hnf=>⟨o,(other b (nrec b o hb hnf)).trans hb,rfl⟩) hf ((other e (Ne.symm nT)).trans he) hd (Ma.mp h1).1 fun h' T x=>h h' T ?_
 have ol:∀b o,s.heap.get? b=some o→∃o',(s.heap.update T0 (Obj.mapFields (·.setIfInBounds 3 Value.none))).get? b=some o':=fun b o hb=>by
  by_cases z:b=T0
  ·rw[z]
   exact⟨_,self0⟩
  ·exact⟨o,(other b z).trans hb⟩
 have nn:∀{b:Addr},b∉[T0]→b≠T0:=fun {b} h z=>h (by rw[z];simp)
 refine⟨fun b o hb h1 h2 h3=>x.keep b o ((other b (nn h3)).trans hb) h1 h2 (by simp),fun b o hb h1 h2 h3=>x.slot b o ((other b (nn h2)).trans hb) h1 (by simp) h3,x.ex,?_,?_,fun b o hb=>?_,x.tb⟩
 ·have z:=x.sz
  exact Heap.get?_none_of_le (by rw[Heap.size_update] at z;exact z)
 ·have z:=x.sz
  rw[Heap.size_update] at z
  exact z
 ·obtain⟨o',e'⟩:=ol b o hb
  exact x.there b o' e'
theorem keR{base:Heap}{env:Env}{outer:List Env}{L e:Addr}{oe:Obj}{vs:Array Value}{Q:Unit→Shared→Prop}
  (hfr:A.frames=some (env::outer)) (hl:s.heap.FunFrames base (env::outer)) (hf:env.frame=some L) (he:s.heap.get? e=some oe) (hd:oe.data=.fields vs) (h1:vs[1]?=some .none)
  (h:∀h' T,ExStep (frs (env::outer)) [] e oe T .none s.heap h'→Q () {s with heap:=h'}):wpAny M A (leaving env (.ref e)) Q E s:=by
 unfold leaving
 refine wpAny_bind (kfA hfr hl hf he hd h1 fun h' T x=>?_)
 exact keB x he hd (Ma.mp h1).1 fun h'' y=>h h'' T y
theorem kfB{base:Heap}{env:Env}{outer:List Env}{L e T0:Addr}{oe oT:Obj}{vs ts:Array Value}{Q:Unit→Shared→Prop}
  (hfr:A.frames=some (env::outer)) (hl:s.heap.FunFrames base (env::outer)) (hf:env.frame=some L) (he:s.heap.get? e=some oe) (hd:oe.data=.fields vs) (h1:vs[1]?=some (.ref T0)) (nT:T0≠e) (hT:s.heap.get? T0=some oT) (hdT:oT.data=.fields ts) (h3:ts[3]?=some .none)
  (h:∀h' T,ExStep (frs (env::outer)) [T0] e oe T .none s.heap h'→Q () {s with heap:=h'}):wpAny M A (leaving env (.ref e)) Q E s:=by
 unfold leaving
 refine wpAny_bind (kdM hfr hl hf he hd h1 nT hT hdT h3 fun h' T x=>?_)
 exact keB x he hd (Ma.mp h1).1 fun h'' y=>h h'' T y
end
theorem ObjOk.get{P:Program}{w:World}{H:Hp}{h:Heap}{a:Addr}{o:HO}(x:ObjOk P w H h a o):∃q,h.get? a=some q:=by
 cases o with
 |lst xs=>obtain⟨_,_,_,_,e⟩:=x;exact⟨_,e⟩
 |tup xs=>obtain⟨_,_,_,q,e,_⟩:=x;exact⟨_,e⟩
 |dK kvs=>obtain⟨_,_,_,_,o,_,_,e,_⟩:=x;exact⟨_,e⟩
 |dT kvs=>obtain⟨_,_,_,_,o,_,_,e,_⟩:=x;exact⟨_,e⟩
 |set S n=>obtain⟨o,_,_,_,e,_⟩:=x;exact⟨_,e⟩
 |ins C dx fs=>obtain⟨_,_,_,e,_⟩:=x;exact⟨_,e⟩
 |own y=>obtain⟨_,e⟩:=x;exact⟨_,e⟩
 |xd fs=>obtain⟨_,⟨_,_,_,e,_⟩,_⟩:=x;exact⟨_,e⟩
 |rng lo hi=>obtain⟨_,_,_,e⟩:=x;exact⟨_,e⟩
 |frz ob u=>obtain⟨e,_⟩:=x;exact⟨_,e⟩
 |tbl ps=>exact⟨_,(show h.get? a=some _ from x)⟩
 |met f y=>exact⟨_,(show h.get? a=some _ from x)⟩
 |ext φ=>obtain⟨_,⟨_,e⟩,_⟩:=x;exact⟨_,e⟩
theorem HOk.no{P:Program}{w:World}{H:Hp}{h:Heap}{a:Addr}(x:HOk P w H h)(e:h.get? a=none):H a=none:=by
 cases q:H a with
 |none=>rfl
 |some o=>
  obtain⟨_,e'⟩:=(x a o q).get
  rw[e] at e'
  cases e'
structure ExT (h:Heap) (a T:Addr) (cls:Value) (dx:Option Addr):Prop where
 ob:∃oe vs,h.get? a=some oe∧oe.cls=cls∧oe.dict=dx∧oe.data=.fields vs∧vs[1]?=some (.ref T)
 ne:T≠a
 tb:∃oT ts,h.get? T=some oT∧oT.data=.fields ts∧ts[3]?=some .none
noncomputable def CX1(P:Program)(w:World):CXT:=fun outer H s E e s'=>∃(a T:Addr)(cls:Value)(dx:Option Addr)(H':Hp),e=.ref a∧s'.os=s.os∧AllBare s'.gens∧Un (frs outer) [] H H' s.heap s'.heap∧HOk P w H' s'.heap∧s.heap.get? a=none∧H' a=none∧s.heap.get? T=none∧H' T=none∧ExT s'.heap a T cls dx∧E cls dx H'
def ExStep.ext{fr ol:List Addr}{e T:Addr}{oe:Obj}{vs:Array Value}{h h':Heap}(x:ExStep fr ol e oe T .none h h')(he:h.get? e=some oe)(hd:oe.data=.fields vs)(hz:1<vs.size):ExT h' e T oe.cls oe.dict:=by
 refine⟨⟨_,_,x.ex,Obj.cls_mapFields _ _,?_,Obj.data_mapFields hd _,by simp[hz]⟩,x.nT he,x.tb⟩
 obtain⟨c,d,dt,sl⟩:=oe
 cases dt <;> rfl
theorem Un.ex{fs ol ex:List Addr}{env:Env}{outer:List Env}{L e T:Addr}{oe:Obj}{fl:Value}{H0 H:Hp}{h0 h h1 h':Heap}(u:Un (frs outer) ex H0 H h0 h)(hf:env.frame=some L)(hL:h0.objs.size≤L)(kp:∀b o,h.get? b=some o→h1.get? b=some o)(x:ExStep (frs (env::outer)) ol e oe T fl h1 h')(h0e:h0.get? e=none)(hol:∀b∈ol,h0.get? b=none):Un (frs outer) ex H0 H h0 h':=by
 have nL:∀b o,h0.get? b=some o→b≠L:=fun b o e z=>absurd (Heap.lt_size e) (by rw[z];exact MF.mpr hL)
 have ne:∀b o,h0.get? b=some o→b≠e:=fun b o q z=>by
  rw[z,h0e] at q
  cases q
 have nol:∀b o,h0.get? b=some o→b∉ol:=fun b o q z=>by
  rw[hol b z] at q
  cases q
 have nfr:∀b o,h0.get? b=some o→b∉frs outer→b∉frs (env::outer):=fun b o q hb z=>by
  unfold frs at z hb
  rw[Mo,hf] at z
  rcases Nl.mp z with z|z
  ·exact nL b o q z
  ·exact hb z
 have ifr:∀b,b∈frs outer→b∈frs (env::outer):=fun b hb=>by
  unfold frs at hb⊢
  rw[Mo,hf]
  exact Nw _ hb
 refine⟨fun b o q n hb hx=>x.keep b o (kp b o (u.keep b o q n hb hx)) (nfr b o q hb) (ne b o q) (nol b o q),fun b o q n hb hx=>?_,u.free,fun b o q hx=>?_,u.tups,u.frzs,u.tbls⟩
 ·obtain⟨sl,e1⟩:=u.slot b o q n hb hx
  obtain⟨sl2,e2⟩:=x.slot b _ (kp b _ e1) (ifr b hb) (nol b o q) (ne b o q)
  exact⟨sl2,e2⟩
 ·obtain⟨o',e1⟩:=u.there b o q hx
  exact x.there b o' (kp b o' e1)
section
variable {P:Program} {w:World} {K:JZ} {mg:Str→Option Value} {base:Heap} {N:List Str} {qual:Str} {scope:Scope} {f:Addr} {cd:Value} {A:Around} {outer:List Env} {s₀:Shared} {H₀:Hp} {E:XK}
theorem klU{E':XK}(hE:∀cls dx H,E' cls dx H→E cls dx H):kct (CX1 P w) (cxOf (CX1 P w) P w K mg base N qual scope f cd A outer s₀ H₀ E) E':=by
 intro pins σ H s e s' I h
 obtain⟨a,T0,cls,dx,H',rfl,os,bare,un,hok,ha,hHa,hT0,hHT,ext,hE'⟩:=h
 obtain⟨⟨oe,vs,hoe,hcl,hdx,hd,h1⟩,nT,oT,ts,hT,hdT,h3⟩:=ext
 have hsz:1<vs.size:=(Ma.mp h1).1
 have I':Inv (cxOf (CX1 P w) P w K mg base N qual scope f cd A outer s₀ H₀ E) pins σ H' s':=I.call' (ch:=[]) os un hok bare (fun b hb=>by simp at hb)
 have z0:∀{b:Addr},s.heap.get? b=none→s₀.heap.get? b=none:=fun {b} hn=>by
  cases q:s₀.heap.get? b with
  |none=>rfl
  |some o=>
   obtain⟨o',z⟩:=I.base.there b o q (by intro z;cases z)
   rw[hn] at z
   cases z
 refine kfB I'.ok.frames (base:=base) I'.stack rfl hoe hd h1 nT hT hdT h3 fun h' T x=>?_
 have hT1:s₀.heap.get? T=none:=by
  cases q:s₀.heap.get? T with
  |none=>rfl
  |some o=>
   obtain⟨o',z⟩:=I'.base.there T o q (by intro z;cases z)
   rw[x.new] at z
   cases z
 refine⟨a,T,oe.cls,oe.dict,H',rfl,I'.os,I'.bare,I'.base.ex (fs:=[]) (L:=s₀.heap.objs.size) (env:=PyProof.Rows.envOfC qual scope s₀.heap.objs.size f cd) rfl (J4 _) (fun _ _ q=>q) x (z0 ha) (fun b hb=>?_),fun b u q=>?_,z0 ha,hHa,hT1,I'.hok.no x.new,x.ext hoe hd hsz,hE _ _ _ (by rw[hcl,hdx];exact hE')⟩
 ·rw[NP.mp hb]
  exact z0 hT0
 have nst:∀{b:Addr}{u:HO},H' b=some u→b∉frs (PyProof.Rows.envOfC qual scope s₀.heap.objs.size f cd::outer):=fun {b u} q z=>by
  have:=I'.stkFree b z
  rw[q] at this
  cases this
 refine(I'.hok b u q).stay (fun c v hc r=>?_) (fun _ r=>r) fun _ _ r=>r
 obtain⟨o,eo⟩:∃o,H' c=some o:=by
  rcases hc with rfl|hc
  ·exact⟨u,q⟩
  ·exact⟨_,hc⟩
 exact x.keep c v r (nst eo) (kai eo hHa) (by intro z;rw[NP.mp z,hHT] at eo;cases eo)
end
def FnOk.calm{P:Program}{w:World}{K:JZ}{mg:Str→Option Value}{base:Heap}{k:Nat}{f:Addr}{fd:FuncData}{ps:List Str}{sp:Sp}(F:FnOk P w K mg base (CX1 P w) k f fd ps sp):FnOk P w K mg base CX0 k f fd ps fun vs H Q _=>sp vs H Q E0:=
 ⟨fun vs H Q E h=>F.len vs H Q E0 h,fun A outer s H args us vs Q E hr he hb hv hs=>codeAny_mono (F.run A outer s H args us vs Q E0 hr he hb hv hs) fun r s' h=>by
  cases r with
  |ok fl=>cases fl <;> exact h
  |error e=>
   obtain⟨_,_,_,_,_,_,_,_,_,_,_,_,_,_,_,z⟩:=h
   exact z.elim⟩
theorem FunD.okX{P:Program}{w:World}{K:JZ}{mg:Str→Option Value}{base:Heap}{x qual:Str}{st:Stmt}{f:Addr}{fd:FuncData}{N ps:List Str}{k:Nat}{sp:Sp}(F:FunD K x qual st f fd)(S:kan N ps (kag st))(len:∀vs H Q E,sp vs H Q E→vs.length=ps.length)
  (hbody:∀(cdv:Value)(A:Around)(outer:List Env)(s:Shared)(H:Hp)(vs:List V)(Q:VK)(E:XK),Room k (A.deeper (PyProof.Rows.envOfC qual (kag st) s.heap.objs.size f cdv))→sp vs H Q E→
   ∃t,PSs (cxOf (CX1 P w) P w K mg base N qual (kag st) f cdv A outer s H E) (kay st) t∧t {nx:=fun _ H'=>Q .non H',rt:=Q} (start N vs) H):FnOk P w K mg base (CX1 P w) (k+1) f fd ps sp:=by
 obtain⟨oc,od,dV,kV,doc,pm,an,cdv,ct,osl,rfl,lk,hcd⟩:=F.ex
 exact fn_of lk hcd S len fun A outer s H vs Q E hr hsp=>hbody cdv A outer s H vs Q E hr hsp
structure Top1 (X:Cx):Prop where
 st:X.stack=X.env::X.outer
 fr:X.env.frame=some X.env.locals
 fn:∀y,X.fn y=true
 ex0:X.ex=[]
structure Fre (X:Cx) (pins:List (Addr×Obj)) (H:Hp) (b:Addr):Prop where
 no:H b=none
 s0:X.s₀.heap.get? b=none
 pin:∀p∈X.pn++pins,p.1≠b
theorem Inv.exs{X:Cx}{pins:List (Addr×Obj)}{σ:St}{H:Hp}{s:Shared}{e T:Addr}{ol:List Addr}{oe:Obj}{vs:Array Value}{fl:Value}{h':Heap}{tk:Nat}(I:Inv X pins σ H s)(TX:Top1 X)(x:ExStep (frs X.stack) ol e oe T fl s.heap h')(he:s.heap.get? e=some oe)(hd:oe.data=.fields vs)(fe:Fre X pins H e)
  (fo:∀b∈ol,Fre X pins H b∧∃ob ts,s.heap.get? b=some ob∧ob.data=.fields ts):Inv X pins σ H {s with heap:=h',toks:=tk}:=by
 have nfld:∀{b:Addr}{o:Obj},s.heap.get? b=some o→(∀vs,o.data≠.fields vs)→b≠e∧b∉ol:=fun {b o} hb hn=>⟨fun z=>by
  rw[z,he] at hb
  cases hb
  exact hn vs hd,fun z=>by
  obtain⟨_,ob,ts,h1,h2⟩:=fo b z
  rw[hb] at h1
  cases h1
  exact hn ts h2⟩
 have mem:X.env.locals∈frs X.stack:=by
  rw[TX.st]
  unfold frs
  rw[Mo,TX.fr]
  exact Nz ..
 have nfr:∀{b:Addr},b≠X.env.locals→b∉X.fs→b∉frs X.stack:=fun {b} h1 h2 z=>by
  rw[TX.st] at z
  unfold frs at z
  rw[Mo,TX.fr] at z
  rcases Nl.mp z with z|z
  ·exact h1 z
  ·exact h2 z
 have cl:∀{y:Str}{c:Addr}{v:Option Value},X.env.cells.lookup y=some c→s.heap.IsCell c v→h'.IsCell c v:=fun {y c v} hc ⟨o,ho,hdc⟩=>by
  obtain⟨n1,n2⟩:=nfld ho (fun vs q=>by rw[hdc] at q;cases q)
  refine⟨o,x.keep c o ho (nfr (fun z=>?_) fun z=>?_) n1 n2,hdc⟩
  ·obtain⟨m,⟨o',es,ep,ho',hd',_⟩,_⟩:=I.loc
   rw[←z,ho] at ho'
   cases ho'
   rw[hdc] at hd'
   cases hd'
  ·obtain⟨_,o',ho',_⟩:=I.ok.funs.mem z
   exact absurd (Heap.lt_size ho') (MF.mpr (I.ok.cab y c (TX.fn y) hc))
 refine⟨I.ok,I.os,I.bare,?_,?_,fun y c hc=>?_,I.free,I.freeC,fun p hp=>?_,fun b u q=>?_,I.len⟩
 ·rw[TX.st] at x
  exact I.base.ex (fs:=[]) (L:=X.env.locals) (env:=X.env) TX.fr I.ok.above (fun _ _ q=>q) x fe.s0 fun b hb=>(fo b hb).1.s0
 ·obtain⟨m,⟨o,es,ep,ho,hdo,r⟩,hl⟩:=I.loc
  obtain⟨n1,n2⟩:=nfld ho (fun vs q=>by rw[hdo] at q;cases q)
  obtain⟨sl,hs⟩:=x.slot _ o ho mem n2 n1
  refine⟨m,⟨_,es,ep,hs,hdo,r⟩,fun i y v h1 h2 h3=>?_⟩
  obtain⟨u,ru,lk⟩:=hl i y v h1 h2 h3
  refine⟨u,ru,?_⟩
  rcases lk with lk|⟨k,c,hc,z⟩
  ·exact .inl lk
  ·exact .inr ⟨k,c,hc,cl hc z⟩
 ·obtain⟨v,z⟩:=I.cell y c hc
  exact⟨v,cl hc z⟩
 ·obtain⟨h1,h2,h3,h4,h5⟩:=I.pin p hp
  exact⟨x.keep p.1 p.2 h1 (nfr h3 h4) (fe.pin p hp) (fun z=>(fo p.1 z).1.pin p hp rfl),h2,h3,h4,h5⟩
 ·refine(I.hok b u q).stay (fun c v hc r=>?_) (fun _ r=>r) fun _ _ r=>r
  obtain⟨o,eo⟩:∃o,H c=some o:=by
   rcases hc with rfl|hc
   ·exact⟨u,q⟩
   ·exact⟨_,hc⟩
  refine x.keep c v r (fun z=>?_) (kai eo fe.no) fun z=>?_
  ·have:=I.stkFree c z
   rw[eo] at this
   cases this
  ·have:=(fo c z).1.no
   rw[eo] at this
   cases this
theorem kd4{X:Cx}{pins:List (Addr×Obj)}{σ:St}{H:Hp}{s:Shared}{n:Str}{i:Nat}{pos:Pos}{M:Model}{A:Around}{E:Value→Shared→Prop}{Q:Unit→Shared→Prop}(I:Inv X pins σ H s)(hN:X.N.Nodup)(hi:X.N[i]?=some n)(hl:X.env.kindOf n=some .local)
  (h:∀s',Inv X pins (σ.set i none) H s'→Q () s'):wpAny M A (do bindName X.env n .none;unbindBehindTheSuite X.env n pos) Q E s:=by
 obtain⟨m,hn,hlk⟩:=id I.loc
 have hcls:(X.env.scope.kind== .class||(X.env.scope.kind== .module&&X.env.locals !=X.env.globals))=false:=by rw[I.ok.kind];rfl
 have hiN:=(Nh.mp hi).1
 refine wpAny_nameGoes_keeps hl hn hcls fun h' v hn' hs=>h _ ?_
 have szL:=I.ok.above
 have kp:∀{b:Addr}{o:Obj},b≠X.env.locals→s.heap.get? b=some o→h'.get? b=some o:=fun {b o} nb e=>(hs.2 b nb).trans e
 have nL:∀{b:Addr}{o:Obj},X.s₀.heap.get? b=some o→b≠X.env.locals:=fun {b o} e z=>absurd (Heap.lt_size e) (by rw[z];exact MF.mpr szL)
 have cl:∀{y:Str}{c:Addr}{v:Option Value},s.heap.IsCell c v→h'.IsCell c v:=fun {y c v} ⟨o,ho,hdc⟩=>⟨o,kp (fun z=>by
  obtain⟨o',es,ep,ho',hd',_⟩:=hn
  rw[←z,ho] at ho'
  cases ho'
  rw[hdc] at hd'
  cases hd') ho,hdc⟩
 refine⟨I.ok,I.os,I.bare,⟨fun b o q z hb hx=>kp (nL q) (I.base.keep b o q z hb hx),fun b o q z hb hx=>?_,I.base.free,fun b o q hx=>?_,I.base.tups,I.base.frzs,I.base.tbls⟩,⟨_,hn',fun j y w h1 h2 h3=>?_⟩,fun y c hc=>?_,I.free,I.freeC,fun p hp=>?_,fun b u q=>?_,by rw[Eu];exact I.len⟩
 ·obtain⟨sl,e1⟩:=I.base.slot b o q z hb hx
  exact⟨sl,kp (nL q) e1⟩
 ·obtain⟨o',e1⟩:=I.base.there b o q hx
  exact⟨o',kp (nL q) e1⟩
 ·have hji:j≠i:=fun z=>by
   rw[z,Mz (by rw[I.len];exact hiN)] at h2
   cases h2
  rw[MA (Ne.symm hji)] at h2
  obtain⟨u,ru,lk⟩:=hlk j y w h1 h2 h3
  have hyn:y≠n:=fun z=>by
   subst z
   exact hji ((List.getElem?_inj hiN hN).mp (hi.trans h1.symm)).symm
  refine⟨u,ru,?_⟩
  rcases lk with⟨k1,k2⟩|⟨k,c,hc,z⟩
  ·exact .inl ⟨k1,by show(if y=n then v else m y)=_;rw[if_neg hyn];exact k2⟩
  ·exact .inr ⟨k,c,hc,cl (y:=y) z⟩
 ·obtain⟨v,z⟩:=I.cell y c hc
  exact⟨v,cl (y:=y) z⟩
 ·obtain⟨h1,h2,h3,h4,h5⟩:=I.pin p hp
  exact⟨kp h3 h1,h2,h3,h4,h5⟩
 ·refine(I.hok b u q).stay (fun c v hc r=>kp (fun z=>?_) r) (fun _ r=>r) fun _ _ r=>r
  rw[z] at hc
  rcases hc with hc|hc
  ·rw[←hc,I.free] at q
   cases q
  ·rw[I.free] at hc
   cases hc
noncomputable def Cx.inEx(X:Cx)(a:Addr):Cx:={X with A:=X.A.mark (some (.ref a)),calm:=false}
def Inv.inEx{X:Cx}{pins:List (Addr×Obj)}{σ:St}{H:Hp}{s:Shared}(I:Inv X pins σ H s)(a:Addr):Inv (X.inEx a) pins σ H s:=
 ⟨⟨I.ok.mod,I.ok.kind,I.ok.glob,I.ok.blt,I.ok.above,I.ok.inj,I.ok.has,I.ok.cab,(fun z=>absurd z Na),I.ok.frames,I.ok.stk,I.ok.exf,I.ok.bs,I.ok.bsz,I.ok.noex,I.ok.exfs,I.ok.funs,I.ok.frf⟩,I.os,I.bare,I.base,I.loc,I.cell,I.free,I.freeC,I.pin,I.hok,I.len⟩
def Inv.outEx{X:Cx}{pins:List (Addr×Obj)}{σ:St}{H:Hp}{s:Shared}{a:Addr}(ok:X.Ok)(I:Inv (X.inEx a) pins σ H s):Inv X pins σ H s:=⟨ok,I.os,I.bare,I.base,I.loc,I.cell,I.free,I.freeC,I.pin,I.hok,I.len⟩
noncomputable def ExcO(a:Addr)(cls:Value)(dx:Option Addr):HO:=.ext fun h=>∃oe vs,h.get? a=some oe∧oe.cls=cls∧oe.dict=dx∧oe.data=.fields vs
def Inv.adoptX{X:Cx}{pins:List (Addr×Obj)}{σ:St}{H:Hp}{s:Shared}{a:Addr}{o:HO}{oe:Obj}{vs:Array Value}(I:Inv X pins σ H s)(f:Fre X pins H a)(he:s.heap.get? a=some oe)(hd:oe.data=.fields vs)(new:ObjOk X.prog X.w (upd H a o) s.heap a o):Inv X pins σ (upd H a o) s:=by
 have hn:=f.no
 have nt:∀b u,H b=some u→b≠a:=fun b u e=>kai e hn
 have hL:a≠X.env.locals:=fun z=>by
  obtain⟨m,⟨o',es,ep,ho',hd',_⟩,_⟩:=I.loc
  rw[←z,he] at ho'
  cases ho'
  rw[hd] at hd'
  cases hd'
 have hC:∀x c,X.env.cells.lookup x=some c→c≠a:=fun x c e z=>by
  obtain⟨v,o',ho',hd'⟩:=I.cell x c e
  rw[z,he] at ho'
  cases ho'
  rw[hd] at hd'
  cases hd'
 refine⟨I.ok,I.os,I.bare,⟨I.base.keep,I.base.slot,fun b ob e n hx=>?_,I.base.there,fun b xs e=>?_,fun b ob u e=>?_,fun b ps e=>?_⟩,I.loc,I.cell,?_,fun x c e=>?_,fun p hp'=>?_,fun b u e=>?_,I.len⟩
 ·rw[kaj (show b≠a from fun z=>by rw[z,f.s0] at e;cases e)]
  exact I.base.free b ob e n hx
 ·have q:=I.base.tups b xs e
  rw[kaj (nt _ _ q)]
  exact q
 ·have q:=I.base.frzs b ob u e
  rw[kaj (nt _ _ q)]
  exact q
 ·obtain⟨m,q⟩:=I.base.tbls b ps e
  exact⟨m,by rw[kaj (nt _ _ q)];exact q⟩
 ·rw[kaj (Ne.symm hL)]
  exact I.free
 ·rw[kaj (hC x c e)]
  exact I.freeC x c e
 ·obtain⟨e,n,r⟩:=I.pin p hp'
  exact⟨e,by rw[kaj (f.pin p hp')];exact n,r⟩
 ·by_cases hb:b=a
  ·subst hb
   rw[kad] at e
   cases e
   exact new
  ·rw[kaj hb] at e
   refine(I.hok b u e).stay (fun _ _ _ q=>q) (fun d r=>?_) fun d xs r=>?_
   ·rw[kaj (nt _ _ r)]
    exact r
   ·rw[kaj (nt _ _ r)]
    exact r
noncomputable def XL(X:Cx)(pins:List (Addr×Obj))(σ:St)(EX:XK)(e:Value)(s:Shared):Prop:=∃(a T:Addr)(cls:Value)(dx:Option Addr)(H:Hp),e=.ref a∧Inv X pins σ H s∧Fre X pins H a∧Fre X pins H T∧ExT s.heap a T cls dx∧EX cls dx H
noncomputable def Ends.goes(D:Ends)(i:Nat):Ends:={nx:=fun σ H=>D.nx (σ.set i none) H,rt:=D.rt,bk:=fun σ H=>D.bk (σ.set i none) H,ct:=fun σ H=>D.ct (σ.set i none) H}
noncomputable def tTry(K:JZ)(CT:Addr)(i:Nat)(tb:XK→TS)(ts:TS):TS:=fun D σ H=>tb (fun cls dx H1=>EF K cls (.ref CT)=some true∧∀a,H1 a=none→ts (D.goes i) (σ.set i (some (.ref a))) (upd H1 a (ExcO a cls dx))) D σ H
theorem kmb{X:Cx}{body suite:List Stmt}{b₀:Stmt}{n tn:Str}{i:Nat}{CT:Addr}{tp hpos pos:Pos}{tb:XK→TS}{ts:TS}(TX:Top1 X)(hN:X.N.Nodup)(hi:X.N[i]?=some n)(hl:X.env.kindOf n=some .local)(hg:Gl X tn)(hm:X.mg tn=some (.ref CT))
  (hb:∀(pins:List (Addr×Obj))(s:Shared)(σ:St)(H:Hp)(D:Ends)(EX:XK),Inv X pins σ H s→tb EX D σ H→wpAny (model X.prog X.w) X.A (execs body X.env) (SP X pins D) (XL X pins σ EX) s)
  (hs:∀a,PSs (X.inEx a).nox (b₀::suite) ts) (hdb:(tn==("__debug__" :Str))=false:=by decide):
  PS X (.Try body [.ExceptHandler (some (.Name tn tp)) (some n) (b₀::suite) hpos] [] [] pos) (tTry X.K CT i tb ts):=by
 intro pins s σ H D I h
 refine wpAny_Try_except (wpAny_mono (hb pins s σ H D _ I h) (fun f s1 h1=>?_) fun e s1 h1=>?_)
 ·cases f with
  |next=>exact wpAny_execs_nil h1
  |brk=>exact h1
  |cont=>exact h1
  |ret v=>exact h1
 obtain⟨a,T0,cls,dx,H1,rfl,I1,fa,fT,ext,hxm,hts⟩:=h1
 obtain⟨⟨oe,vs,hoe,hcl,hdx,hd,hv1⟩,nT,oT,tsv,hT,hdT,h3⟩:=ext
 have hsz:1<vs.size:=(Ma.mp hv1).1
 have hfr:X.A.frames=some (X.env::X.outer):=by rw[←TX.st];exact I1.ok.frames
 have hst:s1.heap.FunFrames X.base (X.env::X.outer):=by rw[←TX.st];exact I1.stack
 refine kdM hfr hst TX.fr hoe hd hv1 nT hT hdT h3 fun h2 T x2=>?_
 refine keB (s:={s1 with heap:=h2}) x2 hoe hd hsz fun h3' x3=>?_
 have I3:Inv X pins σ H1 {s1 with heap:=h3',toks:=s1.toks}:=I1.exs TX (by rw[TX.st];exact x3) hoe hd fa fun b hb=>by
  rw[NP.mp hb]
  exact⟨fT,oT,tsv,hT,hdT⟩
 have ext3:=x3.ext hoe hd hsz
 rw[hcl,hdx] at ext3
 have hT1:H1 T=none:=I1.hok.no x3.new
 have sT:s1.heap.objs.size≤T:=x3.sz
 have fpT:=I1.fpOk (H':=H1) sT hT1
 clear x2 x3
 obtain⟨⟨oe3,vs3,hoe3,hcl3,hdx3,hd3,hv3⟩,nT3,oT3,ts3,hT3,hdT3,h33⟩:=id ext3
 refine wpAny_handleBy_cons (codeAny_handlers_test ?_) (by intro q;cases q)
 refine kc7 (X:=X.inEx a) (I3.inEx a) hg hm ?_ hdb
 have lt:En (model X.prog X.w) h3' (typeOf (.ref a)) cls:=by
  have z:=(En.ld (M:=model X.prog X.w) (part:=none) hoe3).andThen (f:=fun o=>pure o.cls) .now
  rw[hcl3] at z
  exact z
 refine(PySem.W.exm_one (M:=model X.prog X.w) I3.kIn lt hxm).here ?_
 rw[if_pos rfl]
 refine codeAny_handlers_suite_as ?_
 have hz3:3<ts3.size:=(Ma.mp h33).1
 refine wpAny_setFlight_none hoe3 hd3 hv3 hT3 hdT3 hz3 ?_
 have sb:=Heap.SameBut.update h3' T (Obj.mapFields (·.setIfInBounds 3 Value.none))
 obtain⟨q1,q2,q3,q4,q5,q6⟩:=fpT
 have I4:=I3.turned (t':=s1.toks) (it:=T) (h':=h3'.update T (Obj.mapFields (·.setIfInBounds 3 Value.none))) (fun b o nb e=>(sb.2 b nb).trans e) q1 q2 q4 q5 q6
 have hoe4:(h3'.update T (Obj.mapFields (·.setIfInBounds 3 Value.none))).get? a=some oe3:=(sb.2 a (Ne.symm nT3)).trans hoe3
 have I5:Inv X pins σ (upd H1 a (ExcO a cls dx)) {s1 with heap:=h3'.update T (Obj.mapFields (·.setIfInBounds 3 Value.none)),toks:=s1.toks}:=I4.adoptX fa hoe4 hd3 (show ObjOk X.prog X.w _ _ a (ExcO a cls dx) from⟨⟨oe3,vs3,hoe4,hcl3,hdx3,hd3⟩,⟨oe3,hoe4⟩,fun g1 g2 ⟨o,v,z1,z2⟩ k=>⟨o,v,k o z1,z2⟩⟩)
 refine kc8 (X:=X) (v:=.ref a) I5 hN hi (.inl hl) rfl (fun s6 I6=>?_) (.inl (TX.fn n))
 have key:=hs a pins s6 _ _ (D.goes i) ((I6.inEx a).wish _) (hts a fa.no)
 refine wpAny_mono key (fun f s7 h7=>?_) fun _ _ z=>z.elim
 show wpAny (model X.prog X.w) X.A (do bindName X.env n .none;unbindBehindTheSuite X.env n hpos) (fun _ s₃=>SP X pins D f s₃) X.xe s7
 cases f with
 |next=>
  obtain⟨σ',H',J,q⟩:=h7
  exact kd4 (J.unwish.outEx I.ok) hN hi hl fun s' I'=>⟨_,H',I',q⟩
 |brk=>
  obtain⟨σ',H',J,q⟩:=h7
  exact kd4 (J.unwish.outEx I.ok) hN hi hl fun s' I'=>⟨_,H',I',q⟩
 |cont=>
  obtain⟨σ',H',J,q⟩:=h7
  exact kd4 (J.unwish.outEx I.ok) hN hi hl fun s' I'=>⟨_,H',I',q⟩
 |ret u=>
  obtain⟨v,σ',H',J,r,q⟩:=h7
  exact kd4 (J.unwish.outEx I.ok) hN hi hl fun s' I'=>⟨v,_,H',I',r,q⟩
section
variable {X:Cx} {k:Nat} {f C:Addr} {fd:FuncData} {ps:List Str} {sp:Sp} {dvs:List V} {ds:List Value} {x m:Str} {p pos apos:Pos} {e o:Expr} {es:List Expr} {ta:TE} {t:TA}
theorem xl_of{pins:List (Addr×Obj)}{σ:St}{H:Hp}{s s':Shared}{EX:XK}{e:Value}(TX:Top1 X)(I:Inv X pins σ H s)(hq:CX1 X.prog X.w X.stack H s EX e s'):XL X pins σ EX e s':=by
 obtain⟨a,T,cls,dx,H',rfl,os,bare,un,hok,ha,hHa,hT,hHT,ext,hE⟩:=hq
 have I':Inv X pins σ H' s':=I.call' (ch:=[]) os un hok bare (fun b hb=>by simp at hb)
 have z0:∀{b:Addr},s.heap.get? b=none→b∉X.ex→X.s₀.heap.get? b=none:=fun {b} hn hx=>by
  cases q:X.s₀.heap.get? b with
  |none=>rfl
  |some o=>
   obtain⟨o',z⟩:=I.base.there b o q hx
   rw[hn] at z
   cases z
 have zp:∀{b:Addr},s.heap.get? b=none→∀p∈X.pn++pins,p.1≠b:=fun {b} hn p hp z=>by
  have:=(I.pin p hp).1
  rw[z,hn] at this
  cases this
 have nx:∀b:Addr,b∉X.ex:=fun b z=>by
  rw[TX.ex0] at z
  cases z
 exact⟨a,T,cls,dx,H',rfl,I',⟨hHa,z0 ha (nx a),zp ha⟩,⟨hHT,z0 hT (nx T),zp hT⟩,ext,hE⟩
noncomputable def PEX(X:Cx)(e:Expr)(te:XK→TE):Prop:=∀(pins:List (Addr×Obj))(s:Shared)(σ:St)(H:Hp)(Q:VK)(EX:XK),Inv X pins σ H s→te EX σ H Q→wpAny (model X.prog X.w) X.A (eval e X.env) (EP X pins σ Q) (XL X pins σ EX) s
theorem klf(TX:Top1 X)(hnx:∀e s',X.xe e s'→False)(M:Mk X.K C f)(F:FnOk X.prog X.w X.K X.mg X.base (CX1 X.prog X.w) k f fd ps sp)(hr:Room (k+1) X.A)(hg:Gl X x)(hm:X.mg x=some (.ref C))(hb:Binds X.K fd ps ds)(hd:Vals dvs ds)
  (ha:PA X (e::es) t) (hdb:(x==("__debug__" :Str))=false:=by decide) (he:starEach (e::es) X.env=(false,eval e X.env)::starEach es X.env:=by rfl) (hpl:(backTo pos (starEach es X.env)).any (·.1)=false:=by rfl):
  PEX X (.Call (.Name x p) (e::es) [] pos) (fun EX=>tMake C sp dvs EX t):=by
 intro pins s0 σ H0 Q EX I0 h0
 refine wpAny_Call_Name_kw (kc7 I0 hg hm ?_ hdb)
 refine Mv (h₀:=X.base) I0.ok.mod.kin M.kp (wpAny_mono (ha pos pins s0 σ H0 _ I0 h0) (fun us s ⟨vs,H,I,r,h⟩=>⟨I.kIn,?_⟩) fun e s' z=>(hnx e s' z).elim) he hpl
 have hq:=h (s.heap.objs.size+1) s.heap.objs.size (I.hok.fresh (N8 _)) (I.hok.fresh (J4 _)) (Nr (MS _))
 have I2:=Inv.made (C:=C) I
 have r2:Vals (V.ref (s.heap.objs.size+1)::(vs++dvs)) (Value.ref (s.heap.objs.size+1)::(us++ds)):=.cons rfl (r.append hd)
 have hl:(Value.ref (s.heap.objs.size+1)::us++ds).length=ps.length:=by
  have e:=r2.length
  rw[F.len _ _ _ _ hq] at e
  exact e.symm
 refine wpAny_call (khy (f:=f) I.kIn M.makes M.init (beq_iff_eq.mp M.fn) (codeAny_mono (F.run _ X.stack _ _ ⟨Value.ref (s.heap.objs.size+1)::us,[]⟩ (Value.ref (s.heap.objs.size+1)::(us++ds)) _ _ EX (hr.make C us [])
  (I2.env0.make C us []) (hb _ (Value.ref (s.heap.objs.size+1)::us) I2.kIn hl) r2 hq) fun r s' hq'=>?_))
 cases r with
 |error e=>exact xl_of TX I2 hq'
 | ok fl=>
  cases fl with
  |ret u=>
   obtain⟨v,H',I3,rv,ev,q3⟩:=I2.after hq'
   subst ev
   exact⟨rv,⟨V.ref (s.heap.objs.size+1),H',I3,rfl,q3⟩⟩
  |next=>exact False.elim hq'
  |brk=>exact False.elim hq'
  |cont=>exact False.elim hq'
noncomputable def PBX(X:Cx)(body:List Stmt)(tb:XK→TS):Prop:=∀(pins:List (Addr×Obj))(s:Shared)(σ:St)(H:Hp)(D:Ends)(EX:XK),Inv X pins σ H s→tb EX D σ H→wpAny (model X.prog X.w) X.A (execs body X.env) (SP X pins D) (XL X pins σ EX) s
theorem kl1{i:Nat}{te:XK→TE}{pos':Pos}(hN:X.N.Nodup)(he:PEX X e te)(hi:X.N[i]?=some x:=by rfl)(hx:Loc X.env.scope x:=by first|exact Or.inl rfl|exact Or.inr rfl)(hs:swapsWith e (some (.Name x pos')) pos.line X.env=pure false:=by rfl)(hf:X.fn x=true∨X.env.scope.names.lookup x=some .local:=by first|exact .inl rfl|exact .inr rfl|assumption):
  PBX X [.Assign [.Name x pos'] e pos] (fun EX=>tAsg (te EX) (gName i)):=by
 intro pins s σ H D EX I h
 refine wpAny_execs_cons (wpAny_Assign_Name (thn (he pins s σ H _ EX I h) fun v s1 ⟨y,H1,I1,r1,q1⟩=>?_) hs)
 exact kc8 I1 hN hi hx r1 (fun s2 I2=>wpAny_execs_nil ⟨_,H1,I2,q1⟩) hf
theorem kih{CX:CXT}{P:Program}{w:World}{K:JZ}{mg:Str→Option Value}{base:Heap}{N:List Str}{qual:Str}{scope:Scope}{f:Addr}{cd:Value}{A:Around}{outer:List Env}{s:Shared}{H:Hp}{E:XK}:Top1 (cxOf CX P w K mg base N qual scope f cd A outer s H E).nox:=⟨rfl,rfl,fun _=>rfl,rfl⟩
end
end L2
namespace L2
open PySem PySem.W PySem.Calls PyProof.Rows Builtin Builtin.ObjectAttr
section
variable {prog:Program} {w:World} {K:Frag} {A:Around} {E:Value→Shared→Prop} {h:Heap} {g:Array GenState} {d:Drawn} {t:Nat} {os:OsState} {a C:Addr} {o:Obj} {od:Option Obj}
structure ExcK (K:Frag) (C:Addr):Prop where
 ga:findIn K (.ref C) "__getattribute__"=some (some (.builtin "BaseException.__getattribute__"))
 no:findIn K (.ref C) "__getattr__"=some none
 cl:findIn K (.ref C) "__class__"=some (some (.builtin "object.__class__"))
 sub:subIn K (.ref C) (.type "BaseException")=some true
 obj:mroIn K C (.type "object")=some true
 isc:(clsIn K C).isSome=true
theorem kgl{M:Model}{nameV:Value}{Q:Unit→Shared→Prop}(X:K.In h)(Z:ExcK K C)(hx:h.get? a=some o)(hc:o.cls=.ref C)(hq:Q () ⟨h,g,d,t,os⟩):wpAny M A (checkBuiltinCall "BaseException.__getattribute__" ⟨[.ref a,nameV],[]⟩) Q E ⟨h,g,d,t,os⟩:=by
 have hk:builtinKind "BaseException.__getattribute__"=some .slot:=by decide +kernel
 have hsplit:splitId "BaseException.__getattribute__"=some ("BaseException","__getattribute__"):=by decide +kernel
 have ha:=PySem.F.args_bexc_ga (.ref a) nameV
 have sb:∀{A:Around}{E:Value→Shared→Prop}{Q:Bool→Shared→Prop}{t:Nat},Q true ⟨h,g,d,t,os⟩→wpAny M A (isSubtype (.ref C) (.type "BaseException")) Q E ⟨h,g,d,t,os⟩:=fun q=>(looks_subIn X Z.sub).at q
 simp only[checkBuiltinCall,hk,hsplit]
 refine wpAny_bind ?_
 ·unfold isInstance
  repeat (first|(with_reducible refine wpAny_loadPart_at hx ?_;rw[hc])|(with_reducible refine sb ?_)|wp_step)
  exact hq
theorem kjx{tk:Tok}{Q:Fin→Shared→Prop}(X:K.In h)(Z:ExcK K C)(I:InstAt h a o C od)(hq:Q (.done (.ret (.ref C))) ⟨h,g,d,t,os⟩):wpAny (model prog w) A (Builtin.«object.__getattribute__» ⟨[.ref a, .str "__class__" tk],[]⟩) Q E ⟨h,g,d,t,os⟩:=by
 have hx:=I.at_
 have hc:=I.cls
 have f5:=PySem.F.typeOf_object_class
 have f6:=PySem.F.slot_gs_get.lookup
 have f7:=PySem.F.slot_gs_set.lookup
 have lk:∀{A:Around}{E:Value→Shared→Prop}{Q:Option Value→Shared→Prop}{t:Nat},Q (some (.builtin "object.__class__")) ⟨h,g,d,t,os⟩→wpAny (model prog w) A (typeLookup (.ref C) "__class__") Q E ⟨h,g,d,t,os⟩:=fun q=>(looks_findIn X Z.cl).at q
 repeat (any_goals (first|assumption|(with_reducible refine wpAny_loadPart_at hx ?_;rw[hc])|with_reducible refine lk ?_|wp_step))
 refine class_get (s:=⟨h,g,d,t,os⟩) X I Z.obj ?_
 repeat (any_goals (first|assumption|wp_step))
theorem kks{tk:Tok}{R:Result→Shared→Prop}(X:K.In h)(Z:ExcK K C)(I:InstAt h a o C od)(hq:R (.ok (.ret (.ref C))) ⟨h,g,d,t,os⟩):codeAny (model prog w) A (.call (.builtin "BaseException.__getattribute__") ⟨[.ref a, .str "__class__" tk],[]⟩) R ⟨h,g,d,t,os⟩:=
 codeAny_call_builtin M4.ga.plain E3 (kgl X Z I.at_ I.cls (kjx X Z I hq))
theorem kmw{tk:Tok}{fill expr:Bool}{Q:Value→Shared→Prop}(X:K.In h)(Z:ExcK K C)(I:InstAt h a o C od)(hq:Q (.ref C) ⟨h,g,d,t,os⟩):wpAny (model prog w) A (getAttrBy (.ref a) (.str "__class__" tk) fill expr) Q E ⟨h,g,d,t,os⟩:=by
 have hx:=I.at_
 have hc:=I.cls
 have f3:=M4.ga.bind (.ref a)
 have hx0:(expr&&onTheHeap (Value.builtin "BaseException.__getattribute__"))=false:=by cases expr <;> rfl
 have hx2:(Value.builtin "BaseException.__getattribute__" ==Value.builtin "object.__getattribute__")=false:=by decide +kernel
 have hx1:(onTheHeap (Value.ref C)&&Value.builtin "BaseException.__getattribute__" ==Value.builtin "object.__getattribute__")=false:=by rw[hx2];rfl
 have lk1:∀{A:Around}{E:Value→Shared→Prop}{Q:Option Value→Shared→Prop}{t:Nat},Q (some (.builtin "BaseException.__getattribute__")) ⟨h,g,d,t,os⟩→wpAny (model prog w) A (typeLookup (.ref C) "__getattribute__") Q E ⟨h,g,d,t,os⟩:=fun q=>(looks_findIn X Z.ga).at q
 have lk2:∀{A:Around}{E:Value→Shared→Prop}{Q:Option Value→Shared→Prop}{t:Nat},Q none ⟨h,g,d,t,os⟩→wpAny (model prog w) A (typeLookup (.ref C) "__getattr__") Q E ⟨h,g,d,t,os⟩:=fun q=>(looks_findIn X Z.no).at q
 repeat (any_goals (first|assumption|(with_reducible refine wpAny_loadPart_at hx ?_;rw[hc])|with_reducible refine lk1 ?_|with_reducible refine lk2 ?_|wp_step))
 refine kks X Z I ?_
 repeat (any_goals (first|assumption|wp_step))
theorem kmv{Q:Option Value→Shared→Prop}(X:K.In h)(Z:ExcK K C)(I:InstAt h a o C od)(hq:Q (some (.ref C)) ⟨h,g,d,t+1,os⟩):wpAny (model prog w) A (getAttr? (.ref a) "__class__") Q E ⟨h,g,d,t,os⟩:=by
 unfold getAttr? getAttrBy?
 repeat (any_goals (first|assumption|with_reducible apply kmw X Z I|wp_step))
theorem khB(Z:ExcK K C):KitX K (.ref a) (.ref C) (fun h=>InstAt h a o C od) where
 ty:=fun _ _ _ I=>I.type
 it:=fun _ _ X _=>by
  obtain⟨cdD,hcD⟩:=Er.mp Z.isc
  unfold clsIn at hcD
  split at hcD
  ·rename_i c' d' cd' sl' ho
   intro A' Q' E' s' k q
   unfold isType loadHead
   exact wpAny_bind (wpAny_loadPart (k _ _ (X _ _ ho)) (wpAny_pure q))
  ·cases hcD
 ne:=fun h tp dd its n sl X htp=>by
  obtain⟨cdD,hcD⟩:=Er.mp Z.isc
  refine Bool.eq_false_iff.mpr fun q=>?_
  have e:C=tp:=Value.ref.inj (beq_iff_eq.mp q)
  subst e
  unfold clsIn at hcD
  split at hcD
  ·rename_i c' d' cd' sl' ho
   have z:=(X _ _ ho).symm.trans htp
   cases z
  ·cases hcD
 ca:=fun {prog w A E Q s} X I k=>by
  obtain⟨hh,g,d,t,os⟩:=s
  exact kmv X Z I k
end
end L2
namespace L2
open PySem PySem.Spec PyProof.Rows
section
variable {X:Cx}
theorem khF{pins:List (Addr×Obj)}{σ:St}{H:Hp}{s:Shared}{a C:Addr}{dx:Option Addr}(I:Inv X pins σ H s)(e:H a=some (ExcO a (.ref C) dx))(hd:∀d,dx=some d→∃u,H d=some u):∃oe od,Ek s.heap a oe C od:=by
 obtain⟨⟨oe,vs,h1,h2,h3,h4⟩,_⟩:=(show ObjOk X.prog X.w H s.heap a (ExcO a (.ref C) dx) from I.hok a _ e)
 have no:EG oe=true:=by
  unfold EG
  rw[h4]
 cases dx with
 |none=>exact⟨oe,none,h1,h2,no,by rw[h3];trivial⟩
 |some d=>
  obtain⟨fs,ed⟩:=hd d rfl
  obtain⟨q,hq⟩:=(I.hok d _ ed).get
  exact⟨oe,some q,h1,h2,no,by rw[h3];exact hq⟩
noncomputable def rIsiX(K:JZ):List V→Hp→VK→Prop:=fun xs H Q=>∃(a C:Addr)(dx:Option Addr)(c:V)(b:Bool),xs=[.ref a,c]∧((∃n,c=.ty n)∨∃p,c=.ref p)∧H a=some (ExcO a (.ref C) dx)∧(∀d,dx=some d→∃u,H d=some u)∧ExcK K C∧Nd K (.ref C) (cV c)=some b∧Q (.bl b) H
theorem kgo:CallR X (.builtin "isinstance") (rIsiX X.K):=by
 intro pins s σ H xs us Q I r h
 obtain⟨a,C,dx,c,b,rfl,hc,ha,hd,Z,e,q⟩:=h
 obtain⟨u,w',rfl,r1,r2⟩:=vals2 r
 cases(show u=Value.ref a from r1)
 have ew:w'=cV c:=by
  rcases hc with⟨n,rfl⟩|⟨p,rfl⟩
  ·exact r2
  ·exact r2
 subst ew
 obtain⟨oe,od,J⟩:=khF I ha hd
 exact N1 (khB Z) I.kIn J e (fun z=>nomatch z) fun tk=>⟨.bl b,H,I.tok tk,rfl,q⟩
noncomputable def kkR(K:JZ):List V→Hp→VK→Prop:=fun xs H Q=>∃(a C tp:Addr)(dx:Option Addr)(cs:List Addr)(b:Bool),xs=[.ref a, .ref tp]∧SqT K H tp (cs.map V.ref)∧H a=some (ExcO a (.ref C) dx)∧(∀d,dx=some d→∃u,H d=some u)∧ExcK K C∧ML K (.ref C) (cs.map Value.ref)=some b∧Q (.bl b) H
theorem kfJ:∀{cs:List Addr}{us:List Value},Vals (cs.map V.ref) us→us=cs.map Value.ref
 |[],_, .nil=>rfl
 |c::cs,_, .cons h t=>by
  rw[Nv,←kfJ t]
  exact congrArg (· ::_) h
theorem kia:CallR X (.builtin "isinstance") (kkR X.K):=by
 intro pins s σ H xs us Q I r h
 obtain⟨a,C,tp,dx,cs,b,rfl,ht,ha,hd,Z,e,q⟩:=h
 obtain⟨u,w',rfl,r1,r2⟩:=vals2 r
 cases(show u=Value.ref a from r1)
 cases(show w'=Value.ref tp from r2)
 obtain⟨its,rv,pl,hz⟩:=I.tuple ht
 have ei:=kfJ rv
 subst ei
 obtain⟨o,ho,hcl,n,hdt⟩:=pl
 obtain⟨oc,odd,dt,sl⟩:=o
 cases(show oc=.type "tuple" from hcl)
 cases(show dt=.seq _ n from hdt)
 obtain⟨oe,od,J⟩:=khF I ha hd
 exact PySem.W.kia_tup (khB Z) I.kIn J ho e (fun z=>nomatch z) fun tk=>⟨.bl b,H,I.tok tk,rfl,q⟩
end
end L2
namespace L2
open PySem PySem.Spec PyProof.Rows
def kmj{K:JZ}{h:Heap}{mg:Str→Option Value}{x:Str}{C:Addr}{bm:List Value}{newId:String}(X:K.In h)(hb:mg x=some (.ref C))(q:EH K C bm newId=true):OwnCls x C bm newId mg h:=by
 refine⟨hb,?_⟩
 unfold EH at q
 split at q
 next dd cd sl ho=>
  split at q
  next C' tl k0 k1 k2 k3 n k5 hm hs=>
   rw[N9,N9,N9,N9,N9] at q
   obtain⟨⟨⟨⟨⟨e1,e2⟩,e3⟩,ht⟩,hok⟩,hni⟩:=q
   have z1:=beq_iff_eq.mp e1
   have z2:=beq_iff_eq.mp e2
   subst z1 z2
   obtain⟨nm,bs,mro,ns,qn,hdc,sn,sub,ab,col,del⟩:=cd
   have z3:del=false:=by simpa using e3
   have z4:mro=.ref C'::tl:=hm
   have z5:sl= #[k0,k1,k2,k3,some (.builtin n),k5]:=by
    obtain⟨l⟩:=sl
    exact congrArg Array.mk hs
   subst z3 z4 z5
   exact⟨tl,ns,nm,qn,bs,hdc,sn,sub,ab,col,dd,k0,k1,k2,k3,k5,_,X _ _ ho, .of_isNs (PySem.W.isNs_of_in X hok),PySem.W.nsMap_none_of_in X hok (beq_iff_eq.mp hni),PySem.W.tail_of_in X ht⟩
  all_goals cases q
 all_goals cases q
end L2
namespace L2
open PySem
def kgu:bootBuiltins "ValueError"=some (.type "ValueError"):=by decide +kernel
end L2
namespace L2
open PySem PySem.W PySem.Calls PyProof.Rows Builtin Builtin.ObjectAttr
noncomputable def veL:List Value:=[.type "ValueError", .type "Exception", .type "BaseException", .type "object"]
structure ExcW (K:Frag) (C T:Addr):Prop where
 ob:∃(nm q:Str)(N:Addr)(bs:List Value)(sn:List Str)(sub:List Value)(ab:Bool)(col:Option Bool)(dd:Option Addr)(k0 k1 k2 k3 k5:Option Value),K.lookup C=some (excClassObj nm q C N bs (.ref T::veL) true sn sub ab col dd k0 k1 k2 k3 k5 "ValueError.__new__")
 tt:excIn K T veL "ValueError.__new__"=true
 sa:findIn K (.ref C) "__setattr__"=some (some (.builtin "object.__setattr__"))
def ExcW.cls{K:Frag}{C T:Addr}(W:ExcW K C T):∃cd,clsIn K C=some cd∧cd.mro=.ref C:: .ref T::veL∧cd.hasDict=true:=by
 obtain⟨nm,q,N,bs,sn,sub,ab,col,dd,k0,k1,k2,k3,k5,e⟩:=W.ob
 refine⟨_,by unfold clsIn;rw[e],rfl,rfl⟩
def ExcW.hd{K:Frag}{C T:Addr}(W:ExcW K C T):hasDictIn K C=true:=by
 obtain⟨cd,e1,_,e3⟩:=W.cls
 unfold hasDictIn
 rw[e1]
 exact e3
section
variable {prog:Program} {w:World} {K:Frag} {A:Around} {C T x:Addr} {s:Shared}
theorem kg2{R:Result→Shared→Prop}{ox:Obj}{od:Option Obj}{name:Str}{tk:Tok}{v:Value}(X:K.In s.heap)(I:InstAt s.heap x ox C od)(W:ExcW K C T)(ht:findIn K (.ref C) name=some none)
  (h:wpAny (model prog w) A.in1 (storeInOwnDict (.ref x) (.ref C) (.str name tk) name v false)
   (fun fin s'=>match fin with| .done f=>R (.ok f) s'| .again c'=>c'.quiet=true∧codeAny (model prog w) A c' R s') (fun e s'=>R (.error e) s') s):
  codeAny (model prog w) A (.call (.builtin "object.__setattr__") ⟨[.ref x, .str name tk,v],[]⟩) R s:=by
 have SF:=PySem.F.store_object
 obtain⟨cd,hc,ho,_⟩:=W.cls
 have ne:cd.mro.isEmpty=false:=by rw[ho];rfl
 have sub:Looks (model prog w) s.heap (isInstance (.ref x) (.type "object")) true:=I.type.andThen (looks_mroIn X (by unfold mroIn;rw[hc,Option.bind_some,if_neg (by rw[ne];decide),ho];rfl))
 refine codeAny_call_builtin SF.slot.plain SF.entry (@check_slot (model prog w) _ _ s "object.__setattr__" "object" "__setattr__" (.ref x) [.str name tk,v] [] _ SF.kind SF.split sub (SF.args (.ref x) (.str name tk) v) ?_)
 have hm:Looks (model prog w) s.heap (mroOf (.ref C)) cd.mro:=(looks_clsIn X hc).andThen .now
 rw[osa_eq,refuse_eq]
 refine wpAny_bind (wpAny_bind (I.type.here (wpAny_bind (hm.here ?_))))
 rw[ho,refuseLoop_ref,refuseLoop_ref,show refuseLoop (.ref x) "__setattr__" veL=pure () from PySem.F.store_ValueError.passes (.ref x)]
 refine wpAny_pure (wpAny_bind (I.type.here (wpAny_bind ((looks_findIn X ht).here (wpAny_bind ((show Looks (model prog w) s.heap (storeTaker? none) none from .now).here ?_))))))
 exact h
theorem kjO{E:Value→Shared→Prop}{ns:List Str}{Q:Unit→Shared→Prop}{dx:Addr}{mA:Str→Option Value}{name:Str}{v:Value}{dt:Data}{sl:Array (Option Value)}(X:K.In s.heap)(W:ExcW K C T)(hx:s.heap.get? x=some ⟨.ref C,some dx,dt,sl⟩)(hnc:notCls ⟨.ref C,some dx,dt,sl⟩=true)(n:s.heap.Ns1 dx mA)(ht:findIn K (.ref C) name=some none)
  (hw:PySem.Within mA ns) (hsz:ns.length≤sizeLine)
  (h:∀h',h'.Ns1 dx (fun y=>if y=name then some v else mA y)→Heap.SameBut dx s.heap h'→Q () {s with heap:=h',toks:=s.toks+2}):
  wpAny (model prog w) A (setAttr (.ref x) name v) Q E s:=by
 obtain⟨od,ho,_⟩:=keu n
 have J:InstAt s.heap x ⟨.ref C,some dx,dt,sl⟩ C (some od):=⟨hx,rfl,hnc,ho⟩
 refine set_plain X J W.sa (kg2 (s:={s with toks:=s.toks+1}) X J W ht ?_)
 obtain⟨cd,hc,_,hd'⟩:=W.cls
 refine wpAny_bind (wpAny_pure (wpAny_bind (wpAny_bind (wpAny_loadPart hx (wpAny_bind (Looks.here (s:={s with toks:=s.toks+1}) (looks_clsIn X hc) ?_))))))
 rw[hd']
 refine wpAny_pure (a:=some dx) (wpAny_bind (wpAny_pure (wpAny_bind ?_)))
 refine wpAny_nsSet1 (s:={s with toks:=s.toks+1}) n fun h' hn2 hs2=>?_
 obtain⟨oD,esD,epD,hoD,hdD,hcD⟩:=hn2.count (PySem.Within.cons name v hw)
 refine wpAny_bind (wpAny_lookBehind hoD (by rw[hdD];exact pastItsLine_dict (J5 hcD (by rw[NM];omega))) ?_)
 exact wpAny_pure (h _ hn2 hs2)
theorem kjP{E:Value→Shared→Prop}{Q:Unit→Shared→Prop}{name:Str}{v:Value}{vs:Array Value}{sl:Array (Option Value)}(X:K.In s.heap)(W:ExcW K C T)(hx:s.heap.get? x=some ⟨.ref C,none, .fields vs,sl⟩)(ht:findIn K (.ref C) name=some none)
  (h:∀h',h'.Ns1 s.heap.objs.size (fun y=>if y=name then some v else none)→(∀b o,b≠x→s.heap.get? b=some o→h'.get? b=some o)→h'.get? x=some ⟨.ref C,some s.heap.objs.size, .fields vs,sl⟩→Q () {s with heap:=h',toks:=s.toks+2}):
  wpAny (model prog w) A (setAttr (.ref x) name v) Q E s:=by
 have J:InstAt s.heap x ⟨.ref C,none, .fields vs,sl⟩ C none:=⟨hx,rfl,rfl,trivial⟩
 refine set_plain X J W.sa (kg2 (s:={s with toks:=s.toks+1}) X J W ht ?_)
 obtain⟨cd,hc,_,hd'⟩:=W.cls
 have hxs:x≠s.heap.objs.size:=Nr (Heap.lt_size hx)
 have hx₁:(s.heap.push {cls:=.type "dict",data:=.dict #[]}).get? x=some ⟨.ref C,none, .fields vs,sl⟩:=Heap.get?_push_of_some _ hx
 refine wpAny_bind (wpAny_pure (wpAny_bind (wpAny_bind (wpAny_loadPart hx (wpAny_bind (Looks.here (s:={s with toks:=s.toks+1}) (looks_clsIn X hc) ?_))))))
 rw[hd']
 refine wpAny_bind (wpAny_alloc' ?_)
 refine wpAny_bind (wpAny_update' hx₁ ?_)
 refine wpAny_pure ?_
 have hgd:((s.heap.push {cls:=.type "dict",data:=.dict #[]}).update x fun o=>{cls:=o.cls,dict:=some s.heap.objs.size,data:=o.data,slots:=o.slots}).get? s.heap.objs.size
   =some {cls:=.type "dict",data:=.dict #[]}:=
  (Heap.get?_update_ne _ _ _ _ hxs.symm).trans (Heap.get?_push_at rfl rfl)
 have hnd:((s.heap.push {cls:=.type "dict",data:=.dict #[]}).update x fun o=>{cls:=o.cls,dict:=some s.heap.objs.size,data:=o.data,slots:=o.slots}).Ns s.heap.objs.size (fun _=>none):=
  ⟨_,#[],_,hgd,rfl,fun e he=>absurd he (by simp),fun _=>rfl⟩
 show wpAny _ _ (storeInDict s.heap.objs.size (.str name _) name v) _ _ _
 unfold storeInDict newKeyGuard
 refine wpAny_bind (wpAny_pure (wpAny_bind (wpAny_nsSet1 (Heap.Ns1.of_empty hnd) fun h' hn' hs=>?_)))
 obtain⟨oD,esD,epD,hoD,hdD,hcD⟩:=hn'.count (Within.cons name v Within.nil)
 refine wpAny_bind (wpAny_lookBehind hoD (by rw[hdD];exact pastItsLine_dict (J5 hcD (by rw[NM,List.length_nil,sizeLine_eq];omega))) ?_)
 have hx':h'.get? x=some ⟨.ref C,some s.heap.objs.size, .fields vs,sl⟩:=(hs.2 x hxs).trans (Heap.get?_update_self _ hx₁ rfl)
 exact wpAny_pure (h _ hn' (fun b o nb e=>(hs.2 b (Nr (Heap.lt_size e))).trans ((Heap.get?_update_ne _ _ _ _ nb).trans (Heap.get?_push_of_some _ e))) hx')
end
end L2
namespace L2
open PySem PySem.W PySem.Calls PyProof.Rows Builtin Builtin.ObjectAttr
section
variable {prog:Program} {w:World} {K:Frag} {A:Around} {E:Value→Shared→Prop} {h:Heap} {g:Array GenState} {d:Drawn} {t:Nat} {os:OsState} {a C T:Addr} {o:Obj} {od:Option Obj} {name:Str} {v:Value}
theorem kjQ{tk:Tok}{Q:Fin→Shared→Prop}(X:K.In h)(I:InstAt h a o C od)(hf:findObj K C od name=some (.value v))(hq:Q (.done (.ret v)) ⟨h,g,d,t,os⟩):wpAny (model prog w) A (Builtin.«object.__getattribute__» ⟨[.ref a, .str name tk],[]⟩) Q E ⟨h,g,d,t,os⟩:=by
 have L0:=I.type (M:=model prog w)
 have L1:=looks_find (M:=model prog w) X I hf
 refine wpAny_bind (wpAny_pure (wpAny_bind (wpAny_pure (wpAny_bind (L0.at (wpAny_bind (L1.at ?_)))))))
 exact wpAny_pure hq
theorem kld{tk:Tok}{R:Result→Shared→Prop}(X:K.In h)(Z:ExcK K C)(I:InstAt h a o C od)(hf:findObj K C od name=some (.value v))(hq:R (.ok (.ret v)) ⟨h,g,d,t,os⟩):codeAny (model prog w) A (.call (.builtin "BaseException.__getattribute__") ⟨[.ref a, .str name tk],[]⟩) R ⟨h,g,d,t,os⟩:=
 codeAny_call_builtin M4.ga.plain E3 (kgl X Z I.at_ I.cls (kjQ X I hf hq))
theorem xg_by{tk:Tok}{fill expr:Bool}{Q:Value→Shared→Prop}(X:K.In h)(Z:ExcK K C)(I:InstAt h a o C od)(hf:findObj K C od name=some (.value v))(hh:handedIn v=true)(hq:Q v ⟨h,g,d,t,os⟩):wpAny (model prog w) A (getAttrBy (.ref a) (.str name tk) fill expr) Q E ⟨h,g,d,t,os⟩:=by
 have hx:=I.at_
 have hc:=I.cls
 have f3:=M4.ga.bind (.ref a)
 have hx0:(expr&&onTheHeap (Value.builtin "BaseException.__getattribute__"))=false:=by cases expr <;> rfl
 have hx2:(Value.builtin "BaseException.__getattribute__" ==Value.builtin "object.__getattribute__")=false:=by decide +kernel
 have hx1:(onTheHeap (Value.ref C)&&Value.builtin "BaseException.__getattribute__" ==Value.builtin "object.__getattribute__")=false:=by rw[hx2];rfl
 have f9:=handedOut_of hh
 have lk1:∀{A:Around}{E:Value→Shared→Prop}{Q:Option Value→Shared→Prop}{t:Nat},Q (some (.builtin "BaseException.__getattribute__")) ⟨h,g,d,t,os⟩→wpAny (model prog w) A (typeLookup (.ref C) "__getattribute__") Q E ⟨h,g,d,t,os⟩:=fun q=>(looks_findIn X Z.ga).at q
 have lk2:∀{A:Around}{E:Value→Shared→Prop}{Q:Option Value→Shared→Prop}{t:Nat},Q none ⟨h,g,d,t,os⟩→wpAny (model prog w) A (typeLookup (.ref C) "__getattr__") Q E ⟨h,g,d,t,os⟩:=fun q=>(looks_findIn X Z.no).at q
 repeat (any_goals (first|assumption|(with_reducible refine wpAny_loadPart_at hx ?_;rw[hc])|with_reducible refine lk1 ?_|with_reducible refine lk2 ?_|wp_step))
 refine kld X Z I hf ?_
 repeat (any_goals (first|assumption|wp_step))
theorem xget{expr:Bool}{Q:Value→Shared→Prop}(X:K.In h)(Z:ExcK K C)(I:InstAt h a o C od)(hf:findObj K C od name=some (.value v))(hh:handedIn v=true)(hq:Q v ⟨h,g,d,t+1,os⟩):wpAny (model prog w) A (getAttr (.ref a) name expr) Q E ⟨h,g,d,t,os⟩:=by
 unfold getAttr
 exact wpAny_bind (wpAny_mkText (xg_by X Z I hf hh hq))
theorem xc_in{rest:List Value}{fI:Addr}{Q:Fin→Shared→Prop}(X:K.In h)(W:ExcW K C T)(hi:findIn K (.ref C) "__init__"=some (some (.ref fI)))(hf:typeIn K (.ref fI)=some (.type "function"))(hrest:rest.length≤sizeLine)
  (hq:wpAny (model prog w) A (call (.ref fI) (.ref (h.objs.size+1)::rest)) (fun r s'=>r=.none∧Q (.done (.ret (.ref (h.objs.size+1)))) s') E ⟨(h.push {cls:=.type "tuple",data:=.seq rest.toArray}).push {cls:=.ref C,data:=.fields #[.ref h.objs.size, .none, .none, .none, .bool false, .none]},g,d,t,os⟩):
  wpAny (model prog w) A (Builtin.«type.__call__» ⟨.ref C::rest,[]⟩) Q E ⟨h,g,d,t,os⟩:=by
 have F:=PySem.F.excBase_ValueError
 obtain⟨nm,q,N,bs,sn,sub,ab,col,dd,k0,k1,k2,k3,k5,eC⟩:=W.ob
 have hC:=X _ _ eC
 obtain⟨tl,N2,nm2,q2,bs2,hdct2,sn2,sub2,ab2,col2,dd2,j0,j1,j2,j3,j5,mN2,hC2,hN2,hni2,T2⟩:=(kmj (x:="x") (mg:=fun _=>some (.ref T)) X rfl W.tt).obj
 have OT:OwnTail h veL (.ref T::veL):=.own hC2 hN2 hni2 .base
 repeat (first|with_reducible refine wpAny_loadPart_at hC ?_|with_reducible refine wpAny_madeBy_exc hC ?_|wp_step)
 refine codeAny_call_builtin_code (Code.quiet_builtin _ F.quiet) (wpAny_check_new_subT F OT hC ?_)
 refine codeAny_exc_new_subT F OT hC ?_ hrest
 show wpAny _ _ _ _ _ _
 have X1:K.In ((h.push {cls:=.type "tuple",data:=.seq rest.toArray}).push {cls:=.ref C,data:=.fields #[.ref h.objs.size, .none, .none, .none, .bool false, .none]}):=fun b o e=>Heap.get?_push_of_some _ (Heap.get?_push_of_some _ (X b o e))
 have hC₁:=X1 _ _ eC
 have hget:((h.push {cls:=.type "tuple",data:=.seq rest.toArray}).push
   {cls:=.ref C,data:=.fields #[.ref h.objs.size, .none, .none, .none, .bool false, .none]}).get? (h.objs.size+1)=some
   {cls:=.ref C,data:=.fields #[.ref h.objs.size, .none, .none, .none, .bool false, .none]}:=by heap_get
 have hcC:(Value.ref C:: .ref T::veL).contains (.ref C)=true:=by simp
 unfold isInstance
 repeat (first|with_reducible refine wpAny_loadPart_at hget ?_|(with_reducible refine wpAny_isSubtype_exc hC₁ ?_;rw[hcC])|wp_step)
 show wpAny _ _ (typeLookup (.ref C) _) _ _ _
 refine(looks_findIn X1 hi).at ?_
 refine wpAny_holding (wpAny_bind ?_)
 refine(bind_fn X1 (.ref (h.objs.size+1)) hf).at ?_
 refine wpAny_bind (wpAny_mono hq (fun r s' hr=>?_) fun _ _ x=>x)
 obtain⟨rfl,hQ⟩:=hr
 wp_walk
 exact hQ
theorem klg{rest:List Value}{fI:Addr}{Q:Value→Shared→Prop}(X:K.In h)(W:ExcW K C T)(hi:findIn K (.ref C) "__init__"=some (some (.ref fI)))(hf:typeIn K (.ref fI)=some (.type "function"))(hrest:rest.length≤sizeLine)
  (hq:wpAny (model prog w) (A.under (.builtin "type.__call__" ⟨.ref C::rest,[]⟩)) (call (.ref fI) (.ref (h.objs.size+1)::rest)) (fun r s'=>r=.none∧Q (.ref (h.objs.size+1)) s') E ⟨(h.push {cls:=.type "tuple",data:=.seq rest.toArray}).push {cls:=.ref C,data:=.fields #[.ref h.objs.size, .none, .none, .none, .bool false, .none]},g,d,t,os⟩):
  wpAny (model prog w) A (call (.ref C) rest) Q E ⟨h,g,d,t,os⟩:=by
 obtain⟨nm,q,N,bs,sn,sub,ab,col,dd,k0,k1,k2,k3,k5,eC⟩:=W.ob
 have hC:=X _ _ eC
 have f1:=tc_lookup
 have f2:=tc_bind (.ref C)
 have hT:(⟨h,g,d,t,os⟩:Shared).TypeIs (.ref C) "type":=⟨_,hC,rfl⟩
 refine wpAny_call (codeAny_of_tree ?_)
 show wpAny _ _ (callAny (.ref C) _) _ _ _
 repeat (any_goals (first|assumption|with_reducible refine wpAny_loadPart_at hC ?_|wp_step))
 refine⟨rfl,?_⟩
 exact codeAny_call_builtin_at (Code.quiet_builtin _ (by decide +kernel)) entry_typeCall (wpAny_check_type_call_sub hC (xc_in X W hi hf hrest hq))
end
end L2
namespace L2
open PySem PySem.Spec PyProof.Rows
noncomputable def ExcN(a:Addr)(cls:Value)(dx:Option Addr):HO:=.ext fun h=>∃oe vs,h.get? a=some oe∧oe.cls=cls∧oe.dict=dx∧oe.data=.fields vs∧vs[1]?=some .none
noncomputable def XdO(d:Addr)(fs:List (Str×V)):HO:=.ext fun h=>∃mA,h.Ns1 d mA∧(∀f,RelO (fs.lookup f) (mA f))∧PySem.Within mA (fs.map (·.1))
section
variable {P:Program} {w:World} {H:Hp} {h:Heap} {a d:Addr}
theorem kjy{oe:Obj}{vs:Array Value}(e:h.get? a=some oe)(hd:oe.data=.fields vs)(h1:vs[1]?=some .none):ObjOk P w H h a (ExcN a oe.cls oe.dict):=
 ⟨⟨oe,vs,e,rfl,rfl,hd,h1⟩,⟨oe,e⟩,fun _ _ ⟨o,v,z1,z2⟩ k=>⟨o,v,k o z1,z2⟩⟩
theorem kkF{fs:List (Str×V)}{mA:Str→Option Value}(n:h.Ns1 d mA)(r:∀f,RelO (fs.lookup f) (mA f))(wi:PySem.Within mA (fs.map (·.1))):ObjOk P w H h d (XdO d fs):=
 ⟨⟨mA,n,r,wi⟩,let⟨o,_,_,e,_⟩:=n;⟨o,e⟩,fun _ _ ⟨m,z1,z2⟩ k=>⟨m,z1.at k,z2⟩⟩
end
noncomputable def untX(a:Addr)(H:Hp):Hp:=fun b=>if b=a then none else H b
def kfL{a:Addr}{H:Hp}:untX a H a=none:=by unfold untX;rw[if_pos rfl]
def kcu{a b:Addr}{H:Hp}(h:b≠a):untX a H b=H b:=by unfold untX;rw[if_neg h]
section
variable {X:Cx} {k:Nat} {f C T:Addr} {fd:FuncData} {ps:List Str} {sp:Sp} {dvs:List V} {ds:List Value} {x m:Str} {p pos apos pos':Pos} {e o value:Expr} {es:List Expr} {ta tv:TE} {t:TA} {CX:CXT} {E:XK}
theorem kiK{pins:List (Addr×Obj)}{σ:St}{H:Hp}{s:Shared}{Q:VK}{us:List Value}{vs:List V}(W:ExcW X.K C T)(hi:J0 X.K (.ref C) "__init__"=some (some (.ref f)))(fn:NL X.K (.ref f)=true)(F:FnOk X.prog X.w X.K X.mg X.base CX k f fd ps sp)(hr:Room (k+1) X.A)(hb:Binds X.K fd ps ds)(hd:Vals dvs ds)
  (hx:kct CX X E) (I:Inv X pins σ H s) (r:Vals vs us) (hps:ps.length≤1000)
  (h:∀x,H x=none→sp (.ref x::(vs++dvs)) (upd H x (ExcN x (.ref C) none)) (fun v H2=>v=.non∧Q (.ref x) H2) E):
  wpAny (model X.prog X.w) X.A (call (.ref C) us) (EP X pins σ Q) X.xe s:=by
 have hq:=h (s.heap.objs.size+1) (I.hok.fresh (N8 _))
 have e2:((s.heap.push {cls:=.type "tuple",data:=.seq us.toArray}).push {cls:=.ref C,data:=.fields #[.ref s.heap.objs.size, .none, .none, .none, .bool false, .none]}).get? (s.heap.objs.size+1)=some {cls:=.ref C,data:=.fields #[.ref s.heap.objs.size, .none, .none, .none, .bool false, .none]}:=by
  have:=Heap.get?_push_size (s.heap.push {cls:=.type "tuple",data:=.seq us.toArray}) (o:={cls:=.ref C,data:=.fields #[.ref s.heap.objs.size, .none, .none, .none, .bool false, .none]}) rfl
  rwa [Heap.size_push] at this
 have I2:=I.laid (a:=s.heap.objs.size+1) (o:=ExcN (s.heap.objs.size+1) (.ref C) none) (h':=(s.heap.push {cls:=.type "tuple",data:=.seq us.toArray}).push {cls:=.ref C,data:=.fields #[.ref s.heap.objs.size, .none, .none, .none, .bool false, .none]}) (t':=s.toks) (fun b u q=>Heap.get?_push_of_some _ (Heap.get?_push_of_some _ q)) (N8 _) (kjy e2 rfl rfl)
 have r2:Vals (V.ref (s.heap.objs.size+1)::(vs++dvs)) (Value.ref (s.heap.objs.size+1)::(us++ds)):=.cons rfl (r.append hd)
 have hl:(Value.ref (s.heap.objs.size+1)::us++ds).length=ps.length:=by
  have e:=r2.length
  rw[F.len _ _ _ _ hq] at e
  exact e.symm
 have hus:us.length≤sizeLine:=by
  rw[sizeLine_eq]
  simp only[M1,NM,Np] at hl
  omega
 obtain⟨hh,g,dr,tk,os⟩:=s
 refine klg I.kIn W hi (beq_iff_eq.mp fn) hus ?_
 refine wpAny_call (codeAny_mono (F.run _ X.stack _ _ ⟨Value.ref (hh.objs.size+1)::us,[]⟩ (Value.ref (hh.objs.size+1)::(us++ds)) _ _ E (hr.make C us [])
  (I2.env0.make C us []) (hb _ (Value.ref (hh.objs.size+1)::us) I2.kIn hl) r2 hq) fun r s' hq'=>?_)
 cases r with
 |error e=>exact hx pins σ _ _ e s' I2 hq'
 | ok fl=>
  cases fl with
  |ret u=>
   obtain⟨v,H',I3,rv,ev,q3⟩:=I2.after hq'
   subst ev
   exact⟨rv,⟨V.ref (hh.objs.size+1),H',I3,rfl,q3⟩⟩
  |next=>exact False.elim hq'
  |brk=>exact False.elim hq'
  |cont=>exact False.elim hq'
noncomputable def kl2(C:Addr)(sp:Sp)(dvs:List V)(E:XK)(t:TA):TE:=fun σ H Q=>t σ H fun vs H1=>∀x,H1 x=none→sp (.ref x::(vs++dvs)) (upd H1 x (ExcN x (.ref C) none)) (fun v H2=>v=.non∧Q (.ref x) H2) E
theorem kjZ(W:ExcW X.K C T)(kp:Ni X.K (.ref C)=true)(hi:J0 X.K (.ref C) "__init__"=some (some (.ref f)))(fn:NL X.K (.ref f)=true)(F:FnOk X.prog X.w X.K X.mg X.base CX k f fd ps sp)(hr:Room (k+1) X.A)(hg:Gl X x)(hm:X.mg x=some (.ref C))(hb:Binds X.K fd ps ds)(hd:Vals dvs ds)(hx:kct CX X E)
  (ha:PA X (e::es) t) (hps:ps.length≤1000:=by decide) (hdb:(x==("__debug__" :Str))=false:=by decide) (he:starEach (e::es) X.env=(false,eval e X.env)::starEach es X.env:=by rfl) (hpl:(backTo pos (starEach es X.env)).any (·.1)=false:=by rfl):
  PE X (.Call (.Name x p) (e::es) [] pos) (kl2 C sp dvs E t):=by
 intro pins s σ H Q I h
 refine wpAny_Call_Name_kw (kc7 I hg hm ?_ hdb)
 refine Mv (h₀:=X.base) I.ok.mod.kin kp (thn (ha pos pins s σ H _ I h) fun us s1 ⟨vs,H1,I1,r,q⟩=>⟨I1.kIn,?_⟩) he hpl
 exact kiK W hi fn F hr hb hd hx I1 r hps q
noncomputable def sFldX(K:JZ)(ta tv:TE)(f:Str):TS:=fun D σ H=>tv σ H fun y H1=>ta σ H1 fun x H2=>∃(a C T:Addr),x=.ref a∧ExcW K C T∧NoAttr K C f∧
  ((H2 a=some (ExcN a (.ref C) none)∧∀d,H2 d=none→d≠a→D.nx σ (upd (upd H2 d (XdO d [(f,y)])) a (ExcN a (.ref C) (some d))))∨
   ∃d fs,H2 a=some (ExcN a (.ref C) (some d))∧H2 d=some (XdO d fs)∧fs.length<1000∧D.nx σ (upd H2 d (XdO d (putF f y fs))))
theorem khN{pins:List (Addr×Obj)}{σ:St}{H:Hp}{s:Shared}{a:Addr}{fl:Str}{y:V}{u:Value}{Q:Unit→Shared→Prop}{A:Around}{E:Value→Shared→Prop}(I:Inv X pins σ H s)(W:ExcW X.K C T)(n:NoAttr X.K C fl)(ea:H a=some (ExcN a (.ref C) none))(ry:RelV y u)
  (h:∀d s',H d=none→d≠a→Inv X pins σ (upd (upd H d (XdO d [(fl,y)])) a (ExcN a (.ref C) (some d))) s'→Q () s'):wpAny (model X.prog X.w) A (setAttr (.ref a) fl u) Q E s:=by
 obtain⟨⟨oe,vs,h1,h2,h3,h4,h5⟩,_⟩:=(show ObjOk X.prog X.w H s.heap a (ExcN a (.ref C) none) from I.hok a _ ea)
 obtain⟨oc,odi,oda,osl⟩:=oe
 dsimp only at h2 h3 h4
 subst h2 h3 h4
 refine kjP I.kIn W h1 n fun h' hn hk hx=>?_
 have lt:=Heap.lt_size h1
 have nd:s.heap.objs.size≠a:=NQ lt
 have eN:H s.heap.objs.size=none:=I.hok.fresh (J4 _)
 refine h s.heap.objs.size _ eN nd ?_
 have g1:(h'.update a fun _=>⟨.ref C,none, .fields vs,osl⟩).get? a=some ⟨.ref C,none, .fields vs,osl⟩:=Heap.get?_update_self _ hx rfl
 have g2:∀b,b≠a→(h'.update a fun _=>⟨.ref C,none, .fields vs,osl⟩).get? b=h'.get? b:=fun b nb=>Heap.get?_update_ne _ _ _ _ nb
 have hn1:(h'.update a fun _=>⟨.ref C,none, .fields vs,osl⟩).Ns1 s.heap.objs.size (fun z=>if z=fl then some u else none):=hn.at fun o q=>(g2 _ nd).trans q
 have I1:=I.laid (a:=s.heap.objs.size) (o:=XdO s.heap.objs.size [(fl,y)]) (h':=h'.update a fun _=>⟨.ref C,none, .fields vs,osl⟩) (t':=s.toks+2) (fun b ob q=>by
  by_cases z:b=a
  ·rw[z] at q⊢
   rw[h1] at q
   cases q
   exact g1
  ·exact(g2 b z).trans (hk b ob z q)) (J4 _) (kkF hn1 (fun z=>by
   by_cases q:z=fl
   ·rw[if_pos q,q,ND,beq_self_eq_true]
    exact ry
   ·rw[if_neg q,ND,show(z==fl)=false from beq_eq_false_iff_ne.mpr q]
    exact True.intro) (fun z hz=>by
   by_cases q:z=fl
   ·rw[q]
    exact Nz ..
   ·exact absurd (if_neg q) hz))
 have em:upd H s.heap.objs.size (XdO s.heap.objs.size [(fl,y)]) a=some (ExcN a (.ref C) none):=(kaj (Ne.symm nd)).trans ea
 exact I1.write (x:=a) (e:=a) (h':=h') (t':=s.toks+2) (by rw[em];exact True.intro) (.inl rfl) (fun b ob nb q=>by rw[←g2 b nb];exact q) ⟨_,hx⟩ (kjy hx rfl h5)
theorem khM{pins:List (Addr×Obj)}{σ:St}{H:Hp}{s:Shared}{a d:Addr}{fl:Str}{fs:List (Str×V)}{y:V}{u:Value}{Q:Unit→Shared→Prop}{A:Around}{E:Value→Shared→Prop}(I:Inv X pins σ H s)(W:ExcW X.K C T)(n:NoAttr X.K C fl)(ea:H a=some (ExcN a (.ref C) (some d)))(ed:H d=some (XdO d fs))(hl:fs.length<1000)(ry:RelV y u)
  (h:∀s',Inv X pins σ (upd H d (XdO d (putF fl y fs))) s'→Q () s'):wpAny (model X.prog X.w) A (setAttr (.ref a) fl u) Q E s:=by
 obtain⟨⟨oe,vs,h1,h2,h3,h4,h5⟩,_⟩:=(show ObjOk X.prog X.w H s.heap a (ExcN a (.ref C) (some d)) from I.hok a _ ea)
 obtain⟨⟨mA,hn,r,wi⟩,_⟩:=(show ObjOk X.prog X.w H s.heap d (XdO d fs) from I.hok d _ ed)
 obtain⟨oc,odi,oda,osl⟩:=oe
 dsimp only at h2 h3 h4
 subst h2 h3 h4
 have hz:(fs.map (·.1)).length≤sizeLine:=by rw[JY,sizeLine_eq];omega
 refine kjO I.kIn W h1 rfl hn n wi hz fun h' hn' sb=>h _ ?_
 refine I.write (x:=d) (e:=d) (by rw[ed];exact True.intro) (.inl rfl) (fun b q hb z=>(sb.2 b hb).trans z) (let⟨o,_,_,e',_⟩:=hn';⟨o,e'⟩) (kkF hn' (fun g=>?_) fun g hg=>?_)
 ·show RelO ((putF fl y fs).lookup g) (if g=fl then some u else mA g)
  rw[kab]
  by_cases q:g=fl
  ·rw[if_pos q,if_pos q];exact ry
  ·rw[if_neg q,if_neg q];exact r g
 ·by_cases q:g=fl
  ·rw[q];exact(kcK fl y fs).1
  ·refine(kcK fl y fs).2 g (wi g fun z=>hg ?_)
   show(if g=fl then some u else mA g)=none
   rw[if_neg q];exact z
theorem kiS{fl:Str}(ha:PE X o ta)(hv:PE X value tv)(hs:swapsWith value (some (.Attribute o fl pos')) pos.line X.env=pure false):PS X (.Assign [.Attribute o fl pos'] value pos) (sFldX X.K ta tv fl):=by
 intro pins s σ H D I h
 refine plainObj_wpAny_Assign_Attribute (thn (hv pins s σ H _ I h) fun u s1 ⟨y,H1,I1,ry,q⟩=>thn (ha pins s1 σ H1 _ I1 q) fun ov s2 ⟨x,H2,I2,rx,a,C,T,ex,W,n,q2⟩=>?_) hs
 subst ex
 obtain rfl:ov=Value.ref a:=rx
 rcases q2 with⟨ea,q3⟩|⟨d,fs,ea,ed,hl,q3⟩
 ·exact khN I2 W n ea ry fun d s3 h1 h2 I3=>⟨σ,_,I3,q3 d h1 h2⟩
 ·exact khM I2 W n ea ed hl ry fun s3 I3=>⟨σ,_,I3,q3⟩
noncomputable def tFldX(K:JZ)(ta:TE)(f:Str):TE:=fun σ H Q=>ta σ H fun x H1=>∃(a C T d:Addr)(fs:List (Str×V))(v:V),x=.ref a∧H1 a=some (ExcO a (.ref C) (some d))∧H1 d=some (XdO d fs)∧ExcK K C∧ExcW K C T∧NoAttr K C f∧fs.lookup f=some v∧Q v H1
theorem kgO{fl:Str}(he:PE X e ta)(hb:attributeBase e fl X.env (eval e X.env)=eval e X.env):PE X (.Attribute e fl pos) (tFldX X.K ta fl):=by
 intro pins s σ H Q I h
 refine kjI hb (thn (he pins s σ H _ I h) fun u s1 ⟨x,H1,I1,rx,a,C,T,d,fs,v,ex,ea,ed,Z,W,n,l,q⟩=>?_)
 subst ex
 obtain rfl:u=Value.ref a:=rx
 obtain⟨⟨oe,vs,h1,h2,h3,h4⟩,_⟩:=(show ObjOk X.prog X.w H1 s1.heap a (ExcO a (.ref C) (some d)) from I1.hok a _ ea)
 obtain⟨⟨mA,hn,r,wi⟩,_⟩:=(show ObjOk X.prog X.w H1 s1.heap d (XdO d fs) from I1.hok d _ ed)
 obtain⟨od,ho,hl⟩:=keu hn
 have J:Ek s1.heap a oe C (some od):=⟨h1,h2,by unfold EG;rw[h4],by rw[h3];exact ho⟩
 obtain⟨u,hu,ru⟩:=RelO.some_of (v:=v) (o:=mA fl) (by rw[←l];exact r fl)
 obtain⟨hh,g,dr,tk,os⟩:=s1
 exact xget I1.kIn Z J (ES W.hd n rfl (by rw[hl,hu])) (kgj ru) ⟨v,H1,I1.tok _,ru,q⟩
end
end L2
namespace L2
open PySem PySem.Spec PyProof.Rows
theorem Inv.untX{X:Cx}{pins:List (Addr×Obj)}{σ:St}{H:Hp}{s:Shared}{a:Addr}{φ:Heap→Prop}(I:Inv X pins σ H s)(ea:H a=some (.ext φ))(h0:X.H₀ a=none):Inv X pins σ (untX a H) s:=by
 have no:∀{b:Addr},H b=none→L2.untX a H b=none:=fun {b} e=>by
  unfold L2.untX
  split
  ·rfl
  ·exact e
 have na:∀{b:Addr}{u:HO},X.H₀ b=some u→b≠a:=fun {b u} e=>kai e h0
 refine⟨I.ok,I.os,I.bare,⟨I.base.keep,I.base.slot,fun b o e n hx=>no (I.base.free b o e n hx),I.base.there,fun b xs e=>(kcu (na e)).trans (I.base.tups b xs e),fun b o u e=>(kcu (na e)).trans (I.base.frzs b o u e),fun b ps e=>?_⟩,I.loc,I.cell,no I.free,fun x c e=>no (I.freeC x c e),fun p hp=>?_,fun b u e=>?_,I.len⟩
 ·obtain⟨m,q⟩:=I.base.tbls b ps e
  exact⟨m,(kcu (na e)).trans q⟩
 ·obtain⟨h1,h2,h3⟩:=I.pin p hp
  exact⟨h1,no h2,h3⟩
 ·have nb:b≠a:=fun z=>by
   rw[z,kfL] at e
   cases e
  rw[kcu nb] at e
  refine(I.hok b u e).stay (fun _ _ _ q=>q) (fun d r=>?_) fun d xs r=>?_
  ·rw[kcu (ne_of r ea (fun z=>nomatch z))]
   exact r
  ·rw[kcu (ne_of r ea (fun z=>nomatch z))]
   exact r
noncomputable def RzV(X:Cx)(EX:XK):Prop:=∀(pins:List (Addr×Obj))(σ:St)(H:Hp)(s:Shared)(e:Addr)(oe:Obj)(vs:Array Value),Inv X pins σ H s→X.s₀.heap.get? e=none→H e=none→s.heap.get? e=some oe→oe.data=.fields vs→vs[1]?=some .none→EX oe.cls oe.dict H→X.xe (.ref e) s
def kl6{P:Program}{w:World}{K:JZ}{mg:Str→Option Value}{base:Heap}{N:List Str}{qual:Str}{scope:Scope}{f:Addr}{cd:Value}{A:Around}{outer:List Env}{s₀:Shared}{H₀:Hp}{E:XK}:RzV (cxOf (CX1 P w) P w K mg base N qual scope f cd A outer s₀ H₀ E) E:=by
 intro pins σ H s e oe vs I he0 hHe he hd h1n hE
 have hsz:1<vs.size:=(Ma.mp h1n).1
 refine keR (s:=s) I.ok.frames (base:=base) I.stack rfl he hd h1n fun h' T x=>?_
 have hT0:s₀.heap.get? T=none:=by
  cases q:s₀.heap.get? T with
  |none=>rfl
  |some o=>
   obtain⟨o',z⟩:=I.base.there T o q (by intro z;cases z)
   rw[x.new] at z
   cases z
 refine⟨e,T,oe.cls,oe.dict,H,rfl,I.os,I.bare,I.base.ex (fs:=[]) (L:=s₀.heap.objs.size) (env:=PyProof.Rows.envOfC qual scope s₀.heap.objs.size f cd) rfl (J4 _) (fun _ _ q=>q) x he0 (fun b hb=>by cases hb),fun b u q=>?_,he0,hHe,hT0,I.hok.no x.new,x.ext he hd hsz,hE⟩
 have nst:∀{b:Addr}{u:HO},H b=some u→b∉frs (PyProof.Rows.envOfC qual scope s₀.heap.objs.size f cd::outer):=fun {b u} q z=>by
  have:=I.stkFree b z
  rw[q] at this
  cases this
 refine(I.hok b u q).stay (fun c v hc r=>?_) (fun _ r=>r) fun _ _ r=>r
 obtain⟨o,eo⟩:∃o,H c=some o:=by
  rcases hc with rfl|hc
  ·exact⟨u,q⟩
  ·exact⟨_,hc⟩
 exact x.keep c v r (nst eo) (kai eo hHe) (by simp)
noncomputable def klk(K:JZ)(H₀:Hp)(EX:XK)(te:TE):TS:=fun _ σ H=>te σ H fun x H1=>∃(a C T:Addr)(dx:Option Addr),x=.ref a∧ExcW K C T∧H1 a=some (ExcN a (.ref C) dx)∧H₀ a=none∧EX (.ref C) dx (untX a H1)
def kiR{X:Cx}{EX:XK}{e:Expr}{te:TE}{pos:Pos}(he:PE X e te)(hx:RzV X EX)(hex:X.ex=[])(hc:X.calm=true):PS X (.Raise (some e) none pos) (klk X.K X.H₀ EX te):=by
 intro pins s σ H D I h
 rw[arm_exec_Raise]
 simp only[evalOpt,Option.map]
 refine wpAny_bind (wpAny_standAt ?_)
 unfold raiseStmt
 refine wpAny_bind (wpAny_bind (thn (he pins s σ H _ I h) fun v s1 ⟨x,H1,I1,rx,a,C,T,dx,ex,W,ea,h0,q⟩=>wpAny_bind (wpAny_standAt (wpAny_pure ?_))))
 subst ex
 obtain rfl:v=Value.ref a:=rx
 obtain⟨⟨oe,vs,h1,h2,h3,h4,h5⟩,_⟩:=(show ObjOk X.prog X.w H1 s1.heap a (ExcN a (.ref C) dx) from I1.hok a _ ea)
 have s0:X.s₀.heap.get? a=none:=by
  cases z:X.s₀.heap.get? a with
  |none=>rfl
  |some o=>
   have:=I1.base.free a o z h0 (by rw[hex];intro z;cases z)
   rw[ea] at this
   cases this
 have I2:=I1.untX ea h0
 have hE:X.xe (.ref a) s1:=hx pins σ _ s1 a oe vs I2 s0 kfL h1 h4 h5 (by rw[h2,h3];exact q)
 obtain⟨nm,qn,N,bs,sn,sub,ab,col,dd,k0,k1,k2,k3,k5,eC⟩:=W.ob
 have hC:=I1.kIn _ _ eC
 have hcB:(Value.ref C:: .ref T::veL).contains (.type "BaseException")=true:=by unfold veL;simp
 have hh:=I1.ok.hd hc
 clear I2 q I h
 obtain⟨oc,od,odt,osl⟩:=oe
 dsimp only at h2 h3 h4
 subst h2 h3 h4
 have g1:∀{α:Type}{Q: α→Shared→Prop}{f:Value→Sem α},wpAny (model X.prog X.w) X.A (f .none) Q X.xe s1→wpAny (model X.prog X.w) X.A (field (.ref a) 1 >>= f) Q X.xe s1:=fun z=>wpAny_bind (wpAny_field h1 rfl h5 z)
 obtain⟨hp,g,d,tk,os⟩:=s1
 repeat (first|with_reducible refine wpAny_loadPart_at h1 ?_|with_reducible refine wpAny_loadPart_at hC ?_|(with_reducible refine wpAny_isSubtype_exc hC ?_;rw[hcB])|with_reducible refine g1 ?_|with_reducible refine wpAny_field h1 rfl h5 ?_|wp_step)
 exact wpAny_raiseNew_none hh hE
def kkS{X:Cx}{st:Stmt}{t:TS}(h:PS X.nox st t):PS X st t:=fun pins s σ H D I hw=>
 wpAny_mono (h pins s σ H D (I.wish _) hw) (fun _ _ q=>q.unwish) fun _ _ z=>False.elim z
def khS{H H':Hp}(h:∀b u,H b=some u→H' b=some u):Same H H':=fun b o e=>ev_eq (h b o e) fun⟨ps,e1,t,hor⟩=>⟨ps,h _ _ e1,t,fun pos d ed=>let⟨c,r,z⟩:=hor pos d ed;⟨c,r,h _ _ z⟩⟩
end L2
namespace L2
open PySem PySem.Spec PyProof.Rows
def xw_mk{K:JZ}{C T:Addr}{nm q:Str}{N:Addr}{bs:List Value}{sn:List Str}{sub:List Value}{ab:Bool}{col:Option Bool}{dd:Option Addr}{k0 k1 k2 k3 k5:Option Value}(e:K.lookup C=some (excClassObj nm q C N bs (.ref T::veL) true sn sub ab col dd k0 k1 k2 k3 k5 "ValueError.__new__")):∃(nm q:Str)(N:Addr)(bs:List Value)(sn:List Str)(sub:List Value)(ab:Bool)(col:Option Bool)(dd:Option Addr)(k0 k1 k2 k3 k5:Option Value),K.lookup C=some (excClassObj nm q C N bs (.ref T::veL) true sn sub ab col dd k0 k1 k2 k3 k5 "ValueError.__new__"):=⟨nm,q,N,bs,sn,sub,ab,col,dd,k0,k1,k2,k3,k5,e⟩
end L2
namespace War
structure Row where
 kd:Int
 pr:Int
 mn:Int
 ex:Option Int
structure Row.Ok (r:Row):Prop where
 pr0:0≤r.pr
 pr1:r.pr≤1000000000000
 mn0:0≤r.mn
 mn1:r.mn≤60
 ex0:∀z,r.ex=some z→0≤z∧z≤1000000000000
noncomputable def prc(m:Bool)(r:Row):Int:=if m=true then r.ex.getD r.pr else r.pr
noncomputable def own(rs:List Row):List Int:=(rs.zipIdx.map fun p=>J6 p.1.mn.toNat (p.2:Int)).flatten
noncomputable def prs(m:Bool)(rs:List Row):List Int:=(rs.map fun r=>J6 r.mn.toNat (prc m r)).flatten
def kj3(rs:List Row)(r:Row):own (rs++[r])=own rs++J6 r.mn.toNat (rs.length:Int):=by
 unfold own
 rw[List.zipIdx_append,J9,M5]
 simp
def kjX(m:Bool)(rs:List Row)(r:Row):prs m (rs++[r])=prs m rs++J6 r.mn.toNat (prc m r):=by
 unfold prs
 rw[J9,M5]
 simp
theorem kht:∀(rs:List Row)(k:Nat),(∀r∈rs,r.Ok)→((rs.zipIdx k).map fun p=>J6 p.1.mn.toNat (p.2:Int)).flatten.length≤60*rs.length
 |[],_,_=>by simp
 |r::rs,k,h=>by
  have h1:=kht rs (k+1) fun x hx=>h x (Nw _ hx)
  have h2:=(h r Nz).mn1
  rw[EI,Nv,NC,Np,Mj,NM]
  show r.mn.toNat+_≤_
  omega
def ki3(rs:List Row)(h:∀r∈rs,r.Ok):(own rs).length≤60*rs.length:=kht rs 0 h
theorem kiU(m:Bool):∀(rs:List Row),(∀r∈rs,r.Ok)→(prs m rs).length≤60*rs.length
 |[],_=>by simp[prs]
 |r::rs,h=>by
  have h1:=kiU m rs fun x hx=>h x (Nw _ hx)
  have h2:=(h r Nz).mn1
  unfold prs at h1⊢
  rw[Nv,NC,Np,Mj,NM]
  omega
def kkT{m:Bool}{r:Row}(h:r.Ok):0≤prc m r∧prc m r≤1000000000000:=by
 unfold prc
 split
 ·cases e:r.ex with
  |none=>exact⟨h.pr0,h.pr1⟩
  |some z=>exact h.ex0 z e
 ·exact⟨h.pr0,h.pr1⟩
def take_snoc{α:Type}{rs:List α}{i:Nat}{r: α}(h:rs[i]?=some r):rs.take (i+1)=rs.take i++[r]:=by
 rw[Mf,h]
 rfl
end War
namespace Kin
noncomputable def Good(ps:List (Option Nat)):Prop:=∀(i k:Nat),ps[i]?=some (some k)→k<i
noncomputable def anc(ps:List (Option Nat)):Nat→Nat→List Nat
 |0,_=>[]
 |f+1,i=>i::(match ps[i]? with|some (some k)=>anc ps f k|_=>[])
noncomputable def up(ps:List (Option Nat))(i:Nat):List Nat:=anc ps (i+1) i
theorem kkD{ps:List (Option Nat)}(g:Good ps):∀(f f' i:Nat),i<f→i<f'→anc ps f i=anc ps f' i:=by
 intro f
 induction f with
 |zero=>intro f' i h;omega
 | succ f ih=>
  intro f' i h h'
  cases f' with
  |zero=>omega
  | succ f'=>
   show i::_=i::_
   congr 1
   cases e:ps[i]? with
   |none=>rfl
   | some o=>
    cases o with
    |none=>rfl
    |some k=>
     have hk:=g i k e
     exact ih f' k (by omega) (by omega)
def kli{ps:List (Option Nat)}(g:Good ps){i k:Nat}(e:ps[i]?=some (some k)):up ps i=i::up ps k:=by
 have hk:=g i k e
 show i::_=_
 rw[e]
 show i::anc ps i k=i::up ps k
 rw[kkD g i (k+1) k hk (by omega)]
 rfl
def klj{ps:List (Option Nat)}{i:Nat}(e:ps[i]?=some none):up ps i=[i]:=by
 show i::_=_
 rw[e]
noncomputable def rest(ps:List (Option Nat)):Option Nat→List Nat
 |none=>[]
 |some k=>up ps k
noncomputable def left:Option Nat→Nat
 |none=>0
 |some k=>k+1
theorem up_eq{ps:List (Option Nat)}(g:Good ps){i:Nat}{o:Option Nat}(e:ps[i]?=some o):up ps i=i::rest ps o:=by
 cases o with
 |none=>exact klj e
 |some k=>exact kli g e
def kko:Good []:=fun i k e=>by simp at e
def kjs{ps:List (Option Nat)}(g:Good ps){o:Option Nat}(h:∀k,o=some k→k<ps.length):Good (ps++[o]):=by
 intro i k e
 rcases Nat.lt_trichotomy i ps.length with hi|hi|hi
 ·rw[MC hi] at e
  exact g i k e
 ·subst hi
  rw[Mq (J4 _)] at e
  simp at e
  exact h k e
 ·rw[Mq (by omega)] at e
  have:(i-ps.length)≠0:=by omega
  cases q:i-ps.length with
  |zero=>omega
  |succ n=>rw[q] at e;simp at e
end Kin
namespace Kin
end Kin
namespace Deal
noncomputable def pre(ws:List Int)(k:Nat):Int:=(ws.take k).sum
noncomputable def part(c:Int)(ws:List Int)(j:Nat):Int:=c*pre ws (j+1)/ws.sum-c*pre ws j/ws.sum
noncomputable def dl(c:Int)(ws:List Int):List Int:=if ws.sum=0 then ws.map (fun _=>0) else(J8 ws.length).map (part c ws)
def kjY(ws:List Int):pre ws 0=0:=by simp[pre]
def kiV(ws:List Int):pre ws ws.length=ws.sum:=by simp[pre]
def kd3{ws:List Int}{i:Nat}{w:Int}(h:ws[i]?=some w):pre ws (i+1)=pre ws i+w:=by
 unfold pre
 rw[Mf,h]
 simp
def ke3(c:Int)(ws:List Int):(dl c ws).length=ws.length:=by
 unfold dl
 split <;> simp
def dl_at{c:Int}{ws:List Int}(h:¬ws.sum=0){j:Nat}(hj:j<ws.length):(dl c ws)[j]?=some (part c ws j):=by
 unfold dl
 rw[if_neg h]
 simp[hj]
def kjz{c:Int}{ws:List Int}(h:ws.sum=0){j:Nat}(hj:j<ws.length):(dl c ws)[j]?=some 0:=by
 unfold dl
 rw[if_pos h]
 simp[hj]
noncomputable def Nn(ws:List Int):Prop:=∀w∈ws,0≤w
theorem kbT:∀{ws:List Int},Nn ws→0≤ws.sum
 |[],_=>by simp
 |w::ws,h=>by
  have:=kbT (ws:=ws) fun x hx=>h x (Nw _ hx)
  have h1:=h w Nz
  simp
  omega
theorem ki1{c s A w:Int}(hs:0<s)(hc:0≤c)(hcs:c≤s)(hw:0≤w):0≤c*(A+w)/s-c*A/s∧c*(A+w)/s-c*A/s≤w∧
  (c*(A+w)/s-c*A/s)*s-c*w<s∧-s<(c*(A+w)/s-c*A/s)*s-c*w:=by
 have e:c*(A+w)=c*A+c*w:=Int.mul_add ..
 rw[e]
 generalize hx:c*A=x
 have h1:0≤c*w:=Int.mul_nonneg hc hw
 have h2:c*w≤w*s:=by
  rw[Int.mul_comm w s]
  exact Int.mul_le_mul_of_nonneg_right hcs hw
 generalize hy:c*w=y at h1 h2
 have m1:x/s≤(x+y)/s:=Int.ediv_le_ediv hs (by omega)
 have m2:(x+y)/s≤(x+w*s)/s:=Int.ediv_le_ediv hs (by omega)
 rw[Int.add_mul_ediv_right _ _ (by omega)] at m2
 have d1:=Int.emod_add_mul_ediv x s
 have d2:=Int.emod_add_mul_ediv (x+y) s
 have r1:=Int.emod_nonneg x (show s≠0 by omega)
 have r2:=Int.emod_lt_of_pos x hs
 have r3:=Int.emod_nonneg (x+y) (show s≠0 by omega)
 have r4:=Int.emod_lt_of_pos (x+y) hs
 have e3:((x+y)/s-x/s)*s=s*((x+y)/s)-s*(x/s):=by
  rw[Int.sub_mul,Int.mul_comm,Int.mul_comm (x/s)]
 rw[e3]
 refine⟨by omega,by omega,by omega,by omega⟩
end Deal
namespace Vs
open Kin Deal
structure Mks where
 kind:Option Nat
 needs:Int
 most:Option Int
 member:Bool
 once:Bool
 lone:Bool
inductive Srt
 |off (a:Int)
 |share (s:Int) (b:Bool)
 |cheap (n:Int)
 |bund (n p:Int)
 |carr
structure Vch where
 so:Srt
 ms:Mks
structure Stnd where
 ow:List Nat
 pr:List Int
 cg:Int
 mkd:List Bool
noncomputable def kHit(ps:List (Option Nat))(kind:Option Nat)(kd:Nat):Bool:=match kind with
 |none=>true
 |some k=>decide (k∈up ps kd)
noncomputable def hits(ps:List (Option Nat))(kds:List Nat)(kind:Option Nat)(lone:Bool)(mkd:List Bool)(l:Nat):Bool:=
 kHit ps kind (kds.getD l 0)&&(!lone|| !(mkd.getD l false))
noncomputable def abt(ps:List (Option Nat))(kds:List Nat)(kind:Option Nat)(lone:Bool)(S:Stnd):List Nat:=
 (J8 S.ow.length).filter fun i=>hits ps kds kind lone S.mkd (S.ow.getD i 0)
def khL{ps:List (Option Nat)}{kds:List Nat}{kind:Option Nat}{lone:Bool}{S:Stnd}{i:Nat}(h:i∈abt ps kds kind lone S):i<S.ow.length:=by
 have:=(N7.mp h).1
 simpa using this
def kgw(ps:List (Option Nat))(kds:List Nat)(kind:Option Nat)(lone:Bool)(S:Stnd):(abt ps kds kind lone S).Nodup:=Mx.filter _ M6
def keI(ps:List (Option Nat))(kds:List Nat)(kind:Option Nat)(lone:Bool)(S:Stnd):(abt ps kds kind lone S).length≤S.ow.length:=by
 have:=M7 (fun i=>hits ps kds kind lone S.mkd (S.ow.getD i 0)) (J8 S.ow.length)
 simpa[abt] using this
noncomputable def qs(pr:List Int)(is:List Nat):List Int:=is.map fun i=>pr.getD i 0
def kbU(pr:List Int)(is:List Nat):(qs pr is).length=is.length:=by simp[qs]
noncomputable def spr(n:Nat)(is:List Nat)(vs:List Int):List Int:=(J8 n).map fun i=>((is.zip vs).lookup i).getD 0
def kcY(n:Nat)(is:List Nat)(vs:List Int):(spr n is vs).length=n:=by simp[spr]
def klo(n:Nat)(vs:List Int):spr n [] vs=J6 n 0:=by
 unfold spr
 apply Mn
 ·simp
 ·intro i h1 h2
  simp
theorem kgR{l:List (Nat×Int)}{i j:Nat}{v:Int}(h:∀p∈l,p.1≠i):(l++[(i,v)]).lookup j=if j=i then some v else l.lookup j:=by
 induction l with
 | nil=>
  simp only[ME,ND,List.lookup_nil]
  by_cases e:j=i
  ·subst e;simp
  ·have:(j==i)=false:=beq_eq_false_iff_ne.mpr e
   simp[this,e]
 | cons p l ih=>
  obtain⟨k,w⟩:=p
  have ih':=ih fun q hq=>h q (Nw _ hq)
  have hk:k≠i:=h (k,w) Nz
  simp only[M1,ND]
  by_cases e:j=k
  ·subst e
   simp[hk]
  ·have:(j==k)=false:=beq_eq_false_iff_ne.mpr e
   simp only[this]
   exact ih'
theorem kln{n:Nat}{is:List Nat}{vs:List Int}(hn:is.Nodup){k i:Nat}{v:Int}(h1:is[k]?=some i)(h2:vs[k]?=some v)(hi:i<n):
  (spr n (is.take k) (vs.take k)).set i v=spr n (is.take (k+1)) (vs.take (k+1)):=by
 have e1:is.take (k+1)=is.take k++[i]:=by rw[Mf,h1];rfl
 have e2:vs.take (k+1)=vs.take k++[v]:=by rw[Mf,h2];rfl
 have hk1:k<is.length:=(Nh.mp h1).1
 have hk2:k<vs.length:=(Nh.mp h2).1
 have ez:(is.take (k+1)).zip (vs.take (k+1))=(is.take k).zip (vs.take k)++[(i,v)]:=by
  rw[e1,e2,List.zip_append (by simp;omega)]
  rfl
 have hne:∀p∈(is.take k).zip (vs.take k),p.1≠i:=fun p hp e=>by
  have hm:p.1∈is.take k:=(Mi hp).1
  rw[e] at hm
  obtain⟨j,hj,ej⟩:=List.getElem_of_mem hm
  rw[Nt] at hj
  rw[List.getElem_take] at ej
  have e3:is[k]=i:=by
   obtain⟨_,q⟩:=Nh.mp h1
   exact q
  exact Ms.mp hn j k (by omega) hk1 (by omega) (by rw[ej,e3])
 apply Mn
 ·simp[spr]
 ·intro j h3 h4
  have hj:j<n:=by simpa[spr] using h4
  rw[List.getElem_set]
  simp only[spr,MK,M8]
  rw[ez,kgR hne]
  by_cases e:i=j
  ·subst e;simp
  ·have:¬j=i:=fun z=>e z.symm
   simp[e,this]
noncomputable def bef(q:List Int)(a b:Nat):Prop:=q.getD b 0<q.getD a 0∨(q.getD a 0=q.getD b 0∧a<b)
noncomputable def Fall(q:List Int)(r:List Nat):Prop:=r.Perm (J8 q.length)∧r.Pairwise (bef q)
def kkz{q:List Int}{a b:Nat}(h:bef q a b)(h':bef q b a):False:=by
 unfold bef at h h'
 omega
theorem kee{R:Nat→Nat→Prop}(asym:∀a b,R a b→R b a→False):∀{l l':List Nat},l.Perm l'→l.Pairwise R→l'.Pairwise R→l=l'
 |[],l',p,_,_=>(List.nil_perm.mp p).symm
 | a ::l,l',p,h,h'=>by
  cases l' with
  |nil=>exact absurd p.length_eq (by simp)
  | cons b l'=>
   have hab:a=b:=by
    rcases Classical.em (a=b) with e|e
    ·exact e
    ·have ha:a∈b::l':=p.mem_iff.mp Nz
     have hb:b∈a::l:=p.mem_iff.mpr Nz
     rcases Nl.mp ha with e1|ha
     ·exact absurd e1 e
     ·rcases Nl.mp hb with e2|hb
      ·exact absurd e2.symm e
      ·exact(asym a b ((M9.mp h).1 b hb) ((M9.mp h').1 a ha)).elim
   subst hab
   congr 1
   exact kee asym (Ea.cons_inv p) (M9.mp h).2 (M9.mp h').2
def kgX{q:List Int}{r r':List Nat}(h:Fall q r)(h':Fall q r'):r=r':=
 kee (fun _ _ a b=>kkz a b) (h.1.trans h'.1.symm) h.2 h'.2
noncomputable def grp(n:Nat)(r:List Nat):List (List Nat):=(J8 (r.length/n)).map fun g=>(r.drop (g*n)).take n
end Vs
namespace Vs
open Kin Deal
noncomputable def Le2(xs ys:List Int):Prop:=xs.length=ys.length∧∀(j:Nat)(v w:Int),xs[j]?=some v→ys[j]?=some w→0≤v∧v≤w
def Le2.nil:Le2 [] []:=⟨rfl,fun j v w e=>by simp at e⟩
def Le2.self{xs:List Int}(h:Nn xs):Le2 xs xs:=⟨rfl,fun j v w e1 e2=>by
 rw[e1] at e2
 cases e2
 exact⟨h v (Nb e1),Int.le_refl _⟩⟩
def Le2.nn{xs ys:List Int}(h:Le2 xs ys):Nn xs:=fun v hv=>by
 obtain⟨j,hj,e⟩:=List.getElem_of_mem hv
 exact(h.2 j v (ys[j]'(by rw[←h.1];exact hj)) (by simp[hj,e]) (by simp[show j<ys.length by rw[←h.1];exact hj])).1
def Le2.trans{xs ys zs:List Int}(h:Le2 xs ys)(h':Le2 ys zs):Le2 xs zs:=⟨h.1.trans h'.1,fun j v w e1 e2=>by
 have hj:j<xs.length:=(Nh.mp e1).1
 have e3:ys[j]?=some (ys[j]'(by rw[←h.1];exact hj)):=by simp[show j<ys.length by rw[←h.1];exact hj]
 have a:=h.2 j v _ e1 e3
 have b:=h'.2 j _ w e3 e2
 omega⟩
def Le2.append{xs ys xs' ys':List Int}(h:Le2 xs ys)(h':Le2 xs' ys'):Le2 (xs++xs') (ys++ys'):=by
 refine⟨by simp[h.1,h'.1],fun j v w e1 e2=>?_⟩
 have hl:=h.1
 rcases Nat.lt_or_ge j xs.length with hj|hj
 ·rw[MC hj] at e1
  rw[MC (by omega)] at e2
  exact h.2 j v w e1 e2
 ·rw[Mq hj] at e1
  rw[Mq (by omega),←hl] at e2
  exact h'.2 _ v w e1 e2
theorem Le2.sum:∀{xs ys:List Int},Le2 xs ys→0≤xs.sum∧xs.sum≤ys.sum
 |[],[],_=>by simp
 |[],_::_,h=>by have:=h.1;simp at this
 |_::_,[],h=>by have:=h.1;simp at this
 |x::xs,y::ys,h=>by
  have h0:=h.2 0 x y rfl rfl
  have h1:Le2 xs ys:=⟨by simpa using h.1,fun j v w e1 e2=>h.2 (j+1) v w (by simpa using e1) (by simpa using e2)⟩
  have h2:=Le2.sum h1
  simp
  omega
def dl_le{c:Int}{ws:List Int}(hn:Nn ws)(h0:0≤c)(h1:c≤ws.sum):Le2 (dl c ws) ws:=by
 refine⟨ke3 c ws,fun j v w e1 e2=>?_⟩
 have hj:j<ws.length:=(Nh.mp e2).1
 have hw:=hn w (Nb e2)
 by_cases hs:ws.sum=0
 ·rw[kjz hs hj] at e1
  cases e1
  exact⟨Int.le_refl _,hw⟩
 ·rw[dl_at hs hj] at e1
  cases e1
  have hp:0<ws.sum:=by
   have:=kbT hn
   omega
  have q:=ki1 (A:=pre ws j) hp h0 h1 hw
  unfold part
  rw[kd3 e2]
  exact⟨q.1,q.2.1⟩
theorem kdE{is:List Nat}{vs:List Int}{i:Nat}{v:Int}(h:(is.zip vs).lookup i=some v):∃k:Nat,is[k]?=some i∧vs[k]?=some v:=by
 induction is generalizing vs with
 |nil=>simp at h
 | cons a is ih=>
  cases vs with
  |nil=>simp at h
  | cons b vs=>
   simp only[List.zip_cons_cons,ND] at h
   by_cases e:i=a
   ·subst e
    simp at h
    exact⟨0,rfl,by simp[h]⟩
   ·have:(i==a)=false:=beq_eq_false_iff_ne.mpr e
    rw[this] at h
    obtain⟨k,h1,h2⟩:=ih h
    exact⟨k+1,by simpa using h1,by simpa using h2⟩
theorem kfM{pr:List Int}{is:List Nat}{vs:List Int}(hn:Nn pr)(hv:Le2 vs (qs pr is)):Le2 (spr pr.length is vs) pr:=by
 refine⟨kcY _ _ _,fun j v w e1 e2=>?_⟩
 have hj:j<pr.length:=(Nh.mp e2).1
 have hw:=hn w (Nb e2)
 have e3:v=((is.zip vs).lookup j).getD 0:=by
  simp[spr,hj] at e1
  exact e1.symm
 cases e4:(is.zip vs).lookup j with
 |none=>
  rw[e4] at e3
  subst e3
  exact⟨Int.le_refl _,hw⟩
 |some u=>
  rw[e4] at e3
  have e3':v=u:=e3
  subst e3'
  obtain⟨k,h1,h2⟩:=kdE e4
  refine hv.2 k v w h2 ?_
  simp only[qs,Nc,h1,MX]
  rw[Nm,e2]
  rfl
theorem qs_nn{pr:List Int}(hn:Nn pr)(is:List Nat):Nn (qs pr is):=fun v hv=>by
 obtain⟨i,_,rfl⟩:=Nq.mp hv
 rw[Nm]
 cases e:pr[i]? with
 |none=>exact Int.le_refl _
 |some w=>exact hn w (Nb e)
noncomputable def leQ(q:List Int)(a b:Nat):Bool:=decide (q.getD b 0<q.getD a 0∨(q.getD a 0=q.getD b 0∧a≤b))
noncomputable def ordQ(q:List Int):List Nat:=(J8 q.length).mergeSort (leQ q)
def kdf(q:List Int):(ordQ q).Perm (J8 q.length):=List.mergeSort_perm _ _
def kek(q:List Int):Fall q (ordQ q):=by
 refine⟨kdf q,?_⟩
 have h1:(ordQ q).Pairwise (fun a b=>leQ q a b=true):=List.pairwise_mergeSort (le:=leQ q) (fun a b c h h'=>by simp only[leQ,decide_eq_true_eq] at *;omega) (fun a b=>by simp only[leQ,Ey,decide_eq_true_eq];omega) _
 have h2:(ordQ q).Nodup:=(kdf q).nodup_iff.mpr M6
 refine(h1.and h2).imp fun {a b} h=>?_
 have h3:=h.1
 have h4:a≠b:=h.2
 simp only[leQ,decide_eq_true_eq] at h3
 unfold bef
 omega
noncomputable def gdl(cut:Int→Int)(gs:List (List Nat))(q:List Int):List Int:=spr q.length gs.flatten ((gs.map fun g=>dl (cut (qs q g).sum) (qs q g)).flatten)
def kiQ(q:List Int)(a b:List Nat):qs q (a++b)=qs q a++qs q b:=by simp[qs]
theorem kk3{cut:Int→Int}{gs:List (List Nat)}{q:List Int}(hn:Nn q)(hc:∀s,0≤s→0≤cut s∧cut s≤s):Le2 (gdl cut gs q) q:=by
 refine kfM hn ?_
 induction gs with
 |nil=>exact Le2.nil
 |cons g gs ih=>
  rw[Nv,NC,NC,kiQ]
  have h:=hc _ (kbT (qs_nn hn g))
  exact(dl_le (qs_nn hn g) h.1 h.2).append ih
noncomputable def keF(n:Nat)(lines:List Nat):List (List Nat):=(J8 n).map fun l=>(J8 lines.length).filter fun k=>lines.getD k 0==l
noncomputable def lasts(gs:List (List Nat)):List Nat:=gs.map fun g=>g.getLastD 0
noncomputable def want(so:Srt)(n:Nat)(lines:List Nat)(q:List Int):List Int:=match so with
 | .off a=>dl (min a q.sum) q
 | .share s false=>dl (q.sum*s/1000) q
 | .share s true=>gdl (fun z=>z*s/1000) (keF n lines) q
 | .cheap m=>spr q.length (lasts (grp m.toNat (ordQ q))) (qs q (lasts (grp m.toNat (ordQ q))))
 | .bund m p=>gdl (fun z=>max 0 (z-p)) (grp m.toNat (ordQ q)) q
 | .carr=>J6 q.length 0
noncomputable def fee(so:Srt)(cg:Int):Int:=match so with
 | .carr=>cg
 |_=>0
noncomputable def SrtOk:Srt→Prop
 | .off a=>0≤a∧a≤1000000000000
 | .share s _=>1≤s∧s≤1000
 | .cheap n=>2≤n∧n≤20
 | .bund n p=>2≤n∧n≤20∧0≤p∧p≤1000000000000
 | .carr=>True
def kfe{z s:Int}(hz:0≤z)(h1:1≤s)(h2:s≤1000):0≤z*s/1000∧z*s/1000≤z:=by
 have a:0≤z*s:=Int.mul_nonneg hz (by omega)
 have b:z*s≤z*1000:=Int.mul_le_mul_of_nonneg_left h2 hz
 omega
def kl7{q:List Int}(hn:Nn q):Le2 (J6 q.length 0) q:=by
 refine⟨by simp,fun j v w e1 e2=>?_⟩
 have:v=0:=by
  rw[Es] at e1
  split at e1
  ·exact(Option.some.inj e1).symm
  ·cases e1
 subst this
 exact⟨Int.le_refl _,hn w (Nb e2)⟩
def kgx{a:Int}{n:Nat}{lines:List Nat}{q:List Int}(hn:Nn q)(h0:0≤a):Le2 (want (.off a) n lines q) q:=by
 have hs:=kbT hn
 show Le2 (dl (min a q.sum) q) q
 exact dl_le hn (by omega) (by omega)
theorem ke8{s:Int}{e:Bool}{n:Nat}{lines:List Nat}{q:List Int}(hn:Nn q)(h1:1≤s)(h2:s≤1000):Le2 (want (.share s e) n lines q) q:=by
 have hs:=kbT hn
 cases e with
 |false=>
  show Le2 (dl (q.sum*s/1000) q) q
  have h:=kfe hs h1 h2
  exact dl_le hn h.1 h.2
 |true=>
  show Le2 (gdl (fun z=>z*s/1000) (keF n lines) q) q
  exact kk3 hn fun z hz=>kfe hz h1 h2
def kfH{m p:Int}{n:Nat}{lines:List Nat}{q:List Int}(hn:Nn q)(h0:0≤p):Le2 (want (.bund m p) n lines q) q:=by
 show Le2 (gdl (fun z=>max 0 (z-p)) (grp m.toNat (ordQ q)) q) q
 exact kk3 hn fun z hz=>⟨by show 0≤max 0 (z-p);omega,by show max 0 (z-p)≤z;omega⟩
def ke9{m:Int}{n:Nat}{lines:List Nat}{q:List Int}(hn:Nn q):Le2 (want (.cheap m) n lines q) q:=by
 show Le2 (spr q.length _ (qs q _)) q
 exact kfM hn (Le2.self (qs_nn hn _))
def kfG{n:Nat}{lines:List Nat}{q:List Int}(hn:Nn q):Le2 (want .carr n lines q) q:=kl7 hn
theorem kic{so:Srt}{n:Nat}{lines:List Nat}{q:List Int}(hn:Nn q)(ho:SrtOk so):Le2 (want so n lines q) q:=by
 cases so with
 |off a=>exact kgx hn ho.1
 |share s e=>exact ke8 hn ho.1 ho.2
 |cheap m=>exact ke9 hn
 |bund m p=>exact kfH hn ho.2.2.1
 |carr=>exact kfG hn
noncomputable def cap(most:Option Int)(w:List Int)(f:Int):List Int×Int:=match most with
 |none=>(w,f)
 |some m=>if m<w.sum+f then(dl (min m w.sum) w,min f m) else(w,f)
theorem kmA{most:Option Int}{w q:List Int}{f cg:Int}(h:Le2 w q)(hf:0≤f∧f≤cg)(hm:∀m,most=some m→0≤m):Le2 (cap most w f).1 q∧0≤(cap most w f).2∧(cap most w f).2≤cg:=by
 unfold cap
 cases most with
 |none=>exact⟨h,hf⟩
 |some m=>
  have h0:=hm m rfl
  have hs:=kbT h.nn
  simp only
  split
  ·exact⟨(dl_le h.nn (by omega) (by omega)).trans h,by simp only;omega,by simp only;omega⟩
  ·exact⟨h,hf⟩
noncomputable def cutM(V:Vch)(ps:List (Option Nat))(kk:List Nat)(S:Stnd):List Int×Int:=
 let is:=abt ps kk V.ms.kind V.ms.lone S
 let c:=cap V.ms.most (want V.so S.mkd.length (is.map fun i=>S.ow.getD i 0) (qs S.pr is)) (fee V.so S.cg)
 (spr S.pr.length is c.1,c.2)
def kk8{V:Vch}{ps:List (Option Nat)}{kk:List Nat}{S:Stnd}(hn:Nn S.pr)(hc:0≤S.cg)(ho:SrtOk V.so)(hm:∀m,V.ms.most=some m→0≤m):Le2 (cutM V ps kk S).1 S.pr∧0≤(cutM V ps kk S).2∧(cutM V ps kk S).2≤S.cg:=by
 have hf:0≤fee V.so S.cg∧fee V.so S.cg≤S.cg:=by
  unfold fee
  split <;> omega
 have h:=kmA (most:=V.ms.most) (kic (n:=S.mkd.length) (lines:=(abt ps kk V.ms.kind V.ms.lone S).map fun i=>S.ow.getD i 0) (qs_nn hn (abt ps kk V.ms.kind V.ms.lone S)) ho) hf hm
 exact⟨kfM hn h.1,h.2⟩
noncomputable def kdp(ow:List Nat)(c:List Int)(l:Nat):Bool:=(J8 ow.length).any fun i=>ow.getD i 0==l&&decide (0<c.getD i 0)
noncomputable def aftM(V:Vch)(ps:List (Option Nat))(kk:List Nat)(S:Stnd):Stnd:=
 ⟨S.ow,NT (· - ·) S.pr (cutM V ps kk S).1,S.cg-(cutM V ps kk S).2,(J8 S.mkd.length).map fun l=>S.mkd.getD l false||(V.ms.lone&&kdp S.ow (cutM V ps kk S).1 l)⟩
def kmD{V:Vch}{ps:List (Option Nat)}{kk:List Nat}{S:Stnd}(hn:Nn S.pr)(hc:0≤S.cg)(ho:SrtOk V.so)(hm:∀m,V.ms.most=some m→0≤m):Le2 (aftM V ps kk S).pr S.pr∧0≤(aftM V ps kk S).cg∧(aftM V ps kk S).cg≤S.cg:=by
 have h:=kk8 (ps:=ps) (kk:=kk) hn hc ho hm
 refine⟨⟨?_,fun j v w e1 e2=>?_⟩,?_,?_⟩
 ·show(NT _ _ _).length=_
  rw[Eb,h.1.1]
  omega
 ·have hj:j<S.pr.length:=(Nh.mp e2).1
  have hj2:j<(cutM V ps kk S).1.length:=by rw[h.1.1];exact hj
  have e3:(cutM V ps kk S).1[j]?=some ((cutM V ps kk S).1[j]):=by simp[hj2]
  have b:=h.1.2 j _ w e3 e2
  have e4:(NT (· - ·) S.pr (cutM V ps kk S).1)[j]?=some (w-(cutM V ps kk S).1[j]):=by
   rw[Ec,e2,e3]
  have e1':(NT (· - ·) S.pr (cutM V ps kk S).1)[j]?=some v:=e1
  rw[e4] at e1'
  cases e1'
  omega
 ·show 0≤S.cg-_
  have:=h.2
  omega
 ·show S.cg-_≤S.cg
  have:=h.2
  omega
end Vs
namespace Vs
open Kin Deal
structure Sel (q:List Int) (row left:List Nat):Prop where
 pm:(row++left).Perm (J8 q.length)
 inc:left.Pairwise (· < ·)
 pw:row.Pairwise (bef q)
 cr:∀r∈row,∀l∈left,bef q r l
def Sel.start(q:List Int):Sel q [] (J8 q.length):=⟨Ea.refl _,EJ, .nil,fun r hr=>by simp at hr⟩
def Sel.lt{q:List Int}{row left:List Nat}(h:Sel q row left){i:Nat}(hi:i∈left):i<q.length:=by
 have:=h.pm.mem_iff.mp (NR row hi)
 simpa using this
def Sel.len{q:List Int}{row left:List Nat}(h:Sel q row left):row.length+left.length=q.length:=by
 have:=h.pm.length_eq
 simpa using this
def Sel.fin{q:List Int}{row:List Nat}(h:Sel q row []):row=ordQ q:=by
 refine kgX ⟨?_,h.pw⟩ (kek q)
 have:=h.pm
 rwa [Mp] at this
noncomputable def TopI(q:List Int)(left:List Nat)(i top:Nat):Prop:=(∃k,left[k]?=some top∧(k<i∨k=0))∧∀y∈left.take i,y=top∨bef q top y
def TopI.start{q:List Int}{left:List Nat}{t:Nat}(h:left[0]?=some t):TopI q left 0 t:=⟨⟨0,h, .inr rfl⟩,fun y hy=>by simp at hy⟩
def TopI.more{q:List Int}{left:List Nat}{i top x:Nat}(inc:left.Pairwise (· < ·))(h:TopI q left i top)(hx:left[i]?=some x):TopI q left (i+1) (if q.getD top 0<q.getD x 0 then x else top):=by
 obtain⟨⟨k,ek,hk⟩,hy⟩:=h
 have et:left.take (i+1)=left.take i++[x]:=by rw[Mf,hx];rfl
 split
 ·rename_i hlt
  refine⟨⟨i,hx, .inl (by omega)⟩,fun y hm=>?_⟩
  rw[et] at hm
  rcases NJ.mp hm with h1|h1
  ·refine .inr (.inl ?_)
   rcases hy y h1 with rfl|h2
   ·exact hlt
   ·unfold bef at h2
    omega
  ·exact .inl (by simpa using h1)
 ·rename_i hge
  refine⟨⟨k,ek,by omega⟩,fun y hm=>?_⟩
  rw[et] at hm
  rcases NJ.mp hm with h1|h1
  ·exact hy y h1
  ·have e:y=x:=by simpa using h1
   subst e
   by_cases hki:k=i
   ·subst hki
    rw[ek] at hx
    exact .inl (Option.some.inj hx).symm
   ·have hlt:top<y:=by
     obtain⟨l1,q1⟩:=Nh.mp ek
     obtain⟨l2,q2⟩:=Nh.mp hx
     have:=Ms.mp inc k i l1 l2 (by omega)
     rwa [q1,q2] at this
    refine .inr ?_
    unfold bef
    omega
def Sel.step{q:List Int}{row left:List Nat}{top:Nat}(h:Sel q row left)(ht:TopI q left left.length top):Sel q (row++[top]) (left.erase top)∧top∈left:=by
 obtain⟨⟨k,ek,_⟩,hy⟩:=ht
 have hm:=Nb ek
 rw[NU] at hy
 have nd:left.Nodup:=h.inc.imp fun hlt=>Nr hlt
 refine⟨⟨?_,h.inc.sublist (List.erase_sublist),?_,?_⟩,hm⟩
 ·refine Ea.trans ?_ h.pm
  rw[Mm]
  exact Ea.append_left row (List.perm_cons_erase hm).symm
 ·exact List.pairwise_append.mpr ⟨h.pw,List.pairwise_singleton _ _,fun r hr t ht=>by
   have e:t=top:=by simpa using ht
   subst e
   exact h.cr r hr t hm⟩
 ·intro r hr l hl
  have hl':=(nd.mem_erase_iff).mp hl
  rcases NJ.mp hr with h1|h1
  ·exact h.cr r h1 l hl'.2
  ·have e:r=top:=by simpa using h1
   subst e
   rcases hy l hl'.2 with h2|h2
   ·exact absurd h2 hl'.1
   ·exact h2
end Vs
namespace Vs
open Kin Deal
def khD{m:Nat}{r:List Nat}{i:Nat}{g:List Nat}(h:(grp m r)[i]?=some g):i*m+m≤r.length∧g.length=m∧∀j,j<m→g[j]?=r[i*m+j]?:=by
 unfold grp at h
 rw[Nc] at h
 have hi:i<r.length/m:=by
  rcases Nat.lt_or_ge i (r.length/m) with q|q
  ·exact q
  ·rw[MI (by simpa using q)] at h
   cases h
 rw[Ed hi] at h
 cases h
 have hle:i*m+m≤r.length:=by
  have h1:(i+1)*m≤r.length/m*m:=Nat.mul_le_mul_right m hi
  have h2:=Nat.div_mul_le_self r.length m
  rw[Nat.add_mul,Nat.one_mul] at h1
  omega
 refine⟨hle,by rw[Nt,MU];omega,fun j hj=>?_⟩
 rw[EV hj,List.getElem?_drop]
theorem kgU{m:Nat}{r:List Nat}{i:Nat}{g:List Nat}(hm:0<m)(h:(grp m r)[i]?=some g):r[i*m+(m-1)]?=some (g.getLastD 0):=by
 obtain⟨hle,hl,hg⟩:=khD h
 rw[←hg (m-1) (by omega)]
 cases g with
 |nil=>simp at hl;omega
 |cons x xs=>
  have e:(x::xs).getLastD 0=(x::xs).getLast (by simp):=by simp[List.getLastD]
  rw[e,List.getLast_eq_getElem,Nh]
  refine⟨by omega,?_⟩
  congr 1
  omega
def khz{gs:List (List Nat)}{i:Nat}{g:List Nat}(h:gs[i]?=some g):(lasts gs)[i]?=some (g.getLastD 0):=by
 unfold lasts
 rw[Nc,h]
 rfl
def kdn(gs:List (List Nat)):(lasts gs).length=gs.length:=by simp[lasts]
def kgT{m:Nat}{r:List Nat}(hm:0<m)(hr:r.Nodup):(lasts (grp m r)).Nodup:=by
 refine Ms.mpr fun i j hi hj hij e=>?_
 rw[kdn] at hi hj
 have e1:(grp m r)[i]?=some (grp m r)[i]:=by simp[hi]
 have e2:(grp m r)[j]?=some (grp m r)[j]:=by simp[hj]
 have a1:=kgU hm e1
 have a2:=kgU hm e2
 have b1:=khz e1
 have b2:=khz e2
 obtain⟨_,c1⟩:=Nh.mp b1
 obtain⟨_,c2⟩:=Nh.mp b2
 rw[c1,c2] at e
 rw[e] at a1
 obtain⟨l1,d1⟩:=Nh.mp a1
 obtain⟨l2,d2⟩:=Nh.mp a2
 have hlt:i*m+(m-1)<j*m+(m-1):=by
  have:=Nat.mul_lt_mul_of_pos_right hij hm
  omega
 exact Ms.mp hr _ _ l1 l2 hlt (by rw[d1,d2])
def klC{q:List Int}{i:Nat}(h:i∈ordQ q):i<q.length:=by
 have:=(kdf q).mem_iff.mp h
 simpa using this
end Vs
namespace Vs
open Kin Deal
def kjT{n:Nat}{is:List Nat}{vs:List Int}{i:Nat}{v:Int}(hl:is.length=vs.length)(hn:(is++[i]).Nodup)(hi:i<n):(spr n is vs).set i v=spr n (is++[i]) (vs++[v]):=by
 have h:=kln (n:=n) (is:=is++[i]) (vs:=vs++[v]) hn (k:=is.length) (i:=i) (v:=v) (by simp) (by rw[hl];simp) hi
 rw[List.take_left' rfl,List.take_left' hl.symm,N4 (by simp),N4 (by simp[hl])] at h
 exact h
def kd8{gs:List (List Nat)}(h:gs.flatten.Nodup){i k a:Nat}{g:List Nat}(hg:gs[i]?=some g)(hk:g[k]?=some a):((gs.take i).flatten++g.take k++[a]).Nodup:=by
 have e:gs=gs.take i++g::gs.drop (i+1):=by
  obtain⟨hi,eg⟩:=Nh.mp hg
  rw[←eg,E4 hi,EK]
 have e2:g=(g.take k++[a])++g.drop (k+1):=by
  obtain⟨hk',ek⟩:=Nh.mp hk
  rw[Mm,List.singleton_append,←ek,E4 hk',EK]
 rw[e,M5,NC] at h
 rw[Mm]
 refine h.sublist (List.Sublist.append_left ?_ _)
 refine List.Sublist.trans ?_ (E5 g _)
 conv=>rhs;rw[e2]
 exact E5 _ _
theorem kkn{m:Nat}(r:List Nat):(grp m r).flatten=r.take (r.length/m*m):=by
 unfold grp
 have hle:r.length/m*m≤r.length:=Nat.div_mul_le_self _ _
 generalize r.length/m=c at *
 induction c with
 |zero=>simp
 |succ c ih=>
  have h1:c*m+m≤r.length:=by rw[←Nat.succ_mul];exact hle
  rw[Mb,J9,M5,ih (by omega)]
  simp only[Nv,Et,NC,List.flatten_nil,Mp]
  rw[show(c+1)*m=c*m+m by rw[Nat.add_mul,Nat.one_mul],List.take_add]
def kjo{m:Nat}{r:List Nat}(h:r.Nodup):(grp m r).flatten.Nodup:=by
 rw[kkn]
 exact h.sublist (List.take_sublist _ _)
end Vs
namespace Vs
open Kin Deal
theorem kcX{is:List Nat}(hn:is.Nodup){k i:Nat}(hk:is[k]?=some i):∀(l:List (Nat×Int)),(∀p∈l,p.1<is.length)→(l.map fun p=>(is.getD p.1 0,p.2)).lookup i=l.lookup k
 |[],_=>rfl
 | (j,v)::l,h=>by
  have ih:=kcX hn hk l fun p hp=>h p (Nw _ hp)
  have hj:j<is.length:=h (j,v) Nz
  obtain⟨hk',ek⟩:=Nh.mp hk
  have e:is.getD j 0=is[j]:=by rw[Nm];simp[hj]
  simp only[Nv,ND,e]
  by_cases q:k=j
  ·subst q
   simp[ek]
  ·have h1:(k==j)=false:=by simp[q]
   have h2:(i==is[j])=false:=by
    refine beq_eq_false_iff_ne.mpr fun z=>q ?_
    exact(List.getElem_inj hn).mp (by rw[ek,z])
   rw[h1,h2]
   exact ih
theorem lookup_none{is:List Nat}{i:Nat}(hi:∀k:Nat,is[k]?≠some i):∀(l:List (Nat×Int)),(∀p∈l,p.1<is.length)→(l.map fun p=>(is.getD p.1 0,p.2)).lookup i=none
 |[],_=>rfl
 |(j,v)::l,h=>by
  have ih:=lookup_none hi l fun p hp=>h p (Nw _ hp)
  have hj:j<is.length:=h (j,v) Nz
  have e:is.getD j 0=is[j]:=by rw[Nm];simp[hj]
  have h2:(i==is[j])=false:=beq_eq_false_iff_ne.mpr fun z=>hi j (by rw[z];simp[hj])
  simp only[Nv,ND,e,h2]
  exact ih
theorem ket{is:List Nat}(hn:is.Nodup){k i:Nat}(hk:is[k]?=some i):∀{vs:List Int},is.length=vs.length→(is.zip vs).lookup i=vs[k]?:=by
 induction is generalizing k with
 |nil=>simp at hk
 | cons a is ih=>
  intro vs hl
  cases vs with
  |nil=>simp at hl
  | cons v vs=>
   rw[List.zip_cons_cons,ND]
   cases k with
   |zero=>
    have:a=i:=by simpa using hk
    subst this
    simp
   |succ k=>
    have hk':is[k]?=some i:=by simpa using hk
    have hh:=N3.mp hn
    have hne:(i==a)=false:=beq_eq_false_iff_ne.mpr fun z=>hh.1 (z▸Nb hk')
    rw[hne]
    simpa using ih hh.2 hk' (by simpa using hl)
def kgy{n:Nat}{is js:List Nat}{vs:List Int}(hn:is.Nodup)(hj:∀j∈js,j<is.length):spr n is (spr is.length js vs)=spr n (js.map fun j=>is.getD j 0) vs:=by
 apply Mn
 ·simp[spr]
 intro i h1 h2
 have ez:(js.map fun j=>is.getD j 0).zip vs=(js.zip vs).map fun p=>(is.getD p.1 0,p.2):=by rw[List.zip_map_left];rfl
 have hp:∀p∈js.zip vs,p.1<is.length:=fun p hp=>hj _ (Mi hp).1
 simp only[spr,MK,M8]
 rw[ez]
 by_cases hk:∃k:Nat,is[k]?=some i
 ·obtain⟨k,hk⟩:=hk
  have hkl:=(Nh.mp hk).1
  rw[kcX hn hk _ hp,ket hn hk (by simp)]
  simp[hkl]
 ·rw[lookup_none (fun k e=>hk ⟨k,e⟩) _ hp]
  have:((is.zip ((J8 is.length).map fun i=>((js.zip vs).lookup i).getD 0)).lookup i)=none:=by
   rw[List.lookup_eq_none_iff]
   intro p hp'
   have:=(Mi hp').1
   obtain⟨k,ek⟩:=Mt.mp this
   have hne:i≠p.1:=fun z=>hk ⟨k,by rw[ek,←z]⟩
   simpa using hne
  rw[this]
noncomputable def owns(n:Nat)(ow:List Nat)(is:List Nat):List (List Nat):=(J8 n).map fun l=>is.filter fun i=>ow.getD i 0==l
def keE(n:Nat)(ow is:List Nat):(keF n (is.map fun i=>ow.getD i 0)).map (fun g=>g.map fun j=>is.getD j 0)=owns n ow is:=by
 unfold keF owns
 rw[Nx]
 refine NV fun l _=>?_
 show(((J8 _).filter _).map fun j=>is.getD j 0)=_
 have e:is=(J8 is.length).map fun j=>is.getD j 0:=by
  apply Mn
  ·simp
  ·intro j h1 h2
   simp[Nm,h1]
 conv=>rhs;rw[e]
 rw[List.filter_map,JY]
 congr 1
 refine List.filter_congr fun k hk=>?_
 have hk':k<is.length:=by simpa using hk
 simp[Nm,hk']
def qs_qs{pr:List Int}{ab g:List Nat}(h:∀j∈g,j<ab.length):qs (qs pr ab) g=qs pr (g.map fun j=>ab.getD j 0):=by
 unfold qs
 rw[Nx]
 refine NV fun j hj=>?_
 have:=h j hj
 simp[Nm,this]
def kgp{n:Nat}{lines:List Nat}{g:List Nat}(hg:g∈keF n lines){j:Nat}(hj:j∈g):j<lines.length:=by
 obtain⟨l,_,rfl⟩:=Nq.mp hg
 have:=(N7.mp hj).1
 simpa using this
def kg0{n N:Nat}{ow ab:List Nat}{pr:List Int}(cut:Int→Int)(hn:ab.Nodup):spr n ab (gdl cut (keF N (ab.map fun i=>ow.getD i 0)) (qs pr ab))=spr n (owns N ow ab).flatten ((owns N ow ab).map fun o=>dl (cut (qs pr o).sum) (qs pr o)).flatten:=by
 unfold gdl
 rw[kbU,kgy hn fun j hj=>?_,List.map_flatten,keE]
 ·congr 2
  rw[←keE,Nx]
  refine NV fun g hg=>?_
  have e:=qs_qs (pr:=pr) (ab:=ab) (g:=g) fun j hj=>by simpa using kgp hg hj
  show dl (cut (qs (qs pr ab) g).sum) (qs (qs pr ab) g)=dl (cut (qs pr (g.map fun j=>ab.getD j 0)).sum) (qs pr (g.map fun j=>ab.getD j 0))
  rw[e]
 ·obtain⟨g,hg,hj'⟩:=Mg.mp hj
  simpa using kgp hg hj'
end Vs
namespace Vs
open Kin Deal
section
variable {p:Nat→Bool} {n:Nat} {w:List Int}
noncomputable def cnt(p:Nat→Bool)(j:Nat):Nat:=((J8 j).filter p).length
theorem kjE{j:Nat}(h:p j=true):cnt p (j+1)=cnt p j+1:=by
 unfold cnt
 rw[Mb,MM,Np]
 simp[h]
theorem kla{j:Nat}(h:p j=false):cnt p (j+1)=cnt p j:=by
 unfold cnt
 rw[Mb,MM,Np]
 simp[h]
theorem kcM:∀{n j:Nat},j<n→p j=true→((J8 n).filter p)[cnt p j]?=some j
 |0,j,h,_=>by omega
 | n+1,j,h,hp=>by
  rw[Mb,MM]
  by_cases hj:j<n
  ·have ih:=kcM hj hp
   rw[MC (Nh.mp ih).1]
   exact ih
  ·have e:j=n:=by omega
   subst e
   unfold cnt
   rw[Mq (J4 _)]
   simp[hp]
theorem kkI(hl:w.length=cnt p n){j:Nat}(hj:j<n):(spr n ((J8 n).filter p) w)[j]?=some (if p j=true then w.getD (cnt p j) 0 else 0):=by
 unfold spr
 rw[Nc,Ed hj]
 show some _=some _
 congr 1
 show(NZ j (((J8 n).filter p).zip w)).getD 0=_
 cases hp:p j with
 |true=>
  rw[ket (Mx.filter _ M6) (kcM hj hp) hl.symm,if_pos rfl,Nm]
 | false=>
  rw[if_neg Na]
  cases e:(((J8 n).filter p).zip w).lookup j with
  |none=>rw[Ew]
  |some v=>
   obtain⟨k,hk,_⟩:=kdE e
   have:=(N7.mp (Nb hk)).2
   rw[hp] at this
   cases this
theorem kfn(hl:w.length=cnt p n):∀j,j≤n→pre (spr n ((J8 n).filter p) w) j=pre w (cnt p j)
 |0,_=>by simp[pre,cnt]
 | j+1,h=>by
  have ih:=kfn hl j (by omega)
  rw[kd3 (kkI hl (show j<n by omega)),ih]
  cases hp:p j with
  |true=>
   have hk:=(Nh.mp (kcM (show j<n by omega) hp)).1
   have hk':cnt p j<w.length:=by rw[hl];exact hk
   rw[if_pos rfl,kjE hp,kd3 (w:=w.getD (cnt p j) 0) (by rw[Nm,Me hk'];rfl)]
  |false=>rw[if_neg Na,kla hp,Int.add_zero]
theorem kij(hl:w.length=cnt p n):(spr n ((J8 n).filter p) w).sum=w.sum:=by
 have h:=kfn hl n (J4 _)
 rw[←hl,kiV] at h
 have e:pre (spr n ((J8 n).filter p) w) n=(spr n ((J8 n).filter p) w).sum:=by
  have:=kiV (spr n ((J8 n).filter p) w)
  rw[kcY] at this
  exact this
 rw[←e,h]
theorem kmx(m:Int)(hl:w.length=cnt p n):dl m (spr n ((J8 n).filter p) w)=spr n ((J8 n).filter p) (dl m w):=by
 have hl2:(dl m w).length=cnt p n:=by rw[ke3,hl]
 have hs:=kij hl
 apply EB
 intro j
 by_cases hj:j<n
 ·rw[kkI hl2 hj]
  have hjF:j<(spr n ((J8 n).filter p) w).length:=by rw[kcY];exact hj
  by_cases h0:w.sum=0
  ·rw[kjz (hs.trans h0) hjF]
   cases hp:p j with
   |false=>rw[if_neg Na]
   |true=>
    have hk:=(Nh.mp (kcM hj hp)).1
    rw[if_pos rfl,Nm,kjz h0 (by rw[hl];exact hk)]
    rfl
  ·rw[dl_at (by rw[hs];exact h0) hjF]
   unfold part
   rw[hs,kfn hl j (by omega),kfn hl (j+1) (by omega)]
   cases hp:p j with
   |false=>rw[if_neg Na,kla hp,Int.sub_self]
   |true=>
    have hk:=(Nh.mp (kcM hj hp)).1
    rw[if_pos rfl,Nm,dl_at h0 (by rw[hl];exact hk),kjE hp]
    rfl
 ·rw[MI (by rw[ke3,kcY];omega),MI (by rw[kcY];omega)]
end
def klT{c:Int}{n:Nat}:dl c (J6 n 0)=J6 n 0:=by
 have e:(J6 n (0:Int)).sum=0:=by simp
 unfold dl
 rw[if_pos e]
 simp
theorem kkw{V:Vch}{ps:List (Option Nat)}{kk:List Nat}{S:Stnd}(e:V.ms.most=none):
  (cutM V ps kk S).1=spr S.pr.length (abt ps kk V.ms.kind V.ms.lone S) (want V.so S.mkd.length ((abt ps kk V.ms.kind V.ms.lone S).map fun i=>S.ow.getD i 0) (qs S.pr (abt ps kk V.ms.kind V.ms.lone S))):=by
 unfold cutM cap
 rw[e]
theorem kkv{V:Vch}{ps:List (Option Nat)}{kk:List Nat}{S:Stnd}(hl:S.pr.length=S.ow.length)
  (hw:Le2 (want V.so S.mkd.length ((abt ps kk V.ms.kind V.ms.lone S).map fun i=>S.ow.getD i 0) (qs S.pr (abt ps kk V.ms.kind V.ms.lone S))) (qs S.pr (abt ps kk V.ms.kind V.ms.lone S))) {m:Int} (e:V.ms.most=some m) (h0:0≤m):
  (cutM V ps kk S).1=if(spr S.pr.length (abt ps kk V.ms.kind V.ms.lone S) (want V.so S.mkd.length ((abt ps kk V.ms.kind V.ms.lone S).map fun i=>S.ow.getD i 0) (qs S.pr (abt ps kk V.ms.kind V.ms.lone S)))).sum > m
   then dl m (spr S.pr.length (abt ps kk V.ms.kind V.ms.lone S) (want V.so S.mkd.length ((abt ps kk V.ms.kind V.ms.lone S).map fun i=>S.ow.getD i 0) (qs S.pr (abt ps kk V.ms.kind V.ms.lone S))))
   else spr S.pr.length (abt ps kk V.ms.kind V.ms.lone S) (want V.so S.mkd.length ((abt ps kk V.ms.kind V.ms.lone S).map fun i=>S.ow.getD i 0) (qs S.pr (abt ps kk V.ms.kind V.ms.lone S))):=by
 have hwl:=hw.1
 rw[kbU] at hwl
 have ea:abt ps kk V.ms.kind V.ms.lone S=(J8 S.pr.length).filter fun i=>hits ps kk V.ms.kind V.ms.lone S.mkd (S.ow.getD i 0):=by rw[hl];rfl
 have ez:V.so=.carr→(want V.so S.mkd.length ((abt ps kk V.ms.kind V.ms.lone S).map fun i=>S.ow.getD i 0) (qs S.pr (abt ps kk V.ms.kind V.ms.lone S)))=J6 (qs S.pr (abt ps kk V.ms.kind V.ms.lone S)).length 0:=fun z=>by rw[z];rfl
 unfold cutM cap
 rw[e]
 simp only
 generalize want V.so S.mkd.length ((abt ps kk V.ms.kind V.ms.lone S).map fun i=>S.ow.getD i 0) (qs S.pr (abt ps kk V.ms.kind V.ms.lone S))=w at *
 rw[ea] at hwl⊢
 rw[kij hwl,kmx m hwl]
 by_cases hc:V.so=.carr
 ·have hz:=ez hc
  have hs:w.sum=0:=by rw[hz];simp
  rw[if_neg (by omega:¬w.sum > m)]
  split
  ·simp only
   rw[hz,klT]
  ·rfl
 ·have hf:fee V.so S.cg=0:=by
   unfold fee
   split
   ·rename_i z
    exact absurd z hc
   ·rfl
  rw[hf,Int.add_zero]
  by_cases hm:m<w.sum
  ·rw[if_pos hm,if_pos hm]
   simp only
   rw[Int.min_eq_left (by omega)]
  ·rw[if_neg hm,if_neg hm]
end Vs
namespace Vs
open Kin Deal
noncomputable def ins:List (Nat×List Nat)→Nat→Nat→List (Nat×List Nat)
 |[],o,a=>[(o,[a])]
 |(l,g)::G,o,a=>if l=o then(l,g++[a])::G else(l,g)::ins G o a
noncomputable def parted(f:Nat→Nat)(is:List Nat):List (Nat×List Nat):=is.foldl (fun G a=>ins G (f a) a) []
def kej(f:Nat→Nat)(is:List Nat)(a:Nat):parted f (is++[a])=ins (parted f is) (f a) a:=by
 unfold parted
 rw[List.foldl_append]
 rfl
theorem kd5:∀(G:List (Nat×List Nat))(o a:Nat),(ins G o a).map Prod.fst=if o∈G.map Prod.fst then G.map Prod.fst else G.map Prod.fst++[o]
 |[],o,a=>by simp[ins]
 | (l,g)::G,o,a=>by
  unfold ins
  by_cases h:l=o
  ·subst h
   simp
  ·rw[if_neg h,Nv,kd5 G o a]
   show _=if o∈l::G.map Prod.fst then l::G.map Prod.fst else(l::G.map Prod.fst)++[o]
   have h':¬o=l:=fun z=>h z.symm
   by_cases hm:o∈G.map Prod.fst
   ·rw[if_pos hm,if_pos (Nw _ hm)]
   ·rw[if_neg hm,if_neg (by rw[Nl,not_or];exact⟨h',hm⟩)]
    rfl
theorem kjm:∀{G:List (Nat×List Nat)}{o a l:Nat}{g:List Nat},(G.map Prod.fst).Nodup→(l,g)∈ins G o a→(l≠o∧(l,g)∈G)∨(l=o∧((∃g',(o,g')∈G∧g=g'++[a])∨(o∉G.map Prod.fst∧g=[a])))
 |[],o,a,l,g,_,h=>by
  unfold ins at h
  rw[NP] at h
  cases h
  exact .inr ⟨rfl, .inr ⟨by simp,rfl⟩⟩
 | (k,g0)::G,o,a,l,g,hn,h=>by
  unfold ins at h
  rw[Nv,N3] at hn
  by_cases e:k=o
  ·rw[if_pos e] at h
   subst e
   rcases Nl.mp h with z|z
   ·cases z
    exact .inr ⟨rfl, .inl ⟨g0,Nz,rfl⟩⟩
   ·refine .inl ⟨fun w=>?_,Nw _ z⟩
    subst w
    exact hn.1 (Nq.mpr ⟨(l,g),z,rfl⟩)
  ·rw[if_neg e] at h
   rcases Nl.mp h with z|z
   ·cases z
    exact .inl ⟨e,Nz⟩
   ·rcases kjm hn.2 z with⟨w1,w2⟩|⟨w1,⟨g',w2,w3⟩|⟨w2,w3⟩⟩
    ·exact .inl ⟨w1,Nw _ w2⟩
    ·exact .inr ⟨w1, .inl ⟨g',Nw _ w2,w3⟩⟩
    ·refine .inr ⟨w1, .inr ⟨?_,w3⟩⟩
     rw[Nv,Nl,not_or]
     exact⟨fun z=>e z.symm,w2⟩
structure PtOk (f:Nat→Nat) (is:List Nat) (G:List (Nat×List Nat)):Prop where
 nd:(G.map Prod.fst).Nodup
 gs:∀l g,(l,g)∈G→g=is.filter fun i=>f i==l
 all:∀i∈is,f i∈G.map Prod.fst
theorem keW(f:Nat→Nat):∀(n:Nat)(is:List Nat),is.length=n→PtOk f is (parted f is)
 |0,is,h=>by
  have e:is=[]:=E6 h
  subst e
  exact⟨by simp[parted],fun l g hg=>by simp[parted] at hg,fun i hi=>by simp at hi⟩
 | n +1,is,h=>by
  have hne:is≠[]:=by
   intro z
   subst z
   cases h
  obtain⟨is',a,rfl⟩:∃is' a,is=is'++[a]:=⟨is.dropLast,is.getLast hne,(List.dropLast_concat_getLast hne).symm⟩
  have ih:=keW f n is' (by simpa using h)
  rw[kej]
  refine⟨?_,fun l g hg=>?_,fun i hi=>?_⟩
  ·rw[kd5]
   split
   ·exact ih.nd
   ·rename_i hm
    exact EL.mpr ⟨ih.nd,by simp,fun x hx y hy=>by
     rw[NP] at hy
     subst hy
     exact fun z=>hm (by rw[←z];exact hx)⟩
  ·rw[MM]
   rcases kjm ih.nd hg with⟨w1,w2⟩|⟨w1,⟨g',w2,w3⟩|⟨w2,w3⟩⟩
   ·rw[ih.gs l g w2]
    have:(f a==l)=false:=by simpa using fun z=>w1 z.symm
    simp[this]
   ·subst w1 w3
    rw[ih.gs _ g' w2]
    simp
   ·subst w1 w3
    have e:is'.filter (fun i=>f i==f a)=[]:=by
     rw[List.filter_eq_nil_iff]
     intro i hi z
     have z':f i=f a:=by simpa using z
     exact w2 (by rw[←z'];exact ih.all i hi)
    rw[e]
    simp
  ·rw[kd5]
   rcases NJ.mp hi with hi|hi
   ·have:=ih.all i hi
    split
    ·exact this
    ·exact Ei _ this
   ·rw[NP] at hi
    subst hi
    split
    ·assumption
    ·exact NR _ (by simp)
def kcD(f:Nat→Nat)(is:List Nat):PtOk f is (parted f is):=keW f is.length is rfl
def PtOk.snds{f:Nat→Nat}{is:List Nat}{G:List (Nat×List Nat)}(h:PtOk f is G):G.map Prod.snd=(G.map Prod.fst).map fun l=>is.filter fun i=>f i==l:=by
 rw[Nx]
 refine NV fun p hp=>?_
 exact h.gs p.1 p.2 hp
theorem kh3{l l':List (Nat×Int)}{i:Nat}:(l++l').lookup i=(l.lookup i).or (l'.lookup i):=by
 induction l with
 |nil=>simp
 |cons p l ih=>
  obtain⟨a,b⟩:=p
  rw[M1,ND,ND,ih]
  split <;> rfl
theorem ke0{l:List (Nat×Int)}{i:Nat}(h:∀p∈l,p.1≠i):l.lookup i=none:=by
 induction l with
 |nil=>rfl
 | cons p l ih=>
  obtain⟨a,b⟩:=p
  have h1:(i==a)=false:=by
   have:=h (a,b) Nz
   simpa using fun z=>this z.symm
  rw[ND,h1]
  exact ih fun q hq=>h q (Nw _ hq)
section
variable {f:Nat→Nat} {is:List Nat} {D:List Nat→List Int}
theorem klc{l i:Nat}{vs:List Int}(h:f i≠l):((is.filter fun i=>f i==l).zip vs).lookup i=none:=
 ke0 fun p hp=>by
  have h1:=(Mi (show(p.1,p.2)∈_ from hp)).1
  have h2:f p.1=l:=by simpa using(N7.mp h1).2
  intro z
  rw[z] at h2
  exact h h2
theorem kdJ(hD:∀g,(D g).length=g.length)(i:Nat):∀(ks:List Nat),ks.Nodup→
  (((ks.map fun l=>is.filter fun i=>f i==l).flatten).zip ((ks.map fun l=>D (is.filter fun i=>f i==l)).flatten)).lookup i=if f i∈ks then((is.filter fun j=>f j==f i).zip (D (is.filter fun j=>f j==f i))).lookup i else none
 |[],_=>by simp
 | l::ks,hn=>by
  rw[N3] at hn
  have ih:=kdJ hD i ks hn.2
  rw[Nv,Nv,NC,NC,List.zip_append (hD _).symm,kh3,ih]
  by_cases h:f i=l
  ·subst h
   rw[if_neg hn.1,if_pos Nz,Option.or_none]
  ·rw[klc h,Option.none_or]
   by_cases hm:f i∈ks
   ·rw[if_pos hm,if_pos (Nw _ hm)]
   ·rw[if_neg hm,if_neg (by rw[Nl,not_or];exact⟨h,hm⟩)]
theorem khW(hD:∀g,(D g).length=g.length){n:Nat}{ks ks':List Nat}(hn:ks.Nodup)(hn':ks'.Nodup)(h:∀i∈is,f i∈ks)(h':∀i∈is,f i∈ks'):
  spr n (ks.map fun l=>is.filter fun i=>f i==l).flatten (ks.map fun l=>D (is.filter fun i=>f i==l)).flatten=spr n (ks'.map fun l=>is.filter fun i=>f i==l).flatten (ks'.map fun l=>D (is.filter fun i=>f i==l)).flatten:=by
 unfold spr
 refine NV fun i _=>?_
 have key:∀ks:List Nat,ks.Nodup→(∀i∈is,f i∈ks)→(((ks.map fun l=>is.filter fun i=>f i==l).flatten).zip ((ks.map fun l=>D (is.filter fun i=>f i==l)).flatten)).lookup i=((is.filter fun j=>f j==f i).zip (D (is.filter fun j=>f j==f i))).lookup i:=fun ks hn hk=>by
  rw[kdJ hD i ks hn]
  by_cases hm:f i∈ks
  ·rw[if_pos hm]
  ·rw[if_neg hm,ke0 fun p hp=>?_]
   have h1:=(Mi (show(p.1,p.2)∈_ from hp)).1
   obtain⟨h2,h3⟩:=N7.mp h1
   exact fun _=>hm (by rw[←(show f p.1=f i by simpa using h3)];exact hk _ h2)
 rw[key ks hn h,key ks' hn' h']
theorem kei(hi:is.Nodup):∀{ks:List Nat},ks.Nodup→(ks.map fun l=>is.filter fun i=>f i==l).flatten.Nodup
 |[],_=>by simp
 |l::ks,hn=>by
  rw[N3] at hn
  rw[Nv,NC]
  refine EL.mpr ⟨hi.filter _,kei hi hn.2,fun x hx y hy z=>?_⟩
  subst z
  have h1:f x=l:=by simpa using(N7.mp hx).2
  obtain⟨g,hg,hy⟩:=Mg.mp hy
  obtain⟨l',hl',rfl⟩:=Nq.mp hg
  have h2:f x=l':=by simpa using(N7.mp hy).2
  exact hn.1 (by rw[←h1,h2];exact hl')
end
theorem khX{n N:Nat}{ow ab:List Nat}{pr:List Int}(cut:Int→Int)(hn:ab.Nodup)(hN:∀i∈ab,ow.getD i 0<N):
  spr n ((parted (fun i=>ow.getD i 0) ab).map Prod.snd).flatten (((parted (fun i=>ow.getD i 0) ab).map Prod.snd).map fun g=>dl (cut (qs pr g).sum) (qs pr g)).flatten=spr n ab (gdl cut (keF N (ab.map fun i=>ow.getD i 0)) (qs pr ab)):=by
 have ok:=kcD (fun i=>ow.getD i 0) ab
 rw[kg0 cut hn,ok.snds]
 generalize hks:(parted (fun i=>ow.getD i 0) ab).map Prod.fst=ks at *
 have nd:ks.Nodup:=by rw[←hks];exact ok.nd
 have al:∀i∈ab,ow.getD i 0∈ks:=by rw[←hks];exact ok.all
 unfold owns
 rw[Nx,Nx]
 exact khW (f:=fun i=>ow.getD i 0) (is:=ab) (D:=fun g=>dl (cut (qs pr g).sum) (qs pr g)) (fun g=>by rw[ke3,kbU]) nd M6 al fun i hi=>by simpa using hN i hi
def keX(f:Nat→Nat):∀(is:List Nat),(parted f is).length≤is.length:=by
 intro is
 have key:∀(is:List Nat)(G:List (Nat×List Nat)),(is.foldl (fun G a=>ins G (f a) a) G).length≤G.length+is.length:=by
  intro is
  induction is with
  |nil=>intro G;simp
  | cons a is ih=>
   intro G
   have h1:=ih (ins G (f a) a)
   have h2:(ins G (f a) a).length≤G.length+1:=by
    have:=congrArg MT (kd5 G (f a) a)
    rw[JY] at this
    rw[this]
    split <;> simp
   rw[List.foldl_cons,NM]
   omega
 simpa[parted] using key is []
end Vs
namespace Vs
open Kin Deal
noncomputable def fallP(pr:List Int)(is:List Nat):List Nat:=(ordQ (qs pr is)).map fun j=>is.getD j 0
def range_getD(is:List Nat):(J8 is.length).map (fun j=>is.getD j 0)=is:=by
 apply Mn
 ·simp
 ·intro j h1 h2
  simp[Nm,h2]
def kbt(pr:List Int)(is:List Nat):(fallP pr is).Perm is:=by
 have h:=(kdf (qs pr is)).map fun j=>is.getD j 0
 rw[kbU,range_getD] at h
 exact h
noncomputable def befP(pr:List Int)(a b:Nat):Prop:=pr.getD b 0<pr.getD a 0∨(pr.getD a 0=pr.getD b 0∧a<b)
def kkr{pr:List Int}{is:List Nat}(hs:is.Pairwise (· < ·)):(fallP pr is).Pairwise (befP pr):=by
 have h:=(kek (qs pr is)).2
 have hm:=(kek (qs pr is)).1
 unfold fallP
 rw[EM]
 refine h.imp_of_mem fun {a b} ha hb hab=>?_
 have la:a<is.length:=by simpa[kbU] using hm.mem_iff.mp ha
 have lb:b<is.length:=by simpa[kbU] using hm.mem_iff.mp hb
 have ea:(qs pr is).getD a 0=pr.getD (is.getD a 0) 0:=by simp[qs,Nm,la]
 have eb:(qs pr is).getD b 0=pr.getD (is.getD b 0) 0:=by simp[qs,Nm,lb]
 unfold bef at hab
 unfold befP
 rw[ea,eb] at hab
 rcases hab with z|⟨z1,z2⟩
 ·exact .inl z
 ·refine .inr ⟨z1,?_⟩
  have:=Ms.mp hs a b la lb z2
  simpa[Nm,la,lb] using this
def kh6{pr:List Int}{is ks:List Nat}(hs:is.Pairwise (· < ·))(hp:ks.Perm is)(hk:ks.Pairwise (befP pr)):ks=fallP pr is:=
 kee (R:=befP pr) (fun a b h h'=>by unfold befP at h h';omega) (hp.trans (kbt pr is).symm) hk (kkr hs)
def kjq(m:Nat)(f:Nat→Nat)(r:List Nat):grp m (r.map f)=(grp m r).map fun g=>g.map f:=by
 unfold grp
 rw[JY,Nx]
 refine NV fun g _=>?_
 show((r.map f).drop _).take _=((r.drop _).take _).map f
 rw[MN,EN]
def kjp{m:Nat}{r g:List Nat}(h:g∈grp m r):∀j∈g,j∈r:=fun j hj=>by
 obtain⟨i,_,rfl⟩:=Nq.mp h
 exact List.mem_of_mem_drop (Ee hj)
theorem kjr{n:Nat}{ab:List Nat}{pr:List Int}(cut:Int→Int)(hn:ab.Nodup)(gs:List (List Nat))(hg:∀g∈gs,∀j∈g,j<ab.length):
  spr n ab (gdl cut gs (qs pr ab))=spr n (gs.map fun g=>g.map fun j=>ab.getD j 0).flatten ((gs.map fun g=>g.map fun j=>ab.getD j 0).map fun o=>dl (cut (qs pr o).sum) (qs pr o)).flatten:=by
 unfold gdl
 rw[kbU,kgy hn fun j hj=>?_,List.map_flatten,Nx]
 ·congr 2
  refine NV fun g hg'=>?_
  have e:=qs_qs (pr:=pr) (ab:=ab) (g:=g) (hg g hg')
  show dl (cut (qs (qs pr ab) g).sum) (qs (qs pr ab) g)=dl (cut (qs pr (g.map fun j=>ab.getD j 0)).sum) (qs pr (g.map fun j=>ab.getD j 0))
  rw[e]
 ·obtain⟨g,hg',hj'⟩:=Mg.mp hj
  exact hg g hg' j hj'
def kkV{pr:List Int}{is:List Nat}{m:Nat}{g:List Nat}(h:g∈grp m (ordQ (qs pr is))):∀j∈g,j<is.length:=fun j hj=>by
 have:=klC (kjp h j hj)
 rwa [kbU] at this
theorem kky{n m:Nat}{is:List Nat}{pr:List Int}(cut:Int→Int)(hn:is.Nodup):
  spr n is (gdl cut (grp m (ordQ (qs pr is))) (qs pr is))=spr n (grp m (fallP pr is)).flatten ((grp m (fallP pr is)).map fun o=>dl (cut (qs pr o).sum) (qs pr o)).flatten:=by
 rw[kjr cut hn _ fun g hg=>kkV hg]
 unfold fallP
 rw[kjq]
def kje{f:Nat→Nat}{gs:List (List Nat)}(h:∀g∈gs,g≠[]):lasts (gs.map fun g=>g.map f)=(lasts gs).map f:=by
 unfold lasts
 rw[Nx,Nx]
 refine NV fun g hg=>?_
 show(g.map f).getLastD 0=f (g.getLastD 0)
 have hne:=h g hg
 rw[EO,EO,List.getLast?_map,E7 hne]
 rfl
def kmy(c:Int):dl c [c]=[c]:=by
 unfold dl
 by_cases h:[c].sum=0
 ·rw[if_pos h]
  have:c=0:=by simpa using h
  simp[this]
 ·rw[if_neg h]
  have hc:c≠0:=by simpa using h
  have e:part c [c] 0=c:=by
   unfold part pre
   simp[Int.mul_ediv_cancel _ hc]
  simp[Mb,e]
theorem kiG(f:Nat→Int):∀(l:List Nat),(l.map fun i=>[i]).flatten=l∧(l.map fun i=>[f i]).flatten=l.map f
 |[]=>⟨rfl,rfl⟩
 |a::l=>by
  obtain⟨h1,h2⟩:=kiG f l
  simp[h1,h2]
theorem kjF{n m:Nat}{is:List Nat}{pr:List Int}(hm:0<m)(hn:is.Nodup):
  spr n is (spr (qs pr is).length (lasts (grp m (ordQ (qs pr is)))) (qs (qs pr is) (lasts (grp m (ordQ (qs pr is))))))=spr n (lasts (grp m (fallP pr is))) ((lasts (grp m (fallP pr is))).map fun i=>pr.getD i 0):=by
 have ne:∀g∈grp m (ordQ (qs pr is)),g≠[]:=fun g hg z=>by
  obtain⟨i,hi⟩:=Mt.mp hg
  have:=(khD hi).2.1
  rw[z] at this
  simp at this
  omega
 have hl:∀j∈lasts (grp m (ordQ (qs pr is))),j<is.length:=fun j hj=>by
  obtain⟨g,hg,rfl⟩:=Nq.mp hj
  refine kkV hg _ ?_
  rw[EO,E7 (ne g hg)]
  exact List.getLast_mem _
 rw[kbU,kgy hn hl,qs_qs hl]
 have e:lasts (grp m (fallP pr is))=(lasts (grp m (ordQ (qs pr is)))).map fun j=>is.getD j 0:=by
  unfold fallP
  rw[kjq,kje ne]
 rw[e]
 rfl
def spr_zero{n k:Nat}{is:List Nat}:spr n is (J6 k 0)=J6 n 0:=by
 unfold spr
 apply Mn
 ·simp
 ·intro j h1 h2
  simp only[MK,M8,List.getElem_replicate]
  cases e:(is.zip (J6 k (0:Int))).lookup j with
  |none=>rfl
  |some v=>
   obtain⟨i,_,hv⟩:=kdE e
   have:=List.eq_of_mem_replicate (Nb hv)
   rw[this]
   rfl
def keA{pr:List Int}{is:List Nat}(hn:is.Nodup):(fallP pr is).Nodup:=(kbt pr is).nodup_iff.mpr hn
def kgW(m:Nat)(r:List Nat):(grp m r).length≤r.length:=by
 unfold grp
 rw[JY,List.length_range]
 exact Nat.div_le_self _ _
end Vs
namespace Vs
open Kin Deal
structure Later (S S':Stnd):Prop where
 ow:S'.ow=S.ow
 pr:Le2 S'.pr S.pr
 cg:0≤S'.cg∧S'.cg≤S.cg
 mg:∀l,S.mkd.getD l false=true→S'.mkd.getD l false=true
def Later.refl{S:Stnd}(hn:Nn S.pr)(hc:0≤S.cg):Later S S:=⟨rfl,Le2.self hn,⟨hc,Int.le_refl _⟩,fun _ h=>h⟩
def Later.trans{S S' S'':Stnd}(h:Later S S')(h':Later S' S''):Later S S'':=⟨h'.ow.trans h.ow,h'.pr.trans h.pr,⟨h'.cg.1,Int.le_trans h'.cg.2 h.cg.2⟩,fun l e=>h'.mg l (h.mg l e)⟩
end Vs
namespace Vs
open PySem L2
noncomputable def top(i:Nat):Stmt:=PySem.Challenge.pw_voucherstack_k33_accounts_opened.main.body.getD i (.Pass ⟨0,0,0,0⟩)
noncomputable abbrev kgI:Stmt:=top 2
noncomputable abbrev kgG:Stmt:=top 4
noncomputable abbrev kbB:Stmt:=top 16
noncomputable abbrev ked:Stmt:=top 19
noncomputable abbrev kiI:Stmt:=top 20
noncomputable abbrev kc0:Stmt:=top 21
noncomputable abbrev kiJ:Stmt:=top 22
noncomputable abbrev kgJ:Stmt:=top 23
noncomputable abbrev kbD:Stmt:=top 24
noncomputable abbrev kbq:Stmt:=top 25
noncomputable abbrev ka8:Stmt:=top 26
noncomputable abbrev kbC:Stmt:=top 27
noncomputable abbrev kaD:Stmt:=top 28
noncomputable abbrev kbJ:Stmt:=top 29
noncomputable abbrev kcc:Stmt:=top 30
noncomputable abbrev kbI:Stmt:=top 31
noncomputable abbrev kec:Stmt:=top 32
noncomputable abbrev kgH:Stmt:=top 40
noncomputable abbrev kfi:Stmt:=top 41
noncomputable abbrev kbH:Stmt:=top 42
noncomputable abbrev kbY:Stmt:=top 43
noncomputable abbrev kbZ:Stmt:=top 44
noncomputable abbrev kbp:Stmt:=top 45
noncomputable abbrev kfj:Stmt:=top 48
noncomputable abbrev kb5:Stmt:=top 54
noncomputable abbrev kc1:Stmt:=top 55
noncomputable abbrev kcx:Stmt:=top 56
noncomputable abbrev kb4:Stmt:=top 57
noncomputable abbrev kcg:Stmt:=top 58
noncomputable abbrev kch:Stmt:=top 59
noncomputable abbrev kcz:Stmt:=top 60
noncomputable abbrev kb0:Stmt:=top 61
noncomputable abbrev kcw:Stmt:=top 62
noncomputable abbrev kcv:Stmt:=top 63
noncomputable abbrev kcd:Stmt:=top 64
noncomputable abbrev kcf:Stmt:=top 65
noncomputable abbrev kcA:Stmt:=top 66
noncomputable abbrev kcy:Stmt:=top 67
noncomputable abbrev kbE:Stmt:=top 68
noncomputable abbrev kbi:Stmt:=top 69
noncomputable abbrev kbr:Stmt:=top 70
noncomputable abbrev kce:Stmt:=top 71
noncomputable abbrev kb3:Stmt:=top 72
noncomputable abbrev kbK:Stmt:=top 73
noncomputable abbrev ka2:Stmt:=top 74
noncomputable abbrev s_law:Stmt:=top 75
noncomputable abbrev kaZ:Stmt:=inClass (top 6) 0
noncomputable abbrev kaO:Stmt:=inClass (top 7) 0
noncomputable abbrev kbf:Stmt:=inClass (top 8) 0
noncomputable abbrev kaY:Stmt:=inClass (top 9) 0
noncomputable abbrev kaJ:Stmt:=inClass (top 10) 0
noncomputable abbrev kaQ:Stmt:=inClass (top 11) 0
noncomputable abbrev kaK:Stmt:=inClass (top 12) 0
noncomputable abbrev ka5:Stmt:=inClass (top 14) 0
noncomputable abbrev kaR:Stmt:=inClass (top 15) 0
noncomputable abbrev kbM:Stmt:=inClass (top 17) 0
noncomputable abbrev kbF:Stmt:=inClass (top 17) 1
noncomputable abbrev kdx:Stmt:=inClass (top 39) 0
noncomputable abbrev kb6:Stmt:=inClass (top 39) 1
noncomputable abbrev kcB:Stmt:=inClass (top 39) 2
noncomputable abbrev kbL:Stmt:=inClass (top 39) 4
noncomputable abbrev kc2:Stmt:=inClass (top 47) 0
noncomputable abbrev ka4:Stmt:=inClass (top 50) 0
noncomputable abbrev kb7:Stmt:=inClass (top 52) 0
noncomputable abbrev kci:Stmt:=inClass (top 35) 0
set_option genInjectivity false
set_option genSizeOf false
structure D where
 Xy:Addr
 Xz:FuncData
 XA:Addr
 XB:FuncData
 XC:Addr
 XD:FuncData
 XE:Addr
 XF:FuncData
 XG:Addr
 XH:FuncData
 XI:Addr
 XJ:FuncData
 XM:Addr
 XO:FuncData
 XQ:Addr
 XR:FuncData
 XS:Addr
 XT:FuncData
 XU:Addr
 XW:FuncData
 XX:Addr
 XY:FuncData
 XZ:Addr
 X0:FuncData
 X2:Addr
 QF:FuncData
 X3:Addr
 X4:FuncData
 X5:Addr
 X6:FuncData
 X7:Addr
 X8:FuncData
 X9:Addr
 Ya:FuncData
 Yb:Addr
 Yc:FuncData
 Yd:Addr
 Ye:FuncData
 Yf:Addr
 Yg:FuncData
 Yh:Addr
 Yi:FuncData
 Yj:Addr
 Yk:FuncData
 Yl:Addr
 Ym:FuncData
 Yn:Addr
 Yo:FuncData
 Yp:Addr
 Yq:FuncData
 Yr:Addr
 Yt:FuncData
 Yu:Addr
 Yv:FuncData
 Yw:Addr
 Yx:FuncData
 Yy:Addr
 Yz:FuncData
 YA:Addr
 YB:FuncData
 YC:Addr
 YD:FuncData
 YE:Addr
 YF:FuncData
 YG:Addr
 YH:FuncData
 YI:Addr
 YJ:FuncData
 YK:Addr
 YL:FuncData
 YM:Addr
 YN:FuncData
 YO:Addr
 YQ:FuncData
 YR:Addr
 YS:FuncData
 YT:Addr
 YU:FuncData
 YV:Addr
 YW:FuncData
 YX:Addr
 YY:FuncData
 YZ:Addr
 Y0:FuncData
 Y1:Addr
 Y2:FuncData
 Y3:Addr
 Y5:FuncData
 Y7:Addr
 Y9:FuncData
 f_law:Addr
 Za:FuncData
 qg:Addr
 Zb:Addr
 qD:FuncData
 tok1_Marks_init:Nat
 qy:Addr
 QG:Addr
 QH:FuncData
 c_Off:Addr
 Zc:Addr
 QI:FuncData
 ql:Addr
 Zd:Addr
 Qm:FuncData
 qp:Addr
 Ze:Addr
 QJ:FuncData
 qm:Addr
 Zf:Addr
 QK:FuncData
 qq:Addr
 Zg:Addr
 QL:FuncData
 qe:Addr
 Zh:Addr
 QM:FuncData
 qf:Addr
 Zi:Addr
 Qn:FuncData
 tok0_Basket_init:Nat
 qc:Addr
 Zj:Addr
 Zk:FuncData
 Zl:Addr
 Zm:FuncData
 c_Way:Addr
 Zn:Addr
 Zo:FuncData
 Zp:Addr
 Zq:FuncData
 Zr:Addr
 Zs:FuncData
 Zt:Addr
 Zu:FuncData
 qj:Addr
 Zv:Addr
 Zw:FuncData
 qd:Addr
 Zx:Addr
 QN:FuncData
 tok0_Till_init:Nat
 qi:Addr
 Zy:Addr
 Zz:FuncData
 cc_falling_groups:Addr
 tP_falling_groups:Addr
 qo:Addr
 qz:Addr
 qW:Addr
 qX:Addr
 ZA:Addr
 ZC:FuncData
structure Wld (K:JZ) (mg:Str→Option Value) (d:D):Prop where
 B:TxtB mg
 QO:Dn K mg "dealt" kgI ["cut","weights"] d.Xy d.Xz
 ZD:Dn K mg "under" kgG ["parents","one","other"] d.XA d.XB
 ZE:Dn K mg "price_of_piece" kbB ["line","member"] d.XC d.XD
 QP:Dn K mg "about" ked ["voucher","parents","basket","standing"] d.XE d.XF
 ZF:Dn K mg "fits" kiI ["marks","parents","kind","marked"] d.XG d.XH
 ZG:Dn K mg "hindrance" kc0 ["voucher","parents","basket","standing"] d.XI d.XJ
 ZH:Dn K mg "cuts" kiJ ["voucher","parents","basket","standing"] d.XM d.XO
 ZI:Dn K mg "after" kgJ ["voucher","parents","basket","standing"] d.XQ d.XR
 QQ:Dn K mg "cuts_of_pieces" kbD ["voucher","parents","basket","standing"] d.XS d.XT
 QR:Dn K mg "cut_of_carriage" kbq ["voucher","standing"] d.XU d.XW
 ZJ:Dn K mg "wanted_cuts" ka8 ["voucher","standing","pieces"] d.XX d.XY
 ZK:Dn K mg "parted_by_line" kbC ["standing","pieces"] d.XZ d.X0
 QS:Dn K mg "falling_groups" kaD ["standing","pieces","many"] d.X2 d.QF
 ZL:Dn K mg "marked_behind" kbJ ["voucher","standing","piece_cuts"] d.X3 d.X4
 QT:Dn K mg "prices_of" kcc ["standing","pieces"] d.X5 d.X6
 qY:Dn K mg "sum_of_prices" kbI ["standing","pieces"] d.X7 d.X8
 ZM:Dn K mg "at_most" kec ["most","number"] d.X9 d.Ya
 qO:Dn K mg "fault" kgH ["till","basket","hand","order"] d.Yb d.Yc
 ZN:Dn K mg "way_by" kfi ["till","basket","hand","order"] d.Yd d.Ye
 ZO:Dn K mg "word_of_order" kbH ["till","hand","used","number"] d.Yf d.Yg
 ZP:Dn K mg "breaks_never" kbY ["rules","used","number"] d.Yh d.Yi
 ZQ:Dn K mg "breaks_ahead" kbZ ["rules","used","number"] d.Yj d.Yk
 ZR:Dn K mg "without_company" kbp ["rules","order"] d.Yl d.Ym
 qP:Dn K mg "priced" kfj ["till","basket","hand","order"] d.Yn d.Yo
 ZS:Dn K mg "_law_cell_at" kb5 ["_law_script","_law_k"] d.Yp d.Yq
 qk:Dn K mg "_law_some" kc1 ["_law_script","_law_k","_law_salt","_law_many"] d.Yr d.Yt
 Qo:Dn K mg "_law_price" kcx ["_law_script","_law_k","_law_salt"] d.Yu d.Yv
 ZT:Dn K mg "_law_parents" kb4 ["_law_script"] d.Yw d.Yx
 QU:Dn K mg "_law_basket" kcg ["_law_script","_law_kinds"] d.Yy d.Yz
 qZ:Dn K mg "_law_amount" kch ["_law_script","_law_k","_law_salt","_law_worth_here"] d.YA d.YB
 ZU:Dn K mg "_law_marks" kcz ["_law_script","_law_k","_law_kinds","_law_worth_here"] d.YC d.YD
 ZV:Dn K mg "_law_voucher" kb0 ["_law_script","_law_k","_law_kinds","_law_worth_here"] d.YE d.YF
 ZW:Dn K mg "_law_rules" kcw ["_law_script","_law_many"] d.YG d.YH
 ZX:Dn K mg "_law_worth" kcv ["_law_basket_here"] d.YI d.YJ
 ZY:Dn K mg "_law_till" kcd ["_law_script","_law_parents_here","_law_basket_here","_law_back"] d.YK d.YL
 ZZ:Dn K mg "_law_hand" kcf ["_law_script","_law_many"] d.YM d.YN
 Z9:Dn K mg "_law_going" kcA ["_law_till_here","_law_basket_here","_law_hand_here","_law_order_here"] d.YO d.YQ
 Va:Dn K mg "_law_order" kcy ["_law_script","_law_k","_law_till_here","_law_basket_here","_law_hand_here"] d.YR d.YS
 Qa:Dn K mg "_law_number_is" kbE ["_law_found","_law_due"] d.YT d.YU
 Qp:Dn K mg "_law_numbers_are" kbi ["_law_found","_law_due"] d.YV d.YW
 Vb:Dn K mg "_law_account_is" kbr ["_law_account","_law_order_here","_law_fallen","_law_many","_law_paid","_law_owed"] d.YX d.YY
 Vd:Dn K mg "_law_opened" kce ["_law_till_here","_law_basket_here","_law_hand_here","_law_order_here"] d.YZ d.Y0
 Ve:Dn K mg "_law_refused" kb3 ["_law_caught","_law_due"] d.Y1 d.Y2
 Vf:Dn K mg "_law_is_first" kbK ["_law_account","_law_basket_here","_law_order_here","_law_paid"] d.Y3 d.Y5
 Vg:Dn K mg "_law_price_elsewhere" ka2 ["_law_till_here","_law_basket_here","_law_hand_here","_law_order_here"] d.Y7 d.Y9
 d_law:Dn K mg "law" s_law ["_law_script"] d.f_law d.Za
 qg:ClsT K mg "Marks" d.qg
 Qq:NoAttr K d.qg "kind"
 Vh:NoAttr K d.qg "needs"
 QV:NoAttr K d.qg "most"
 Vi:NoAttr K d.qg "member"
 Vj:NoAttr K d.qg "once"
 QW:NoAttr K d.qg "lone"
 Qr:MthT K d.qg "__init__" "Marks.__init__" kaZ ["self","kind","needs","most","member","once","lone"] d.Zb d.qD
 b1_Marks_init:Binds K d.qD ["self","kind","needs","most","member","once","lone"] [.bool false]
 b2_Marks_init:Binds K d.qD ["self","kind","needs","most","member","once","lone"] [.bool false, .bool false]
 b3_Marks_init:Binds K d.qD ["self","kind","needs","most","member","once","lone"] [.bool false, .bool false, .bool false]
 b4_Marks_init:Binds K d.qD ["self","kind","needs","most","member","once","lone"] [.none, .bool false, .bool false, .bool false]
 b5_Marks_init:Binds K d.qD ["self","kind","needs","most","member","once","lone"] [.int 0 d.tok1_Marks_init, .none, .bool false, .bool false, .bool false]
 b6_Marks_init:Binds K d.qD ["self","kind","needs","most","member","once","lone"] [.none, .int 0 d.tok1_Marks_init, .none, .bool false, .bool false, .bool false]
 qy:ClsT K mg "Voucher" d.qy
 qu:MthT K d.qy "__init__" "Voucher.__init__" kaO ["self","marks"] d.QG d.QH
 b1_Voucher_init:Binds K d.QH ["self","marks"] [.none]
 g_Off:mg "Off"=some (.ref d.c_Off)
 c_Off:ClsT K mg "Off" d.c_Off
 Vk:NoAttr K d.c_Off "amount"
 Vl:NoAttr K d.c_Off "marks"
 QX:MthT K d.c_Off "__init__" "Off.__init__" kbf ["self","amount","marks"] d.Zc d.QI
 b1_Off_init:Binds K d.QI ["self","amount","marks"] [.none]
 VR:mg "Share"=some (.ref d.ql)
 ql:ClsT K mg "Share" d.ql
 Vm:NoAttr K d.ql "share"
 Vn:NoAttr K d.ql "by_line"
 Vo:NoAttr K d.ql "marks"
 QY:MthT K d.ql "__init__" "Share.__init__" kaY ["self","share","by_line","marks"] d.Zd d.Qm
 b1_Share_init:Binds K d.Qm ["self","share","by_line","marks"] [.none]
 b2_Share_init:Binds K d.Qm ["self","share","by_line","marks"] [.bool false, .none]
 VS:mg "Cheapest"=some (.ref d.qp)
 qp:ClsT K mg "Cheapest" d.qp
 Vp:NoAttr K d.qp "many"
 Vq:NoAttr K d.qp "marks"
 QZ:MthT K d.qp "__init__" "Cheapest.__init__" kaJ ["self","many","marks"] d.Ze d.QJ
 b1_Cheapest_init:Binds K d.QJ ["self","many","marks"] [.none]
 VT:mg "Bundle"=some (.ref d.qm)
 qm:ClsT K mg "Bundle" d.qm
 Vr:NoAttr K d.qm "many"
 Vt:NoAttr K d.qm "price"
 Vu:NoAttr K d.qm "marks"
 Q0:MthT K d.qm "__init__" "Bundle.__init__" kaQ ["self","many","price","marks"] d.Zf d.QK
 b1_Bundle_init:Binds K d.QK ["self","many","price","marks"] [.none]
 VU:mg "Carriage"=some (.ref d.qq)
 qq:ClsT K mg "Carriage" d.qq
 Vv:NoAttr K d.qq "marks"
 Q1:MthT K d.qq "__init__" "Carriage.__init__" kaK ["self","marks"] d.Zg d.QL
 b1_Carriage_init:Binds K d.QL ["self","marks"] [.none]
 qe:ClsT K mg "Line" d.qe
 Vw:NoAttr K d.qe "kind"
 Qs:NoAttr K d.qe "price"
 qE:NoAttr K d.qe "many"
 Q2:NoAttr K d.qe "special"
 Q3:MthT K d.qe "__init__" "Line.__init__" ka5 ["self","kind","price","many","special"] d.Zh d.QM
 b1_Line_init:Binds K d.QM ["self","kind","price","many","special"] [.none]
 qf:ClsT K mg "Basket" d.qf
 qF:NoAttr K d.qf "lines"
 Q4:NoAttr K d.qf "carriage"
 Qt:NoAttr K d.qf "member"
 Qb:MthT K d.qf "__init__" "Basket.__init__" kaR ["self","lines","carriage","member"] d.Zi d.Qn
 b1_Basket_init:Binds K d.Qn ["self","lines","carriage","member"] [.bool false]
 b2_Basket_init:Binds K d.Qn ["self","lines","carriage","member"] [.int 0 d.tok0_Basket_init, .bool false]
 qc:ClsT K mg "Standing" d.qc
 qJ:NoAttr K d.qc "owners"
 qw:NoAttr K d.qc "prices"
 qQ:NoAttr K d.qc "carriage"
 Qc:NoAttr K d.qc "marked"
 Qd:MthT K d.qc "__init__" "Standing.__init__" kbM ["self","basket"] d.Zj d.Zk
 Q5:MthT K d.qc "whole" "Standing.whole" kbF ["self"] d.Zl d.Zm
 c_Way:ClsT K mg "Way" d.c_Way
 qG:NoAttr K d.c_Way "till"
 Qu:NoAttr K d.c_Way "basket"
 Q6:NoAttr K d.c_Way "hand"
 qR:NoAttr K d.c_Way "used"
 qS:NoAttr K d.c_Way "standing"
 qK:MthT K d.c_Way "__init__" "Way.__init__" kdx ["self","till","basket","hand"] d.Zn d.Zo
 Qe:MthT K d.c_Way "word_for" "Way.word_for" kb6 ["self","number"] d.Zp d.Zq
 Qf:MthT K d.c_Way "behind" "Way.behind" kcB ["self","number"] d.Zr d.Zs
 Q7:MthT K d.c_Way "is_let_by" "Way.is_let_by" kbL ["self"] d.Zt d.Zu
 qj:ClsT K mg "Bill" d.qj
 VV:NoAttr K d.qj "order"
 VW:NoAttr K d.qj "steps"
 Vx:NoAttr K d.qj "prices"
 VX:NoAttr K d.qj "carriage"
 Q8:NoAttr K d.qj "total"
 Q9:MthT K d.qj "__init__" "Bill.__init__" kc2 ["self","order","steps","standing"] d.Zv d.Zw
 qd:ClsT K mg "Till" d.qd
 Qg:NoAttr K d.qd "parents"
 qx:NoAttr K d.qd "vouchers"
 qL:NoAttr K d.qd "rules"
 Xa:NoAttr K d.qd "back"
 qM:MthT K d.qd "__init__" "Till.__init__" ka4 ["self","parents","vouchers","rules","back"] d.Zx d.QN
 b1_Till_init:Binds K d.QN ["self","parents","vouchers","rules","back"] [.str "again" d.tok0_Till_init]
 VY:mg "Account"=some (.ref d.qi)
 qi:ClsT K mg "Account" d.qi
 VZ:NoAttr K d.qi "till"
 V0:NoAttr K d.qi "basket"
 V1:NoAttr K d.qi "hand"
 V2:NoAttr K d.qi "first_prices"
 Vy:NoAttr K d.qi "order"
 Vz:NoAttr K d.qi "fallen"
 VA:NoAttr K d.qi "many"
 VB:NoAttr K d.qi "paid"
 VC:NoAttr K d.qi "owed"
 Xb:MthT K d.qi "__init__" "Account.__init__" kb7 ["self","till","basket","hand","order"] d.Zy d.Zz
 Qh:BaseT K d.qy "__init__" d.QG
 V3:Nd K (.ref d.c_Off) (.ref d.qq)=some false
 V4:Nd K (.ref d.ql) (.ref d.qq)=some false
 V5:Nd K (.ref d.qp) (.ref d.qq)=some false
 V6:Nd K (.ref d.qm) (.ref d.qq)=some false
 V7:Nd K (.ref d.ql) (.ref d.c_Off)=some false
 V8:Nd K (.ref d.qp) (.ref d.c_Off)=some false
 V9:Nd K (.ref d.qm) (.ref d.c_Off)=some false
 Ua:Nd K (.ref d.qq) (.ref d.c_Off)=some false
 Ub:Nd K (.ref d.c_Off) (.ref d.ql)=some false
 Uc:Nd K (.ref d.qp) (.ref d.ql)=some false
 Ud:Nd K (.ref d.qm) (.ref d.ql)=some false
 Ue:Nd K (.ref d.qq) (.ref d.ql)=some false
 Ug:Nd K (.ref d.c_Off) (.ref d.qp)=some false
 Uh:Nd K (.ref d.ql) (.ref d.qp)=some false
 Ui:Nd K (.ref d.qm) (.ref d.qp)=some false
 Uj:Nd K (.ref d.qq) (.ref d.qp)=some false
 Uk:Nd K (.ref d.c_Off) (.ref d.qm)=some false
 Ul:Nd K (.ref d.ql) (.ref d.qm)=some false
 Um:Nd K (.ref d.qp) (.ref d.qm)=some false
 Uo:Nd K (.ref d.qq) (.ref d.qm)=some false
 code_falling_groups:d.QF.code=.ref d.cc_falling_groups
 ck_falling_groups:CodeK K d.cc_falling_groups d.tP_falling_groups
 VD:mg "NotLet"=some (.ref d.qo)
 Uq:mg "TillError"=some (.ref d.qz)
 Ur:mg "NoPieces"=some (.ref d.qW)
 Us:mg "LineError"=some (.ref d.qX)
 w_NotLet:ExcW K d.qo d.qz
 x_NotLet:ExcK K d.qo
 kp_NotLet:Ni K (.ref d.qo)=true
 Qv:MthT K d.qo "__init__" "NotLet.__init__" kci ["self","place","word"] d.ZA d.ZC
 VE:NoAttr K d.qo "place"
 Xc:NoAttr K d.qo "word"
 xm_NotLet_TillError:EF K (.ref d.qo) (.ref d.qz)=some true
 ki_NotLet_NoPieces:Nd K (.ref d.qo) (.ref d.qW)=some false
 ki_NotLet_LineError:Nd K (.ref d.qo) (.ref d.qX)=some false
 ki_NotLet_ValueError:Nd K (.ref d.qo) (.type "ValueError")=some true
 zVE:mg "ValueError"=none
structure WB (K:JZ) (mg:Str→Option Value) (d:D) (base:Heap):Prop extends Wld K mg d where
 blt:BltM mg base
 kin:K.In base
end Vs
namespace Vs
open PySem L2 War Kin Deal
noncomputable def LineAt(C:Addr)(H:Hp)(x:Addr)(r:Row):Prop:=∃(dx:Addr)(fs:List (Str×V)),H x=some (.ins C dx fs)∧fs.lookup ("kind" :Str)=some (.int r.kd)∧fs.lookup ("price" :Str)=some (.int r.pr)∧fs.lookup ("many" :Str)=some (.int r.mn)∧fs.lookup ("special" :Str)=some (oV r.ex)
noncomputable abbrev Lines(C:Addr)(H:Hp)(ls:List Addr)(rs:List Row):Prop:=P2 (LineAt C H) ls rs
noncomputable def BaskAt(C:Addr)(H:Hp)(b l:Addr)(cg:Int)(m:Bool):Prop:=∃(dx:Addr)(fs:List (Str×V)),H b=some (.ins C dx fs)∧fs.lookup ("lines" :Str)=some (.ref l)∧fs.lookup ("carriage" :Str)=some (.int cg)∧fs.lookup ("member" :Str)=some (.bl m)
noncomputable def StandAt(C:Addr)(H:Hp)(x o p mk:Addr)(cg:Int):Prop:=∃(dx:Addr)(fs:List (Str×V)),H x=some (.ins C dx fs)∧fs.lookup ("owners" :Str)=some (.ref o)∧fs.lookup ("prices" :Str)=some (.ref p)∧fs.lookup ("carriage" :Str)=some (.int cg)∧fs.lookup ("marked" :Str)=some (.ref mk)∧fs.lookup ("whole" :Str)=none
section
variable {C:Addr} {H H':Hp}
theorem LineAt.same{x:Addr}{r:Row}(s:Same H H'):LineAt C H x r→LineAt C H' x r:=fun⟨dx,fs,h,q⟩=>⟨dx,fs,s _ _ h,q⟩
theorem Lines.same{ls:List Addr}{rs:List Row}(s:Same H H')(h:Lines C H ls rs):Lines C H' ls rs:=h.mono fun _ _ q=>q.same s
theorem BaskAt.same{b l:Addr}{cg:Int}{m:Bool}(s:Same H H'):BaskAt C H b l cg m→BaskAt C H' b l cg m:=fun⟨dx,fs,h,q⟩=>⟨dx,fs,s _ _ h,q⟩
theorem StandAt.same{x o p mk:Addr}{cg:Int}(s:Same H H'):StandAt C H x o p mk cg→StandAt C H' x o p mk cg:=fun⟨dx,fs,h,q⟩=>⟨dx,fs,s _ _ h,q⟩
end
section
variable {H:Hp} {hd:Addr} {xs:List V} {o:HO}
theorem BaskAt.set{C b l:Addr}{cg:Int}{m:Bool}(h:H hd=some (.lst xs)):BaskAt C H b l cg m→BaskAt C (upd H hd o) b l cg m:=fun⟨dx,fs,e,q⟩=>⟨dx,fs,by rw[kaj (ne_of e h (by intro z;cases z))];exact e,q⟩
theorem StandAt.set{C x a b c:Addr}{cg:Int}(h:H hd=some (.lst xs)):StandAt C H x a b c cg→StandAt C (upd H hd o) x a b c cg:=fun⟨dx,fs,e,q⟩=>⟨dx,fs,by rw[kaj (ne_of e h (by intro z;cases z))];exact e,q⟩
theorem LineAt.set{C x:Addr}{r:Row}(h:H hd=some (.lst xs)):LineAt C H x r→LineAt C (upd H hd o) x r:=fun⟨dx,fs,e,q⟩=>⟨dx,fs,by rw[kaj (ne_of e h (by intro z;cases z))];exact e,q⟩
theorem Lines.set{C:Addr}{ls:List Addr}{rs:List Row}(h:H hd=some (.lst xs))(L:Lines C H ls rs):Lines C (upd H hd o) ls rs:=L.mono fun _ _ q=>q.set h
end
structure Bask where
 rs:List Row
 cg:Int
 m:Bool
inductive BaskIs (CL CB:Addr) (H:Hp) (b:Addr) (B:Bask):Prop
 |ct (l:Addr)(ls:List Addr)(_:BaskAt CB H b l B.cg B.m)(_:H l=some (.lst (ls.map V.ref)))(_:Lines CL H ls B.rs):BaskIs CL CB H b B
def BaskIs.same{CL CB:Addr}{H H':Hp}{b:Addr}{B:Bask}(s:Same H H'):BaskIs CL CB H b B→BaskIs CL CB H' b B:=fun⟨l,ls,h1,h2,h3⟩=>⟨l,ls,h1.same s,s _ _ h2,h3.same s⟩
noncomputable def iV(k:Nat):V:=.int (k:Int)
inductive StndIs (CS:Addr) (H:Hp) (x:Addr) (S:Stnd):Prop
 |ct (o p mk:Addr)(_:StandAt CS H x o p mk S.cg)(_:H o=some (.lst (S.ow.map iV)))(_:H p=some (.lst (S.pr.map V.int)))(_:H mk=some (.lst (S.mkd.map V.bl))):StndIs CS H x S
def StndIs.same{CS:Addr}{H H':Hp}{x:Addr}{S:Stnd}(s:Same H H'):StndIs CS H x S→StndIs CS H' x S:=fun⟨o,p,mk,h1,h2,h3,h4⟩=>⟨o,p,mk,h1.same s,s _ _ h2,s _ _ h3,s _ _ h4⟩
def kcm(ns:List Nat):(ns.map iV).all flatV=true:=by
 rw[MG]
 intro x hx
 obtain⟨n,_,rfl⟩:=Nq.mp hx
 rfl
noncomputable def ownN(rs:List Row):List Nat:=(rs.zipIdx.map fun p=>J6 p.1.mn.toNat p.2).flatten
theorem kfp(rs:List Row):(own rs).map V.int=(ownN rs).map iV:=by
 unfold own ownN
 generalize rs.zipIdx=l
 induction l with
 |nil=>rfl
 |cons p l ih=>
  rw[Nv,NC,J9,ih,Nv,NC,J9]
  congr 1
  simp[iV]
def klB(rs:List Row){l:Nat}(h:l∈ownN rs):l<rs.length:=by
 unfold ownN at h
 obtain⟨xs,h1,h2⟩:=Mg.mp h
 obtain⟨p,h3,rfl⟩:=Nq.mp h1
 have e:l=p.2:=(List.mem_replicate.mp h2).2
 have q:=List.mem_zipIdx h3
 omega
def kj4(rs:List Row)(h:∀r∈rs,r.Ok):(ownN rs).length≤60*rs.length:=by
 have e:(ownN rs).length=(own rs).length:=by
  have:=congrArg MT (kfp rs)
  simpa using this.symm
 rw[e]
 exact ki3 rs h
noncomputable def pV:Option Nat→V
 |none=>.non
 |some k=>.int (k:Int)
def eq_int(a b:Nat):decide (V.int (a:Int)=V.int (b:Int))=decide (a=b):=by
 by_cases h:a=b
 ·subst h;simp
 ·have:¬(V.int (a:Int)=V.int (b:Int)):=by
   intro e
   injection e with e
   omega
  simp[h,this]
theorem kkd{c:Int}{ws:List Int}(h:ws.sum=0):(dl c ws).map V.int=J6 ws.length (V.int 0):=by
 unfold dl
 rw[if_pos h]
 clear h
 induction ws with
 |nil=>rfl
 |cons w ws ih=>simpa[Ml] using ih
def kjc{c:Int}{ws:List Int}(h:¬ws.sum=0):dl c ws=(J8 ws.length).map (part c ws):=by
 unfold dl
 rw[if_neg h]
inductive kiA (K:JZ) (vs:List V) (H:Hp) (Q:VK) (E_:XK):Prop
 |ct (c:Int)(a:Addr)(ws:List Int)(_:vs=[.int c, .ref a])(_:SqL K H a (ws.map V.int))(_:Nn ws)(_:ws.sum<2 ^ 100)(_:0≤c)(_:c<2 ^ 64)(_:ws.length≤1000)(_:∀p,H p=none→Q (.ref p) (upd H p (.lst ((dl c ws).map V.int)))):kiA K vs H Q E_
inductive kir (K:JZ) (vs:List V) (H:Hp) (Q:VK) (E_:XK):Prop
 |ct (a:Addr)(ps:List (Option Nat))(one other:Nat)(_:vs=[.ref a, .int one, .int other])(_:SqL K H a (ps.map pV))(_:Good ps)(_:one<ps.length)(_:Q (.bl (decide (other∈up ps one))) H):kir K vs H Q E_
inductive kgA (C:Addr) (vs:List V) (H:Hp) (Q:VK) (E_:XK):Prop
 |ct (x dx:Addr)(r:Row)(_:vs=[.ref x, .int r.kd, .int r.pr, .int r.mn,oV r.ex])(_:H x=some (.ins C dx []))(_:∀H',But x H H'→LineAt C H' x r→Q .non H'):kgA C vs H Q E_
inductive kgC (K:JZ) (C:Addr) (vs:List V) (H:Hp) (Q:VK) (E_:XK):Prop
 |ct (x dx l:Addr)(cg:Int)(m:Bool)(xs:List V)(_:vs=[.ref x, .ref l, .int cg, .bl m])(_:H x=some (.ins C dx []))(_:SqL K H l xs)(_:∀(H':Hp)(l':Addr),But x H H'→H l'=none→H' l'=some (.lst xs)→BaskAt C H' x l' cg m→Q .non H'):kgC K C vs H Q E_
inductive kiu (CL:Addr) (vs:List V) (H:Hp) (Q:VK) (E_:XK):Prop
 |ct (x:Addr)(m:Bool)(r:Row)(_:vs=[.ref x, .bl m])(_:LineAt CL H x r)(_:Q (.int (prc m r)) H):kiu CL vs H Q E_
inductive kc9 (CL CB CS:Addr) (vs:List V) (H:Hp) (Q:VK) (E_:XK):Prop
 |ct (x dx b l:Addr)(cg:Int)(m:Bool)(ls:List Addr)(rs:List Row)(_:vs=[.ref x, .ref b])(_:H x=some (.ins CS dx []))(_:BaskAt CB H b l cg m)(_:H l=some (.lst (ls.map V.ref)))(_:Lines CL H ls rs)(_:rs.length≤12)(_:(∀r∈rs,r.Ok))(_:∀(H':Hp)(o p mk:Addr),But x H H'→H o=none→H p=none→H mk=none→StandAt CS H' x o p mk cg→H' o=some (.lst ((own rs).map V.int))→H' p=some (.lst ((prs m rs).map V.int))→H' mk=some (.lst (J6 rs.length (.bl false)))→(∃dx fs,H' x=some (.ins CS dx fs)∧fs.length≤10)→Q .non H'):kc9 CL CB CS vs H Q E_
inductive kio (CS:Addr) (vs:List V) (H:Hp) (Q:VK) (E_:XK):Prop
 |ct (x o p mk:Addr)(cg:Int)(ns:List Int)(_:vs=[.ref x])(_:StandAt CS H x o p mk cg)(_:H p=some (.lst (ns.map V.int)))(_:Q (.int (ns.sum+cg)) H):kio CS vs H Q E_
structure S3 (H0:Hp) (x C dx:Addr) (fs:List (Str×V)) (o p mk:Addr) (a b c:List V) (H:Hp):Prop where
 bt:But x H0 H
 ob:H x=some (.ins C dx fs)
 ho:H o=some (.lst a)
 hp:H p=some (.lst b)
 hm:H mk=some (.lst c)
structure Ds (H0:Hp) (x o p mk:Addr):Prop where
 fo:H0 o=none
 fp:H0 p=none
 fm:H0 mk=none
 ox:o≠x
 px:p≠x
 mx:mk≠x
 op:o≠p
 om:o≠mk
 pm:p≠mk
section
variable {H0 H H':Hp} {x C dx o p mk:Addr} {fs:List (Str×V)} {a b c d:List V}
theorem S3.same(h:S3 H0 x C dx fs o p mk a b c H)(s:Same H H'):S3 H0 x C dx fs o p mk a b c H':=⟨h.bt.same s,s _ _ h.ob,s _ _ h.ho,s _ _ h.hp,s _ _ h.hm⟩
theorem S3.setO(h:S3 H0 x C dx fs o p mk a b c H)(D:Ds H0 x o p mk):S3 H0 x C dx fs o p mk d b c (upd H o (.lst d)):=
 ⟨fun y u n e=>kbv (h.bt y u n e) fun u' e'=>ev_eq (by rw[kaj (kai e D.fo)];exact e') fun t=>kdG t (kai e D.fo) (nx h.ho),by rw[kaj D.ox.symm];exact h.ob,kad,by rw[kaj D.op.symm];exact h.hp,by rw[kaj D.om.symm];exact h.hm⟩
theorem S3.setP(h:S3 H0 x C dx fs o p mk a b c H)(D:Ds H0 x o p mk):S3 H0 x C dx fs o p mk a d c (upd H p (.lst d)):=
 ⟨fun y u n e=>kbv (h.bt y u n e) fun u' e'=>ev_eq (by rw[kaj (kai e D.fp)];exact e') fun t=>kdG t (kai e D.fp) (nx h.hp),by rw[kaj D.px.symm];exact h.ob,by rw[kaj D.op];exact h.ho,kad,by rw[kaj D.pm.symm];exact h.hm⟩
theorem S3.setM(h:S3 H0 x C dx fs o p mk a b c H)(D:Ds H0 x o p mk):S3 H0 x C dx fs o p mk a b d (upd H mk (.lst d)):=
 ⟨fun y u n e=>kbv (h.bt y u n e) fun u' e'=>ev_eq (by rw[kaj (kai e D.fm)];exact e') fun t=>kdG t (kai e D.fm) (nx h.hm),by rw[kaj D.mx.symm];exact h.ob,by rw[kaj D.om];exact h.ho,by rw[kaj D.pm];exact h.hp,kad⟩
end
end Vs
namespace Vs
open PySem L2 War Kin Deal
noncomputable def MksIs(C:Addr)(H:Hp)(x:Addr)(M:Mks):Prop:=∃(dx:Addr)(fs:List (Str×V)),H x=some (.ins C dx fs)∧fs.lookup ("kind" :Str)=some (pV M.kind)∧fs.lookup ("needs" :Str)=some (.int M.needs)∧fs.lookup ("most" :Str)=some (oV M.most)∧fs.lookup ("member" :Str)=some (.bl M.member)∧fs.lookup ("once" :Str)=some (.bl M.once)∧fs.lookup ("lone" :Str)=some (.bl M.lone)
def MksIs.same{C:Addr}{H H':Hp}{x:Addr}{M:Mks}(s:Same H H'):MksIs C H x M→MksIs C H' x M:=fun⟨dx,fs,h,q⟩=>⟨dx,fs,s _ _ h,q⟩
noncomputable def SrtIs(fs:List (Str×V)):Srt→Prop
 | .off a=>fs.lookup ("amount" :Str)=some (.int a)
 | .share s b=>fs.lookup ("share" :Str)=some (.int s)∧fs.lookup ("by_line" :Str)=some (.bl b)
 | .cheap n=>fs.lookup ("many" :Str)=some (.int n)
 | .bund n p=>fs.lookup ("many" :Str)=some (.int n)∧fs.lookup ("price" :Str)=some (.int p)
 | .carr=>True
noncomputable def clsOf(d:D):Srt→Addr
 | .off _=>d.c_Off
 | .share _ _=>d.ql
 | .cheap _=>d.qp
 | .bund _ _=>d.qm
 | .carr=>d.qq
noncomputable def here:Srt→Bool
 | .off _=>true
 | .share _ _=>true
 | .cheap _=>true
 | .bund _ _=>true
 | .carr=>true
noncomputable def klX:Srt→Bool
 | .off _=>true
 | .share _ _=>false
 | .cheap _=>false
 | .bund _ _=>false
 | .carr=>false
noncomputable def kjL:Srt→Bool
 | .off _=>false
 | .share _ _=>true
 | .cheap _=>false
 | .bund _ _=>false
 | .carr=>false
noncomputable def kgv:Srt→Bool
 | .off _=>false
 | .share _ _=>false
 | .cheap _=>true
 | .bund _ _=>false
 | .carr=>false
noncomputable def kib:Srt→Bool
 | .off _=>false
 | .share _ _=>false
 | .cheap _=>false
 | .bund _ _=>true
 | .carr=>false
noncomputable def kbA:Srt→Bool
 | .off _=>false
 | .share _ _=>false
 | .cheap _=>false
 | .bund _ _=>false
 | .carr=>true
noncomputable def Tbs(d:D)(H:Hp):Prop:=TbAt d.tP_falling_groups H
def Tbs.same{d:D}{H H':Hp}(s:Same H H')(h:Tbs d H):Tbs d H':=s.tb h
inductive VchIs (d:D) (H:Hp) (v:Addr) (V:Vch):Prop
 |ct (mA dx:Addr)(fs:List (Str×L2.V))(_:H v=some (.ins (clsOf d V.so) dx fs))(_:fs.lookup ("marks" :Str)=some (.ref mA))(_:SrtIs fs V.so)(_:MksIs d.qg H mA V.ms)(_:here V.so=true)(_:Tbs d H):VchIs d H v V
def VchIs.same{d:D}{H H':Hp}{v:Addr}{V:Vch}(s:Same H H'):VchIs d H v V→VchIs d H' v V:=fun⟨mA,dx,fs,h1,h2,h3,h4,h5,h6⟩=>⟨mA,dx,fs,s _ _ h1,h2,h3,h4.same s,h5,h6.same s⟩
noncomputable def kds(B:Bask):List Nat:=B.rs.map fun r=>r.kd.toNat
structure Wf (ps:List (Option Nat)) (B:Bask) (S:Stnd):Prop where
 good:Good ps
 pl:ps.length≤20
 kd:∀r∈B.rs,0≤r.kd∧r.kd<(ps.length:Int)
 ok:∀r∈B.rs,r.Ok
 nl:B.rs.length≤12
 bc:0≤B.cg∧B.cg≤1000000000000
 ow:S.ow=ownN B.rs
 lp:S.pr.length=S.ow.length
 lm:S.mkd.length=B.rs.length
 pr:∀z∈S.pr,0≤z∧z≤1000000000000
 cg:0≤S.cg∧S.cg≤1000000000000
 n64:S.ow.length<64
def Wf.np{ps:List (Option Nat)}{B:Bask}{S:Stnd}(W:Wf ps B S):S.ow.length≤720:=by
 have:=kj4 B.rs W.ok
 have:=W.nl
 rw[W.ow]
 omega
def Wf.line{ps:List (Option Nat)}{B:Bask}{S:Stnd}(W:Wf ps B S){i l:Nat}(h:S.ow[i]?=some l):l<B.rs.length:=by
 have hm:=Nb h
 rw[W.ow] at hm
 exact klB _ hm
structure MksOk (ps:List (Option Nat)) (M:Mks):Prop where
 kind:∀k,M.kind=some k→k<ps.length
 needs:0≤M.needs∧M.needs≤1000000000000
 most:∀m,M.most=some m→0≤m∧m≤1000000000000
noncomputable def mks0:Mks:=⟨none,0,none,false,false,false⟩
noncomputable def kfa:Srt→List V
 | .off a=>[.int a]
 | .share s b=>[.int s, .bl b]
 | .cheap n=>[.int n]
 | .bund n p=>[.int n, .int p]
 | .carr=>[]
noncomputable def Mrk(CM:Addr)(H:Hp)(mv:V)(H':Hp)(mA:Addr):Prop:=mv=.ref mA∨(mv=.non∧H mA=none∧MksIs CM H' mA mks0)
def MksIs.but{C x mA:Addr}{H H':Hp}{M:Mks}(n:mA≠x)(b:But x H H'):MksIs C H mA M→MksIs C H' mA M:=fun⟨dx,fs,h,q⟩=>⟨dx,fs,b _ _ n h,q⟩
theorem Mrk.but{CM x mA:Addr}{H H1 H2:Hp}{mv:V}{o:HO}(hx:H x=some o)(b:But x H1 H2):Mrk CM H mv H1 mA→Mrk CM H mv H2 mA
 | .inl e=>.inl e
 | .inr ⟨e,f,h⟩=>.inr ⟨e,f,h.but (kai hx f).symm b⟩
inductive kfc (C:Addr) (vs:List V) (H:Hp) (Q:VK) (E_:XK):Prop
 |ct (x dx:Addr)(M:Mks)(_:vs=[.ref x,pV M.kind, .int M.needs,oV M.most, .bl M.member, .bl M.once, .bl M.lone])(_:H x=some (.ins C dx []))(_:∀H',But x H H'→MksIs C H' x M→Q .non H'):kfc C vs H Q E_
inductive keS (K:JZ) (CM:Addr) (vs:List V) (H:Hp) (Q:VK) (E_:XK):Prop
 |ct (x C dx:Addr)(fs:List (Str×V))(mv:V)(_:vs=[.ref x,mv])(_:H x=some (.ins C dx fs))(_:Cls K C)(_:NoAttr K C "marks")(_:fs.length≤5)(_:(mv=.non∨∃mA,mv=.ref mA))(_:∀(H':Hp)(mA:Addr),But x H H'→Mrk CM H mv H' mA→H' x=some (.ins C dx (putF "marks" (.ref mA) fs))→Q .non H'):keS K CM vs H Q E_
inductive kda (C CM:Addr) (is:Srt→Prop) (vs:List V) (H:Hp) (Q:VK) (E_:XK):Prop
 |ct (x dx:Addr)(so:Srt)(mv:V)(_:is so)(_:vs=.ref x::(kfa so++[mv]))(_:H x=some (.ins C dx []))(_:(mv=.non∨∃mA,mv=.ref mA))(_:∀(H':Hp)(mA:Addr)(fs:List (Str×V)),But x H H'→Mrk CM H mv H' mA→H' x=some (.ins C dx fs)→fs.lookup ("marks" :Str)=some (.ref mA)→SrtIs fs so→Q .non H'):kda C CM is vs H Q E_
theorem khx{C:Addr}{H:Hp}{M:Mks}{R:Addr→Hp→Prop}{E:XK}(k:∀(H':Hp)(x:Addr),Same H H'→H x=none→MksIs C H' x M→R x H'):
  ∀x dx,H x=none→H dx=none→dx≠x→kfc C [.ref x,pV M.kind, .int M.needs,oV M.most, .bl M.member, .bl M.once, .bl M.lone] (upd (upd H dx (.own x)) x (.ins C dx [])) (fun v H2=>v=.non∧R x H2) E:=
 fun x dx nx nd _=>⟨x,dx,M,rfl,kad,fun H' b l=>⟨rfl,k H' x (kbb nx nd b) nx l⟩⟩
def kmm{d:D}{H:Hp}{so:Srt}{mA:Addr}{M:Mks}{is:Srt→Prop}{R:Addr→Hp→Prop}{E:XK}(hi:is so)(hh:here so=true)(hM:MksIs d.qg H mA M)(k:∀(H':Hp)(x:Addr),Same H H'→H x=none→VchIs d H' x ⟨so,M⟩→R x H')(htb:Tbs d H:=by assumption):
  ∀x dx,H x=none→H dx=none→dx≠x→kda (clsOf d so) d.qg is (.ref x::(kfa so++[.ref mA])) (upd (upd H dx (.own x)) x (.ins (clsOf d so) dx [])) (fun v H2=>v=.non∧R x H2) E:=
 fun x dx nx nd _=>⟨x,dx,so, .ref mA,hi,rfl,kad, .inr ⟨mA,rfl⟩,fun H' mA' fs b hm h1 h2 h3=>by
  have e:mA'=mA:=by
   rcases hm with e|⟨e,_⟩
   ·injection e with e
    exact e.symm
   ·cases e
  subst e
  exact⟨rfl,k H' x (kbb nx nd b) nx ⟨mA',dx,fs,h1,h2,h3,hM.same (kbb nx nd b),hh,htb.same (kbb nx nd b)⟩⟩⟩
end Vs
namespace Vs
open PySem L2 War Kin Deal
def sN{t u:TS}{D:Ends}{σ:St}{H:Hp}(h:∀N:St→Hp→Prop,(∀σ' H',u D σ' H'→N σ' H')→t {D with nx:=N} σ H):tSeq t u D σ H:=h (u D) fun _ _ q=>q
theorem klI{CL:Addr}{H:Hp}{r:Row}{R:Addr→Hp→Prop}{E:XK}(k:∀(H':Hp)(x:Addr),Same H H'→H x=none→LineAt CL H' x r→R x H'):
  ∀x dx,H x=none→H dx=none→dx≠x→kgA CL [.ref x, .int r.kd, .int r.pr, .int r.mn,oV r.ex] (upd (upd H dx (.own x)) x (.ins CL dx [])) (fun v H2=>v=.non∧R x H2) E:=
 fun x dx nx nd _=>⟨x,dx,r,rfl,kad,fun H' b l=>⟨rfl,k H' x (kbb nx nd b) nx l⟩⟩
theorem kjb{K:JZ}{CB:Addr}{H:Hp}{l:Addr}{cg:Int}{m:Bool}{xs:List V}{R:Addr→Hp→Prop}{E:XK}(hl:SqL K H l xs)(k:∀(H':Hp)(x l':Addr),Same H H'→H x=none→H l'=none→H' l'=some (.lst xs)→BaskAt CB H' x l' cg m→R x H'):
  ∀x dx,H x=none→H dx=none→dx≠x→kgC K CB [.ref x, .ref l, .int cg, .bl m] (upd (upd H dx (.own x)) x (.ins CB dx [])) (fun v H2=>v=.non∧R x H2) E:=
 fun x dx nx nd _=>⟨x,dx,l,cg,m,xs,rfl,kad,(kaX nx nd).seq hl,fun H' l' b n h1 h2=>⟨rfl,k H' x l' (kbb nx nd b) nx (kdm n) h1 h2⟩⟩
theorem kkc{CL CB CS:Addr}{H:Hp}{b l:Addr}{cg:Int}{m:Bool}{ls:List Addr}{rs:List Row}{R:Addr→Hp→Prop}{E:XK}(hb:BaskAt CB H b l cg m)(hl:H l=some (.lst (ls.map V.ref)))(hL:Lines CL H ls rs)(hn:rs.length≤12)(hok:∀r∈rs,r.Ok)
  (k:∀(H':Hp)(x o p mk:Addr),Same H H'→H x=none→H o=none→H p=none→H mk=none→StandAt CS H' x o p mk cg→H' o=some (.lst ((own rs).map V.int))→H' p=some (.lst ((prs m rs).map V.int))→H' mk=some (.lst (J6 rs.length (.bl false)))→R x H'):
  ∀x dx,H x=none→H dx=none→dx≠x→kc9 CL CB CS [.ref x, .ref b] (upd (upd H dx (.own x)) x (.ins CS dx [])) (fun v H2=>v=.non∧R x H2) E:=
 fun x dx nx nd _=>⟨x,dx,b,l,cg,m,ls,rs,rfl,kad,hb.same (kaX nx nd),kgd nx nd hl,hL.same (kaX nx nd),hn,hok,fun H' o p mk bt n1 n2 n3 S h1 h2 h3 _=>⟨rfl,k H' x o p mk (kbb nx nd bt) nx (kdm n1) (kdm n2) (kdm n3) S h1 h2 h3⟩⟩
structure VchOk (ps:List (Option Nat)) (V:Vch):Prop where
 so:SrtOk V.so
 ms:MksOk ps V.ms
noncomputable def stnd0(B:Bask):Stnd:=⟨ownN B.rs,prs B.m B.rs,B.cg,J6 B.rs.length false⟩
theorem klH{CL CB CS:Addr}{H:Hp}{b:Addr}{B:Bask}{R:Addr→Hp→Prop}{E:XK}(hb:BaskIs CL CB H b B)(hn:B.rs.length≤12)(hok:∀r∈B.rs,r.Ok)(k:∀(H':Hp)(x:Addr),Same H H'→H x=none→StndIs CS H' x (stnd0 B)→R x H'):
  ∀x dx,H x=none→H dx=none→dx≠x→kc9 CL CB CS [.ref x, .ref b] (upd (upd H dx (.own x)) x (.ins CS dx [])) (fun v H2=>v=.non∧R x H2) E:=by
 obtain⟨l,ls,h1,h2,h3⟩:=hb
 refine kkc h1 h2 h3 hn hok fun H' x o p mk s f1 _ _ _ hS ho hp hm=>k H' x s f1 ⟨o,p,mk,hS,?_,hp,?_⟩
 ·rw[ho,kfp]
  rfl
 ·rw[hm]
  show _=some (HO.lst ((J6 B.rs.length false).map V.bl))
  rw[List.map_replicate]
def kkT{m:Bool}{r:Row}(h:r.Ok):0≤prc m r∧prc m r≤1000000000000:=by
 unfold prc
 split
 ·cases e:r.ex with
  |none=>exact⟨h.pr0,h.pr1⟩
  |some z=>exact h.ex0 z e
 ·exact⟨h.pr0,h.pr1⟩
theorem khn(m:Bool):∀(rs:List Row)(k:Nat),(rs.map fun r=>J6 r.mn.toNat (prc m r)).flatten.length=((rs.zipIdx k).map fun p=>J6 p.1.mn.toNat (p.2:Int)).flatten.length
 |[],_=>by simp
 |r::rs,k=>by
  rw[EI,Nv,NC,Np,Mj,Nv,NC,Np,Mj,khn m rs (k+1)]
def klw(m:Bool)(rs:List Row):(prs m rs).length=(ownN rs).length:=by
 have e:(ownN rs).length=(own rs).length:=by
  have:=congrArg MT (kfp rs)
  simpa using this.symm
 rw[e]
 exact khn m rs 0
def Wf.start{ps:List (Option Nat)}{B:Bask}(g:Good ps)(pl:ps.length≤20)(kd:∀r∈B.rs,0≤r.kd∧r.kd<(ps.length:Int))(ok:∀r∈B.rs,r.Ok)(nl:B.rs.length≤12)(bc:0≤B.cg∧B.cg≤1000000000000)(n64:(ownN B.rs).length<64):Wf ps B (stnd0 B):=by
 refine⟨g,pl,kd,ok,nl,bc,rfl,klw _ _,by simp[stnd0],fun z hz=>?_,bc,n64⟩
 obtain⟨xs,h1,h2⟩:=Mg.mp hz
 obtain⟨r,hr,rfl⟩:=Nq.mp h1
 rw[(List.mem_replicate.mp h2).2]
 exact kkT (ok r hr)
def Wf.nn{ps:List (Option Nat)}{B:Bask}{S:Stnd}(W:Wf ps B S):Nn S.pr:=fun z hz=>(W.pr z hz).1
def Wf.after{ps:List (Option Nat)}{B:Bask}{S:Stnd}{V:Vch}(W:Wf ps B S)(O:VchOk ps V):Wf ps B (aftM V ps (kds B) S):=by
 have h:=kmD (V:=V) (ps:=ps) (kk:=kds B) W.nn W.cg.1 O.so fun m e=>(O.ms.most m e).1
 refine⟨W.good,W.pl,W.kd,W.ok,W.nl,W.bc,W.ow,h.1.1.trans W.lp,by rw[←W.lm];simp[aftM],fun z hz=>?_,⟨h.2.1,Int.le_trans h.2.2 W.cg.2⟩,W.n64⟩
 obtain⟨j,e1⟩:=Mt.mp hz
 have hj:j<S.pr.length:=by
  rw[←h.1.1]
  exact(Nh.mp e1).1
 have e2:S.pr[j]?=some S.pr[j]:=by simp[hj]
 have b:=h.1.2 j z _ e1 e2
 have c:=W.pr _ (Nb e2)
 exact⟨b.1,Int.le_trans b.2 c.2⟩
inductive kiE (K:JZ) (d:D) (vs:List V) (H:Hp) (Q:VK) (E_:XK):Prop
 |ct (v a b x:Addr)(V:Vch)(ps:List (Option Nat))(B:Bask)(S:Stnd)(_:vs=[.ref v, .ref a, .ref b, .ref x])(_:VchIs d H v V)(_:SqL K H a (ps.map pV))(_:BaskIs d.qe d.qf H b B)(_:StndIs d.qc H x S)(_:Wf ps B S)(_:VchOk ps V)(_:∀(H':Hp)(p:Addr),Same H H'→H p=none→H' p=some (.lst ((abt ps (kds B) V.ms.kind V.ms.lone S).map iV))→Q (.ref p) H'):kiE K d vs H Q E_
inductive kkP (K:JZ) (d:D) (vs:List V) (H:Hp) (Q:VK) (E_:XK):Prop
 |ct (v a b x:Addr)(V:Vch)(ps:List (Option Nat))(B:Bask)(S:Stnd)(_:vs=[.ref v, .ref a, .ref b, .ref x])(_:VchIs d H v V)(_:SqL K H a (ps.map pV))(_:BaskIs d.qe d.qf H b B)(_:StndIs d.qc H x S)(_:Wf ps B S)(_:VchOk ps V)(_:∀(H':Hp)(t p:Addr),Same H H'→H t=none→H p=none→H' t=some (.tup [.ref p, .int (cutM V ps (kds B) S).2])→H' p=some (.lst ((cutM V ps (kds B) S).1.map L2.V.int))→Q (.ref t) H'):kkP K d vs H Q E_
theorem cl_of{K:JZ}{mg:Str→Option Value}{d:D}{base:Heap}(W:WB K mg d base):∀{so:Srt},here so=true→Cls K (clsOf d so)
 | .off _,h=>W.c_Off.cl
 | .share _ _,h=>W.ql.cl
 | .cheap _,h=>W.qp.cl
 | .bund _ _,h=>W.qm.cl
 | .carr,h=>W.qq.cl
theorem na_of{K:JZ}{mg:Str→Option Value}{d:D}{base:Heap}(W:WB K mg d base):∀{so:Srt},here so=true→NoAttr K (clsOf d so) "marks"
 | .off _,h=>W.Vl
 | .share _ _,h=>W.Vo
 | .cheap _,h=>W.Vq
 | .bund _ _,h=>W.Vu
 | .carr,h=>W.Vv
theorem kk2{K:JZ}{mg:Str→Option Value}{d:D}{base:Heap}(W:WB K mg d base):∀{so:Srt},here so=true→Isi K (clsOf d so)
 | .off _,h=>W.c_Off.isi
 | .share _ _,h=>W.ql.isi
 | .cheap _,h=>W.qp.isi
 | .bund _ _,h=>W.qm.isi
 | .carr,h=>W.qq.isi
theorem kgh{K:JZ}{mg:Str→Option Value}{d:D}{base:Heap}(W:WB K mg d base):∀{so:Srt},here so=true→Nd K (.ref (clsOf d so)) (.ref d.qq)=some (kbA so)
 | .off _,h=>W.V3
 | .share _ _,h=>W.V4
 | .cheap _,h=>W.V5
 | .bund _ _,h=>W.V6
 | .carr,h=>kbu _ _
theorem klL{K:JZ}{mg:Str→Option Value}{d:D}{base:Heap}(W:WB K mg d base):∀{so:Srt},here so=true→Nd K (.ref (clsOf d so)) (.ref d.c_Off)=some (klX so)
 | .off _,h=>kbu _ _
 | .share _ _,h=>W.V7
 | .cheap _,h=>W.V8
 | .bund _ _,h=>W.V9
 | .carr,h=>W.Ua
theorem kdo{K:JZ}{mg:Str→Option Value}{d:D}{base:Heap}(W:WB K mg d base):∀{so:Srt},here so=true→Nd K (.ref (clsOf d so)) (.ref d.ql)=some (kjL so)
 | .off _,h=>W.Ub
 | .share _ _,h=>kbu _ _
 | .cheap _,h=>W.Uc
 | .bund _ _,h=>W.Ud
 | .carr,h=>W.Ue
theorem kcJ{K:JZ}{mg:Str→Option Value}{d:D}{base:Heap}(W:WB K mg d base):∀{so:Srt},here so=true→Nd K (.ref (clsOf d so)) (.ref d.qp)=some (kgv so)
 | .off _,h=>W.Ug
 | .share _ _,h=>W.Uh
 | .cheap _,h=>kbu _ _
 | .bund _ _,h=>W.Ui
 | .carr,h=>W.Uj
theorem ke1{K:JZ}{mg:Str→Option Value}{d:D}{base:Heap}(W:WB K mg d base):∀{so:Srt},here so=true→Nd K (.ref (clsOf d so)) (.ref d.qm)=some (kib so)
 | .off _,h=>W.Uk
 | .share _ _,h=>W.Ul
 | .cheap _,h=>W.Um
 | .bund _ _,h=>kbu _ _
 | .carr,h=>W.Uo
def kju(bs:List Int):(bs.map V.int).all flatV=true:=by
 rw[MG]
 intro x hx
 obtain⟨n,_,rfl⟩:=Nq.mp hx
 rfl
def pickI{zs:List Int}{m:Int}(h0:0≤m)(h1:m<(zs.length:Int)):∃z,atI (zs.map V.int) m=some (.int z)∧z∈zs:=by
 obtain⟨j,rfl⟩:=Int.eq_ofNat_of_zero_le h0
 obtain⟨z,ez⟩:=at_of (xs:=zs) (i:=j) (by omega)
 exact⟨z,kbe (by rw[Nc,ez];rfl),Nb ez⟩
theorem kdt{b:Int}:∀{q:List Int},(∀z∈q,z≤b)→q.sum≤b*q.length
 |[],_=>by simp
 |z::q,h=>by
  have h1:=h z Nz
  have h2:=kdt (q:=q) fun x hx=>h x (Nw _ hx)
  rw[ER,NM]
  have e:b*((q.length+1:Nat):Int)=b*q.length+b:=by rw[Int.natCast_add,Int.mul_add];simp
  omega
def kiP{ps:List (Option Nat)}{B:Bask}{S:Stnd}(wf:Wf ps B S){ab:List Nat}(hl:ab.length≤720)(hb:∀i∈ab,i<S.pr.length):(qs S.pr ab).sum≤720000000000000:=by
 have h:=kdt (b:=1000000000000) (q:=qs S.pr ab) fun z hz=>by
  obtain⟨i,hi,rfl⟩:=Nq.mp hz
  obtain⟨w,ew⟩:=at_of (hb i hi)
  rw[Nm,ew]
  exact(wf.pr w (Nb ew)).2
 rw[kbU] at h
 omega
def klV(xs:List V)(i k:Nat):cutV xs (some (i:Int)) (some ((i+k:Nat):Int))=(xs.drop i).take k:=by
 unfold cutV
 rw[HT.sIx_nat,HT.sIx_nat]
 by_cases h:i≤xs.length
 ·rw[MH h,EW,MU]
  omega
 ·rw[E8 (by omega),E8 (by omega)]
  simp
def klG{d:D}{H:Hp}{so:Srt}{is:Srt→Prop}{R:Addr→Hp→Prop}{E:XK}(hi:is so)(hh:here so=true)(k:∀(H':Hp)(x:Addr),Same H H'→H x=none→VchIs d H' x ⟨so,mks0⟩→R x H')(htb:Tbs d H:=by assumption):
  ∀x dx,H x=none→H dx=none→dx≠x→kda (clsOf d so) d.qg is (.ref x::(kfa so++[.non])) (upd (upd H dx (.own x)) x (.ins (clsOf d so) dx [])) (fun v H2=>v=.non∧R x H2) E:=
 fun x dx nx nd _=>⟨x,dx,so, .non,hi,rfl,kad, .inl rfl,fun H' mA' fs b hm h1 h2 h3=>by
  rcases hm with e|⟨_,_,hM⟩
  ·cases e
  ·exact⟨rfl,k H' x (kbb nx nd b) nx ⟨mA',dx,fs,h1,h2,h3,hM,hh,htb.same (kbb nx nd b)⟩⟩⟩
def kjJ{α:Type}{xs:List α}{v: α}(h:xs[xs.length-1]?=some v)(h0:0<xs.length):atI xs (-1)=some v:=by
 unfold atI ixN
 rw[if_neg (by omega),if_pos (by omega)]
 show xs[(-1+(xs.length:Int)).toNat]?=some v
 rw[show(-1+(xs.length:Int)).toNat=xs.length-1 by omega]
 exact h
def khk{H0 H1 H2:Hp}{x:Addr}(f:H0 x=none)(s:Same H0 H1)(b:But x H1 H2):Same H0 H2:=fun y u e=>kbv (s y u e) fun u' e'=>b y u' (kai e f) e'
noncomputable def hindM(V:Vch)(ps:List (Option Nat))(B:Bask)(S:Stnd):L2.V:=
 if(V.ms.member&& !B.m)=true then .str "member" else if(abt ps (kds B) V.ms.kind V.ms.lone S).length=0 then .str "nothing" else if(qs S.pr (abt ps (kds B) V.ms.kind V.ms.lone S)).sum<V.ms.needs then .str "needs" else .non
inductive kkM (K:JZ) (d:D) (vs:List V) (H:Hp) (Q:VK) (E_:XK):Prop
 |ct (v a b x:Addr)(V:Vch)(ps:List (Option Nat))(B:Bask)(S:Stnd)(_:vs=[.ref v, .ref a, .ref b, .ref x])(_:VchIs d H v V)(_:SqL K H a (ps.map pV))(_:BaskIs d.qe d.qf H b B)(_:StndIs d.qc H x S)(_:Wf ps B S)(_:VchOk ps V)(_:∀(H':Hp),Same H H'→Q (hindM V ps B S) H'):kkM K d vs H Q E_
noncomputable def atM(m:Option Int)(n:Int):Int:=match m with
 |none=>n
 |some m=>min m n
def none_of{H H':Hp}(s:Same H H'){p:Addr}(h:H' p=none):H p=none:=s.free h
def kjH{x:Addr}{H H':Hp}(b:But x H H')(n:H x=none):Same H H':=fun y u e=>b y u (kai e n) e
theorem kja{CL CB CS:Addr}{H:Hp}{b l:Addr}{cg:Int}{m:Bool}{ls:List Addr}{rs:List Row}{R:Addr→Hp→Prop}{E:XK}(hb:BaskAt CB H b l cg m)(hl:H l=some (.lst (ls.map V.ref)))(hL:Lines CL H ls rs)(hn:rs.length≤12)(hok:∀r∈rs,r.Ok)
  (k:∀(H':Hp)(x:Addr),Same H H'→H x=none→∀(dx:Addr)(fs:List (Str×V)),H' x=some (.ins CS dx fs)→fs.length≤10→fs.lookup ("whole" :Str)=none→R x H'):
  ∀x dx,H x=none→H dx=none→dx≠x→kc9 CL CB CS [.ref x, .ref b] (upd (upd H dx (.own x)) x (.ins CS dx [])) (fun v H2=>v=.non∧R x H2) E:=
 fun x dx nx nd _=>⟨x,dx,b,l,cg,m,ls,rs,rfl,kad,hb.same (kaX nx nd),kgd nx nd hl,hL.same (kaX nx nd),hn,hok,fun H' o p mk bt n1 n2 n3 S h1 h2 h3 fw=>by
  obtain⟨dx',fs,e,hf⟩:=fw
  obtain⟨dx2,fs2,e2,_,_,_,_,hw⟩:=S
  rw[e] at e2
  injection e2 with e2
  injection e2 with _ e3 e4
  subst e4
  exact⟨rfl,k H' x (kbb nx nd bt) nx dx' fs e hf hw⟩⟩
theorem kjv{V:Vch}{ps:List (Option Nat)}{kk:List Nat}{S:Stnd}(vo:VchOk ps V):(cutM V ps kk S).2=if kbA V.so=true then atM V.ms.most S.cg else 0:=by
 have hm:=vo.ms.most
 unfold cutM
 simp only
 cases e:V.ms.most with
 |none=>
  unfold cap atM
  simp only
  unfold fee kbA
  cases V.so <;> rfl
 | some m=>
  have h0:=(hm m e).1
  unfold cap atM
  simp only
  cases eso:V.so with
  | carr=>
   have hz:(want .carr S.mkd.length ((abt ps kk V.ms.kind V.ms.lone S).map fun i=>S.ow.getD i 0) (qs S.pr (abt ps kk V.ms.kind V.ms.lone S))).sum=0:=by
    unfold want
    simp
   show(if m<_+S.cg then _ else _:List Int×Int).2=min m S.cg
   rw[hz,Int.zero_add]
   split
   ·show min S.cg m=_
    omega
   ·show S.cg=_
    omega
  | _=>
   show(if m<_+0 then(_,min 0 m) else(_,0):List Int×Int).2=0
   split
   ·show min 0 m=0
    omega
   ·rfl
def kmr{B:Bask}{l:Nat}{r:Row}(h:B.rs[l]?=some r):(kds B).getD l 0=r.kd.toNat:=by
 unfold kds
 rw[Nm,Nc,h]
 rfl
theorem kkE{ps:List (Option Nat)}{kk:List Nat}{kind:Option Nat}{lone:Bool}{S:Stnd}{i:Nat}:
  (J8 (i+1)).filter (fun i=>hits ps kk kind lone S.mkd (S.ow.getD i 0))=(J8 i).filter (fun i=>hits ps kk kind lone S.mkd (S.ow.getD i 0))++(if hits ps kk kind lone S.mkd (S.ow.getD i 0)=true then [i] else []):=by
 rw[Mb,MM]
 congr 1
 simp only[List.filter_cons,List.filter_nil]
noncomputable def GrpAt(H H':Hp)(pa:Addr)(t:Addr)(q:Int×List Nat):Prop:=∃ga,H' t=some (.tup [.int q.1, .ref ga])∧H' ga=some (.lst (q.2.map iV))∧(ga=pa∨H ga=none)
inductive kg6 (d:D) (vs:List V) (H:Hp) (Q:VK) (E_:XK):Prop
 |ct (v x pa:Addr) (V:Vch) (ps:List (Option Nat)) (B:Bask) (S:Stnd) (_:vs=[.ref v, .ref x, .ref pa]) (_:VchIs d H v V) (_:StndIs d.qc H x S) (_:H pa=some (.lst ((abt ps (kds B) V.ms.kind V.ms.lone S).map iV))) (_:Wf ps B S) (_:VchOk ps V) (_:∀(H':Hp) (p:Addr) (tl:List Addr) (gl:List (Int×List Nat)),Same H H'→H p=none→H' p=some (.lst (tl.map L2.V.ref))→P2 (GrpAt H H' pa) tl gl→(∀c g,(c,g)∈gl→0≤c∧c≤(qs S.pr g).sum∧g.length≤720)→(gl.map Prod.snd).flatten.Nodup→(∀i∈(gl.map Prod.snd).flatten,i<S.pr.length)→gl.length≤720→
  spr S.pr.length (gl.map Prod.snd).flatten (gl.map fun p=>dl p.1 (qs S.pr p.2)).flatten=spr S.pr.length (abt ps (kds B) V.ms.kind V.ms.lone S) (want V.so S.mkd.length ((abt ps (kds B) V.ms.kind V.ms.lone S).map fun i=>S.ow.getD i 0) (qs S.pr (abt ps (kds B) V.ms.kind V.ms.lone S)))→Q (.ref p) H'):kg6 d vs H Q E_
def kaV{H H':Hp}{p:Addr}{o:HO}(h:upd H p o=H')(f:H p=none):Same H H'∧H' p=some o:=by
 subst h
 exact⟨kak f,kad⟩
theorem But.free{x l:Addr}{H H':Hp}{o:HO}(b:But x H H')(hx:H' x=some o)(h:H' l=none):H l=none:=by
 cases q:H l with
 |none=>rfl
 |some u=>
  obtain⟨o',e'⟩:=kfC (b l u (kai hx h).symm q)
  rw[e'] at h
  cases h
structure Rul where
 w:Str
 a:Nat
 b:Nat
structure TillD where
 ps:List (Option Nat)
 vs:List Vch
 rs:List Rul
 bk:Str
noncomputable def RulIs(H:Hp)(a:Addr)(r:Rul):Prop:=H a=some (.tup [.str r.w,iV r.a,iV r.b])
inductive TillIs (d:D) (H:Hp) (t:Addr) (T:TillD):Prop
 |ct (dx:Addr)(fs:List (Str×V))(p vl rl:Addr)(va ra:List Addr)(_:H t=some (.ins d.qd dx fs))(_:fs.lookup ("parents" :Str)=some (.ref p))(_:fs.lookup ("vouchers" :Str)=some (.ref vl))(_:fs.lookup ("rules" :Str)=some (.ref rl))(_:fs.lookup ("back" :Str)=some (.str T.bk))(_:H p=some (.lst (T.ps.map pV)))(_:H vl=some (.lst (va.map V.ref)))(_:P2 (fun a V=>VchIs d H a V) va T.vs)(_:H rl=some (.lst (ra.map V.ref)))(_:P2 (fun a r=>RulIs H a r) ra T.rs):TillIs d H t T
def TillIs.same{d:D}{H H':Hp}{t:Addr}{T:TillD}(s:Same H H'):TillIs d H t T→TillIs d H' t T:=fun⟨dx,fs,p,vl,rl,va,ra,h1,h2,h3,h4,h5,h6,h7,h8,h9,h10⟩=>
 ⟨dx,fs,p,vl,rl,va,ra,s _ _ h1,h2,h3,h4,h5,s _ _ h6,s _ _ h7,h8.mono fun a V h=>h.same s,s _ _ h9,h10.mono fun a r h=>s _ _ h⟩
structure kcP (T:TillD):Prop where
 vs:∀V∈T.vs,VchOk T.ps V
 nv:T.vs.length≤8
inductive WayAt (d:D) (m:Nat) (H:Hp) (w t b x:Addr) (hand:List Int) (used:List Nat):Prop
 |ct (dx:Addr)(fs:List (Str×V))(h u:Addr)(_:H w=some (.ins d.c_Way dx fs))(_:fs.lookup ("till" :Str)=some (.ref t))(_:fs.lookup ("basket" :Str)=some (.ref b))(_:fs.lookup ("hand" :Str)=some (.ref h))(_:fs.lookup ("used" :Str)=some (.ref u))(_:fs.lookup ("standing" :Str)=some (.ref x))(_:fs.lookup ("word_for" :Str)=none)(_:fs.lookup ("behind" :Str)=none)(_:fs.lookup ("is_let_by" :Str)=none)(_:fs.lookup ("followers" :Str)=none)(_:fs.length≤m)(_:H h=some (.lst (hand.map V.int)))(_:H u=some (.lst (used.map iV))):WayAt d m H w t b x hand used
noncomputable abbrev WayIs(d:D)(H:Hp)(w t b x:Addr)(hand:List Int)(used:List Nat):Prop:=WayAt d 7 H w t b x hand used
def WayAt.most{d:D}{m m':Nat}{H:Hp}{w t b x:Addr}{hand:List Int}{used:List Nat}(hm:m≤m'):WayAt d m H w t b x hand used→WayAt d m' H w t b x hand used:=fun⟨dx,fs,h,u,h1,h2,h3,h4,h5,h6,h7,h8,h9,h10,h11,h12,h13⟩=>
 ⟨dx,fs,h,u,h1,h2,h3,h4,h5,h6,h7,h8,h9,h10,J5 h11 hm,h12,h13⟩
def WayAt.same{d:D}{m:Nat}{H H':Hp}{w t b x:Addr}{hand:List Int}{used:List Nat}(s:Same H H'):WayAt d m H w t b x hand used→WayAt d m H' w t b x hand used:=fun⟨dx,fs,h,u,h1,h2,h3,h4,h5,h6,h7,h8,h9,h10,h11,h12,h13⟩=>
 ⟨dx,fs,h,u,s _ _ h1,h2,h3,h4,h5,h6,h7,h8,h9,h10,h11,s _ _ h12,s _ _ h13⟩
noncomputable def nevR(used:List Nat)(n:Nat)(r:Rul):Bool:=decide (r.w=("never" :Str))&&((decide (r.a=n)&&used.contains r.b)||(decide (r.b=n)&&used.contains r.a))
noncomputable def keZ(rs:List Rul)(used:List Nat)(n:Nat):Bool:=rs.any (nevR used n)
noncomputable def ahdR(used:List Nat)(n:Nat)(r:Rul):Bool:=decide (r.w=("ahead" :Str))&&(decide (r.a=n)&&used.contains r.b)
noncomputable def ke6(rs:List Rul)(used:List Nat)(n:Nat):Bool:=rs.any (ahdR used n)
noncomputable def loneM(order:List Nat)(r:Rul):Bool:=decide (r.w=("only" :Str))&&(order.contains r.a&& !order.contains r.b)
noncomputable def onlyM(rs:List Rul)(order:List Nat):Option Nat:=(rs.find? (loneM order)).map Rul.a
noncomputable def sV:Option Str→V
 |none=>.non
 |some z=>.str z
noncomputable def wordM(V:Vch)(rs:List Rul)(hand:List Int)(used:List Nat)(n:Nat):Option Str:=
 if hand.getD n 0<(used.count n:Int)+1 then some "held" else if(V.ms.once&&used.contains n)=true then some "once" else if keZ rs used n=true then some "never" else if ke6 rs used n=true then some "ahead" else none
noncomputable def dueM(V:Vch)(T:TillD)(B:Bask)(hand:List Int)(used:List Nat)(S:Stnd)(n:Nat):L2.V:=match wordM V T.rs hand used n with
 |some z=>.str z
 |none=>hindM V T.ps B S
theorem kcL{n:Nat}:∀(l:List Nat),inV (iV n) (l.map iV)=l.contains n
 |[]=>rfl
 | m::l=>by
  have ih:=kcL (n:=n) l
  unfold inV at ih⊢
  rw[Nv,Mr,ih,List.contains_cons]
  congr 1
  show eqV (V.int (m:Int)) (V.int (n:Int))=(n==m)
  by_cases h:n=m
  ·subst h
   simp[eqV]
  ·have h1:¬((m:Int)=(n:Int)):=by omega
   have e2:(n==m)=false:=beq_eq_false_iff_ne.mpr h
   rw[e2]
   simp[eqV,h1]
theorem klW(l:List Nat)(n:Nat):(l.map fun(i:Nat)=>(i:Int)).count (n:Int)=l.count n:=by
 induction l with
 |nil=>rfl
 | cons m l ih=>
  rw[Nv,EE,EE,ih]
  congr 1
  by_cases h:m=n
  ·subst h;simp
  ·have h1:¬((m:Int)=(n:Int)):=by omega
   have e1:((m:Int)==(n:Int))=false:=beq_eq_false_iff_ne.mpr h1
   have e2:(m==n)=false:=beq_eq_false_iff_ne.mpr h
   rw[e1,e2]
def khH(a b:Nat):decide (iV a=iV b)=decide (a=b):=by
 by_cases h:a=b
 ·subst h;simp
 ·have n:¬(iV a=iV b):=fun e=>h (by have:=V.int.inj e;omega)
  rw[decide_eq_false h,decide_eq_false n]
def eq_str(a b:Str):decide (V.str a=V.str b)=decide (a=b):=by
 by_cases h:a=b
 ·subst h;simp
 ·have n:¬(V.str a=V.str b):=fun e=>h (V.str.inj e)
  rw[decide_eq_false h,decide_eq_false n]
section
variable {P:Program} {w:World} {K:JZ} {mg:Str→Option Value} {base:Heap} {d:D}
abbrev FO{K:JZ}{mg:Str→Option Value}{d:D}{base:Heap}(P:Program)(w:World)(_:WB K mg d base):=FnOk P w K mg base CX0
theorem Xd:kan ["parents","one","other","kind"] ["parents","one","other"] (kag kgG):=by ac_rfl
theorem kj6(W:WB K mg d base):FO P w W 1 d.XA d.XB ["parents","one","other"] (kir K):=by
 exists W.ZD.F,Xd
 ·obtain⟨a,ps,one,other,rfl,hS,hg,ho,k⟩:=h
  refine⟨_,kac (psl (i:=3) Xd.nd (pv 1))
   (kac (kfm PassesOwn.never (kas kck (pv 3) ka0 (kav _))
   (kac (ps_if (kas op_eq (pv 3) (pv 2) (kav _)) (kah (kap pe_bl)) (kat))
   (kah (psl (i:=3) Xd.nd (pe_ix (r:=rIxL K) kaG (pv 0) (pv 3) (fun _ _=>rfl))))))
   (kah (kap pe_bl))),?_⟩
  refine⟨_,rfl,?_⟩
  refine ke7 (fun σ H'=>∃o:Option Nat,σ=[some (.ref a),some (.int one),some (.int other),some (pV o)]∧H'=H∧(∀i,o=some i→i<ps.length)∧decide (other∈up ps one)=decide (other∈rest ps o))
   (fun σ _=>match σ with|[_,_,_,some (.int i)]=>i.toNat+1|_=>0) ⟨some one,rfl,rfl,fun i e=>by cases e;exact ho,rfl⟩ ?_ ?_
  ·rintro σ H' ⟨o,rfl,rfl,hb,he⟩
   refine⟨_,rfl,rfl,_,rfl,?_⟩
   cases o with
   |none=>
    show if(!decide (V.non=V.non))=true then _ else _
    rw[kkX]
    refine iteF ?_
    show Q (.bl false) _
    have e:decide (other∈up ps one)=false:=by rw[he];simp[Kin.rest]
    rw[e] at k
    exact k
   | some i=>
    show if(!decide (V.int i=V.non))=true then _ else _
    rw[kkY]
    refine iteT ?_
    have hi:=hb i rfl
    refine⟨_,rfl,_,rfl,rfl,_,rfl,?_⟩
    show if decide (V.int i=V.int other)=true then _ else _
    rw[eq_int]
    obtain⟨o,eo⟩:∃o,ps[i]?=some o:=⟨ps[i],by simp[hi]⟩
    refine ite2 (fun h=>?_) (fun h=>?_)
    ·have h':i=other:=of_decide_eq_true h
     subst h'
     have e:decide (i∈up ps one)=true:=by
      rw[he]
      show decide (i∈up ps i)=true
      rw[up_eq hg eo]
      simp
     rw[e] at k
     exact k
    ·have h':¬i=other:=fun z=>h (decide_eq_true z)
     refine⟨_,rfl,_,rfl,a,_,_,pV o,rfl,rfl,hS,kbe (by simp[eo]),?_⟩
     refine⟨⟨o,rfl,rfl,fun j e=>?_,?_⟩,?_⟩
     ·subst e
      have:=hg i j eo
      omega
     ·rw[he]
      show decide (other∈up ps i)=_
      rw[up_eq hg eo]
      have:¬other=i:=fun z=>h' z.symm
      simp[this]
     ·cases o with
      |none=>exact Nat.succ_pos _
      |some j=>
       have:=hg i j eo
       show((j:Int)).toNat+1<((i:Int)).toNat+1
       omega
  ·rintro σ H' Q' Q'' hq ⟨v,h1,h2,h3⟩
   exact⟨v,h1,h2,by obtain⟨b,e,q⟩:=h3;exact⟨b,e,hq _ _ q⟩⟩
theorem qA:kan ["cut","weights","total","parts","reached","given","weight","share"] ["cut","weights"] (kag kgI):=by ac_rfl
theorem kj7(W:WB K mg d base):FO P w W 1 d.Xy d.Xz ["cut","weights"] (kiA K):=by
 exists W.QO.F,qA
 ·obtain⟨c,a,ws,rfl,hS,hn,hs,hc0,hc1,hl,k⟩:=h
  refine⟨_,kac (psl (i:=2) qA.nd (kau (r:=rSum K) (kcp rfl) (by rfl) W.B.sum b_sum (kaa (pv 1) kae)))
   (kac (ps_if (kas op_eq (pv 2) kaf (kav _)) (kah (kap (ka6 (N:=["weight"]) (CompScope.plain rfl (by decide +kernel) (by decide +kernel) (by decide +kernel) (nd1 _)) rfl (kaH (K:=K) (pv 1)) (fun _ _ _ _=>pgn (i:=0) (nd1 _)) (fun _ _ _ _=>kaf)))) (kat))
   (kac (psl (i:=3) qA.nd (kaI kae))
   (kac (psl (i:=4) qA.nd kaf)
   (kac (psl (i:=5) qA.nd kaf)
   (kac (kbx PassesOwn.never rfl (kaH (K:=K) (pv 1)) (pgn (i:=6) qA.nd)
   (kac (kmd (i:=4) qA.nd rfl (Or.inl rfl) (pv 6) kms)
   (kac (psl (i:=7) qA.nd (pe_op kj5 (pe_op kbO (pv 0) (pv 4)) (pv 2)))
   (kac (kaL (pe_bm NA NW NY kaW (pv 3) (kaa (pe_op kf5 (pv 7) (pv 5)) kae)))
   (kah (psl (i:=5) qA.nd (pv 7)))))))
   (kah (kap (pv 3)))))))),?_⟩
  refine⟨_,rfl,a,ws,rfl,hS,_,rfl,rfl,_,rfl,?_⟩
  refine ite2 (fun h=>?_) (fun h=>?_)
  ·have h0:ws.sum=0:=by
    have e:V.int ws.sum=V.int 0:=of_decide_eq_true h
    injection e
   refine⟨_,rfl,a,rfl,⟨_,hS⟩,kaS (xs:=ws.map V.int) (fun i σ ys H'=>H'=H∧ys=J6 i (V.int 0)∧∃v,σ=[v]) ⟨rfl,rfl,none,rfl⟩ ?_ ?_ ?_ ?_⟩
   ·rw[JY]
    exact Ng (kaq hl)
   ·rintro i σ ys H' hi ⟨rfl,rfl,v,rfl⟩
    exact⟨hS,by simp⟩
   ·rintro i x σ ys H' hx ⟨rfl,rfl,v,rfl⟩
    exact⟨rfl,by rw[MO],_,rfl⟩
   ·rintro σ ys H' ⟨rfl,rfl,v,rfl⟩ D hD
    have:=k D hD
    rw[kkd h0] at this
    rw[JY]
    exact this
  ·have h0:¬ws.sum=0:=fun e=>h (by rw[e];simp)
   have hpos:0<ws.sum:=by
    have:=kbT hn
    omega
   refine⟨by decide,fun p hp=>?_⟩
   have s1:∀o,Same H (upd H p o):=fun o=>kak hp
   refine⟨_,rfl,a,rfl,⟨_,(s1 _).seq hS⟩,kbX (K:=K) (a:=a) (xs:=ws.map V.int) (fun i σ H'=>H'=upd H p (.lst (((J8 i).map (part c ws)).map V.int))∧
    ∃(v6 v7:Option V),σ=[some (.int c),some (.ref a),some (.int ws.sum),some (.ref p),some (.int (pre ws i)),some (.int (c*pre ws i/ws.sum)),v6,v7])
    ⟨rfl,none,none,by simp[kjY];rfl⟩ (fun i σ H' _ ⟨e,_⟩=>by rw[e];exact(s1 _).seq hS) ?_ ?_⟩
   ·rintro i x σ H' hi ⟨rfl,v6,v7,rfl⟩
    have hil:i<(ws.map V.int).length:=(Nh.mp hi).1
    rw[JY] at hil
    obtain⟨z,ez,rfl⟩:∃z,ws[i]?=some z∧x=V.int z:=by
     rw[Nc] at hi
     cases e:ws[i]? with
     |none=>rw[e] at hi;cases hi
     |some z=>rw[e] at hi;exact⟨z,rfl,(Option.some.inj hi).symm⟩
    have ep:=kd3 ez
    refine⟨_,rfl,_,rfl,_,_,rfl,rfl,?_⟩
    refine⟨_,rfl,_,rfl,_,_,rfl,rfl, .inl ⟨by omega,by omega⟩,_,rfl,_,_,rfl,rfl,⟨hpos,by omega⟩,?_⟩
    refine⟨_,rfl, .inl ⟨rfl,_,SqL.of kad⟩,_,rfl,_,rfl,_,_,rfl,rfl,p,_,_,rfl,rfl,kad,kaq (by simp;omega),?_⟩
    refine⟨_,rfl,?_,some (.int z),some (.int (c*(pre ws i+z)/ws.sum)),?_⟩
    ·rw[klh,Mb,J9,J9]
     show upd H p (.lst (_++[V.int (c*(pre ws i+z)/ws.sum-c*pre ws i/ws.sum)]))=upd H p (.lst (_++[V.int (part c ws i)]))
     unfold part
     rw[ep]
    ·rw[ep]
     rfl
   ·rintro σ H' ⟨rfl,v6,v7,rfl⟩
    refine⟨_,rfl,?_⟩
    have:=k p hp
    rw[kjc h0] at this
    rw[JY]
    exact this
theorem kfh:kan ["self","kind","needs","most","member","once","lone"] ["self","kind","needs","most","member","once","lone"] (kag kaZ):=by ac_rfl
theorem kdk(W:WB K mg d base):FO P w W 1 d.Zb d.qD ["self","kind","needs","most","member","once","lone"] (kfc d.qg):=by
 exists W.Qr.F,kfh
 ·obtain⟨x,dx,M,rfl,hx,k⟩:=h
  refine⟨_,kac (kax (pv 0) (pv 1) rfl)
   (kac (kax (pv 0) (pv 2) rfl)
   (kac (kax (pv 0) (pv 3) rfl)
   (kac (kax (pv 0) (pv 4) rfl)
   (kac (kax (pv 0) (pv 5) rfl)
   (kah (kax (pv 0) (pv 6) rfl)))))),?_⟩
  refine⟨_,rfl,_,rfl,x,d.qg,dx,[],rfl,hx,W.qg.cl,W.Qq,by decide,?_⟩
  refine⟨_,rfl,_,rfl,x,d.qg,dx,_,rfl,kad,W.qg.cl,W.Vh,few (J5 (kal (n:=0) (J4 _)) (by decide)),?_⟩
  refine⟨_,rfl,_,rfl,x,d.qg,dx,_,rfl,kad,W.qg.cl,W.QV,few (J5 (kal (kal (n:=0) (J4 _))) (by decide)),?_⟩
  refine⟨_,rfl,_,rfl,x,d.qg,dx,_,rfl,kad,W.qg.cl,W.Vi,few (J5 (kal (kal (kal (n:=0) (J4 _)))) (by decide)),?_⟩
  refine⟨_,rfl,_,rfl,x,d.qg,dx,_,rfl,kad,W.qg.cl,W.Vj,few (J5 (kal (kal (kal (kal (n:=0) (J4 _))))) (by decide)),?_⟩
  refine⟨_,rfl,_,rfl,x,d.qg,dx,_,rfl,kad,W.qg.cl,W.QW,few (J5 (kal (kal (kal (kal (kal (n:=0) (J4 _)))))) (by decide)),?_⟩
  refine k _ (But.trans (But.trans (But.trans (But.trans (But.trans kar kar) kar) kar) kar) kar) ⟨dx,_,kad,?_,?_,?_,?_,?_,?_⟩ <;> ac_nf
theorem keb:kan ["self","marks"] ["self","marks"] (kag kaO):=by ac_rfl
theorem ka7(W:WB K mg d base):FO P w W 3 d.QG d.QH ["self","marks"] (keS K d.qg):=by
 exists W.qu.F,keb
 ·obtain⟨x,C,dx,fs,mv,rfl,hx,hC,hN,hl,hm,k⟩:=h
  exists Xe,kdk,W
  refine⟨_,kah (kax (pv 0) (khr (kas keY (pv 1) ka0 (kav _)) (kj0 (W.Qr.mk' W.qg) Xe hr rfl W.qg.m W.b6_Marks_init (show Vals [.non, .int 0, .non, .bl false, .bl false, .bl false] [.none, .int 0 d.tok1_Marks_init, .none, .bool false, .bool false, .bool false] from(.cons rfl (.cons ⟨_,rfl⟩ (.cons rfl (.cons rfl (.cons rfl (.cons rfl .nil))))))) pass0) (pv 1)) rfl),?_⟩
  rcases hm with rfl|⟨mA,rfl⟩
  ·refine⟨_,rfl,rfl,_,rfl,iteT ?_⟩
   refine khx (M:=mks0) fun H1 mA s1 f1 hM=>?_
   refine⟨_,rfl,x,C,dx,fs,rfl,s1 _ _ hx,hC,hN,by omega,?_⟩
   have hne:mA≠x:=(kai hx f1).symm
   refine k _ mA ((But.of_same s1).trans (kar (nx (s1 _ _ hx)))) (.inr ⟨rfl,f1,?_⟩) kad
   exact hM.but hne (kar (nx (s1 _ _ hx)))
  ·refine⟨_,rfl,rfl,_,rfl,iteF ?_⟩
   refine⟨_,rfl,_,rfl,x,C,dx,fs,rfl,hx,hC,hN,by omega,?_⟩
   exact k _ mA kar (.inl rfl) kad
theorem kgF:kan ["self","amount","marks"] ["self","amount","marks"] (kag kbf):=by ac_rfl
theorem kgP(W:WB K mg d base):FO P w W 4 d.Zc d.QI ["self","amount","marks"] (kda d.c_Off d.qg (fun so=>∃(a:Int),so=.off a)):=by
 refine FunD.ok W.QX.F kgF (fun vs H Q E h=>?_) (fun cdv A outer s H vs Q E hr h=>?_)
 ·obtain⟨x,dx,so,mv,⟨a,rfl⟩,rfl,_⟩:=h
  rfl
 ·obtain⟨x,dx,so,mv,⟨a,rfl⟩,rfl,hx,hm,k⟩:=h
  exists qB,ka7,W
  refine⟨_,kac (kaL (keh W.Qh qB hr rfl W.qy.m W.qu.F.kp W.qu.b .nil pass0 (kaa (pv 0) (kaa (pv 2) kae))))
   (kah (kax (pv 0) (pv 1) rfl)),?_⟩
  refine⟨_,rfl,_,rfl,x,d.c_Off,dx,[],mv,rfl,hx,W.c_Off.cl,W.Vl,by decide,hm,fun H1 mA b1 hM h1=>?_⟩
  refine⟨_,rfl,_,rfl,x,d.c_Off,dx,_,rfl,h1,W.c_Off.cl,W.Vk,few (J5 (kal (n:=0) (J4 _)) (by decide)),?_⟩
  refine k _ mA _ (b1.trans kar) ?_ kad ?_ ?_
  ·exact hM.but hx kar
  ·ac_nf
  ·show NZ _ _=_
   ac_nf
theorem kfg:kan ["self","share","by_line","marks"] ["self","share","by_line","marks"] (kag kaY):=by ac_rfl
theorem kfw(W:WB K mg d base):FO P w W 4 d.Zd d.Qm ["self","share","by_line","marks"] (kda d.ql d.qg (fun so=>∃(sh:Int)(bb:Bool),so=.share sh bb)):=by
 refine FunD.ok W.QY.F kfg (fun vs H Q E h=>?_) (fun cdv A outer s H vs Q E hr h=>?_)
 ·obtain⟨x,dx,so,mv,⟨sh,bb,rfl⟩,rfl,_⟩:=h
  rfl
 ·obtain⟨x,dx,so,mv,⟨sh,bb,rfl⟩,rfl,hx,hm,k⟩:=h
  exists qB,ka7,W
  refine⟨_,kac (kaL (keh W.Qh qB hr rfl W.qy.m W.qu.F.kp W.qu.b .nil pass0 (kaa (pv 0) (kaa (pv 3) kae))))
   (kac (kax (pv 0) (pv 1) rfl)
   (kah (kax (pv 0) (pv 2) rfl))),?_⟩
  refine⟨_,rfl,_,rfl,x,d.ql,dx,[],mv,rfl,hx,W.ql.cl,W.Vo,by decide,hm,fun H1 mA b1 hM h1=>?_⟩
  refine⟨_,rfl,_,rfl,x,d.ql,dx,_,rfl,h1,W.ql.cl,W.Vm,few (J5 (kal (n:=0) (J4 _)) (by decide)),?_⟩
  refine⟨_,rfl,_,rfl,x,d.ql,dx,_,rfl,kad,W.ql.cl,W.Vn,few (J5 (kal (kal (n:=0) (J4 _))) (by decide)),?_⟩
  refine k _ mA _ ((b1.trans kar).trans kar) ?_ kad ?_ ?_
  ·exact hM.but hx (But.trans kar kar)
  ·ac_nf
  ·exact⟨by ac_nf,by ac_nf⟩
theorem kdS:kan ["self","many","marks"] ["self","many","marks"] (kag kaJ):=by ac_rfl
theorem kdZ(W:WB K mg d base):FO P w W 4 d.Ze d.QJ ["self","many","marks"] (kda d.qp d.qg (fun so=>∃(n:Int),so=.cheap n)):=by
 refine FunD.ok W.QZ.F kdS (fun vs H Q E h=>?_) (fun cdv A outer s H vs Q E hr h=>?_)
 ·obtain⟨x,dx,so,mv,⟨n,rfl⟩,rfl,_⟩:=h
  rfl
 ·obtain⟨x,dx,so,mv,⟨n,rfl⟩,rfl,hx,hm,k⟩:=h
  exists qB,ka7,W
  refine⟨_,kac (kaL (keh W.Qh qB hr rfl W.qy.m W.qu.F.kp W.qu.b .nil pass0 (kaa (pv 0) (kaa (pv 2) kae))))
   (kah (kax (pv 0) (pv 1) rfl)),?_⟩
  refine⟨_,rfl,_,rfl,x,d.qp,dx,[],mv,rfl,hx,W.qp.cl,W.Vq,by decide,hm,fun H1 mA b1 hM h1=>?_⟩
  refine⟨_,rfl,_,rfl,x,d.qp,dx,_,rfl,h1,W.qp.cl,W.Vp,few (J5 (kal (n:=0) (J4 _)) (by decide)),?_⟩
  refine k _ mA _ (b1.trans kar) ?_ kad ?_ ?_
  ·exact hM.but hx kar
  ·ac_nf
  ·show NZ _ _=_
   ac_nf
theorem keK:kan ["self","many","price","marks"] ["self","many","price","marks"] (kag kaQ):=by ac_rfl
theorem keQ(W:WB K mg d base):FO P w W 4 d.Zf d.QK ["self","many","price","marks"] (kda d.qm d.qg (fun so=>∃(n:Int)(pp:Int),so=.bund n pp)):=by
 refine FunD.ok W.Q0.F keK (fun vs H Q E h=>?_) (fun cdv A outer s H vs Q E hr h=>?_)
 ·obtain⟨x,dx,so,mv,⟨n,pp,rfl⟩,rfl,_⟩:=h
  rfl
 ·obtain⟨x,dx,so,mv,⟨n,pp,rfl⟩,rfl,hx,hm,k⟩:=h
  exists qB,ka7,W
  refine⟨_,kac (kaL (keh W.Qh qB hr rfl W.qy.m W.qu.F.kp W.qu.b .nil pass0 (kaa (pv 0) (kaa (pv 3) kae))))
   (kac (kax (pv 0) (pv 1) rfl)
   (kah (kax (pv 0) (pv 2) rfl))),?_⟩
  refine⟨_,rfl,_,rfl,x,d.qm,dx,[],mv,rfl,hx,W.qm.cl,W.Vu,by decide,hm,fun H1 mA b1 hM h1=>?_⟩
  refine⟨_,rfl,_,rfl,x,d.qm,dx,_,rfl,h1,W.qm.cl,W.Vr,few (J5 (kal (n:=0) (J4 _)) (by decide)),?_⟩
  refine⟨_,rfl,_,rfl,x,d.qm,dx,_,rfl,kad,W.qm.cl,W.Vt,few (J5 (kal (kal (n:=0) (J4 _))) (by decide)),?_⟩
  refine k _ mA _ ((b1.trans kar).trans kar) ?_ kad ?_ ?_
  ·exact hM.but hx (But.trans kar kar)
  ·ac_nf
  ·exact⟨by ac_nf,by ac_nf⟩
theorem kdT:kan ["self","marks"] ["self","marks"] (kag kaK):=by ac_rfl
theorem kd2(W:WB K mg d base):FO P w W 4 d.Zg d.QL ["self","marks"] (kda d.qq d.qg (fun so=>so=.carr)):=by
 exists W.Q1.F,kdT
 ·obtain⟨x,dx,so,mv,rfl,rfl,hx,hm,k⟩:=h
  exists qB,ka7,W
  refine⟨_,kah (kaL (keh W.Qh qB hr rfl W.qy.m W.qu.F.kp W.qu.b .nil pass0 (kaa (pv 0) (kaa (pv 1) kae)))),?_⟩
  refine⟨_,rfl,_,rfl,x,d.qq,dx,[],mv,rfl,hx,W.qq.cl,W.Vv,by decide,hm,fun H1 mA b1 hM h1=>?_⟩
  refine k _ mA _ b1 hM h1 ?_ trivial
  ac_nf
theorem kfZ:kan ["self","kind","price","many","special"] ["self","kind","price","many","special"] (kag ka5):=by ac_rfl
theorem kga(W:WB K mg d base):FO P w W 1 d.Zh d.QM ["self","kind","price","many","special"] (kgA d.qe):=by
 exists W.Q3.F,kfZ
 ·obtain⟨x,dx,r,rfl,hx,k⟩:=h
  refine⟨_,kac (kax (pv 0) (pv 1) rfl)
   (kac (kax (pv 0) (pv 2) rfl)
   (kac (kax (pv 0) (pv 3) rfl)
   (kah (kax (pv 0) (pv 4) rfl)))),?_⟩
  refine⟨_,rfl,_,rfl,x,d.qe,dx,[],rfl,hx,W.qe.cl,W.Vw,by decide,?_⟩
  refine⟨_,rfl,_,rfl,x,d.qe,dx,_,rfl,kad,W.qe.cl,W.Qs,few (J5 (kal (n:=0) (J4 _)) (by decide)),?_⟩
  refine⟨_,rfl,_,rfl,x,d.qe,dx,_,rfl,kad,W.qe.cl,W.qE,few (J5 (kal (kal (n:=0) (J4 _))) (by decide)),?_⟩
  refine⟨_,rfl,_,rfl,x,d.qe,dx,_,rfl,kad,W.qe.cl,W.Q2,few (J5 (kal (kal (kal (n:=0) (J4 _)))) (by decide)),?_⟩
  refine k _ (But.trans (But.trans (But.trans kar kar) kar) kar) ⟨dx,_,kad,?_,?_,?_,?_⟩
  ·rw[kab,if_neg (by decide +kernel),kab,if_neg (by decide +kernel),kab,if_neg (by decide +kernel),kab,if_pos rfl]
  ·rw[kab,if_neg (by decide +kernel),kab,if_neg (by decide +kernel),kab,if_pos rfl]
  ·rw[kab,if_neg (by decide +kernel),kab,if_pos rfl]
  ·rw[kab,if_pos rfl]
theorem keL:kan ["self","lines","carriage","member"] ["self","lines","carriage","member"] (kag kaR):=by ac_rfl
theorem kcV(W:WB K mg d base):FO P w W 1 d.Zi d.Qn ["self","lines","carriage","member"] (kgC K d.qf):=by
 exists W.Qb.F,keL
 ·obtain⟨x,dx,l,cg,m,xs,rfl,hx,hl,k⟩:=h
  refine⟨_,kac (kax (pv 0) (kaF (r:=kbd K) kaC (by rfl) W.B.list kbo (kaa (pv 1) kae)) rfl)
   (kac (kax (pv 0) (pv 2) rfl)
   (kah (kax (pv 0) (pv 3) rfl))),?_⟩
  refine⟨_,rfl,l,_,rfl, .inl hl,fun l' hl'=>?_⟩
  have s1:=kak (o:=.lst xs) hl'
  have nlx:l'≠x:=fun e=>by
   rw[e,hx] at hl'
   cases hl'
  refine⟨_,rfl,x,d.qf,dx,[],rfl,s1 _ _ hx,W.qf.cl,W.qF,by decide,?_⟩
  refine⟨_,rfl,_,rfl,x,d.qf,dx,_,rfl,kad,W.qf.cl,W.Q4,few (J5 (kal (n:=0) (J4 _)) (by decide)),?_⟩
  refine⟨_,rfl,_,rfl,x,d.qf,dx,_,rfl,kad,W.qf.cl,W.Qt,few (J5 (kal (kal (n:=0) (J4 _))) (by decide)),?_⟩
  refine k _ l' ((((But.of_same s1).trans kar).trans kar).trans kar) hl' ?_ ⟨dx,_,kad,?_,?_,?_⟩
  ·rw[kaj nlx,kaj nlx,kaj nlx,kad]
  ·rw[kab,if_neg (by decide +kernel),kab,if_neg (by decide +kernel),kab,if_pos rfl]
  ·rw[kab,if_neg (by decide +kernel),kab,if_pos rfl]
  ·rw[kab,if_pos rfl]
theorem kdu:kan ["line","member"] ["line","member"] (kag kbB):=by ac_rfl
theorem kdA(W:WB K mg d base):FO P w W 1 d.XC d.XD ["line","member"] (kiu d.qe):=by
 exists W.ZE.F,kdu
 ·obtain⟨x,m,r,rfl,⟨dx,fs,hx,lk,lp,lm,ls⟩,k⟩:=h
  refine⟨_,kac (ps_if (PW.pt (kbw (kaU (pv 1)) (kbj (kas kck (kam (K:=K) (pv 0) rfl) ka0 (kav _))))) (kah (kap (kam (K:=K) (pv 0) rfl))) (kat))
   (kah (kap (kam (K:=K) (pv 0) rfl))),?_⟩
  refine⟨_,rfl,m,rfl,?_⟩
  cases m with
  |false=>
   refine iteF (iteF ⟨_,rfl,x,d.qe,dx,fs,_,rfl,hx,W.qe.cl,W.Qs,lp,?_⟩)
   exact k
  | true=>
   refine iteT ⟨_,rfl,x,d.qe,dx,fs,_,rfl,hx,W.qe.cl,W.Q2,ls,rfl,_,rfl,?_⟩
   cases e:r.ex with
   | none=>
    rw[e] at ls
    show if(!decide (V.non=V.non))=true then _ else _
    rw[show(!decide (V.non=V.non))=false by simp]
    refine iteF ⟨_,rfl,x,d.qe,dx,fs,_,rfl,hx,W.qe.cl,W.Qs,lp,?_⟩
    have ep:prc true r=r.pr:=by
     unfold prc
     rw[if_pos rfl,e]
     rfl
    rw[ep] at k
    exact k
   | some z=>
    rw[e] at ls
    show if(!decide (V.int z=V.non))=true then _ else _
    rw[show(!decide (V.int z=V.non))=true by simp]
    refine iteT ⟨_,rfl,x,d.qe,dx,fs,_,rfl,hx,W.qe.cl,W.Q2,ls,?_⟩
    have ep:prc true r=z:=by
     unfold prc
     rw[if_pos rfl,e]
     rfl
    rw[ep] at k
    exact k
theorem Qw:kan ["self","basket","number","line","price"] ["self","basket"] (kag kbM):=by ac_rfl
theorem kcr(W:WB K mg d base):FO P w W 2 d.Zj d.Zk ["self","basket"] (kc9 d.qe d.qf d.qc):=by
 exists W.Qd.F,Qw
 ·obtain⟨x,dx,b,l,cg,m,ls,rs,rfl,hx,⟨dxb,fsb,hb,lbl,lbc,lbm⟩,hl,hL,hn,hok,k⟩:=h
  exists Ut,kdA,W
  refine⟨_,kac (kax (pv 0) (kaI kae) rfl)
   (kac (kax (pv 0) (kaI kae) rfl)
   (kac (kax (pv 0) (kam (K:=K) (pv 1) rfl) rfl)
   (kac (kax (pv 0) (kaI kae) rfl)
   (kah (kbx PassesOwn.never rfl (kiY rfl W.B.enum (kaa (kam (K:=K) (pv 1) rfl) kae)) (kbl (K:=K) (n:=2) rfl (kaw (pgn (i:=2) Qw.nd) (kaw (pgn (i:=3) Qw.nd) kbk)))
   (kac (psl (i:=4) Qw.nd (pcl Ut hr W.ZE (kaa (pv 3) (kaa (kam (K:=K) (pv 1) rfl) kae))))
   (kac (kaL (pe_bm NA E9 Da kgc (kam (K:=K) (pv 0) rfl) (kaa (pe_op kkW (kaI (kaa (pv 2) kae)) (kam (K:=K) (pv 3) rfl)) kae)))
   (kac (kaL (pe_bm NA E9 Da kgc (kam (K:=K) (pv 0) rfl) (kaa (pe_op kkW (kaI (kaa (pv 4) kae)) (kam (K:=K) (pv 3) rfl)) kae)))
   (kah (kaL (pe_bm NA NW NY kaW (kam (K:=K) (pv 0) rfl) (kaa pe_bl kae)))))))))))),?_⟩
  have nbx:b≠x:=ne_of hb hx (by
   intro z
   injection z with _ _ z
   rw[z] at lbl
   cases lbl)
  have nlx:l≠x:=ne_of hl hx (by intro z;cases z)
  exists Y4
  refine⟨by decide,fun o ho=>?_⟩
  have nox:o≠x:=(kai hx ho).symm
  symm
  exists Y4
  refine⟨_,rfl,x,d.qc,dx,[],rfl,kak ho _ _ hx,W.qc.cl,W.qJ,by decide,?_⟩
  have b1:But x H (upd (upd H o (.lst [])) x (.ins d.qc dx (putF "owners" (.ref o) []))):=(But.of_same (kak ho)).trans kar
  symm
  exists Y4
  refine⟨by decide,fun p hp=>?_⟩
  have npx:p≠x:=fun e=>by
   rw[e,kad] at hp
   cases hp
  have nop:o≠p:=fun e=>by
   rw[←e,kaj nox,kad] at hp
   cases hp
  have hp0:H p=none:=by
   cases e:H p with
   |none=>rfl
   |some u=>
    obtain⟨u',e'⟩:=kfC (b1 p u npx e)
    rw[e'] at hp
    cases hp
  symm
  exists Y4
  refine⟨_,rfl,x,d.qc,dx,_,rfl,kak hp _ _ kad,W.qc.cl,W.qw,few (J5 (kal (n:=0) (J4 _)) (by decide)),?_⟩
  have b2:=(b1.same (kak (o:=.lst []) hp)).trans (kar (o:=.ins d.qc dx (putF "prices" (.ref p) (putF "owners" (.ref o) []))))
  symm
  exists Y4
  refine⟨_,rfl,b,d.qf,dxb,fsb,_,rfl,b2 b _ nbx hb,W.qf.cl,W.Q4,lbc,_,rfl,x,d.qc,dx,_,rfl,kad,W.qc.cl,W.qQ,few (J5 (kal (kal (n:=0) (J4 _))) (by decide)),?_⟩
  have b3:=b2.trans (kar (o:=.ins d.qc dx (putF "carriage" (.int cg) (putF "prices" (.ref p) (putF "owners" (.ref o) [])))))
  symm
  exists Y4
  refine⟨by decide,fun mk hm=>?_⟩
  have nmx:mk≠x:=fun e=>by
   rw[e,kad] at hm
   cases hm
  have hm0:H mk=none:=by
   cases e:H mk with
   |none=>rfl
   |some u=>
    obtain⟨u',e'⟩:=kfC (b3 mk u nmx e)
    rw[e'] at hm
    cases hm
  have nom:o≠mk:=fun e=>by
   rw[←e,kaj nox,kaj nox,kaj nop,kaj nox,kad] at hm
   cases hm
  have npm:p≠mk:=fun e=>by
   rw[←e,kaj npx,kaj npx,kad] at hm
   cases hm
  symm
  exists Y4
  refine⟨_,rfl,x,d.qc,dx,_,rfl,kak hm _ _ kad,W.qc.cl,W.Qc,few (J5 (kal (kal (kal (n:=0) (J4 _)))) (by decide)),?_⟩
  have b4:=(b3.same (kak (o:=.lst []) hm)).trans (kar (o:=.ins d.qc dx (putF "marked" (.ref mk) (putF "carriage" (.int cg) (putF "prices" (.ref p) (putF "owners" (.ref o) []))))))
  have Di:Ds H x o p mk:=⟨ho,hp0,hm0,nox,npx,nmx,nop,nom,npm⟩
  have Z0:S3 H x d.qc dx (putF "marked" (.ref mk) (putF "carriage" (.int cg) (putF "prices" (.ref p) (putF "owners" (.ref o) [])))) o p mk [] [] [] (upd (upd (upd (upd (upd (upd (upd H o (.lst [])) x (.ins d.qc dx (putF "owners" (.ref o) []))) p (.lst [])) x (.ins d.qc dx (putF "prices" (.ref p) (putF "owners" (.ref o) []))))
    x (.ins d.qc dx (putF "carriage" (.int cg) (putF "prices" (.ref p) (putF "owners" (.ref o) []))))) mk (.lst [])) x (.ins d.qc dx (putF "marked" (.ref mk) (putF "carriage" (.int cg) (putF "prices" (.ref p) (putF "owners" (.ref o) [])))))):=by
   symm
   exists Y6
   refine⟨b4,kad,?_,?_,?_⟩
   ·rw[kaj nox,kaj nom,kaj nox,kaj nox,kaj nop,kaj nox,kad]
   ·rw[kaj npx,kaj npm,kaj npx,kaj npx,kad]
   ·rw[kaj nmx,kad]
  have l1:(putF "marked" (.ref mk) (putF "carriage" (.int cg) (putF "prices" (.ref p) (putF "owners" (.ref o) [])))).lookup ("owners" :Str)=some (.ref o):=by
   rw[kab,if_neg (by decide +kernel),kab,if_neg (by decide +kernel),kab,if_neg (by decide +kernel),kab,if_pos rfl]
  have l2:(putF "marked" (.ref mk) (putF "carriage" (.int cg) (putF "prices" (.ref p) (putF "owners" (.ref o) [])))).lookup ("prices" :Str)=some (.ref p):=by
   rw[kab,if_neg (by decide +kernel),kab,if_neg (by decide +kernel),kab,if_pos rfl]
  have l3:(putF "marked" (.ref mk) (putF "carriage" (.int cg) (putF "prices" (.ref p) (putF "owners" (.ref o) [])))).lookup ("carriage" :Str)=some (.int cg):=by
   rw[kab,if_neg (by decide +kernel),kab,if_pos rfl]
  have l4:(putF "marked" (.ref mk) (putF "carriage" (.int cg) (putF "prices" (.ref p) (putF "owners" (.ref o) [])))).lookup ("marked" :Str)=some (.ref mk):=by
   rw[kab,if_pos rfl]
  have l5:(putF "marked" (.ref mk) (putF "carriage" (.int cg) (putF "prices" (.ref p) (putF "owners" (.ref o) [])))).lookup ("whole" :Str)=none:=by
   rw[kab,if_neg (by decide +kernel),kab,if_neg (by decide +kernel),kab,if_neg (by decide +kernel),kab,if_neg (by decide +kernel)]
   rfl
  have lfs:(putF "marked" (.ref mk) (putF "carriage" (.int cg) (putF "prices" (.ref p) (putF "owners" (.ref o) [])))).length≤10:=J5 (kal (kal (kal (kal (n:=0) (J4 _))))) (by decide)
  generalize putF "marked" (.ref mk) (putF "carriage" (.int cg) (putF "prices" (.ref p) (putF "owners" (.ref o) [])))=fs at *
  generalize (upd (upd (upd (upd (upd (upd (upd H o (.lst [])) x (.ins d.qc dx (putF "owners" (.ref o) []))) p (.lst [])) x (.ins d.qc dx (putF "prices" (.ref p) (putF "owners" (.ref o) []))))
    x (.ins d.qc dx (putF "carriage" (.int cg) (putF "prices" (.ref p) (putF "owners" (.ref o) []))))) mk (.lst [])) x (.ins d.qc dx fs))=Hs at *
  symm
  exists Y4
  refine⟨_,rfl,b,d.qf,dxb,fsb,_,rfl,Z0.bt b _ nbx hb,W.qf.cl,W.qF,lbl,l,_,rfl,Z0.bt l _ nlx hl,kkq (xs:=ls.map V.ref) (fun i σ H'=>(∃v2 v3 v4:Option V,σ=[some (.ref x),some (.ref b),v2,v3,v4])∧
   S3 H x d.qc dx fs o p mk ((own (rs.take i)).map V.int) ((prs m (rs.take i)).map V.int) (J6 i (.bl false)) H') ⟨⟨none,none,none,rfl⟩,Z0⟩ (fun i σ H' _ ⟨_,Z⟩=>Z.bt l _ nlx hl) ?_ ?_⟩
  ·rintro i y t σ H1 hy ⟨⟨v2,v3,v4,rfl⟩,Z⟩ ht
   have hll:=hL.len
   have hil:i<(ls.map V.ref).length:=(Nh.mp hy).1
   rw[JY] at hil
   obtain⟨lx,el,rfl⟩:∃lx,ls[i]?=some lx∧y=V.ref lx:=by
    rw[Nc] at hy
    cases e:ls[i]? with
    |none=>rw[e] at hy;cases hy
    |some z=>rw[e] at hy;exact⟨z,rfl,(Option.some.inj hy).symm⟩
   obtain⟨r,er⟩:∃r,rs[i]?=some r:=⟨rs[i]'(by omega),by simp[show i<rs.length by omega]⟩
   have hr':r.Ok:=hok r (Nb er)
   obtain⟨dxl,fsl,hlx,lk1,lk2,lk3,lk4⟩:=hL.get el er
   have nlxx:lx≠x:=ne_of hlx hx (by
    intro z
    injection z with _ _ z
    rw[z] at lk1
    cases lk1)
   have hmn0:=hr'.mn0
   have hmn1:=hr'.mn1
   have Z1:=Z.same (kak (o:=.tup [.int (i:Nat),V.ref lx]) ht)
   have lo1:((own (rs.take i)).map V.int).length≤720:=by
    rw[JY]
    have:=ki3 (rs.take i) fun r hr=>hok r (Ee hr)
    rw[Nt] at this
    omega
   have lp1:((prs m (rs.take i)).map V.int).length≤720:=by
    rw[JY]
    have:=kiU m (rs.take i) fun r hr=>hok r (Ee hr)
    rw[Nt] at this
    omega
   symm
   exists Y6
   refine⟨t,_,rfl,SqT.of kad,rfl,_,_,rfl,_,_,rfl,rfl,?_⟩
   nofun
   exists Y6
   refine⟨_,rfl,_,rfl,b,d.qf,dxb,fsb,_,rfl,Z1.bt b _ nbx hb,W.qf.cl,W.Qt,lbm,lx,m,r,rfl,⟨dxl,fsl,Z1.bt lx _ nlxx hlx,lk1,lk2,lk3,lk4⟩,?_⟩
   nofun
   exists Y6
   refine⟨_,rfl,x,d.qc,dx,fs,_,rfl,Z1.ob,W.qc.cl,W.qJ,l1, .inl ⟨rfl,_,SqL.of Z1.ho⟩,_,rfl,(by show 1≤sizeLine;decide),fun t1 ht1=>?_⟩
   have Z2:=Z1.same (kak (o:=.lst [V.int (i:Nat)]) ht1)
   nofun
   exists Y6
   refine⟨_,rfl,lx,d.qe,dxl,fsl,_,rfl,Z2.bt lx _ nlxx hlx,W.qe.cl,W.qE,lk3,t1,_,_,rfl,rfl,kad,by omega,by omega,Ng (kaq (by simp;omega)),fun t2 ht2=>?_⟩
   have Z3:=Z2.same (kak (o:=.lst (J6 r.mn.toNat [V.int (i:Nat)]).flatten) ht2)
   nofun
   exists Y6
   refine⟨o,t2,_,_,rfl,rfl,Z3.ho,kad,Ng (kaq (by rw[rep1,Mj];omega)),?_⟩
   have Z4:=Z3.setO (d:=(own (rs.take i)).map V.int++(J6 r.mn.toNat [V.int (i:Nat)]).flatten) Di
   nofun
   exists Y6
   refine⟨_,rfl,x,d.qc,dx,fs,_,rfl,Z4.ob,W.qc.cl,W.qw,l2, .inl ⟨rfl,_,SqL.of Z4.hp⟩,_,rfl,(by show 1≤sizeLine;decide),fun t3 ht3=>?_⟩
   have Z5:=Z4.same (kak (o:=.lst [V.int (prc m r)]) ht3)
   nofun
   exists Y6
   refine⟨_,rfl,lx,d.qe,dxl,fsl,_,rfl,Z5.bt lx _ nlxx hlx,W.qe.cl,W.qE,lk3,t3,_,_,rfl,rfl,kad,by omega,by omega,Ng (kaq (by simp;omega)),fun t4 ht4=>?_⟩
   have Z6:=Z5.same (kak (o:=.lst (J6 r.mn.toNat [V.int (prc m r)]).flatten) ht4)
   nofun
   exists Y6
   refine⟨p,t4,_,_,rfl,rfl,Z6.hp,kad,Ng (kaq (by rw[rep1,Mj];omega)),?_⟩
   have Z7:=Z6.setP (d:=(prs m (rs.take i)).map V.int++(J6 r.mn.toNat [V.int (prc m r)]).flatten) Di
   nofun
   exists Y6
   refine⟨_,rfl,x,d.qc,dx,fs,_,rfl,Z7.ob,W.qc.cl,W.Qc,l4, .inl ⟨rfl,_,SqL.of Z7.hm⟩,mk,_,_,rfl,rfl,Z7.hm,kaq (by simp;omega),?_⟩
   have Z8:=Z7.setM (d:=J6 i (V.bl false)++[V.bl false]) Di
   nofun
   exists Y6
   refine⟨⟨_,_,_,rfl⟩,?_⟩
   have e1:(own (rs.take i)).map V.int++(J6 r.mn.toNat [V.int (i:Nat)]).flatten=(own (rs.take (i+1))).map V.int:=by
    rw[take_snoc er,kj3,J9,rep1,kiM,Nt,MH (by omega)]
   have e2:(prs m (rs.take i)).map V.int++(J6 r.mn.toNat [V.int (prc m r)]).flatten=(prs m (rs.take (i+1))).map V.int:=by
    rw[take_snoc er,kjX,J9,rep1,kiM]
   have e3:J6 i (V.bl false)++[V.bl false]=J6 (i+1) (V.bl false):=by rw[MO]
   rw[←e1,←e2,←e3]
   nofun
   exact Z8
  ·rintro σ H' ⟨⟨v2,v3,v4,rfl⟩,Z⟩
   have hll:=hL.len
   have e:(ls.map V.ref).length=rs.length:=by rw[JY,hll]
   rw[e,NU] at Z
   nofun
   exact k H' o p mk Z.bt ho hp0 hm0 ⟨dx,fs,Z.ob,l1,l2,l3,l4,l5⟩ Z.ho Z.hp Z.hm ⟨dx,fs,Z.ob,lfs⟩
theorem kdw:kan ["self"] ["self"] (kag kbF):=by ac_rfl
theorem kdD(W:WB K mg d base):FO P w W 1 d.Zl d.Zm ["self"] (kio d.qc):=by
 exists W.Q5.F,kdw
 ·obtain⟨x,o,p,mk,cg,ns,rfl,⟨dx,fs,hx,l1,l2,l3,l4,l5⟩,hp,k⟩:=h
  refine⟨_,kah (kap (pe_op kaA (kau (r:=rSum K) (kcp rfl) (by rfl) W.B.sum b_sum (kaa (kam (K:=K) (pv 0) rfl) kae)) (kam (K:=K) (pv 0) rfl))),?_⟩
  exact⟨_,rfl,x,d.qc,dx,fs,_,rfl,hx,W.qc.cl,W.qw,l2,p,ns,rfl,SqL.of hp,_,rfl,x,d.qc,dx,fs,_,rfl,hx,W.qc.cl,W.qQ,l3,_,_,rfl,rfl,k⟩
inductive kkN (K:JZ) (CM:Addr) (vs:List V) (H:Hp) (Q:VK) (E_:XK):Prop
 |ct (mA a:Addr)(M:Mks)(ps:List (Option Nat))(kn:Nat)(mk:Bool)(_:vs=[.ref mA, .ref a, .int kn, .bl mk])(_:MksIs CM H mA M)(_:SqL K H a (ps.map pV))(_:Good ps)(_:kn<ps.length)(_:Q (.bl (kHit ps M.kind kn&&(!M.lone|| !mk))) H):kkN K CM vs H Q E_
theorem klq:kan ["marks","parents","kind","marked"] ["marks","parents","kind","marked"] (kag kiI):=by ac_rfl
theorem klD(W:WB K mg d base):FO P w W 2 d.XG d.XH ["marks","parents","kind","marked"] (kkN K d.qg):=by
 exists W.ZF.F,klq
 ·obtain⟨mA,a,M,ps,kn,mk,rfl,⟨dx,fs,hm,l1,l2,l3,l4,l5,l6⟩,hS,hg,hk,k⟩:=h
  exists Uu,kj6,W
  refine⟨_,kac (kcC (ps_if (PW.pt (kbw (kaU (kam (K:=K) (pv 0) rfl)) (kbj (kaU (pv 3))))) (kah (kap pe_bl)) (kat)))
   (kah (kap (pe_or (kbm keY (kam (K:=K) (pv 0) rfl) ka0 (kav _)) (kf3 (pcl Uu hr W.ZD (kaa (pv 1) (kaa (pv 2) (kaa (kam (K:=K) (pv 0) rfl) kae)))))))),?_⟩
  refine⟨fun σ' H'=>σ'=[some (.ref mA),some (.ref a),some (.int kn),some (.bl mk)]∧H'=H∧(!M.lone|| !mk)=true,⟨_,rfl,mA,d.qg,dx,fs,_,rfl,hm,W.qg.cl,W.QW,l6,M.lone,rfl,?_⟩,?_⟩
  ·cases e:M.lone with
   |false=>exact iteF (iteF ⟨rfl,rfl,rfl⟩)
   | true=>
    refine iteT ⟨_,rfl,mk,rfl,?_⟩
    cases mk with
    |false=>exact iteF ⟨rfl,rfl,rfl⟩
    |true=>
     refine iteT ?_
     rw[e,show(kHit ps M.kind kn&&(!true|| !true))=false by simp] at k
     exact k
  ·rintro σ' H' ⟨rfl,rfl,hh⟩
   rw[hh,Bool.and_true] at k
   cases ek:M.kind with
   |none=>
    rw[ek] at l1 k
    refine⟨_,rfl,mA,d.qg,dx,fs,_,rfl,hm,W.qg.cl,W.Qq,l1,rfl,_,rfl,?_⟩
    show if decide (V.non=V.non)=true then _ else _
    rw[show decide (V.non=V.non)=true by simp]
    exact iteT k
   |some kk=>
    rw[ek] at l1 k
    refine⟨_,rfl,mA,d.qg,dx,fs,_,rfl,hm,W.qg.cl,W.Qq,l1,rfl,_,rfl,?_⟩
    show if decide (V.int (kk:Nat)=V.non)=true then _ else _
    rw[show decide (V.int (kk:Nat)=V.non)=false by simp]
    exact iteF ⟨_,rfl,_,rfl,_,rfl,mA,d.qg,dx,fs,_,rfl,hm,W.qg.cl,W.Qq,l1,a,ps,kn,kk,rfl,hS,hg,hk,k⟩
theorem VF:kan ["voucher","parents","basket","standing","fitting"] ["voucher","parents","basket","standing"] (kag ked):=by ac_rfl
theorem khu(W:WB K mg d base):FO P w W 3 d.XE d.XF ["voucher","parents","basket","standing"] (kiE K d):=by
 exists W.QP.F,VF
 ·obtain⟨v,a,b,x,Vc,ps,B,S,rfl,hV,hA,hB,hS,wf,vo,k⟩:=h
  obtain⟨mA,dxv,fsv,hv,lvm,_,hM,hh,htb⟩:=id hV
  obtain⟨l,ls,⟨dxb,fsb,hb,lb1,lb2,lb3⟩,hl,hL⟩:=id hB
  obtain⟨o,p,mk,⟨dxs,fss,hx,l1,l2,l3,l4,l5⟩,ho,hp,hmk⟩:=id hS
  exists Uv,klD,W
  refine⟨_,kac (psl (i:=4) VF.nd (ka6 (N:=["line","marked","voucher","parents"]) (CompScope.of (N:=["line","marked","voucher","parents"]) (cap:=[none,none,some 0,some 1]) (kag ked).names ["voucher","parents","basket","standing","fitting"] rfl rfl (by decide +kernel)) rfl (kef rfl W.B.zip (kaa (kam (K:=K) (pv 2) rfl) (kaa (kam (K:=K) (pv 3) rfl) kae))) (fun _ _ _ _=>kbl (K:=K) (n:=2) rfl (kaw (pgn (i:=0) (show(["line","marked","voucher","parents"]:List Str).Nodup by decide +kernel)) (kaw (pgn (i:=1) (show(["line","marked","voucher","parents"]:List Str).Nodup by decide +kernel)) kbk))) (fun _ _ _ _=>(pcl Uv hr W.ZF (kaa (kam (K:=K) (pv 2) rfl) (kaa (pv 3) (kaa (kam (K:=K) (pv 0) rfl) (kaa (pv 1) kae))))))))
   (kah (kap (kj2 (N:=["piece","owner","fitting"]) (CompScope.of (N:=["piece","owner","fitting"]) (cap:=[none,none,some 4]) (kag ked).names ["voucher","parents","basket","standing","fitting"] rfl rfl (by decide +kernel)) rfl (kiY rfl W.B.enum (kaa (kam (K:=K) (pv 3) rfl) kae)) (fun _ _ _ _=>kbl (K:=K) (n:=2) rfl (kaw (pgn (i:=0) (show(["piece","owner","fitting"]:List Str).Nodup by decide +kernel)) (kaw (pgn (i:=1) (show(["piece","owner","fitting"]:List Str).Nodup by decide +kernel)) kbk))) (fun _ _ _ _=>kly (kaU (pe_ix (r:=rIxL K) kaG (pv 2) (pv 1) (fun _ _=>rfl)))) (fun _ _ _ _=>(pv 0))))),?_⟩
  have np:=wf.np
  have nl:=wf.nl
  have lenL:=hL.len
  have lenM:=wf.lm
  have emin:min (ls.map V.ref).length (S.mkd.map V.bl).length=B.rs.length:=by rw[JY,JY,lenL,lenM,My]
  refine⟨_,rfl,b,d.qf,dxb,fsb,_,rfl,hb,W.qf.cl,W.qF,lb1,_,rfl,x,d.qc,dxs,fss,_,rfl,hx,W.qc.cl,W.Qc,l4,l,mk,_,_,rfl,hl,hmk,
   kfD (xs:=ls.map V.ref) (ys:=S.mkd.map V.bl) (fun i σ zs H'=>Same H H'∧zs=((J8 i).map fun l=>hits ps (kds B) Vc.ms.kind Vc.ms.lone S.mkd l).map V.bl∧∃v0 v1:Option V,σ=[v0,v1,some (.ref v),some (.ref a)])
    ⟨Same.refl _,rfl,none,none,rfl⟩ (by rw[emin];exact Ng (kaq (by omega))) (fun i σ zs H' _ h=>⟨h.1 _ _ hl,h.1 _ _ hmk,by rw[h.2.1];simp⟩) ?_ ?_⟩
  ·rintro i y m t σ zs H1 hy hm ⟨s1,rfl,v0,v1,rfl⟩ ht
   obtain⟨lx,elx,rfl⟩:=kbN hy
   obtain⟨mv,emv,rfl⟩:=kbQ hm
   obtain⟨r,er,hr⟩:=hL.at elx
   have s2:=s1.trans (kak (o:=.tup [V.ref lx,V.bl mv]) ht)
   obtain⟨dxl,fsl,hlx,lk1,_⟩:=hr.same s2
   have hkd:=wf.kd r (Nb er)
   obtain⟨kn,ekn⟩:=Int.eq_ofNat_of_zero_le hkd.1
   have hkn:kn<ps.length:=by omega
   refine⟨t,_,rfl,SqT.of kad,rfl,_,_,rfl,_,_,rfl,rfl,?_⟩
   refine⟨_,rfl,v,clsOf d Vc.so,dxv,fsv,_,rfl,s2 _ _ hv,cl_of W hh,na_of W hh,lvm,_,rfl,_,rfl,lx,d.qe,dxl,fsl,_,rfl,hlx,W.qe.cl,W.Vw,lk1,_,rfl,mA,a,Vc.ms,ps,kn,mv,by rw[ekn];rfl,hM.same s2,s2.seq hA,wf.good,hkn,s2,?_,_,_,rfl⟩
   have e1:hits ps (kds B) Vc.ms.kind Vc.ms.lone S.mkd i=(kHit ps Vc.ms.kind kn&&(!Vc.ms.lone|| !mv)):=by
    unfold hits
    have e2:S.mkd.getD i false=mv:=by rw[Nm,emv];rfl
    rw[e2,kmr er,ekn,Int.toNat_natCast]
   rw[Mb,J9,J9,←e1]
   rfl
  rintro σ zs H1 ⟨s1,rfl,v0,v1,rfl⟩ D hD
  rw[emin]
  have s2:=s1.trans (kak (o:=.lst (((J8 B.rs.length).map fun l=>hits ps (kds B) Vc.ms.kind Vc.ms.lone S.mkd l).map V.bl)) hD)
  have eD:(upd H1 D (.lst (((J8 B.rs.length).map fun l=>hits ps (kds B) Vc.ms.kind Vc.ms.lone S.mkd l).map V.bl))) D=some (.lst (((J8 B.rs.length).map fun l=>hits ps (kds B) Vc.ms.kind Vc.ms.lone S.mkd l).map V.bl)):=kad
  generalize upd H1 D (.lst (((J8 B.rs.length).map fun l=>hits ps (kds B) Vc.ms.kind Vc.ms.lone S.mkd l).map V.bl))=H2 at *
  refine⟨_,rfl,x,d.qc,dxs,fss,_,rfl,s2 _ _ hx,W.qc.cl,W.qJ,l1,o,_,rfl,s2 _ _ ho,
   kh9 (xs:=S.ow.map iV) (fun i σ ys H'=>Same H2 H'∧ys=((J8 i).filter fun i=>hits ps (kds B) Vc.ms.kind Vc.ms.lone S.mkd (S.ow.getD i 0)).map iV∧∃v0 v1:Option V,σ=[v0,v1,some (.ref D)])
    ⟨Same.refl _,rfl,none,none,rfl⟩ (by rw[JY];exact Ng (kaq (by omega))) (fun i σ zs H' _ h=>⟨h.1 _ _ (s2 _ _ ho),by rw[h.2.1,JY];have:=M7 (fun i=>hits ps (kds B) Vc.ms.kind Vc.ms.lone S.mkd (S.ow.getD i 0)) (J8 i);simpa using this⟩) ?_ ?_⟩
  ·rintro i y t σ zs H3 hy ⟨s3,rfl,v0,v1,rfl⟩ ht
   obtain⟨ln,eln,rfl⟩:=kbQ hy
   have hln:=wf.line eln
   have s4:=s3.trans (kak (o:=.tup [V.int (i:Nat),iV ln]) ht)
   refine⟨t,_,rfl,SqT.of kad,rfl,_,_,rfl,_,_,rfl,rfl,?_⟩
   refine⟨_,rfl,_,rfl,D,_,_,_,rfl,rfl,SqL.of (s4 _ _ eD),kbe (v:=.bl (hits ps (kds B) Vc.ms.kind Vc.ms.lone S.mkd ln)) (by rw[Nc,Nc,Ed hln];rfl),_,rfl,?_⟩
   have e1:S.ow.getD i 0=ln:=by rw[Nm,eln];rfl
   have st:=kkE (ps:=ps) (kk:=kds B) (kind:=Vc.ms.kind) (lone:=Vc.ms.lone) (S:=S) (i:=i)
   rw[e1] at st
   cases hh2:hits ps (kds B) Vc.ms.kind Vc.ms.lone S.mkd ln with
   |false=>exact iteF ⟨s4,by rw[st,hh2];simp,_,_,rfl⟩
   |true=>exact iteT ⟨_,rfl,s4,by rw[st,hh2,if_pos rfl,J9];rfl,_,_,rfl⟩
  ·rintro σ zs H3 ⟨s3,rfl,v0,v1,rfl⟩ D2 hD2
   rw[JY]
   have s4:=(s2.trans s3).trans (kak (o:=.lst ((abt ps (kds B) Vc.ms.kind Vc.ms.lone S).map iV)) hD2)
   exact k _ D2 s4 (none_of (s2.trans s3) hD2) kad
inductive keT (CS:Addr) (vs:List V) (H:Hp) (Q:VK) (E_:XK):Prop
 |ct (x g:Addr)(S:Stnd)(is:List Nat)(_:vs=[.ref x, .ref g])(_:StndIs CS H x S)(_:H g=some (.lst (is.map iV)))(_:(∀i∈is,i<S.pr.length))(_:is.length≤720)(_:∀p,H p=none→Q (.ref p) (upd H p (.lst ((qs S.pr is).map V.int)))):keT CS vs H Q E_
theorem kfW:kan ["standing","pieces"] ["standing","pieces"] (kag kcc):=by ac_rfl
theorem kdI(W:WB K mg d base):FO P w W 1 d.X5 d.X6 ["standing","pieces"] (keT d.qc):=by
 exists W.QT.F,kfW
 ·obtain⟨x,g,S,is,rfl,⟨o,p,mk,⟨dxs,fss,hx,l1,l2,l3,l4,l5⟩,ho,hp,hmk⟩,hg,hi,hl,k⟩:=h
  refine⟨_,kah (kap (ka6 (N:=["piece","standing"]) (CompScope.of (N:=["piece","standing"]) (cap:=[none,some 0]) (kag kcc).names ["standing","pieces"] rfl rfl (by decide +kernel)) rfl (kaH (K:=K) (pv 1)) (fun _ _ _ _=>pgn (i:=0) (show(["piece","standing"]:List Str).Nodup by decide +kernel)) (fun _ _ _ _=>(pe_ix (r:=rIxL K) kaG (kam (K:=K) (pv 1) rfl) (pv 0) (fun _ _=>rfl))))),?_⟩
  refine⟨_,rfl,g,rfl,⟨_,SqL.of hg⟩,kaS (xs:=is.map iV) (fun j σ ys H'=>H'=H∧ys=(qs S.pr (is.take j)).map V.int∧∃v,σ=[v,some (.ref x)]) ⟨rfl,rfl,none,rfl⟩ ?_ ?_ ?_ ?_⟩
  ·rw[JY]
   exact Ng (kaq (by omega))
  ·rintro j σ ys H' hj ⟨rfl,rfl,_⟩
   exact⟨SqL.of hg,by rw[JY,kbU,Nt];rw[JY] at hj;omega⟩
  ·rintro j y σ ys H' hy ⟨rfl,rfl,v,rfl⟩
   obtain⟨n,en,rfl⟩:∃n,is[j]?=some n∧y=iV n:=kbQ hy
   obtain⟨z,ez⟩:=at_of (hi n (Nb en))
   refine⟨_,rfl,x,d.qc,dxs,fss,_,rfl,hx,W.qc.cl,W.qw,l2,_,rfl,p,_,_,_,rfl,rfl,SqL.of hp,kbe (by rw[Nc,ez];rfl),rfl,?_,_,rfl⟩
   rw[Mf,en]
   simp[qs,ez]
  ·rintro σ ys H' ⟨rfl,rfl,v,rfl⟩ D hD
   rw[JY,NU]
   exact k D hD
inductive kit (CS:Addr) (vs:List V) (H:Hp) (Q:VK) (E_:XK):Prop
 |ct (x g:Addr)(S:Stnd)(is:List Nat)(_:vs=[.ref x, .ref g])(_:StndIs CS H x S)(_:H g=some (.lst (is.map iV)))(_:(∀i∈is,i<S.pr.length))(_:is.length≤720)(_:∀H',Same H H'→Q (.int (qs S.pr is).sum) H'):kit CS vs H Q E_
theorem kdP:kan ["standing","pieces"] ["standing","pieces"] (kag kbI):=by ac_rfl
theorem kcq(W:WB K mg d base):FO P w W 2 d.X7 d.X8 ["standing","pieces"] (kit d.qc):=by
 exists W.qY.F,kdP
 ·obtain⟨x,g,S,is,rfl,hS,hg,hi,hl,k⟩:=h
  exists Xf,kdI,W
  refine⟨_,kah (kap (kau (r:=rSum K) (kcp rfl) (by rfl) W.B.sum b_sum (kaa (pcl Xf hr W.QT (kaa (pv 0) (kaa (pv 1) kae))) kae))),?_⟩
  exact⟨_,rfl,_,rfl,x,g,S,is,rfl,hS,hg,hi,hl,fun p hp=>⟨p,_,rfl,SqL.of kad,k _ (kak hp)⟩⟩
theorem Xg:kan ["voucher","parents","basket","standing","marks","pieces"] ["voucher","parents","basket","standing"] (kag kc0):=by ac_rfl
theorem kf7(W:WB K mg d base):FO P w W 4 d.XI d.XJ ["voucher","parents","basket","standing"] (kkM K d):=by
 exists W.ZG.F,Xg
 ·obtain⟨v,a,b,x,Vc,ps,B,S,rfl,hV,hA,hB,hS,wf,vo,k⟩:=h
  obtain⟨mA,dxv,fsv,hv,lvm,_,hM,hh,htb⟩:=id hV
  obtain⟨dxm,fsm,hm,m1,m2,m3,m4,m5,m6⟩:=id hM
  obtain⟨l,ls,⟨dxb,fsb,hb,lb1,lb2,lb3⟩,hl,hL⟩:=id hB
  exists Xh,khu,W
  exists Qi,kcq,W
  exists hr2,2,hr,0
  refine⟨_,kac (psl (i:=4) Xg.nd (kam (K:=K) (pv 0) rfl))
   (kac (kcC (ps_if (PW.pt (kbw (kaU (kam (K:=K) (pv 4) rfl)) (kbj (kcT (kaU (kam (K:=K) (pv 2) rfl)))))) (kah (kap kbz)) (kat)))
   (kac (psl (i:=5) Xg.nd (pcl Xh hr W.QP (kaa (pv 0) (kaa (pv 1) (kaa (pv 2) (kaa (pv 3) kae))))))
   (kac (ps_if (kas op_eq (kau (r:=kba K) kaz (by rfl) W.B.len b_len (kaa (pv 5) kae)) kaf (kav _)) (kah (kap kbz)) (kat))
   (kac (ps_if (kas op_lt (pcl Qi hr2 W.qY (kaa (pv 3) (kaa (pv 5) kae))) (kam (K:=K) (pv 4) rfl) (kav _)) (kah (kap kbz)) (kat))
   (kah (kap ka0)))))),?_⟩
  have np:=wf.np
  have habl:∀i∈abt ps (kds B) Vc.ms.kind Vc.ms.lone S,i<S.pr.length:=fun i hi=>by rw[wf.lp];exact khL hi
  have lab:(abt ps (kds B) Vc.ms.kind Vc.ms.lone S).length≤720:=J5 (keI _ _ _ _ _) np
  refine⟨_,rfl,v,clsOf d Vc.so,dxv,fsv,_,rfl,hv,cl_of W hh,na_of W hh,lvm,?_⟩
  refine⟨fun σ' H'=>σ'=[some (.ref v),some (.ref a),some (.ref b),some (.ref x),some (.ref mA),none]∧H'=H∧(Vc.ms.member&& !B.m)=false,⟨_,rfl,mA,d.qg,dxm,fsm,_,rfl,hm,W.qg.cl,W.Vi,m4,Vc.ms.member,rfl,?_⟩,?_⟩
  ·cases e:Vc.ms.member with
   |false=>exact iteF (iteF ⟨rfl,rfl,rfl⟩)
   | true=>
    refine iteT ⟨_,rfl,b,d.qf,dxb,fsb,_,rfl,hb,W.qf.cl,W.Qt,lb3,B.m,rfl,?_⟩
    cases e2:B.m with
    |true=>exact iteF ⟨rfl,rfl,rfl⟩
    |false=>
     refine iteT ?_
     have z:=k H (Same.refl _)
     unfold hindM at z
     rw[e,e2,if_pos (by decide)] at z
     exact z
  ·rintro σ' H' ⟨rfl,rfl,hh2⟩
   refine⟨_,rfl,_,rfl,_,rfl,_,rfl,v,a,b,x,Vc,ps,B,S,rfl,hV,hA,hB,hS,wf,vo,fun H1 pa s1 f1 h1=>?_⟩
   refine⟨_,rfl,pa,_,rfl, .inl (SqL.of h1),rfl,_,rfl,?_⟩
   have ed:decide (V.int (((abt ps (kds B) Vc.ms.kind Vc.ms.lone S).map iV).length:Nat)=V.int 0)=decide ((abt ps (kds B) Vc.ms.kind Vc.ms.lone S).length=0):=by
    rw[JY]
    by_cases h0:(abt ps (kds B) Vc.ms.kind Vc.ms.lone S).length=0
    ·rw[h0]
     rfl
    ·rw[decide_eq_false h0]
     refine decide_eq_false fun z=>h0 ?_
     injection z with z
     omega
   show if decide (V.int (((abt ps (kds B) Vc.ms.kind Vc.ms.lone S).map iV).length:Nat)=V.int 0)=true then _ else _
   rw[ed]
   by_cases h0:(abt ps (kds B) Vc.ms.kind Vc.ms.lone S).length=0
   ·rw[decide_eq_true h0]
    refine iteT ?_
    have z:=k H1 s1
    unfold hindM at z
    rw[hh2,if_neg (by decide),if_pos h0] at z
    exact z
   ·rw[decide_eq_false h0]
    refine iteF ⟨_,rfl,_,rfl,x,pa,S,_,rfl,hS.same s1,h1,habl,lab,fun H2 s2=>?_⟩
    have z:=k H2 (s1.trans s2)
    unfold hindM at z
    rw[hh2,if_neg (by decide),if_neg h0] at z
    refine⟨_,rfl,mA,d.qg,dxm,fsm,_,rfl,(s1.trans s2) _ _ hm,W.qg.cl,W.Vh,m2,_,_,rfl,rfl,_,rfl,?_⟩
    by_cases h2:(qs S.pr (abt ps (kds B) Vc.ms.kind Vc.ms.lone S)).sum<Vc.ms.needs
    ·rw[if_pos h2] at z
     rw[decide_eq_true h2]
     exact iteT z
    ·rw[if_neg h2] at z
     rw[decide_eq_false h2]
     exact iteF z
inductive khh (vs:List V) (H:Hp) (Q:VK) (E_:XK):Prop
 |ct (m:Option Int)(n:Int)(_:vs=[oV m, .int n])(_:Q (.int (atM m n)) H):khh vs H Q E_
theorem khR:kan ["most","number"] ["most","number"] (kag kec):=by ac_rfl
theorem khY(W:WB K mg d base):FO P w W 1 d.X9 d.Ya ["most","number"] khh:=by
 exists W.ZM.F,khR
 ·obtain⟨m,n,rfl,k⟩:=h
  refine⟨_,kac (ps_if (kas keY (pv 0) ka0 (kav _)) (kah (kap (pv 1))) (kat))
   (kah (kap (kau (keD rfl) (by rfl) W.B.min b_min (kaa (pv 0) (kaa (pv 1) kae))))),?_⟩
  cases m with
  |none=>
   refine⟨_,rfl,rfl,_,rfl,?_⟩
   show if decide (V.non=V.non)=true then _ else _
   rw[show decide (V.non=V.non)=true by simp]
   exact iteT ⟨_,rfl,k⟩
  | some z=>
   refine⟨_,rfl,rfl,_,rfl,?_⟩
   show if decide (V.int z=V.non)=true then _ else _
   rw[show decide (V.int z=V.non)=false by simp]
   refine iteF ⟨_,rfl,_,rfl,_,_,rfl,?_⟩
   have e:atM (some z) n=if n<z then n else z:=by
    show min z n=_
    split <;> omega
   rw[e] at k
   exact k
inductive kfS (d:D) (vs:List V) (H:Hp) (Q:VK) (E_:XK):Prop
 |ct (v x:Addr)(V:Vch)(S:Stnd)(_:vs=[.ref v, .ref x])(_:VchIs d H v V)(_:StndIs d.qc H x S)(_:Q (.int (if kbA V.so=true then atM V.ms.most S.cg else 0)) H):kfS d vs H Q E_
theorem kdc:kan ["voucher","standing"] ["voucher","standing"] (kag kbq):=by ac_rfl
theorem kbV(W:WB K mg d base):FO P w W 2 d.XU d.XW ["voucher","standing"] (kfS d):=by
 exists W.QR.F,kdc
 ·obtain⟨v,x,Vc,S,rfl,⟨mA,dxv,fsv,hv,lvm,_,⟨dxm,fsm,hm,m1,m2,m3,m4,m5,m6⟩,hh,htb⟩,⟨o,p,mk,⟨dxs,fss,hx,l1,l2,l3,l4,l5⟩,ho,hp,hmk⟩,k⟩:=h
  exists Uw,khY,W
  refine⟨_,kac (ps_if (kaU (kau (r:=rIsi K) kaT (by rfl) W.B.isi b_isi (kaa (pv 0) (kaa (kb8 (v:=.ref d.qq) (by rfl) W.VU rfl) kae)))) (kah (kap (pcl Uw hr W.ZM (kaa (kam (K:=K) (kam (K:=K) (pv 0) rfl) rfl) (kaa (kam (K:=K) (pv 1) rfl) kae))))) (kat))
   (kah (kap kaf)),?_⟩
  have I:=kk2 W hh
  refine⟨_,rfl,_,_,_,_,rfl, .inr ⟨_,rfl⟩,TyOf.ins hv (cl_of W hh) I.ha I.hn I.ht I.hm,kgh W hh,_,rfl,?_⟩
  cases e:kbA Vc.so with
  |false=>
   rw[e,if_neg Na] at k
   exact iteF k
  |true=>
   rw[e,if_pos rfl] at k
   exact iteT ⟨_,rfl,v,clsOf d Vc.so,dxv,fsv,_,rfl,hv,cl_of W hh,na_of W hh,lvm,mA,d.qg,dxm,fsm,_,rfl,hm,W.qg.cl,W.QV,m3,_,rfl,x,d.qc,dxs,fss,_,rfl,hx,W.qc.cl,W.qQ,l3,_,_,rfl,k⟩
noncomputable def kvOf(G:List (Nat×List Nat))(gl:List Addr):List (Key×V):=NT (fun p r=>(Sum.inl (p.1:Int),V.ref r)) G gl
theorem khA:∀{G:List (Nat×List Nat)}{gl:List Addr},gl.length=G.length→(kvOf G gl).map Prod.snd=gl.map V.ref
 |[],[],_=>rfl
 |[],r::gl,h=>by cases h
 |p::G,[],h=>by cases h
 |p::G,r::gl,h=>by
  have ih:=khA (G:=G) (gl:=gl) (by simpa using h)
  show V.ref r::(kvOf G gl).map Prod.snd=V.ref r::gl.map V.ref
  rw[ih]
theorem kgV:∀{G:List (Nat×List Nat)}{gl:List Addr}(o a:Nat),gl.length=G.length→
  (atK (kvOf G gl) (Sum.inl (o:Int))=none∧ins G o a=G++[(o,[a])])∨∃(j:Nat)(g:List Nat)(r:Addr),G[j]?=some (o,g)∧gl[j]?=some r∧atK (kvOf G gl) (Sum.inl (o:Int))=some (.ref r)∧ins G o a=G.set j (o,g++[a])
 |[],gl,o,a,h=>.inl ⟨rfl,rfl⟩
 |(l,g)::G,[],o,a,h=>by cases h
 | (l,g)::G,r::gl,o,a,h=>by
  have hl:gl.length=G.length:=by simpa using h
  unfold ins
  by_cases e:l=o
  ·subst e
   exact .inr ⟨0,g,r,rfl,rfl,by simp[kvOf,atK],by rw[if_pos rfl];rfl⟩
  ·rw[if_neg e]
   have e':¬((l:Int)=(o:Int)):=fun z=>e (by omega)
   have ea:atK (kvOf ((l,g)::G) (r::gl)) (Sum.inl (o:Int))=atK (kvOf G gl) (Sum.inl (o:Int)):=by
    simp[kvOf,atK,MJ,e']
   rcases kgV o a hl with⟨h1,h2⟩|⟨j,g',r',h1,h2,h3,h4⟩
   ·exact .inl ⟨by rw[ea];exact h1,by rw[h2];rfl⟩
   ·exact .inr ⟨j+1,g',r',by simpa using h1,by simpa using h2,by rw[ea];exact h3,by rw[h4];rfl⟩
theorem kki{G:List (Nat×List Nat)}{gl:List Addr}{j o:Nat}{g g':List Nat}(h:G[j]?=some (o,g)):kvOf (G.set j (o,g')) gl=kvOf G gl:=by
 unfold kvOf
 apply EB
 intro i
 rw[Ec,Ec]
 by_cases e:j=i
 ·subst e
  have hj:=at_lt h
  rw[Mz hj,h]
  cases gl[j]? <;> rfl
 ·rw[MA e]
theorem kjg{G:List (Nat×List Nat)}{gl:List Addr}{o:Nat}{g:List Nat}{e:Addr}(h:gl.length=G.length):kvOf (G++[(o,g)]) (gl++[e])=kvOf G gl++[(Sum.inl (o:Int), .ref e)]:=by
 unfold kvOf
 rw[List.zipWith_append h.symm]
 rfl
structure Ptd (H H':Hp) (dd:Addr) (gl:List Addr) (G:List (Nat×List Nat)):Prop where
 sm:Same H H'
 nd:gl.Nodup
 fg:∀r∈gl,H r=none∧r≠dd
 dk:H' dd=some (.dK (kvOf G gl))
 ls:P2 (fun r p=>H' r=some (.lst (p.2.map iV))) gl G
theorem Ptd.more{H H':Hp}{dd e:Addr}{gl:List Addr}{G:List (Nat×List Nat)}(h:Ptd H H' dd gl G)(fd:H dd=none)(he:H' e=none){o a:Nat}:
  Ptd H (upd (upd (upd H' e (.lst [])) dd (.dK (kvOf G gl++[(Sum.inl (o:Int), .ref e)]))) e (.lst [iV a])) dd (gl++[e]) (G++[(o,[a])]):=by
 have e0:H e=none:=none_of h.sm he
 have ned:e≠dd:=fun z=>by rw[z,h.dk] at he;cases he
 refine⟨kao e0 (kao fd (h.sm.trans (kak he)) (kcW (nx h.dk)))  (kcW (nx kad)),?_,fun r hr=>?_,?_,?_⟩
 ·refine EL.mpr ⟨h.nd,by simp,fun x hx y hy z=>?_⟩
  rw[NP] at hy
  subst hy z
  obtain⟨i,hi⟩:=Mt.mp hx
  obtain⟨p,_,hp⟩:=h.ls.at hi
  rw[hp] at he
  cases he
 ·rcases NJ.mp hr with hr|hr
  ·exact h.fg r hr
  ·rw[NP] at hr
   subst hr
   exact⟨e0,ned⟩
 ·rw[kaj ned.symm,kad,kjg h.ls.len]
 ·refine P2.snoc (P2.of h.ls.len fun i r p e1 e2=>?_) kad
  have hp:=h.ls.get e1 e2
  rw[kaj (kai hp he),kaj (h.fg r (Nb e1)).2,kaj (kai hp he)]
  exact hp
theorem Ptd.put{H H':Hp}{dd e r:Addr}{gl:List Addr}{G:List (Nat×List Nat)}(h:Ptd H H' dd gl G)(he:H' e=none){j o a:Nat}{g:List Nat}(h1:G[j]?=some (o,g))(h2:gl[j]?=some r):
  Ptd H (upd (upd H' e (.lst [])) r (.lst (g.map iV++[iV a]))) dd gl (G.set j (o,g++[a])):=by
 have hr:=h.fg r (Nb h2)
 have hrv:=h.ls.get h2 h1
 refine⟨kao hr.1 (h.sm.trans (kak he)),h.nd,h.fg,?_,P2.of (by rw[Eu];exact h.ls.len) fun i r' p e1 e2=>?_⟩
 ·rw[kaj hr.2.symm,kaj (kai h.dk he),h.dk,kki h1]
 ·by_cases eji:j=i
  ·subst eji
   rw[h2] at e1
   cases e1
   rw[Mz (at_lt h1)] at e2
   cases e2
   rw[kad,J9]
   rfl
  ·rw[MA eji] at e2
   have hp:=h.ls.get e1 e2
   have hne:r'≠r:=fun z=>by
    subst z
    exact eji ((List.getElem?_inj (at_lt h2) h.nd).mp (h2.trans e1.symm))
   rw[kaj hne,kaj (kai hp he)]
   exact hp
inductive kha (CS:Addr) (vs:List V) (H:Hp) (Q:VK) (E_:XK):Prop
 |ct (x pa:Addr)(S:Stnd)(is:List Nat)(_:vs=[.ref x, .ref pa])(_:StndIs CS H x S)(_:H pa=some (.lst (is.map iV)))(_:(∀i∈is,i<S.ow.length))(_:is.length≤720)(_:∀(H':Hp)(p:Addr)(gl:List Addr),Same H H'→H p=none→H' p=some (.lst (gl.map V.ref))→P2 (fun r g=>H' r=some (.lst (g.map iV))) gl ((parted (fun i=>S.ow.getD i 0) is).map Prod.snd)→(∀r∈gl,H r=none)→Q (.ref p) H'):kha CS vs H Q E_
theorem P2.mapR{α β γ:Type}{R: α→γ→Prop}{f: β→γ}{as:List α}{bs:List β}(h:P2 (fun a b=>R a (f b)) as bs):P2 R as (bs.map f):=by
 induction h with
 |nil=>exact .nil
 |cons r t ih=>exact .cons r ih
theorem Xi:kan ["standing","pieces","by_line","piece"] ["standing","pieces"] (kag kbC):=by ac_rfl
theorem kdB(W:WB K mg d base):FO P w W 1 d.XZ d.X0 ["standing","pieces"] (kha d.qc):=by
 exists W.ZK.F,Xi
 ·obtain⟨x,pa,S,is,rfl,⟨o,p,mk,⟨dxs,fss,hx,l1,l2,l3,l4,l5⟩,ho,hp,hmk⟩,hpa,hi,hl,k⟩:=h
  refine⟨_,kac (psl (i:=2) Xi.nd kj1)
   (kac (kbx PassesOwn.never rfl (kaH (K:=K) (pv 1)) (pgn (i:=3) Xi.nd)
   (kah (kaL (pe_bm NA NW NY kaW (pe_bm E1 EZ PySem.F.type_dict_setdefault kfy (pv 2) (kaa (pe_ix (r:=rIxL K) kaG (kam (K:=K) (pv 0) rfl) (pv 3) (fun _ _=>rfl)) (kaa (kaI kae) kae))) (kaa (pv 3) kae)))))
   (kah (kap (kgM rfl (by rfl) W.B.list (pv 2))))),?_⟩
  refine fun dd hd=>?_
  have s1:=kak (o:=.dK []) hd
  refine⟨_,rfl,pa,rfl,⟨_,SqL.of (s1 _ _ hpa)⟩,kbX (K:=K) (a:=pa) (xs:=is.map iV) (fun i σ H'=>(∃v3:Option V,σ=[some (.ref x),some (.ref pa),some (.ref dd),v3])∧∃gl,Ptd H H' dd gl (parted (fun i=>S.ow.getD i 0) (is.take i)))
   ⟨⟨none,rfl⟩,[],s1,by simp,fun r hr=>by simp at hr,kad, .nil⟩ (fun i σ H' _ h=>SqL.of (h.2.choose_spec.sm _ _ hpa)) ?_ ?_⟩
  ·rintro i y σ H1 hy ⟨⟨v3,rfl⟩,gl,Z⟩
   obtain⟨a,ea,rfl⟩:=kbQ hy
   have hil:=at_lt ea
   obtain⟨ln,eln⟩:=at_of (hi a (Nb ea))
   have eg:S.ow.getD a 0=ln:=by rw[Nm,eln];rfl
   have enext:parted (fun i=>S.ow.getD i 0) (is.take (i+1))=ins (parted (fun i=>S.ow.getD i 0) (is.take i)) ln a:=by
    rw[kbh ea,kej,eg]
   have lenG:=keX (fun i=>S.ow.getD i 0) (is.take i)
   rw[Nt] at lenG
   have lenK:(kvOf (parted (fun i=>S.ow.getD i 0) (is.take i)) gl).length<sizeLine:=by
    refine kaq ?_
    unfold kvOf
    rw[Eb]
    omega
   refine⟨_,rfl, .inr (.inr (.inl ⟨rfl, .inl ⟨_,Z.dk⟩⟩)),_,rfl,x,d.qc,dxs,fss,_,rfl,Z.sm _ _ hx,W.qc.cl,W.qJ,l1,_,rfl,o,_,_,_,rfl,rfl,SqL.of (Z.sm _ _ ho),kbe (v:=.int (ln:Nat)) (by rw[Nc,eln];rfl),by decide,fun e he=>?_⟩
   have ned:dd≠e:=kai Z.dk he
   refine⟨dd,kvOf (parted (fun i=>S.ow.getD i 0) (is.take i)) gl,(ln:Nat), .ref e,rfl,rfl,by rw[kaj ned];exact Z.dk,lenK,fun v hv=>?_,fun hn=>?_⟩
   ·rcases kgV (G:=parted (fun i=>S.ow.getD i 0) (is.take i)) ln a Z.ls.len with⟨h1,_⟩|⟨j,g,r,h1,h2,h3,h4⟩
    ·rw[h1] at hv
     cases hv
    ·rw[h3] at hv
     cases hv
     have hrv:=Z.ls.get h2 h1
     have gl20:g.length≤720:=by
      have eg':=(kcD (fun i=>S.ow.getD i 0) (is.take i)).gs ln g (Nb h1)
      rw[eg']
      refine J5 (M7 _ _) ?_
      rw[Nt]
      omega
     have hr2:(upd H1 e (.lst [])) r=some (.lst (g.map iV)):=by rw[kaj (kai hrv he)];exact hrv
     refine⟨.inl ⟨rfl,_,SqL.of hr2⟩,_,rfl,r,_,_,rfl,rfl,hr2,kaq (by rw[JY];omega),⟨_,rfl⟩,gl,?_⟩
     rw[enext,h4]
     exact Z.put he h1 h2
   ·rcases kgV (G:=parted (fun i=>S.ow.getD i 0) (is.take i)) ln a Z.ls.len with⟨_,h4⟩|⟨j,g,r,h1,h2,h3,h4⟩
    ·have he2:(upd (upd H1 e (.lst [])) dd (.dK (kvOf (parted (fun i=>S.ow.getD i 0) (is.take i)) gl++[(Sum.inl ((ln:Nat):Int), .ref e)]))) e=some (.lst []):=by rw[kaj ned.symm,kad]
     refine⟨.inl ⟨rfl,_,SqL.of he2⟩,_,rfl,e,[],_,rfl,rfl,he2,by decide,⟨_,rfl⟩,gl++[e],?_⟩
     rw[enext,h4]
     exact Z.more hd he
    ·rw[h3] at hn
     cases hn
  ·rintro σ H1 ⟨⟨v3,rfl⟩,gl,Z⟩
   rw[JY,NU] at Z
   refine⟨_,rfl,dd,_,rfl,Z.dk,fun l hl2=>?_⟩
   rw[khA Z.ls.len]
   refine k _ l gl (Z.sm.trans (kak hl2)) (none_of Z.sm hl2) kad (P2.mapR (f:=Prod.snd) (R:=fun r g=>(upd H1 l (.lst (gl.map V.ref))) r=some (.lst (g.map iV))) (Z.ls.mono fun r p h=>kak hl2 _ _ h)) fun r hr=>(Z.fg r hr).1
inductive kfR (d:D) (vs:List V) (H:Hp) (Q:VK) (E_:XK):Prop
 |ct (x pa:Addr)(S:Stnd)(is:List Nat)(m:Nat)(_:vs=[.ref x, .ref pa, .int m])(_:StndIs d.qc H x S)(_:H pa=some (.lst (is.map iV)))(_:is.Pairwise (· < ·))(_:(∀i∈is,i<S.pr.length))(_:is.length<64)(_:2≤m)(_:m≤20)(_:Tbs d H)(_:∀(H':Hp)(p:Addr)(gl:List Addr),Same H H'→H p=none→H' p=some (.lst (gl.map V.ref))→P2 (fun r g=>H' r=some (.lst (g.map iV))) gl (grp m (fallP S.pr is))→(∀r∈gl,H r=none)→Q (.ref p) H'):kfR d vs H Q E_
theorem klM{pr:List Int}{is:List Nat}{ms:List Int}(hs:is.Pairwise (· < ·))(hp:ms.Perm (is.map fun(i:Nat)=>(i:Int)))(hk:ms.Pairwise fun a b=> -(pr.getD a.toNat 0)< -(pr.getD b.toNat 0)∨(-(pr.getD a.toNat 0)= -(pr.getD b.toNat 0)∧a<b)):ms.map V.int=(fallP pr is).map iV:=by
 have e:ms=(ms.map Int.toNat).map fun(i:Nat)=>(i:Int):=by
  rw[Nx]
  conv=>lhs;rw[←List.map_id ms]
  refine NV fun z hz=>?_
  obtain⟨i,_,rfl⟩:=Nq.mp (hp.mem_iff.mp hz)
  simp
 have hp2:(ms.map Int.toNat).Perm is:=by
  have:=hp.map Int.toNat
  rw[Nx] at this
  have e2:is.map (Int.toNat∘fun(i:Nat)=>(i:Int))=is:=by
   conv=>rhs;rw[←List.map_id is]
   exact NV fun i _=>rfl
  rwa [e2] at this
 have hk2:(ms.map Int.toNat).Pairwise (befP pr):=by
  rw[EM]
  refine hk.imp_of_mem fun {a b} ha hb h=>?_
  obtain⟨i,_,rfl⟩:=Nq.mp (hp.mem_iff.mp ha)
  obtain⟨j,_,rfl⟩:=Nq.mp (hp.mem_iff.mp hb)
  unfold befP
  simp only[Int.toNat_natCast] at h⊢
  omega
 rw[e,kh6 hs hp2 hk2,Nx]
 rfl
theorem VG:kan ["standing","pieces","many","falling"] ["standing","pieces","many"] (kag kaD):=by ac_rfl
theorem kdC(W:WB K mg d base):FO P w W 1 d.X2 d.QF ["standing","pieces","many"] (kfR d):=by
 refine FunD.okC W.QS.F VG (fun vs H Q E h=>?_) (fun A outer s H vs Q E hr h=>?_)
 ·obtain⟨x,pa,S,is,m,rfl,_⟩:=h
  rfl
 ·obtain⟨x,pa,S,is,m,rfl,hS,hpa,hs,hi,h64,hm2,hm20,htb,k⟩:=h
  obtain⟨o,p,mk,⟨dxs,fss,hx,l1,l2,l3,l4,l5⟩,ho,hp,hmk⟩:=id hS
  refine⟨_,kac (psl (i:=3) VG.nd (khU (N:=["piece","standing"]) (cap:=[some 0]) (pv 1) ⟨CompScope.of (N:=["piece","standing"]) (cap:=[none,some 0]) (kag kaD).names ["standing","pieces","many","falling"] rfl rfl (by decide +kernel),rfl,rfl,rfl,rfl,by decide +kernel⟩ rfl hr.depth W.code_falling_groups W.ck_falling_groups W.blt (by rfl) W.B.sorted (fun _ _ _ _ _=>rfl) (fun _ _ _ _ _=>(pe_un kkG (pe_ix (r:=rIxL K) kaG (kam (K:=K) (pv 1) rfl) (pv 0) (fun _ _=>rfl)))) (by rfl)))
   (kah (kap (ka6 (N:=["start","falling","many"]) (CompScope.of (N:=["start","falling","many"]) (cap:=[none,some 3,some 2]) (kag kaD).names ["standing","pieces","many","falling"] rfl rfl (by decide +kernel)) rfl (khT rfl W.B.range (kaa kaf (kaa (pe_op kaA (pe_op kf5 (kau (r:=kba K) kaz (by rfl) W.B.len b_len (kaa (pv 3) kae)) (pv 2)) kaf) (kaa (pv 2) kae)))) (fun _ _ _ _=>pgn (i:=0) (show(["start","falling","many"]:List Str).Nodup by decide +kernel)) (fun _ _ _ _=>(khp (r:=rSlL K) kiF (pv 1) (kgL (pv 0)) (kgL (pe_op kaA (pv 0) (pv 2)))))))),?_⟩
  have htb':TbAt d.tP_falling_groups H:=htb
  obtain⟨qs0,eT,_⟩:=id htb'
  have npT:∀{b:Addr}{u:HO},H b=some u→(∀ps,u≠.tbl ps)→b≠d.tP_falling_groups:=fun {b u} e hn z=>by
   rw[z,eT] at e
   cases e
   exact hn _ rfl
  have ei:is.map iV=(is.map fun(i:Nat)=>(i:Int)).map V.int:=by rw[Nx];rfl
  refine⟨_,rfl,pa,is.map fun(i:Nat)=>(i:Int),fun a=> -(S.pr.getD a.toNat 0),rfl,SqL.of (by rw[←ei];exact hpa),by rw[JY];exact h64,?_,htb',npT hpa (fun ps z=>by cases z),fun H2 G n hn=>?_,fun H2 l ms G f1 f2 hpm hpw=>?_⟩
  ·rw[EM]
   exact hs.imp fun {a b} h=>by omega
  ·obtain⟨i,hin,rfl⟩:=Nq.mp hn
   obtain⟨z,ez⟩:=at_of (hi i hin)
   have hx2:=G.kp _ _ (npT hx (fun ps z=>by cases z)) hx
   have hp2:=G.kp _ _ (npT hp (fun ps z=>by cases z)) hp
   refine⟨_,rfl,x,d.qc,dxs,fss,_,rfl,hx2,W.qc.cl,W.qw,l2,_,rfl,p,_,_,_,rfl,rfl,SqL.of hp2,kbe (v:=.int z) (by rw[Nc,ez];rfl),_,rfl,?_,rfl⟩
   show V.int (-z)=V.int (-(S.pr.getD ((i:Int)).toNat 0))
   rw[Int.toNat_natCast,Nm,ez]
   rfl
  have s2:=G.same htb'
  rw[klM hs hpm hpw]
  have lf:(fallP S.pr is).length=is.length:=(kbt S.pr is).length_eq
  have s3:=s2.trans (kak (o:=.lst ((fallP S.pr is).map iV)) f2)
  have el:(upd H2 l (.lst ((fallP S.pr is).map iV))) l=some (.lst ((fallP S.pr is).map iV)):=kad
  generalize upd H2 l (.lst ((fallP S.pr is).map iV))=H3 at *
  have ecnt:(Builtin.Range.rangeSize 0 ((((fallP S.pr is).map iV).length:Int)-(m:Int)+1) (m:Int)).toNat=(fallP S.pr is).length/m:=by
   rw[JY]
   exact kgD (by omega)
  have lg:=kgW m (fallP S.pr is)
  refine⟨_,rfl,l,_,rfl, .inl (SqL.of el),_,rfl,_,_,rfl,rfl,_,_,rfl,rfl,_,rfl,0,_,_,rfl,by omega,?_,by omega,by omega,?_⟩
  ·rw[JY]
   omega
  rw[ecnt]
  refine kjD (n:=(fallP S.pr is).length/m) (fun i σ ys H'=>Same H3 H'∧(∃v0:Option V,σ=[v0,some (.ref l),some (.int m)])∧∃gl,ys=gl.map V.ref∧P2 (fun r g=>H' r=some (.lst (g.map iV))) gl ((grp m (fallP S.pr is)).take i)∧∀r∈gl,H r=none)
   ⟨Same.refl _,⟨none,rfl⟩,[],rfl, .nil,fun r hr=>by simp at hr⟩ ?_ ?_ ?_ ?_
  ·have:(grp m (fallP S.pr is)).length=(fallP S.pr is).length/m:=by simp[grp]
   exact Ng (kaq (by omega))
  ·rintro i σ ys H' hi' ⟨_,_,gl,rfl,hP,_⟩
   rw[JY,hP.len,Nt]
   have:(grp m (fallP S.pr is)).length=(fallP S.pr is).length/m:=by simp[grp]
   omega
  ·rintro i σ ys H' hi' ⟨s4,⟨v0,rfl⟩,gl,rfl,hP,hfr⟩
   have eg:(grp m (fallP S.pr is))[i]?=some (((fallP S.pr is).drop (i*m)).take m):=by
    unfold grp
    rw[Nc,Ed hi']
    rfl
   have ecut:cutV ((fallP S.pr is).map iV) (some (0+(i:Int)*(m:Int))) (some (0+(i:Int)*(m:Int)+(m:Int)))=(((fallP S.pr is).drop (i*m)).take m).map iV:=by
    have:=klV ((fallP S.pr is).map iV) (i*m) m
    rw[show(0:Int)+(i:Int)*(m:Int)=((i*m:Nat):Int) by rw[Int.zero_add,Int.natCast_mul],show((i*m:Nat):Int)+(m:Int)=((i*m+m:Nat):Int) by rw[Int.natCast_add],this,MN,EN]
   refine⟨_,rfl,_,rfl,_,rfl,_,rfl,_,rfl,_,_,rfl,rfl,_,rfl,l,_,rfl,SqL.of (s4 _ _ el),fun r hr=>?_⟩
   refine⟨s4.trans (kak hr),⟨_,rfl⟩,gl++[r],by rw[J9];rfl,?_,fun r' hr'=>?_⟩
   ·rw[kbh eg,ecut]
    exact P2.snoc (hP.mono fun r' g e=>kak hr _ _ e) kad
   ·rcases NJ.mp hr' with h|h
    ·exact hfr r' h
    ·rw[NP] at h
     rw[h]
     exact(s3.trans s4).free hr
  ·rintro σ ys H' ⟨s4,⟨v0,rfl⟩,gl,rfl,hP,hfr⟩ D hD
   have el2:(grp m (fallP S.pr is)).length=(fallP S.pr is).length/m:=by simp[grp]
   rw[N4 (by omega)] at hP
   exact k _ D gl ((s3.trans s4).trans (kak hD)) ((s3.trans s4).free hD) kad (hP.mono fun r g e=>kak hD _ _ e) hfr
theorem Qx:kan ["voucher","standing","pieces","groups","lasts"] ["voucher","standing","pieces"] (kag ka8):=by ac_rfl
theorem keM(W:WB K mg d base):FO P w W 3 d.XX d.XY ["voucher","standing","pieces"] (kg6 d):=by
 exists W.ZJ.F,Qx
 ·obtain⟨v,x,pa,⟨so,ms⟩,ps,B,S,rfl,⟨mA,dxv,fsv,hv,lvm,hso,hM,hh,htb⟩,hS,hpa,wf,vo,k⟩:=h
  exists Qi,kcq,W
  exists Ux,kdB,W
  exists VH,kdC,W
  exists hr1,1,hr,0
  refine⟨_,kac (ps_if (kaU (kau (r:=rIsi K) kaT (by rfl) W.B.isi b_isi (kaa (pv 0) (kaa (kb8 (v:=.ref d.c_Off) (by rfl) W.g_Off rfl) kae)))) (kah (kap (kaI (kaa (kb9 (kaa (kau (keD rfl) (by rfl) W.B.min b_min (kaa (kam (K:=K) (pv 0) rfl) (kaa (pcl Qi hr W.qY (kaa (pv 1) (kaa (pv 2) kae))) kae))) (kaa (pv 2) kae))) kae)))) (kat))
   (kac (ps_if (kaU (kau (r:=rIsi K) kaT (by rfl) W.B.isi b_isi (kaa (pv 0) (kaa (kb8 (v:=.ref d.ql) (by rfl) W.VR rfl) kae)))) (kac (psl (i:=3) Qx.nd (kmi (khr (kaU (kam (K:=K) (pv 0) rfl)) (pcl Ux hr1 W.ZK (kaa (pv 1) (kaa (pv 2) kae))) (kaI (kaa (pv 2) kae)))))
   (kah (kap (ka6 (N:=["group","standing","voucher"]) (CompScope.of (N:=["group","standing","voucher"]) (cap:=[none,some 1,some 0]) (kag ka8).names ["voucher","standing","pieces","groups","lasts"] rfl rfl (by decide +kernel)) rfl (kaH (K:=K) (pv 3)) (fun _ _ _ _=>pgn (i:=0) (show(["group","standing","voucher"]:List Str).Nodup by decide +kernel)) (fun _ _ _ _=>(kb9 (kaa (pe_op kel (pe_op kbO (pcl Qi hr W.qY (kaa (pv 1) (kaa (pv 0) kae))) (kam (K:=K) (pv 2) rfl)) kaf) (kaa (pv 0) kae)))))))) (kat))
   (kac (ps_if (kaU (kau (r:=rIsi K) kaT (by rfl) W.B.isi b_isi (kaa (pv 0) (kaa (kb8 (v:=.ref d.qp) (by rfl) W.VS rfl) kae)))) (kac (kgK (N:=["group"]) (CompScope.plain rfl (by decide +kernel) (by decide +kernel) (by decide +kernel) (nd1 _)) rfl (kaH (K:=K) (pcl VH hr1 W.QS (kaa (pv 1) (kaa (pv 2) (kaa (kam (K:=K) (pv 0) rfl) kae))))) (fun _ _ _ _=>pgn (i:=0) (nd1 _)) (fun _ _ _ _=>(pe_ix (r:=rIxL K) kaG (pv 0) (pe_un kkG kaf) (fun _ _=>rfl))) (pgn (i:=4) Qx.nd))
   (kah (kap (ka6 (N:=["last","standing"]) (CompScope.of (N:=["last","standing"]) (cap:=[none,some 1]) (kag ka8).names ["voucher","standing","pieces","groups","lasts"] rfl rfl (by decide +kernel)) rfl (kaH (K:=K) (pv 4)) (fun _ _ _ _=>pgn (i:=0) (show(["last","standing"]:List Str).Nodup by decide +kernel)) (fun _ _ _ _=>(kb9 (kaa (pe_ix (r:=rIxL K) kaG (kam (K:=K) (pv 1) rfl) (pv 0) (fun _ _=>rfl)) (kaa (kaI (kaa (pv 0) kae)) kae)))))))) (kat))
   (kac (ps_if (kaU (kau (r:=rIsi K) kaT (by rfl) W.B.isi b_isi (kaa (pv 0) (kaa (kb8 (v:=.ref d.qm) (by rfl) W.VT rfl) kae)))) (kac (psl (i:=3) Qx.nd (pcl VH hr1 W.QS (kaa (pv 1) (kaa (pv 2) (kaa (kam (K:=K) (pv 0) rfl) kae)))))
   (kah (kap (ka6 (N:=["group","standing","voucher"]) (CompScope.of (N:=["group","standing","voucher"]) (cap:=[none,some 1,some 0]) (kag ka8).names ["voucher","standing","pieces","groups","lasts"] rfl rfl (by decide +kernel)) rfl (kaH (K:=K) (pv 3)) (fun _ _ _ _=>pgn (i:=0) (show(["group","standing","voucher"]:List Str).Nodup by decide +kernel)) (fun _ _ _ _=>(kb9 (kaa (kau (kjG rfl) (by rfl) W.B.max b_max (kaa (pe_op kf5 (pcl Qi hr W.qY (kaa (pv 1) (kaa (pv 0) kae))) (kam (K:=K) (pv 2) rfl)) (kaa kaf kae))) (kaa (pv 0) kae)))))))) (kat))
   (kah (kap (kaI kae)))))),?_⟩
  have I:=kk2 W hh
  exists Y4
  refine⟨_,rfl,_,_,_,_,rfl, .inr ⟨_,rfl⟩,TyOf.ins hv (cl_of W hh) I.ha I.hn I.ht I.hm,klL W hh,_,rfl,?_⟩
  have lp:=wf.lp
  have np:=wf.np
  have habl:∀i∈abt ps (kds B) ms.kind ms.lone S,i<S.pr.length:=fun i hi=>by rw[lp];exact khL hi
  have habo:∀i∈abt ps (kds B) ms.kind ms.lone S,i<S.ow.length:=fun i hi=>khL hi
  have hand:=kgw ps (kds B) ms.kind ms.lone S
  have lab:(abt ps (kds B) ms.kind ms.lone S).length≤720:=J5 (keI _ _ _ _ _) np
  cases so with
  | off am=>
   have qn:=kbT (qs_nn wf.nn (abt ps (kds B) ms.kind ms.lone S))
   have ha:0≤am∧am≤1000000000000:=vo.so
   refine iteT ?_
   symm
   exists Y6
   refine⟨_,rfl,v,d.c_Off,dxv,fsv,_,rfl,hv,W.c_Off.cl,W.Vk,hso,_,rfl,_,rfl,x,pa,S,_,rfl,hS,hpa,habl,lab,fun H1 s1=>?_⟩
   nofun
   exists Y6
   refine⟨_,_,rfl,_,rfl,(by show 2≤sizeLine;decide),fun t ht=>⟨(by show 1≤sizeLine;decide),fun l hl=>?_⟩⟩
   have emin:(if(qs S.pr (abt ps (kds B) ms.kind ms.lone S)).sum<am then(qs S.pr (abt ps (kds B) ms.kind ms.lone S)).sum else am)=min am (qs S.pr (abt ps (kds B) ms.kind ms.lone S)).sum:=by
    split <;> omega
   rw[emin] at hl⊢
   have s2:=s1.trans (kak (o:=.tup [.int (min am (qs S.pr (abt ps (kds B) ms.kind ms.lone S)).sum), .ref pa]) ht)
   have s3:=s2.trans (kak (o:=.lst [.ref t]) hl)
   nofun
   refine k _ l [t] [(min am (qs S.pr (abt ps (kds B) ms.kind ms.lone S)).sum,abt ps (kds B) ms.kind ms.lone S)] s3 (none_of s2 hl) kad (.cons ⟨pa,kak hl _ _ kad,s3 _ _ hpa, .inl rfl⟩ .nil) ?_ ?_ ?_ (by simp) ?_
   ·intro c g hc
    rw[NP] at hc
    cases hc
    nofun
    exact⟨by omega,by omega,lab⟩
   ·simpa using hand
   ·simpa using habl
   ·simp[want]
  | share sh bl=>
   have hsh:1≤sh∧sh≤1000:=vo.so
   refine iteF ?_
   symm
   exists Y6
   refine⟨_,rfl,_,_,_,_,rfl, .inr ⟨_,rfl⟩,TyOf.ins hv (cl_of W hh) I.ha I.hn I.ht I.hm,kdo W hh,_,rfl,iteT ?_⟩
   nofun
   exists Y6
   refine⟨fun gv H1=>∃(gp:Addr)(gl:List Addr)(gs:List (List Nat)),gv=.ref gp∧Same H H1∧H gp=none∧H1 gp=some (.lst (gl.map V.ref))∧P2 (fun r g=>H1 r=some (.lst (g.map iV))) gl gs∧(∀r∈gl,r=pa∨H r=none)∧gs.length≤720∧(∀g∈gs,g.length≤720)∧gs.flatten.Nodup∧(∀i∈gs.flatten,i<S.pr.length)∧
    spr S.pr.length gs.flatten (gs.map fun g=>dl ((qs S.pr g).sum*sh/1000) (qs S.pr g)).flatten=spr S.pr.length (abt ps (kds B) ms.kind ms.lone S) (want (.share sh bl) S.mkd.length ((abt ps (kds B) ms.kind ms.lone S).map fun i=>S.ow.getD i 0) (qs S.pr (abt ps (kds B) ms.kind ms.lone S))),?_,?_⟩
   ·refine⟨_,rfl,v,d.ql,dxv,fsv,_,rfl,hv,W.ql.cl,W.Vn,hso.2,bl,rfl,?_⟩
    cases bl with
    | true=>
     refine iteT ?_
     nofun
     exists Y10
     refine⟨_,rfl,_,rfl,x,pa,S,_,rfl,hS,hpa,habo,lab,fun H1 p gl s1 f1 h1 hP hg=>⟨p,gl,_,rfl,s1,f1,h1,hP,fun r hr=>.inr (hg r hr),?_,?_,?_,?_,?_⟩⟩
     ·rw[JY]
      exists 4
      exact J5 (keX _ _) lab
     ·intro g hg'
      rw[(kcD (fun i=>S.ow.getD i 0) (abt ps (kds B) ms.kind ms.lone S)).snds] at hg'
      obtain⟨l,_,rfl⟩:=Nq.mp hg'
      exists 4
      exact J5 (M7 _ _) lab
     ·have ok:=kcD (fun i=>S.ow.getD i 0) (abt ps (kds B) ms.kind ms.lone S)
      rw[ok.snds]
      exists 4
      exact kei (f:=fun i=>S.ow.getD i 0) hand ok.nd
     ·intro i hi
      rw[(kcD (fun i=>S.ow.getD i 0) (abt ps (kds B) ms.kind ms.lone S)).snds] at hi
      obtain⟨g,hg',hi'⟩:=Mg.mp hi
      obtain⟨l,_,rfl⟩:=Nq.mp hg'
      exists 4
      exact habl i (N7.mp hi').1
     ·refine khX (fun z=>z*sh/1000) hand fun i hi=>?_
      obtain⟨ln,eln⟩:=at_of (habo i hi)
      rw[Nm,eln,wf.lm]
      exists 4
      exact wf.line eln
    |false=>
     refine iteF ?_
     nofun
     exists Y10
     refine⟨_,rfl,(by show 1≤sizeLine;decide),fun p hp=>⟨p,[pa],[abt ps (kds B) ms.kind ms.lone S],rfl,kak hp,hp,kad, .cons (kak hp _ _ hpa) .nil,fun r hr=>.inl (by simpa using hr),by simp,fun g hg=>?_,by simpa using hand,by simpa using habl,by simp[want]⟩⟩
     rw[NP] at hg
     rw[hg]
     exists 4
     exact lab
   rintro gv H1 ⟨gp,gl,gs,rfl,s1,f1,h1,hP,hor,lgs,lg,gnd,glt,gsp⟩
   have lgl:=hP.len
   have gok:∀g∈gs,∀i∈g,i<S.pr.length:=fun g hg i hi=>glt i (Mg.mpr ⟨g,hg,hi⟩)
   nofun
   exists Y6
   refine⟨_,rfl,gp,rfl,⟨_,SqL.of h1⟩,kaS (xs:=gl.map V.ref) (fun i σ ys H'=>Same H1 H'∧(∃v0:Option V,σ=[v0,some (.ref x),some (.ref v)])∧∃tl,ys=tl.map V.ref∧P2 (GrpAt H H' pa) tl ((gs.take i).map fun g=>((qs S.pr g).sum*sh/1000,g)))
    ⟨Same.refl _,⟨none,rfl⟩,[],rfl, .nil⟩ (by rw[JY];exact Ng (kaq (by omega))) ?_ ?_ ?_⟩
   ·rintro i σ ys H2 hi ⟨s2,_,tl,rfl,hT⟩
    nofun
    exists Y8
    refine⟨SqL.of (s2 _ _ h1),?_⟩
    rw[JY,hT.len,JY,Nt]
    rw[JY] at hi
    omega
   ·rintro i y σ ys H2 hy ⟨s2,⟨v0,rfl⟩,tl,rfl,hT⟩
    obtain⟨r,er,rfl⟩:=kbN hy
    obtain⟨g,eg,hr⟩:=hP.at er
    have s12:=s1.trans s2
    have hg:=Nb eg
    have sn:=kbT (qs_nn wf.nn g)
    have sl:=kiP wf (lg g hg) (gok g hg)
    exists 3
    exists Y8
    refine⟨_,rfl,_,rfl,x,r,S,g,rfl,hS.same s12,s2 _ _ hr,gok g hg,lg g hg,fun H3 s3=>?_⟩
    have s13:=s12.trans s3
    exists 3
    exists Y8
    refine⟨_,rfl,v,d.ql,dxv,fsv,_,rfl,s13 _ _ hv,W.ql.cl,W.Vm,hso.1,_,_,rfl,rfl, .inl ⟨by omega,by omega⟩,_,_,rfl,rfl,⟨by decide,by decide⟩,_,rfl,(by show 2≤sizeLine;decide),fun t ht=>?_⟩
    have s4:=kak (o:=.tup [.int ((qs S.pr g).sum*sh/1000), .ref r]) ht
    exists 3
    exists Y8
    refine⟨(s2.trans s3).trans s4,⟨_,rfl⟩,tl++[t],by rw[J9];rfl,?_⟩
    rw[kbh eg,J9]
    exists 3
    refine P2.snoc (hT.mono fun t' q ⟨ga,a1,a2,a3⟩=>⟨ga,(s3.trans s4) _ _ a1,(s3.trans s4) _ _ a2,a3⟩) ⟨r,kad,((s2.trans s3).trans s4) _ _ hr,hor r (Nb er)⟩
   ·rintro σ ys H2 ⟨s2,⟨v0,rfl⟩,tl,rfl,hT⟩ D hD
    rw[JY,lgl,NU] at hT
    have s3:=kak (o:=.lst (tl.map V.ref)) hD
    have e1:(gs.map fun g=>((qs S.pr g).sum*sh/1000,g)).map Prod.snd=gs:=by
     rw[Nx]
     exists 3
     exact List.map_id' gs
    exists 3
    refine k _ D tl _ ((s1.trans s2).trans s3) (none_of (s1.trans s2) hD) kad (hT.mono fun t' q ⟨ga,a1,a2,a3⟩=>⟨ga,s3 _ _ a1,s3 _ _ a2,a3⟩) ?_ (by rw[e1];exact gnd) (by rw[e1];exact glt) (by rw[JY];exact lgs) ?_
    ·intro c g hc
     obtain⟨g',hg',e⟩:=Nq.mp hc
     cases e
     have sn:=kbT (qs_nn wf.nn g)
     have:=kfe sn hsh.1 hsh.2
     exists 3
     exact⟨this.1,this.2,lg g hg'⟩
    ·rw[e1,Nx]
     exists 3
     exact gsp
  | cheap n=>
   have hn:2≤n∧n≤20:=vo.so
   obtain⟨m,rfl⟩:∃m:Nat,n=m:=⟨n.toNat,by omega⟩
   refine iteF ?_
   symm
   refine⟨_,rfl,_,_,_,_,rfl, .inr ⟨_,rfl⟩,TyOf.ins hv (cl_of W hh) I.ha I.hn I.ht I.hm,kdo W hh,_,rfl,iteF ⟨_,rfl,_,_,_,_,rfl, .inr ⟨_,rfl⟩,TyOf.ins hv (cl_of W hh) I.ha I.hn I.ht I.hm,kcJ W hh,_,rfl,iteT ?_⟩⟩
   have hpw:(abt ps (kds B) ms.kind ms.lone S).Pairwise (· < ·):=Mx.filter _ EJ
   have l64:(abt ps (kds B) ms.kind ms.lone S).length<64:=Md (keI _ _ _ _ _) wf.n64
   symm
   exists Y6
   refine⟨_,rfl,_,rfl,_,rfl,v,d.qp,dxv,fsv,_,rfl,hv,W.qp.cl,W.Vp,hso,x,pa,S,_,m,rfl,hS,hpa,hpw,habl,l64,by omega,by omega,htb,fun H1 gp gl s1 f1 h1 hP0 hg=>?_⟩
   have hP:P2 (fun r g=>H1 r=some (.lst (g.map iV))) gl (grp m (fallP S.pr (abt ps (kds B) ms.kind ms.lone S))):=hP0
   clear hP0
   have lgl:=hP.len
   have lG:=kgW m (fallP S.pr (abt ps (kds B) ms.kind ms.lone S))
   have lf:(fallP S.pr (abt ps (kds B) ms.kind ms.lone S)).length=(abt ps (kds B) ms.kind ms.lone S).length:=(kbt _ _).length_eq
   have hgr:∀{i:Nat}{g:List Nat},(grp m (fallP S.pr (abt ps (kds B) ms.kind ms.lone S)))[i]?=some g→0<g.length∧g[g.length-1]?=some (g.getLastD 0)∧g.getLastD 0∈abt ps (kds B) ms.kind ms.lone S:=fun {i g} eg=>by
    obtain⟨h1,h2,h3⟩:=khD eg
    have h4:=kgU (by omega) eg
    nofun
    exists Y8
    refine⟨by omega,?_,(kbt _ _).mem_iff.mp (Nb h4)⟩
    rw[h2,h3 _ (by omega)]
    exists 3
    exact h4
   have hla:∀a∈lasts (grp m (fallP S.pr (abt ps (kds B) ms.kind ms.lone S))),a∈abt ps (kds B) ms.kind ms.lone S:=fun a ha=>by
    obtain⟨g,hg',rfl⟩:=Nq.mp ha
    obtain⟨j,hj⟩:=Mt.mp hg'
    nofun
    exact(hgr hj).2.2
   nofun
   exists Y6
   refine⟨gp,rfl,⟨_,SqL.of h1⟩,kaS (xs:=gl.map V.ref) (fun i σ ys H'=>Same H1 H'∧(∃v0:Option V,σ=[v0])∧ys=((lasts (grp m (fallP S.pr (abt ps (kds B) ms.kind ms.lone S)))).take i).map iV)
    ⟨Same.refl _,⟨none,rfl⟩,rfl⟩ (by rw[JY];exact Ng (kaq (by omega))) ?_ ?_ ?_⟩
   ·rintro i σ ys H2 hi ⟨s2,_,rfl⟩
    nofun
    exists Y8
    refine⟨SqL.of (s2 _ _ h1),?_⟩
    rw[JY,Nt,kdn]
    rw[JY] at hi
    omega
   ·rintro i y σ ys H2 hy ⟨s2,⟨v0,rfl⟩,rfl⟩
    obtain⟨r,er,rfl⟩:=kbN hy
    obtain⟨g,eg,hr⟩:=hP.at er
    obtain⟨g0,g1,g2⟩:=hgr eg
    have al:atI (g.map iV) (-1)=some (iV (g.getLastD 0)):=kjJ (by rw[JY,Nc,g1];rfl) (by rw[JY];exact g0)
    exists 3
    exists Y8
    refine⟨_,rfl,1,rfl,r,_,_,_,rfl,rfl,SqL.of (s2 _ _ hr),al,s2,⟨_,rfl⟩,?_⟩
    rw[kbh (r:=g.getLastD 0) (by unfold lasts;rw[Nc,eg];rfl),J9]
    rfl
   rintro σ ys H2 ⟨s2,⟨v0,rfl⟩,rfl⟩ D hD
   rw[JY,lgl,N4 (by rw[kdn];exact J4 _)]
   have s3:=s2.trans (kak (o:=.lst ((lasts (grp m (fallP S.pr (abt ps (kds B) ms.kind ms.lone S)))).map iV)) hD)
   have fD:H D=none:=none_of (s1.trans s2) hD
   have eD:(upd H2 D (.lst ((lasts (grp m (fallP S.pr (abt ps (kds B) ms.kind ms.lone S)))).map iV))) D=some (.lst ((lasts (grp m (fallP S.pr (abt ps (kds B) ms.kind ms.lone S)))).map iV)):=kad
   generalize upd H2 D (.lst ((lasts (grp m (fallP S.pr (abt ps (kds B) ms.kind ms.lone S)))).map iV))=H3 at *
   obtain⟨o,p,mk,⟨dxs,fss,hx,l1,l2,l3,l4,l5⟩,ho,hp,hmk⟩:=id hS
   have s13:=s1.trans s3
   have lL:=kdn (grp m (fallP S.pr (abt ps (kds B) ms.kind ms.lone S)))
   nofun
   exists Y6
   refine⟨_,rfl,D,rfl,⟨_,SqL.of eD⟩,kaS (xs:=(lasts (grp m (fallP S.pr (abt ps (kds B) ms.kind ms.lone S)))).map iV) (fun i σ ys H'=>Same H3 H'∧(∃v0:Option V,σ=[v0,some (.ref x)])∧∃tl,ys=tl.map V.ref∧P2 (GrpAt H H' pa) tl (((lasts (grp m (fallP S.pr (abt ps (kds B) ms.kind ms.lone S)))).take i).map fun a=>(S.pr.getD a 0,[a])))
    ⟨Same.refl _,⟨none,rfl⟩,[],rfl, .nil⟩ (by rw[JY];exact Ng (kaq (by omega))) ?_ ?_ ?_⟩
   ·rintro i σ ys H4 hi ⟨s4,_,tl,rfl,hT⟩
    nofun
    exists Y8
    refine⟨SqL.of (s4 _ _ eD),?_⟩
    rw[JY,hT.len,JY,Nt]
    rw[JY] at hi
    omega
   ·rintro i y σ ys H4 hy ⟨s4,⟨v0,rfl⟩,tl,rfl,hT⟩
    obtain⟨a,ea,rfl⟩:=kbQ hy
    have ha:=hla a (Nb ea)
    obtain⟨z,ez⟩:=at_of (habl a ha)
    have ez':S.pr.getD a 0=z:=by rw[Nm,ez];rfl
    have s14:=s13.trans s4
    exists 3
    exists Y8
    refine⟨_,rfl,x,d.qc,dxs,fss,_,rfl,s14 _ _ hx,W.qc.cl,W.qw,l2,_,rfl,p,_,_,_,rfl,rfl,SqL.of (s14 _ _ hp),kbe (v:=.int z) (by rw[Nc,ez];rfl),_,rfl,(by show 1≤sizeLine;decide),fun q hq=>⟨(by show 2≤sizeLine;decide),fun t ht=>?_⟩⟩
    have s5:=(kak (o:=.lst [iV a]) hq).trans (kak (o:=.tup [.int z, .ref q]) ht)
    exists 3
    exists Y8
    refine⟨s4.trans s5,⟨_,rfl⟩,tl++[t],by rw[J9];rfl,?_⟩
    rw[kbh ea,J9]
    exists 3
    exact P2.snoc (hT.mono fun t' q' ⟨ga,a1,a2,a3⟩=>⟨ga,s5 _ _ a1,s5 _ _ a2,a3⟩) ⟨q,by show upd _ _ _ _=some (.tup [.int (S.pr.getD a 0), .ref q]);rw[ez'];exact kad,kak ht _ _ kad, .inr (none_of s14 hq)⟩
   ·rintro σ ys H4 ⟨s4,⟨v0,rfl⟩,tl,rfl,hT⟩ D2 hD2
    rw[JY,NU] at hT
    have s5:=kak (o:=.lst (tl.map V.ref)) hD2
    have e1:((lasts (grp m (fallP S.pr (abt ps (kds B) ms.kind ms.lone S)))).map fun a=>(S.pr.getD a 0,[a])).map Prod.snd=(lasts (grp m (fallP S.pr (abt ps (kds B) ms.kind ms.lone S)))).map fun a=>[a]:=by
     rw[Nx]
     rfl
    have e2:=kiG (fun i=>S.pr.getD i 0) (lasts (grp m (fallP S.pr (abt ps (kds B) ms.kind ms.lone S))))
    exists 3
    refine k _ D2 tl _ ((s13.trans s4).trans s5) (none_of (s13.trans s4) hD2) kad (hT.mono fun t' q ⟨ga,a1,a2,a3⟩=>⟨ga,s5 _ _ a1,s5 _ _ a2,a3⟩) ?_ (by rw[e1,e2.1];exact kgT (by omega) (keA hand)) (by rw[e1,e2.1];exact fun i hi=>habl i (hla i hi)) (by rw[JY];omega) ?_
    ·intro c g hc
     obtain⟨a,ha,e⟩:=Nq.mp hc
     cases e
     have q0:(qs S.pr [a]).sum=S.pr.getD a 0:=by simp[qs]
     have q1:=kbT (qs_nn wf.nn [a])
     rw[q0] at q1⊢
     exists 3
     exact⟨q1,Int.le_refl _,by simp⟩
    ·rw[e1,e2.1,Nx]
     have e3:(lasts (grp m (fallP S.pr (abt ps (kds B) ms.kind ms.lone S)))).map ((fun p=>dl p.1 (qs S.pr p.2))∘fun a=>(S.pr.getD a 0,[a]))=(lasts (grp m (fallP S.pr (abt ps (kds B) ms.kind ms.lone S)))).map fun a=>[S.pr.getD a 0]:=
      NV fun a _=>kmy _
     rw[e3,e2.2]
     exists 3
     exact(kjF (by omega) hand).symm
  | bund n pc=>
   have hn:2≤n∧n≤20∧0≤pc∧pc≤1000000000000:=vo.so
   obtain⟨m,rfl⟩:∃m:Nat,n=m:=⟨n.toNat,by omega⟩
   refine iteF ?_
   symm
   refine⟨_,rfl,_,_,_,_,rfl, .inr ⟨_,rfl⟩,TyOf.ins hv (cl_of W hh) I.ha I.hn I.ht I.hm,kdo W hh,_,rfl,iteF ⟨_,rfl,_,_,_,_,rfl, .inr ⟨_,rfl⟩,TyOf.ins hv (cl_of W hh) I.ha I.hn I.ht I.hm,kcJ W hh,_,rfl,iteF ⟨_,rfl,_,_,_,_,rfl, .inr ⟨_,rfl⟩,TyOf.ins hv (cl_of W hh) I.ha I.hn I.ht I.hm,ke1 W hh,_,rfl,iteT ?_⟩⟩⟩
   have hpw:(abt ps (kds B) ms.kind ms.lone S).Pairwise (· < ·):=Mx.filter _ EJ
   have l64:(abt ps (kds B) ms.kind ms.lone S).length<64:=Md (keI _ _ _ _ _) wf.n64
   symm
   exists Y6
   refine⟨_,rfl,_,rfl,_,rfl,v,d.qm,dxv,fsv,_,rfl,hv,W.qm.cl,W.Vr,hso.1,x,pa,S,_,m,rfl,hS,hpa,hpw,habl,l64,by omega,by omega,htb,fun H1 gp gl s1 f1 h1 hP0 hg=>?_⟩
   have hP:P2 (fun r g=>H1 r=some (.lst (g.map iV))) gl (grp m (fallP S.pr (abt ps (kds B) ms.kind ms.lone S))):=hP0
   clear hP0
   have lgl:=hP.len
   have lG:=kgW m (fallP S.pr (abt ps (kds B) ms.kind ms.lone S))
   have lf:(fallP S.pr (abt ps (kds B) ms.kind ms.lone S)).length=(abt ps (kds B) ms.kind ms.lone S).length:=(kbt _ _).length_eq
   have gin:∀g∈grp m (fallP S.pr (abt ps (kds B) ms.kind ms.lone S)),∀i∈g,i∈abt ps (kds B) ms.kind ms.lone S:=fun g hg' i hi=>(kbt _ _).mem_iff.mp (kjp hg' i hi)
   have gok:∀g∈grp m (fallP S.pr (abt ps (kds B) ms.kind ms.lone S)),∀i∈g,i<S.pr.length:=fun g hg' i hi=>habl i (gin g hg' i hi)
   have lg:∀g∈grp m (fallP S.pr (abt ps (kds B) ms.kind ms.lone S)),g.length≤720:=fun g hg'=>by
    obtain⟨j,hj⟩:=Mt.mp hg'
    have:=(khD hj).2.1
    omega
   generalize egs:grp m (fallP S.pr (abt ps (kds B) ms.kind ms.lone S))=gs at *
   nofun
   exists Y6
   refine⟨_,rfl,gp,rfl,⟨_,SqL.of h1⟩,kaS (xs:=gl.map V.ref) (fun i σ ys H'=>Same H1 H'∧(∃v0:Option V,σ=[v0,some (.ref x),some (.ref v)])∧∃tl,ys=tl.map V.ref∧P2 (GrpAt H H' pa) tl ((gs.take i).map fun g=>(max 0 ((qs S.pr g).sum-pc),g)))
    ⟨Same.refl _,⟨none,rfl⟩,[],rfl, .nil⟩ (by rw[JY];exact Ng (kaq (by omega))) ?_ ?_ ?_⟩
   ·rintro i σ ys H2 hi ⟨s2,_,tl,rfl,hT⟩
    nofun
    exists Y8
    refine⟨SqL.of (s2 _ _ h1),?_⟩
    rw[JY,hT.len,JY,Nt]
    rw[JY] at hi
    omega
   ·rintro i y σ ys H2 hy ⟨s2,⟨v0,rfl⟩,tl,rfl,hT⟩
    obtain⟨r,er,rfl⟩:=kbN hy
    obtain⟨g,eg,hr⟩:=hP.at er
    have s12:=s1.trans s2
    have hg':=Nb eg
    have sn:=kbT (qs_nn wf.nn g)
    exists 3
    exists Y8
    refine⟨_,rfl,_,rfl,x,r,S,g,rfl,hS.same s12,s2 _ _ hr,gok g hg',lg g hg',fun H3 s3=>?_⟩
    have s13:=s12.trans s3
    exists 3
    exists Y8
    refine⟨_,rfl,v,d.qm,dxv,fsv,_,rfl,s13 _ _ hv,W.qm.cl,W.Vt,hso.2,_,_,rfl,rfl,?_⟩
    exists 3
    exists Y8
    refine⟨_,_,rfl,_,rfl,(by show 2≤sizeLine;decide),fun t ht=>?_⟩
    have emax:(if(0:Int) > (qs S.pr g).sum-pc then 0 else(qs S.pr g).sum-pc)=max 0 ((qs S.pr g).sum-pc):=by
     split <;> omega
    rw[emax]
    have s4:=kak (o:=.tup [.int (max 0 ((qs S.pr g).sum-pc)), .ref r]) ht
    exists 3
    exists Y8
    refine⟨(s2.trans s3).trans s4,⟨_,rfl⟩,tl++[t],by rw[J9];rfl,?_⟩
    rw[kbh eg,J9]
    exists 3
    refine P2.snoc (hT.mono fun t' q ⟨ga,a1,a2,a3⟩=>⟨ga,(s3.trans s4) _ _ a1,(s3.trans s4) _ _ a2,a3⟩) ⟨r,kad,((s2.trans s3).trans s4) _ _ hr, .inr (hg r (Nb er))⟩
   ·rintro σ ys H2 ⟨s2,⟨v0,rfl⟩,tl,rfl,hT⟩ D hD
    rw[JY,lgl,NU] at hT
    have s3:=kak (o:=.lst (tl.map V.ref)) hD
    have e1:(gs.map fun g=>(max 0 ((qs S.pr g).sum-pc),g)).map Prod.snd=gs:=by
     rw[Nx]
     exists 3
     exact List.map_id' gs
    exists 3
    refine k _ D tl _ ((s1.trans s2).trans s3) (none_of (s1.trans s2) hD) kad (hT.mono fun t' q ⟨ga,a1,a2,a3⟩=>⟨ga,s3 _ _ a1,s3 _ _ a2,a3⟩) ?_ (by rw[e1,←egs];exact kjo (keA hand)) (by rw[e1];intro i hi;obtain⟨g,hg',hi'⟩:=Mg.mp hi;exact gok g hg' i hi') (by rw[JY];omega) ?_
    ·intro c g hc
     obtain⟨g',hg',e⟩:=Nq.mp hc
     cases e
     have sn:=kbT (qs_nn wf.nn g)
     exists 3
     exact⟨by omega,by omega,lg g hg'⟩
    ·rw[e1,Nx,←egs]
     exists 3
     exact(kky (fun z=>max 0 (z-pc)) hand).symm
  |carr=>
   refine iteF ?_
   symm
   refine⟨_,rfl,_,_,_,_,rfl, .inr ⟨_,rfl⟩,TyOf.ins hv (cl_of W hh) I.ha I.hn I.ht I.hm,kdo W hh,_,rfl,iteF ⟨_,rfl,_,_,_,_,rfl, .inr ⟨_,rfl⟩,TyOf.ins hv (cl_of W hh) I.ha I.hn I.ht I.hm,kcJ W hh,_,rfl,iteF ⟨_,rfl,_,_,_,_,rfl, .inr ⟨_,rfl⟩,TyOf.ins hv (cl_of W hh) I.ha I.hn I.ht I.hm,ke1 W hh,_,rfl,iteF ?_⟩⟩⟩
   symm
   refine⟨by decide,fun l hl=>?_⟩
   symm
   refine k _ l [] [] (kak hl) hl kad .nil (fun c g hc=>by simp at hc) (by simp) (by simp) (by simp) ?_
   symm
   exact(spr_zero (k:=0)).trans spr_zero.symm
inductive kiB (K:JZ) (d:D) (vs:List V) (H:Hp) (Q:VK) (E_:XK):Prop
 |ct (v a b x:Addr)(V:Vch)(ps:List (Option Nat))(B:Bask)(S:Stnd)(_:vs=[.ref v, .ref a, .ref b, .ref x])(_:VchIs d H v V)(_:SqL K H a (ps.map pV))(_:BaskIs d.qe d.qf H b B)(_:StndIs d.qc H x S)(_:Wf ps B S)(_:VchOk ps V)(_:∀(H':Hp)(p:Addr),Same H H'→H p=none→H' p=some (.lst ((cutM V ps (kds B) S).1.map L2.V.int))→Q (.ref p) H'):kiB K d vs H Q E_
theorem qH:kan ["voucher","parents","basket","standing","pieces","wanted","cut","group","piece","part","most"] ["voucher","parents","basket","standing"] (kag kbD):=by ac_rfl
theorem kca(W:WB K mg d base):FO P w W 4 d.XS d.XT ["voucher","parents","basket","standing"] (kiB K d):=by
 exists W.QQ.F,qH
 ·obtain⟨v,a,b,x,Vc,ps,B,S,rfl,hV,hA,hB,hS,wf,vo,k⟩:=h
  exists Xh,khu,W
  exists Uy,keM,W
  exists VI,kj7,W
  exists Xf,kdI,W
  exists hr1,1,hr,0
  refine⟨_,kac (psl (i:=4) qH.nd (pcl Xh hr W.QP (kaa (pv 0) (kaa (pv 1) (kaa (pv 2) (kaa (pv 3) kae))))))
   (kac (kgK (N:=["price"]) (CompScope.plain rfl (by decide +kernel) (by decide +kernel) (by decide +kernel) (nd1 _)) rfl (kaH (K:=K) (kam (K:=K) (pv 3) rfl)) (fun _ _ _ _=>pgn (i:=0) (nd1 _)) (fun _ _ _ _=>kaf) (pgn (i:=5) qH.nd))
   (kac (kbx PassesOwn.never rfl (kaH (K:=K) (pcl Uy hr W.ZJ (kaa (pv 0) (kaa (pv 3) (kaa (pv 4) kae))))) (kbl (K:=K) (n:=2) rfl (kaw (pgn (i:=6) qH.nd) (kaw (pgn (i:=7) qH.nd) kbk)))
   (kah (kbx PassesOwn.never rfl (kef rfl W.B.zip (kaa (pv 7) (kaa (pcl VI hr1 W.QO (kaa (pv 6) (kaa (pcl Xf hr1 W.QT (kaa (pv 3) (kaa (pv 7) kae))) kae))) kae))) (kbl (K:=K) (n:=2) rfl (kaw (pgn (i:=8) qH.nd) (kaw (pgn (i:=9) qH.nd) kbk)))
   (kah (kiT (pv 9) (kkU (pv 5) (pv 8) set_list))))))
   (kac (psl (i:=10) qH.nd (kam (K:=K) (kam (K:=K) (pv 0) rfl) rfl))
   (kac (ps_if (PW.pt (kbw (kas kck (pv 10) ka0 (kav _)) (kbj (kas op_gt (kau (r:=rSum K) (kcp rfl) (by rfl) W.B.sum b_sum (kaa (pv 5) kae)) (pv 10) (kav _))))) (kah (kap (pcl VI hr1 W.QO (kaa (pv 10) (kaa (pv 5) kae))))) (kat))
   (kah (kap (pv 5))))))),?_⟩
  have np:=wf.np
  have lp:=wf.lp
  exists Y4
  refine⟨_,rfl,_,rfl,_,rfl,_,rfl,v,a,b,x,Vc,ps,B,S,rfl,hV,hA,hB,hS,wf,vo,fun H1 pa s1 f1 h1=>?_⟩
  have habl:∀i∈abt ps (kds B) Vc.ms.kind Vc.ms.lone S,i<S.pr.length:=fun i hi=>by rw[lp];exact khL hi
  have hand:=kgw ps (kds B) Vc.ms.kind Vc.ms.lone S
  have lab:(abt ps (kds B) Vc.ms.kind Vc.ms.lone S).length≤720:=J5 (keI _ _ _ _ _) np
  obtain⟨o,p,mk,⟨dxs,fss,hx,l1,l2,l3,l4,l5⟩,ho,hp,hmk⟩:=id (hS.same s1)
  symm
  exists Y4
  refine⟨_,rfl,x,d.qc,dxs,fss,_,rfl,hx,W.qc.cl,W.qw,l2,p,rfl,⟨_,SqL.of hp⟩,kaS (xs:=S.pr.map V.int) (fun i σ ys H'=>H'=H1∧ys=(J6 i (0:Int)).map V.int∧∃v,σ=[v]) ⟨rfl,rfl,none,rfl⟩ ?_ ?_ ?_ ?_⟩
  ·rw[JY]
   symm
   exact Ng (kaq (by omega))
  ·rintro i σ ys H' hi ⟨rfl,rfl,_⟩
   symm
   exact⟨SqL.of hp,by simp⟩
  ·rintro i y σ ys H' hy ⟨rfl,rfl,v,rfl⟩
   symm
   exact⟨rfl,by rw[MO,J9];rfl,_,rfl⟩
  rintro σ ys H' ⟨rfl,rfl,v0,rfl⟩ w hw
  rw[JY]
  have s2:=s1.trans (kak (o:=.lst ((J6 S.pr.length (0:Int)).map V.int)) hw)
  have hw0:H w=none:=none_of s1 hw
  have ew:(upd H' w (.lst ((J6 S.pr.length (0:Int)).map V.int))) w=some (.lst ((J6 S.pr.length (0:Int)).map V.int)):=kad
  have h1o:=h1
  have h1:=kak (o:=.lst ((J6 S.pr.length (0:Int)).map V.int)) hw _ _ h1
  have nw:pa≠w:=kai h1o hw
  generalize upd H' w (.lst ((J6 S.pr.length (0:Int)).map V.int))=H2 at *
  symm
  exists Y4
  refine⟨_,rfl,_,rfl,_,rfl,v,x,pa,Vc,ps,B,S,rfl,hV.same s2,hS.same s2,h1,wf,vo,fun H3 gp tl gl s3 f3 h3 hP hc hnd hlt hgl hsp=>?_⟩
  have s03:=s2.trans s3
  have e3:=s3 _ _ ew
  have ngw:gp≠w:=fun e=>by rw[e,ew] at f3;cases f3
  symm
  exists Y4
  refine⟨gp,rfl,⟨_,SqL.of h3⟩,kbX (K:=K) (a:=gp) (xs:=tl.map V.ref) (fun i σ H'=>(∃v8 v9 v10 v11 v12:Option V,σ=[some (.ref v),some (.ref a),some (.ref b),some (.ref x),some (.ref pa),some (.ref w),v8,v9,v10,v11,v12])∧But w H3 H'∧
    H' w=some (.lst ((spr S.pr.length ((gl.take i).map Prod.snd).flatten ((gl.take i).map fun p=>dl p.1 (qs S.pr p.2)).flatten).map V.int)))
   ⟨⟨none,none,none,none,none,rfl⟩,But.refl,by rw[e3];simp[klo]⟩ (fun i σ H' _ h=>SqL.of (h.2.1 _ _ ngw h3)) ?_ ?_⟩
  ·rintro i y σ H4 hy ⟨⟨v8,v9,v10,v11,v12,rfl⟩,b4,h4⟩
   obtain⟨t,et,rfl⟩:=kbN hy
   obtain⟨⟨c,g⟩,eg,ga,ht,hga,hor⟩:=hP.at et
   have hcg:=hc c g (Nb eg)
   have hgl':∀i∈g,i<S.pr.length:=fun j hj=>hlt j (Mg.mpr ⟨g,Nq.mpr ⟨(c,g),Nb eg,rfl⟩,hj⟩)
   have ngaw:ga≠w:=by
    rcases hor with rfl|hor
    ·exact nw
    ·exact fun e=>by rw[e,ew] at hor;cases hor
   have ntw:t≠w:=ne_of ht e3 (by intro z;cases z)
   have htt:H4 t=some (.tup [.int c, .ref ga]):=b4 _ _ ntw ht
   have hgg:H4 ga=some (.lst (g.map iV)):=b4 _ _ ngaw hga
   symm
   exists Y6
   refine⟨t,_,rfl,SqT.of htt,rfl,_,_,rfl,_,_,rfl,rfl,?_⟩
   have hS4:StndIs d.qc H4 x S:=by
    nofun
    exact StndIs.same (H:=H) (khk hw0 s03 b4) hS
   have gnn:=qs_nn wf.nn g
   have gsum:=kiP wf hcg.2.2 hgl'
   have hg720:=hcg.2.2
   nofun
   exists Y6
   refine⟨_,rfl,_,rfl,_,rfl,_,rfl,x,ga,S,g,rfl,hS4,hgg,hgl',hg720,fun p5 hp5=>?_⟩
   have s5:=kak (o:=.lst ((qs S.pr g).map V.int)) hp5
   nofun
   exists Y6
   refine⟨c,p5,qs S.pr g,rfl,SqL.of kad,gnn,by omega,hcg.1,by omega,by rw[kbU];omega,fun p6 hp6=>?_⟩
   have s6:=s5.trans (kak (o:=.lst ((dl c (qs S.pr g)).map V.int)) hp6)
   have h6:(upd (upd H4 p5 (.lst ((qs S.pr g).map V.int))) p6 (.lst ((dl c (qs S.pr g)).map V.int))) p6=some (.lst ((dl c (qs S.pr g)).map V.int)):=kad
   have n6:H4 p6=none:=none_of s5 hp6
   generalize upd (upd H4 p5 (.lst ((qs S.pr g).map V.int))) p6 (.lst ((dl c (qs S.pr g)).map V.int))=H6 at *
   have b6:=b4.same s6
   have w6:=s6 _ _ h4
   have n6w:p6≠w:=fun e=>by rw[e,h4] at n6;cases n6
   have ldl:(dl c (qs S.pr g)).length=g.length:=by rw[ke3,kbU]
   have emin:min (g.map iV).length ((dl c (qs S.pr g)).map V.int).length=g.length:=by rw[JY,JY,ldl,My]
   have ndt:∀(j n:Nat),g[j]?=some n→(((gl.take i).map Prod.snd).flatten++g.take j++[n]).Nodup:=fun j n hj=>by
    rw[MN]
    nofun
    exact kd8 hnd (i:=i) (by rw[Nc,eg];rfl) hj
   have lfl:((gl.take i).map Prod.snd).flatten.length=((gl.take i).map fun p=>dl p.1 (qs S.pr p.2)).flatten.length:=by
    rw[List.length_flatten,List.length_flatten,Nx,Nx]
    congr 1
    nofun
    refine NV fun q _=>?_
    show q.2.length=(dl q.1 (qs S.pr q.2)).length
    rw[ke3,kbU]
   nofun
   exists Y6
   refine⟨ga,p6,_,_,rfl,s6 _ _ hgg,h6,kjt (xs:=g.map iV) (ys:=(dl c (qs S.pr g)).map V.int) (fun j σ H'=>(∃v8 v9 v10 v11 v12:Option V,σ=[some (.ref v),some (.ref a),some (.ref b),some (.ref x),some (.ref pa),some (.ref w),v8,v9,v10,v11,v12])∧But w H3 H'∧H' ga=some (.lst (g.map iV))∧H' p6=some (.lst ((dl c (qs S.pr g)).map V.int))∧
     H' w=some (.lst ((spr S.pr.length (((gl.take i).map Prod.snd).flatten++g.take j) (((gl.take i).map fun p=>dl p.1 (qs S.pr p.2)).flatten++(dl c (qs S.pr g)).take j)).map V.int)))
    ⟨⟨_,_,_,_,_,rfl⟩,b6,s6 _ _ hgg,h6,by rw[w6];simp⟩ (fun j σ H' _ h=>⟨h.2.2.1,h.2.2.2.1⟩) ?_ ?_⟩
   ·rintro j y1 y2 t2 σ H7 hy1 hy2 ⟨⟨v8,v9,v10,v11,v12,rfl⟩,b7,g7,d7,w7⟩ ht2
    obtain⟨n,en,rfl⟩:=kbQ hy1
    obtain⟨z,ez,rfl⟩:=kbQ hy2
    have hn:=hgl' n (Nb en)
    have s8:=kak (o:=.tup [iV n,V.int z]) ht2
    nofun
    exists Y8
    refine⟨t2,_,rfl,SqT.of kad,rfl,_,_,rfl,_,_,rfl,rfl,?_⟩
    exists 3
    exists Y8
    refine⟨_,rfl,_,rfl,_,rfl,w,_,_,n,rfl,rfl,s8 _ _ w7,kjj (by rw[JY,kcY];exact hn),⟨_,_,_,_,_,rfl⟩,(b7.same s8).trans kar,?_,?_,?_⟩
    ·rw[kaj ngaw]
     exists 3
     exact s8 _ _ g7
    ·rw[kaj n6w]
     exists 3
     exact s8 _ _ d7
    ·rw[kad,←List.map_set,kbh en,kbh ez,←Mm,←Mm]
     rw[kjT (by rw[Np,Np,lfl,Nt,Nt,ldl]) (ndt j n en) hn]
   ·rintro σ H7 ⟨⟨v8,v9,v10,v11,v12,rfl⟩,b7,g7,d7,w7⟩
    exists 3
    exists Y8
    refine⟨⟨_,_,_,_,_,rfl⟩,b7,?_⟩
    rw[w7,emin,NU,N4 (MR ldl),kbh eg]
    simp
  rintro σ H4 ⟨⟨v8,v9,v10,v11,v12,rfl⟩,b4,h4⟩
  have ltl:(tl.map V.ref).length=gl.length:=by rw[JY,hP.len]
  rw[ltl,NU,hsp] at h4
  have s04:Same H H4:=khk hw0 s03 b4
  obtain⟨mA,dxv,fsv,hv,lvm,_,⟨dxm,fsm,hm,m1,m2,m3,m4,m5,m6⟩,hh,htb⟩:=id (hV.same s04)
  symm
  exists Y4
  refine⟨_,rfl,v,clsOf d Vc.so,dxv,fsv,_,rfl,hv,cl_of W hh,na_of W hh,lvm,mA,d.qg,dxm,fsm,_,rfl,hm,W.qg.cl,W.QV,m3,?_⟩
  have wle:=kic (so:=Vc.so) (n:=S.mkd.length) (lines:=(abt ps (kds B) Vc.ms.kind Vc.ms.lone S).map fun i=>S.ow.getD i 0) (qs_nn wf.nn (abt ps (kds B) Vc.ms.kind Vc.ms.lone S)) vo.so
  have cn:=kkw (V:=Vc) (ps:=ps) (kk:=kds B) (S:=S)
  have cs:=fun(m:Int)(e:Vc.ms.most=some m)(h0:0≤m)=>kkv (V:=Vc) (ps:=ps) (kk:=kds B) (S:=S) lp wle e h0
  have sabs:=kiP wf lab habl
  generalize ewant:want Vc.so S.mkd.length ((abt ps (kds B) Vc.ms.kind Vc.ms.lone S).map fun i=>S.ow.getD i 0) (qs S.pr (abt ps (kds B) Vc.ms.kind Vc.ms.lone S))=wn at *
  have fnn:Nn (spr S.pr.length (abt ps (kds B) Vc.ms.kind Vc.ms.lone S) wn):=(kfM wf.nn wle).nn
  have fsum:(spr S.pr.length (abt ps (kds B) Vc.ms.kind Vc.ms.lone S) wn).sum≤720000000000000:=by
   have h:=(kfM wf.nn wle).sum
   have h2:=kdt (b:=1000000000000) (q:=S.pr) fun z hz=>(wf.pr z hz).2
   omega
  cases em:Vc.ms.most with
  |none=>
   symm
   refine⟨_,rfl,rfl,_,rfl,?_⟩
   show if(!decide (V.non=V.non))=true then _ else _
   rw[kkX]
   refine iteF (iteF ⟨_,rfl,k _ w s04 hw0 ?_⟩)
   rw[h4,cn em]
  | some m=>
   have hm0:=vo.ms.most m em
   symm
   refine⟨_,rfl,rfl,_,rfl,?_⟩
   show if(!decide (V.int m=V.non))=true then _ else _
   rw[kkY]
   refine iteT ?_
   symm
   exists Y6
   refine⟨_,rfl,w,_,rfl,SqL.of h4,_,rfl,_,_,rfl,rfl,_,rfl,?_⟩
   by_cases hgt:(spr S.pr.length (abt ps (kds B) Vc.ms.kind Vc.ms.lone S) wn).sum > m
   ·rw[decide_eq_true hgt]
    refine iteT ?_
    nofun
    exists Y8
    refine⟨_,rfl,_,rfl,m,w,_,rfl,SqL.of h4,fnn,by omega,hm0.1,by omega,by rw[kcY];omega,fun p7 hp7=>?_⟩
    exists 3
    refine k _ p7 (s04.trans (kak hp7)) (none_of s04 hp7) ?_
    rw[kad,cs m em hm0.1,if_pos hgt]
   ·rw[decide_eq_false hgt]
    refine iteF ?_
    exists 3
    refine⟨_,rfl,k _ w s04 hw0 ?_⟩
    rw[h4,cs m em hm0.1,if_neg hgt]
theorem klr:kan ["voucher","parents","basket","standing"] ["voucher","parents","basket","standing"] (kag kiJ):=by ac_rfl
theorem klE(W:WB K mg d base):FO P w W 5 d.XM d.XO ["voucher","parents","basket","standing"] (kkP K d):=by
 exists W.ZH.F,klr
 ·obtain⟨v,a,b,x,Vc,ps,B,S,rfl,hV,hA,hB,hS,wf,vo,k⟩:=h
  exists Xj,kca,W
  exists Xk,kbV,W
  exists hr2,2,hr,0
  refine⟨_,kah (kap (kb9 (kaa (pcl Xj hr W.QQ (kaa (pv 0) (kaa (pv 1) (kaa (pv 2) (kaa (pv 3) kae))))) (kaa (pcl Xk hr2 W.QR (kaa (pv 0) (kaa (pv 3) kae))) kae)))),?_⟩
  refine⟨_,rfl,_,rfl,_,rfl,_,rfl,v,a,b,x,Vc,ps,B,S,rfl,hV,hA,hB,hS,wf,vo,fun H1 p s1 f1 h1=>?_⟩
  refine⟨_,rfl,_,rfl,v,x,Vc,S,rfl,hV.same s1,hS.same s1,(by show 2≤sizeLine;decide),fun t ht=>?_⟩
  rw[←kjv (ps:=ps) (kk:=kds B) (S:=S) vo]
  refine k _ t p (s1.trans (kak ht)) (none_of s1 ht) f1 ?_ (kak ht _ _ h1)
  exact kad
theorem kkC{l:List Nat}{f g:Nat→Bool}(h:∀x∈l,f x=g x):l.any f=l.any g:=by
 induction l with
 |nil=>rfl
 |cons a l ih=>rw[Mr,Mr,h a Nz,ih fun x hx=>h x (Nw _ hx)]
theorem kgZ{ow:List Nat}{cs:List Int}{i o l:Nat}(h:ow[i]?=some o):kdp (ow.take (i+1)) cs l=(kdp (ow.take i) cs l||(o==l&&decide (0<cs.getD i 0))):=by
 have hi:=at_lt h
 unfold kdp
 rw[Nt,Nt,MH (by omega),MH (by omega),Mb,List.any_append]
 congr 1
 ·refine kkC fun j hj=>?_
  have hj':j<i:=by simpa using hj
  simp only[Nm,List.getElem?_take]
  rw[if_pos (by omega),if_pos hj']
 ·simp only[Mr,List.any_nil,EA]
  rw[Nm,List.getElem?_take,if_pos (by omega),h]
  rfl
inductive kcS (d:D) (vs:List V) (H:Hp) (Q:VK) (E_:XK):Prop
 |ct (v x c:Addr)(V:Vch)(S:Stnd)(cs:List Int)(_:vs=[.ref v, .ref x, .ref c])(_:VchIs d H v V)(_:StndIs d.qc H x S)(_:H c=some (.lst (cs.map L2.V.int)))(_:cs.length=S.ow.length)(_:S.ow.length≤720)(_:S.mkd.length≤12)(_:(∀l∈S.ow,l<S.mkd.length))(_:∀(H':Hp)(p:Addr),Same H H'→H p=none→H' p=some (.lst (((J8 S.mkd.length).map fun l=>S.mkd.getD l false||(V.ms.lone&&kdp S.ow cs l)).map L2.V.bl))→Q (.ref p) H'):kcS d vs H Q E_
theorem Qy:kan ["voucher","standing","piece_cuts","marked","owner","cut"] ["voucher","standing","piece_cuts"] (kag kbJ):=by ac_rfl
theorem kdW(W:WB K mg d base):FO P w W 1 d.X3 d.X4 ["voucher","standing","piece_cuts"] (kcS d):=by
 exists W.ZL.F,Qy
 ·obtain⟨v,x,c,Vc,S,cs,rfl,⟨mA,dxv,fsv,hv,lvm,_,⟨dxm,fsm,hm,m1,m2,m3,m4,m5,m6⟩,hh,htb⟩,⟨o,p,mk,⟨dxs,fss,hx,l1,l2,l3,l4,l5⟩,ho,hp,hmk⟩,hc,lc,lo,lmk,hw,k⟩:=h
  refine⟨_,kac (psl (i:=3) Qy.nd (kaF (r:=kbd K) kaC (by rfl) W.B.list kbo (kaa (kam (K:=K) (pv 1) rfl) kae)))
   (kac (ps_if (kaU (kam (K:=K) (kam (K:=K) (pv 0) rfl) rfl)) (kah (kbx PassesOwn.never rfl (kef rfl W.B.zip (kaa (kam (K:=K) (pv 1) rfl) (kaa (pv 2) kae))) (kbl (K:=K) (n:=2) rfl (kaw (pgn (i:=4) Qy.nd) (kaw (pgn (i:=5) Qy.nd) kbk)))
   (kah (ps_if (kas op_gt (pv 5) kaf (kav _)) (kah (kiT pe_bl (kkU (pv 3) (pv 4) set_list))) (kat))))) (kat))
   (kah (kap (pv 3)))),?_⟩
  have e0:S.mkd.map V.bl=((J8 S.mkd.length).map fun l=>S.mkd.getD l false||kdp (S.ow.take 0) cs l).map V.bl:=by
   congr 1
   apply Mn
   ·simp
   ·intro j h1 h2
    simp[kdp,h1]
  exists Y4
  refine⟨_,rfl,x,d.qc,dxs,fss,_,rfl,hx,W.qc.cl,W.Qc,l4,mk,_,rfl, .inl (SqL.of hmk),fun q hq=>?_⟩
  have s1:=kak (o:=.lst (S.mkd.map V.bl)) hq
  symm
  exists Y4
  refine⟨_,rfl,v,clsOf d Vc.so,dxv,fsv,_,rfl,s1 _ _ hv,cl_of W hh,na_of W hh,lvm,mA,d.qg,dxm,fsm,_,rfl,s1 _ _ hm,W.qg.cl,W.QW,m6,_,rfl,?_⟩
  cases e:Vc.ms.lone with
  |false=>
   refine iteF ?_
   symm
   exists Y6
   refine⟨_,rfl,k _ q s1 hq ?_⟩
   rw[e0]
   simp only[e,Ej,EA]
   rw[kad]
   congr 2
   simp[kdp]
  | true=>
   refine iteT ?_
   have emin:min (S.ow.map iV).length (cs.map V.int).length=S.ow.length:=by rw[JY,JY,lc,My]
   symm
   exists Y6
   refine⟨_,rfl,x,d.qc,dxs,fss,_,rfl,s1 _ _ hx,W.qc.cl,W.qJ,l1,_,rfl,o,c,_,_,rfl,s1 _ _ ho,s1 _ _ hc,
    kjt (xs:=S.ow.map iV) (ys:=cs.map V.int) (fun i σ H'=>(∃v4 v5:Option V,σ=[some (.ref v),some (.ref x),some (.ref c),some (.ref q),v4,v5])∧But q H H'∧H' q=some (.lst (((J8 S.mkd.length).map fun l=>S.mkd.getD l false||kdp (S.ow.take i) cs l).map V.bl)))
     ⟨⟨none,none,rfl⟩,But.of_same s1,by rw[kad,e0]⟩ (fun i σ H' _ h=>⟨h.2.1 _ _ (kai ho hq) ho,h.2.1 _ _ (kai hc hq) hc⟩) ?_ ?_⟩
   ·rintro i y z t σ H1 hy hz ⟨⟨v4,v5,rfl⟩,b1,h1⟩ ht
    obtain⟨ln,eln,rfl⟩:=kbQ hy
    obtain⟨cz,ecz,rfl⟩:=kbQ hz
    have hln:=hw ln (Nb eln)
    have st:=fun l=>kgZ (cs:=cs) (l:=l) eln
    have eg:cs.getD i 0=cz:=by rw[Nm,ecz];rfl
    have tq:q≠t:=kai h1 ht
    have b2:=b1.same (kak (o:=.tup [iV ln,V.int cz]) ht)
    have h2:=kak (o:=.tup [iV ln,V.int cz]) ht _ _ h1
    nofun
    exists Y8
    refine⟨t,_,rfl,SqT.of kad,rfl,_,_,rfl,_,_,rfl,rfl,?_⟩
    exists 3
    exists Y8
    refine⟨_,rfl,_,_,rfl,rfl,_,rfl,?_⟩
    by_cases hc0:cz > 0
    ·rw[decide_eq_true hc0]
     refine iteT ?_
     exists 3
     exists Y10
     refine⟨_,rfl,_,rfl,q,_,_,ln,rfl,rfl,h2,kjj (by simpa using hln),⟨_,_,rfl⟩,b2.trans kar,?_⟩
     rw[kad,←List.map_set]
     congr 3
     apply Mn
     ·simp
     ·intro j g1 g2
      have hj:j<S.mkd.length:=by simpa using g1
      rw[List.getElem_set]
      simp only[MK,M8]
      rw[st j,eg]
      by_cases hjl:ln=j
      ·subst hjl
       simp[hc0]
      ·rw[if_neg hjl,show(ln==j)=false by simpa using hjl]
       simp
    ·rw[decide_eq_false hc0]
     refine iteF ?_
     exists 5
     exists Y10
     refine⟨⟨_,_,rfl⟩,b2,?_⟩
     rw[h2]
     congr 3
     exists 5
     refine NV fun l _=>?_
     rw[st l,eg,show decide (0<cz)=false by simpa using hc0]
     simp
   ·rintro σ H1 ⟨⟨v4,v5,rfl⟩,b1,h1⟩
    rw[emin,NU] at h1
    exists 3
    exists Y8
    refine⟨_,rfl,k _ q (kjH b1 hq) hq ?_⟩
    rw[h1]
    simp only[e,Bool.true_and]
noncomputable def rmv(x:Addr)(H:Hp):Hp:=fun a=>if a=x then none else H a
theorem kiL{x:Addr}{H:Hp}:rmv x H x=none:=if_pos rfl
theorem kf1{x a:Addr}{H:Hp}(n:a≠x):rmv x H a=H a:=if_neg n
theorem kfk{x a:Addr}{H:Hp}{o:HO}(h:rmv x H a=some o):H a=some o:=by
 by_cases e:a=x
 ·subst e
  rw[kiL] at h
  cases h
 ·rw[kf1 e] at h
  exact h
theorem kfl{x:Addr}{H:Hp}(hx:NX H x):But x H (rmv x H):=fun b u n e=>ev_eq (by rw[kf1 n];exact e) fun⟨ps,e1,t,hor⟩=>⟨ps,by rw[kf1 n];exact e1,t,fun pos c ec=>by
 obtain⟨c',rfl,z2⟩:=hor pos c ec
 exact⟨c',rfl,by rw[kf1 fun e=>hx _ (e▸z2)];exact z2⟩⟩
theorem rmv_sub{x:Addr}{H:Hp}:Same (rmv x H) H:=fun b u e=>ev_eq (kfk e) fun⟨ps,e1,t,hor⟩=>⟨ps,kfk e1,t,fun pos c ec=>by
 obtain⟨c',rfl,z2⟩:=hor pos c ec
 exact⟨c',rfl,kfk z2⟩⟩
theorem kkB{Hs H H':Hp}{x:Addr}(s:Same Hs H)(b:But x H H')(f:Hs x=none):Same Hs H':=fun c u e=>kbv (s c u e) fun u' e'=>b c u' (kai e f) e'
inductive StndN (C:Addr) (H0 H:Hp) (x:Addr) (S:Stnd):Prop
 |ct (_:H0 x=none)(o p mk:Addr)(_:StandAt C H x o p mk S.cg)(_:H0 o=none)(_:H0 p=none)(_:H0 mk=none)(_:H o=some (.lst (S.ow.map iV)))(_:H p=some (.lst (S.pr.map V.int)))(_:H mk=some (.lst (S.mkd.map V.bl))):StndN C H0 H x S
theorem StndN.is{C x:Addr}{H0 H:Hp}{S:Stnd}:StndN C H0 H x S→StndIs C H x S:=fun⟨_,o,p,mk,h,_,_,_,h1,h2,h3⟩=>⟨o,p,mk,h,h1,h2,h3⟩
theorem kbG{H0 H:Hp}{q a:Addr}(hq:H0 q≠none)(f:H0 a=none):rmv q H a=H a:=kf1 fun e=>hq (e▸f)
theorem StndN.rmv{C x q:Addr}{H0 H:Hp}{S:Stnd}(hq:H0 q≠none):StndN C H0 H x S→StndIs C (rmv q H) x S:=fun⟨f,o,p,mk,⟨dx,fs,hx,r⟩,f1,f2,f3,h1,h2,h3⟩=>⟨o,p,mk,⟨dx,fs,(kbG hq f).trans hx,r⟩,(kbG hq f1).trans h1,(kbG hq f2).trans h2,(kbG hq f3).trans h3⟩
inductive WayN (d:D) (m:Nat) (H0 H:Hp) (w t b x:Addr) (hand:List Int) (used:List Nat):Prop
 |ct (_:H0 w=none)(dx:Addr)(fs:List (Str×V))(h u:Addr)(_:H0 h=none)(_:H0 u=none)(_:H w=some (.ins d.c_Way dx fs))(_:fs.lookup ("till" :Str)=some (.ref t))(_:fs.lookup ("basket" :Str)=some (.ref b))(_:fs.lookup ("hand" :Str)=some (.ref h))(_:fs.lookup ("used" :Str)=some (.ref u))(_:fs.lookup ("standing" :Str)=some (.ref x))(_:fs.lookup ("word_for" :Str)=none)(_:fs.lookup ("behind" :Str)=none)(_:fs.lookup ("is_let_by" :Str)=none)(_:fs.lookup ("followers" :Str)=none)(_:fs.length≤m)(_:H h=some (.lst (hand.map V.int)))(_:H u=some (.lst (used.map iV))):WayN d m H0 H w t b x hand used
theorem WayN.at{d:D}{m:Nat}{H0 H:Hp}{w t b x:Addr}{hand:List Int}{used:List Nat}:WayN d m H0 H w t b x hand used→WayAt d m H w t b x hand used:=fun⟨_,dx,fs,h,u,_,_,h1,h2,h3,h4,h5,h6,h7,h8,h9,h10,h11,h12,h13⟩=>⟨dx,fs,h,u,h1,h2,h3,h4,h5,h6,h7,h8,h9,h10,h11,h12,h13⟩
theorem WayN.rmv{d:D}{m:Nat}{H0 H:Hp}{w t b x q:Addr}{hand:List Int}{used:List Nat}(hq:H0 q≠none):WayN d m H0 H w t b x hand used→WayAt d m (rmv q H) w t b x hand used:=fun⟨f,dx,fs,h,u,f1,f2,g,h2,h3,h4,h5,h6,h7,h8,h9,h10,h11,h12,h13⟩=>⟨dx,fs,h,u,(kbG hq f).trans g,h2,h3,h4,h5,h6,h7,h8,h9,h10,h11,(kbG hq f1).trans h12,(kbG hq f2).trans h13⟩
inductive khj (K:JZ) (d:D) (vs:List V) (H:Hp) (Q:VK) (E_:XK):Prop
 |ct (v a b x:Addr)(V:Vch)(ps:List (Option Nat))(B:Bask)(S:Stnd)(_:vs=[.ref v, .ref a, .ref b, .ref x])(_:VchIs d H v V)(_:SqL K H a (ps.map pV))(_:BaskIs d.qe d.qf H b B)(_:StndIs d.qc H x S)(_:Wf ps B S)(_:VchOk ps V)(_:∀(H':Hp)(x':Addr),Same H H'→H x'=none→StndN d.qc H H' x' (aftM V ps (kds B) S)→Q (.ref x') H'):khj K d vs H Q E_
theorem Xl:kan ["voucher","parents","basket","standing","piece_cuts","left"] ["voucher","parents","basket","standing"] (kag kgJ):=by ac_rfl
theorem kj8(W:WB K mg d base):FO P w W 5 d.XQ d.XR ["voucher","parents","basket","standing"] (khj K d):=by
 exists W.ZI.F,Xl
 ·obtain⟨v,a,b,x,Vc,ps,B,S,rfl,hV,hA,hB,hS,wf,vo,k⟩:=h
  exists Xj,kca,W
  exists Xm,kcr,W
  exists Xk,kbV,W
  exists Uz,kdW,W
  exists hr1,1,hr,0
  exists hr2,2,hr,0
  exists hr3,3,hr,0
  refine⟨_,kac (psl (i:=4) Xl.nd (pcl Xj hr W.QQ (kaa (pv 0) (kaa (pv 1) (kaa (pv 2) (kaa (pv 3) kae))))))
   (kac (psl (i:=5) Xl.nd (ka3 (W.Qd.mk' W.qc) Xm hr3 rfl W.qc.m W.Qd.b .nil pass0 (kaa (pv 2) kae)))
   (kac (kax (pv 5) (kaF (r:=kbd K) kaC (by rfl) W.B.list kbo (kaa (kam (K:=K) (pv 3) rfl) kae)) rfl)
   (kac (kax (pv 5) (ka6 (N:=["price","cut"]) (CompScope.plain rfl (by decide +kernel) (by decide +kernel) (by decide +kernel) (show(["price","cut"]:List Str).Nodup by decide +kernel)) rfl (kef rfl W.B.zip (kaa (kam (K:=K) (pv 3) rfl) (kaa (pv 4) kae))) (fun _ _ _ _=>kbl (K:=K) (n:=2) rfl (kaw (pgn (i:=0) (show(["price","cut"]:List Str).Nodup by decide +kernel)) (kaw (pgn (i:=1) (show(["price","cut"]:List Str).Nodup by decide +kernel)) kbk))) (fun _ _ _ _=>(pe_op kf5 (pv 0) (pv 1)))) rfl)
   (kac (kax (pv 5) (pe_op kf5 (kam (K:=K) (pv 3) rfl) (pcl Xk hr2 W.QR (kaa (pv 0) (kaa (pv 3) kae)))) rfl)
   (kac (kax (pv 5) (pcl Uz hr1 W.ZL (kaa (pv 0) (kaa (pv 3) (kaa (pv 4) kae)))) rfl)
   (kah (kap (pv 5)))))))),?_⟩
  have np:=wf.np
  have lp:=wf.lp
  have lcut:(cutM Vc ps (kds B) S).1.length=S.pr.length:=(kk8 wf.nn wf.cg.1 vo.so fun m e=>(vo.ms.most m e).1).1.1
  exists Y4
  refine⟨_,rfl,_,rfl,_,rfl,_,rfl,v,a,b,x,Vc,ps,B,S,rfl,hV,hA,hB,hS,wf,vo,fun H1 pc s1 f1 h1=>?_⟩
  obtain⟨l,ls,hb1,hl1,hL1⟩:=id (hB.same s1)
  symm
  exists Y4
  refine⟨_,rfl,kja hb1 hl1 hL1 wf.nl wf.ok fun H2 y s2 f2 dxy fsy hy ly lyw=>?_⟩
  have fy:H y=none:=none_of s1 f2
  have s02:=s1.trans s2
  obtain⟨o,p,mk,⟨dxs,fss,hx,l1,l2,l3,l4,l5⟩,ho,hp,hmk⟩:=id hS
  symm
  exists Y4
  refine⟨_,rfl,x,d.qc,dxs,fss,_,rfl,s02 _ _ hx,W.qc.cl,W.qJ,l1,o,_,rfl, .inl (SqL.of (s02 _ _ ho)),fun q1 hq1=>?_⟩
  have n1:q1≠y:=(kai hy hq1).symm
  symm
  exists Y4
  refine⟨_,rfl,y,d.qc,dxy,fsy,rfl,kak hq1 _ _ hy,W.qc.cl,W.qJ,few (by omega),?_⟩
  have s3:Same H (upd (upd H2 q1 (.lst (S.ow.map iV))) y (.ins d.qc dxy (putF "owners" (.ref q1) fsy))):=kao fy (s02.trans (kak hq1))
  have e3:(upd (upd H2 q1 (.lst (S.ow.map iV))) y (.ins d.qc dxy (putF "owners" (.ref q1) fsy))) q1=some (.lst (S.ow.map iV)):=by rw[kaj n1,kad]
  have y3:(upd (upd H2 q1 (.lst (S.ow.map iV))) y (.ins d.qc dxy (putF "owners" (.ref q1) fsy))) y=some (.ins d.qc dxy (putF "owners" (.ref q1) fsy)):=kad
  have c3:(upd (upd H2 q1 (.lst (S.ow.map iV))) y (.ins d.qc dxy (putF "owners" (.ref q1) fsy))) pc=some (.lst ((cutM Vc ps (kds B) S).1.map V.int)):=by
   rw[kaj (kai h1 f2)]
   symm
   exact kak hq1 _ _ (s2 _ _ h1)
  have f3:=J5 (kal (f:="owners") (v:=.ref q1) ly) (by decide:11≤20)
  generalize upd (upd H2 q1 (.lst (S.ow.map iV))) y (.ins d.qc dxy (putF "owners" (.ref q1) fsy))=H3 at *
  have emin:min (S.pr.map V.int).length ((cutM Vc ps (kds B) S).1.map V.int).length=S.pr.length:=by rw[JY,JY,lcut,My]
  symm
  exists Y4
  refine⟨_,rfl,x,d.qc,dxs,fss,_,rfl,s3 _ _ hx,W.qc.cl,W.qw,l2,_,rfl,p,pc,_,_,rfl,s3 _ _ hp,c3,
   kfD (xs:=S.pr.map V.int) (ys:=(cutM Vc ps (kds B) S).1.map V.int) (fun i σ zs H'=>Same H3 H'∧zs=((NT (· - ·) S.pr (cutM Vc ps (kds B) S).1).take i).map V.int∧∃v0 v1:Option V,σ=[v0,v1])
    ⟨Same.refl _,rfl,none,none,rfl⟩ (by rw[emin];exact Ng (kaq (by omega))) (fun i σ zs H' hi h=>⟨h.1 _ _ (s3 _ _ hp),h.1 _ _ c3,by rw[h.2.1,JY,Nt,Eb,lcut];rw[emin] at hi;omega⟩) ?_ ?_⟩
  ·rintro i y1 y2 t σ zs H4 hy1 hy2 ⟨s4,rfl,v0,v1,rfl⟩ ht
   obtain⟨z1,ez1,rfl⟩:=kbQ hy1
   obtain⟨z2,ez2,rfl⟩:=kbQ hy2
   symm
   exists Y6
   refine⟨t,_,rfl,SqT.of kad,rfl,_,_,rfl,_,_,rfl,rfl,_,rfl,_,rfl,_,_,rfl,rfl,s4.trans (kak ht),?_,_,_,rfl⟩
   rw[kbh (r:=z1-z2) (by rw[Ec,ez1,ez2]),J9]
   rfl
  rintro σ zs H4 ⟨s4,rfl,v0,v1,rfl⟩ q2 hq2
  rw[emin,N4 (by rw[Eb,lcut];omega)]
  have n2:q2≠y:=(kai (s4 _ _ y3) hq2).symm
  have n12:q1≠q2:=kai (s4 _ _ e3) hq2
  have s5:=kak (o:=.lst ((NT (· - ·) S.pr (cutM Vc ps (kds B) S).1).map V.int)) hq2
  symm
  exists Y4
  refine⟨_,rfl,y,d.qc,dxy,_,rfl,s5 _ _ (s4 _ _ y3),W.qc.cl,W.qw,few f3,?_⟩
  have s6:Same H (upd (upd H4 q2 (.lst ((NT (· - ·) S.pr (cutM Vc ps (kds B) S).1).map V.int))) y (.ins d.qc dxy (putF "prices" (.ref q2) (putF "owners" (.ref q1) fsy)))):=kao fy ((s3.trans s4).trans s5) (nx (s5 _ _ (s4 _ _ y3)))
  have e6:(upd (upd H4 q2 (.lst ((NT (· - ·) S.pr (cutM Vc ps (kds B) S).1).map V.int))) y (.ins d.qc dxy (putF "prices" (.ref q2) (putF "owners" (.ref q1) fsy)))) q1=some (.lst (S.ow.map iV)):=by
   rw[kaj n1]
   symm
   exact s5 _ _ (s4 _ _ e3)
  have p6:(upd (upd H4 q2 (.lst ((NT (· - ·) S.pr (cutM Vc ps (kds B) S).1).map V.int))) y (.ins d.qc dxy (putF "prices" (.ref q2) (putF "owners" (.ref q1) fsy)))) q2=some (.lst ((NT (· - ·) S.pr (cutM Vc ps (kds B) S).1).map V.int)):=by rw[kaj n2,kad]
  have y6:(upd (upd H4 q2 (.lst ((NT (· - ·) S.pr (cutM Vc ps (kds B) S).1).map V.int))) y (.ins d.qc dxy (putF "prices" (.ref q2) (putF "owners" (.ref q1) fsy)))) y=some (.ins d.qc dxy (putF "prices" (.ref q2) (putF "owners" (.ref q1) fsy))):=kad
  have c6:(upd (upd H4 q2 (.lst ((NT (· - ·) S.pr (cutM Vc ps (kds B) S).1).map V.int))) y (.ins d.qc dxy (putF "prices" (.ref q2) (putF "owners" (.ref q1) fsy)))) pc=some (.lst ((cutM Vc ps (kds B) S).1.map V.int)):=by
   rw[kaj (kai h1 f2)]
   symm
   exact s5 _ _ (s4 _ _ c3)
  have f6:=J5 (kal (f:="prices") (v:=.ref q2) (kal (f:="owners") (v:=.ref q1) ly)) (by decide:12≤20)
  generalize upd (upd H4 q2 (.lst ((NT (· - ·) S.pr (cutM Vc ps (kds B) S).1).map V.int))) y (.ins d.qc dxy (putF "prices" (.ref q2) (putF "owners" (.ref q1) fsy)))=H6 at *
  symm
  exists Y4
  refine⟨_,rfl,x,d.qc,dxs,fss,_,rfl,s6 _ _ hx,W.qc.cl,W.qQ,l3,_,rfl,_,rfl,v,x,Vc,S,rfl,hV.same s6,hS.same s6,_,_,rfl,rfl,?_⟩
  rw[←kjv (ps:=ps) (kk:=kds B) (S:=S) vo]
  symm
  exists Y4
  refine⟨_,rfl,y,d.qc,dxy,_,rfl,y6,W.qc.cl,W.qQ,few f6,?_⟩
  have s7:Same H (upd H6 y (.ins d.qc dxy (putF "carriage" (.int (S.cg-(cutM Vc ps (kds B) S).2)) (putF "prices" (.ref q2) (putF "owners" (.ref q1) fsy))))):=kao fy s6
  have e7:(upd H6 y (.ins d.qc dxy (putF "carriage" (.int (S.cg-(cutM Vc ps (kds B) S).2)) (putF "prices" (.ref q2) (putF "owners" (.ref q1) fsy))))) q1=some (.lst (S.ow.map iV)):=by rw[kaj n1];exact e6
  have p7:(upd H6 y (.ins d.qc dxy (putF "carriage" (.int (S.cg-(cutM Vc ps (kds B) S).2)) (putF "prices" (.ref q2) (putF "owners" (.ref q1) fsy))))) q2=some (.lst ((NT (· - ·) S.pr (cutM Vc ps (kds B) S).1).map V.int)):=by rw[kaj n2];exact p6
  have y7:(upd H6 y (.ins d.qc dxy (putF "carriage" (.int (S.cg-(cutM Vc ps (kds B) S).2)) (putF "prices" (.ref q2) (putF "owners" (.ref q1) fsy))))) y=some (.ins d.qc dxy (putF "carriage" (.int (S.cg-(cutM Vc ps (kds B) S).2)) (putF "prices" (.ref q2) (putF "owners" (.ref q1) fsy)))):=kad
  have c7:(upd H6 y (.ins d.qc dxy (putF "carriage" (.int (S.cg-(cutM Vc ps (kds B) S).2)) (putF "prices" (.ref q2) (putF "owners" (.ref q1) fsy))))) pc=some (.lst ((cutM Vc ps (kds B) S).1.map V.int)):=by rw[kaj (kai h1 f2)];exact c6
  have f7:=J5 (kal (f:="carriage") (v:=.int (S.cg-(cutM Vc ps (kds B) S).2)) (kal (f:="prices") (v:=.ref q2) (kal (f:="owners") (v:=.ref q1) ly))) (by decide:13≤20)
  generalize upd H6 y (.ins d.qc dxy (putF "carriage" (.int (S.cg-(cutM Vc ps (kds B) S).2)) (putF "prices" (.ref q2) (putF "owners" (.ref q1) fsy))))=H7 at *
  symm
  exists Y4
  refine⟨_,rfl,_,rfl,_,rfl,v,x,pc,Vc,S,_,rfl,hV.same s7,hS.same s7,c7,by rw[lcut,lp],np,by rw[wf.lm];exact wf.nl,fun l hl=>?_,fun H8 q3 s8 f8 h8=>?_⟩
  ·obtain⟨i,hi⟩:=Mt.mp hl
   rw[wf.lm]
   symm
   exact wf.line hi
  have n3:q3≠y:=(kai y7 f8).symm
  symm
  exists Y4
  refine⟨_,rfl,y,d.qc,dxy,_,rfl,s8 _ _ y7,W.qc.cl,W.Qc,few f7,?_⟩
  symm
  exists Y4
  refine⟨_,rfl,k _ y (kao fy (s7.trans s8) (nx (s8 _ _ y7))) fy ⟨fy,q1,q2,q3,⟨dxy,_,kad,?_,?_,?_,?_,?_⟩,none_of s02 hq1,none_of (s3.trans s4) hq2,none_of s7 f8,?_,?_,?_⟩⟩
  ·ac_nf
  ·ac_nf
  ·ac_nf
   rfl
  ·ac_nf
  ·rw[kab,if_neg (by decide +kernel),kab,if_neg (by decide +kernel),kab,if_neg (by decide +kernel),kab,if_neg (by decide +kernel)]
   symm
   exact lyw
  ·rw[kaj n1]
   symm
   exact s8 _ _ e7
  ·rw[kaj n2]
   symm
   exact s8 _ _ p7
  ·rw[kaj n3]
   symm
   exact h8
inductive kfb (d:D) (vs:List V) (H:Hp) (Q:VK) (E_:XK):Prop
 |ct (H0:Hp)(x dx p vl rl:Addr)(ps vs' rs:List V)(bk:Str)(_:vs=[.ref x, .ref p, .ref vl, .ref rl, .str bk])(_:H0 x=none)(_:Same H0 H)(_:H x=some (.ins d.qd dx []))(_:H0 p=some (.lst ps))(_:H0 vl=some (.lst vs'))(_:H0 rl=some (.lst rs))(_:∀(H':Hp)(p' vl' rl':Addr)(fs:List (Str×V)),Same H0 H'→H0 p'=none→H0 vl'=none→H0 rl'=none→H' p'=some (.lst ps)→H' vl'=some (.lst vs')→H' rl'=some (.lst rs)→H' x=some (.ins d.qd dx fs)→fs.lookup ("parents" :Str)=some (.ref p')→fs.lookup ("vouchers" :Str)=some (.ref vl')→fs.lookup ("rules" :Str)=some (.ref rl')→fs.lookup ("back" :Str)=some (.str bk)→Q .non H'):kfb d vs H Q E_
theorem kfY:kan ["self","parents","vouchers","rules","back"] ["self","parents","vouchers","rules","back"] (kag ka4):=by ac_rfl
theorem kcG(W:WB K mg d base):FO P w W 1 d.Zx d.QN ["self","parents","vouchers","rules","back"] (kfb d):=by
 exists W.qM.F,kfY
 ·obtain⟨H0,x,dx,p,vl,rl,ps,vs',rs,bk,rfl,fx,s0,hx,hp,hvl,hrl,k⟩:=h
  refine⟨_,kac (kax (pv 0) (kaF (r:=kbd K) kaC (by rfl) W.B.list kbo (kaa (pv 1) kae)) rfl)
   (kac (kax (pv 0) (kaF (r:=kbd K) kaC (by rfl) W.B.list kbo (kaa (pv 2) kae)) rfl)
   (kac (kax (pv 0) (kaF (r:=kbd K) kaC (by rfl) W.B.list kbo (kaa (pv 3) kae)) rfl)
   (kah (kax (pv 0) (pv 4) rfl)))),?_⟩
  exists Y4
  refine⟨_,rfl,p,_,rfl, .inl (SqL.of (s0 _ _ hp)),fun p' hp'=>?_⟩
  have n1:=kak (o:=.lst ps) hp'
  have fp:=s0.free hp'
  have np:p'≠x:=(kai hx hp').symm
  have e1:(upd H p' (.lst ps)) p'=some (.lst ps):=kad
  have s1:=s0.trans n1
  have hx1:=n1 _ _ hx
  clear n1
  generalize upd H p' (.lst ps)=H1 at *
  symm
  exists Y4
  refine⟨_,rfl,x,d.qd,dx,[],rfl,hx1,W.qd.cl,W.Qg,by decide,?_⟩
  have s2:Same H0 (upd H1 x (.ins d.qd dx (putF "parents" (.ref p') []))):=kao fx s1 (nx hx1)
  have e2:(upd H1 x (.ins d.qd dx (putF "parents" (.ref p') []))) p'=some (.lst ps):=by rw[kaj np];exact e1
  have hx2:(upd H1 x (.ins d.qd dx (putF "parents" (.ref p') []))) x=some (.ins d.qd dx (putF "parents" (.ref p') [])):=kad
  generalize upd H1 x (.ins d.qd dx (putF "parents" (.ref p') []))=H2 at *
  symm
  exists Y4
  refine⟨_,rfl,vl,_,rfl, .inl (SqL.of (s2 _ _ hvl)),fun v' hv'=>?_⟩
  have n3:=kak (o:=.lst vs') hv'
  have fv:=s2.free hv'
  have nv:v'≠x:=(kai hx2 hv').symm
  have s3:=s2.trans n3
  have e3:=n3 _ _ e2
  have ev3:(upd H2 v' (.lst vs')) v'=some (.lst vs'):=kad
  have hx3:=n3 _ _ hx2
  clear n3
  generalize upd H2 v' (.lst vs')=H3 at *
  symm
  exists Y4
  refine⟨_,rfl,x,d.qd,dx,_,rfl,hx3,W.qd.cl,W.qx,few (J5 (kal (n:=0) (J4 _)) (by decide)),?_⟩
  have s4:Same H0 (upd H3 x (.ins d.qd dx (putF "vouchers" (.ref v') (putF "parents" (.ref p') [])))):=kao fx s3 (nx hx3)
  have e4:(upd H3 x (.ins d.qd dx (putF "vouchers" (.ref v') (putF "parents" (.ref p') [])))) p'=some (.lst ps):=by rw[kaj np];exact e3
  have ev4:(upd H3 x (.ins d.qd dx (putF "vouchers" (.ref v') (putF "parents" (.ref p') [])))) v'=some (.lst vs'):=by rw[kaj nv];exact ev3
  have hx4:(upd H3 x (.ins d.qd dx (putF "vouchers" (.ref v') (putF "parents" (.ref p') [])))) x=some (.ins d.qd dx (putF "vouchers" (.ref v') (putF "parents" (.ref p') []))):=kad
  generalize upd H3 x (.ins d.qd dx (putF "vouchers" (.ref v') (putF "parents" (.ref p') [])))=H4 at *
  symm
  exists Y4
  refine⟨_,rfl,rl,_,rfl, .inl (SqL.of (s4 _ _ hrl)),fun r' hr'=>?_⟩
  have n5:=kak (o:=.lst rs) hr'
  have fr:=s4.free hr'
  have nr:r'≠x:=(kai hx4 hr').symm
  have s5:=s4.trans n5
  have e5:=n5 _ _ e4
  have ev5:=n5 _ _ ev4
  have er5:(upd H4 r' (.lst rs)) r'=some (.lst rs):=kad
  have hx5:=n5 _ _ hx4
  clear n5
  generalize upd H4 r' (.lst rs)=H5 at *
  symm
  exists Y4
  refine⟨_,rfl,x,d.qd,dx,_,rfl,hx5,W.qd.cl,W.qL,few (J5 (kal (kal (n:=0) (J4 _))) (by decide)),?_⟩
  have s6:Same H0 (upd H5 x (.ins d.qd dx (putF "rules" (.ref r') (putF "vouchers" (.ref v') (putF "parents" (.ref p') []))))):=kao fx s5 (nx hx5)
  have hx6:(upd H5 x (.ins d.qd dx (putF "rules" (.ref r') (putF "vouchers" (.ref v') (putF "parents" (.ref p') []))))) x=some (.ins d.qd dx (putF "rules" (.ref r') (putF "vouchers" (.ref v') (putF "parents" (.ref p') [])))):=kad
  symm
  exists Y4
  refine⟨_,rfl,_,rfl,x,d.qd,dx,_,rfl,hx6,W.qd.cl,W.Xa,few (J5 (kal (kal (kal (n:=0) (J4 _)))) (by decide)),?_⟩
  symm
  refine k _ p' v' r' _ (kao fx s6 (nx hx6)) fp fv fr ?_ ?_ ?_ kad ?_ ?_ ?_ ?_
  ·rw[kaj np,kaj np];exact e5
  ·rw[kaj nv,kaj nv];exact ev5
  ·rw[kaj nr,kaj nr];exact er5
  ·ac_nf
  ·ac_nf
  ·ac_nf
  ·ac_nf
theorem ki9{d:D}{H:Hp}{p vl rl:Addr}{T:TillD}{va ra:List Addr}{R:Addr→Hp→Prop}{E:XK}(hp:H p=some (.lst (T.ps.map pV)))(hvl:H vl=some (.lst (va.map V.ref)))(hv:P2 (fun a V=>VchIs d H a V) va T.vs)(hrl:H rl=some (.lst (ra.map V.ref)))(hr:P2 (fun a r=>RulIs H a r) ra T.rs)
  (k:∀(H':Hp)(x:Addr),Same H H'→H x=none→TillIs d H' x T→R x H'):
  ∀x dx,H x=none→H dx=none→dx≠x→kfb d [.ref x, .ref p, .ref vl, .ref rl, .str T.bk] (upd (upd H dx (.own x)) x (.ins d.qd dx [])) (fun v H2=>v=.non∧R x H2) E:=
 fun x dx nx nd _=>⟨H,x,dx,p,vl,rl,_,_,_,_,rfl,nx,kaX nx nd,kad,hp,hvl,hrl,fun H' p' vl' rl' fs s f1 f2 f3 h1 h2 h3 hx l1 l2 l3 l4=>⟨rfl,k H' x s nx ⟨dx,fs,p',vl',rl',va,ra,hx,l1,l2,l3,l4,h1,h2,hv.mono fun a V h=>h.same s,h3,hr.mono fun a r h=>s _ _ h⟩⟩⟩
inductive kgz (f:List Rul→List Nat→Nat→Bool) (vs:List V) (H:Hp) (Q:VK) (E_:XK):Prop
 |ct (rl u:Addr)(ra:List Addr)(rs:List Rul)(used:List Nat)(n:Nat)(_:vs=[.ref rl, .ref u,iV n])(_:H rl=some (.lst (ra.map V.ref)))(_:P2 (fun a r=>RulIs H a r) ra rs)(_:H u=some (.lst (used.map iV)))(_:Q (.bl (f rs used n)) H):kgz f vs H Q E_
theorem kjM{f:Rul→Bool}{rs:List Rul}{i:Nat}{r:Rul}(e:rs[i]?=some r)(h:f r=true):rs.any f=true:=List.any_eq_true.mpr ⟨r,Nb e,h⟩
theorem klb{f:Rul→Bool}{rs:List Rul}{n:Nat}(hn:n=rs.length)(h:∀r∈rs.take n,f r=false):rs.any f=false:=by
 rw[hn,NU] at h
 cases e:rs.any f with
 |false=>rfl
 |true=>
  obtain⟨r,hr,e2⟩:=List.any_eq_true.mp e
  rw[h r hr] at e2
  cases e2
theorem kbP{f:Rul→Bool}{rs:List Rul}{i:Nat}{r:Rul}(e:rs[i]?=some r)(h:∀q∈rs.take i,f q=false)(hr:f r=false):∀q∈rs.take (i+1),f q=false:=fun q hq=>by
 rw[Mf,e] at hq
 rcases NJ.mp hq with z|z
 ·exact h q z
 ·have e2:q=r:=by simpa using z
  rw[e2]
  exact hr
theorem Qz:kan ["rules","used","number","word","one","other"] ["rules","used","number"] (kag kbY):=by ac_rfl
theorem kem(W:WB K mg d base):FO P w W 1 d.Yh d.Yi ["rules","used","number"] (kgz keZ):=by
 exists W.ZP.F,Qz
 ·obtain⟨rl,u,ra,rs,used,n,rfl,hrl,hr,hu,k⟩:=h
  refine⟨_,kac (kbx PassesOwn.never rfl (kaH (K:=K) (pv 0)) (kbl (K:=K) (n:=3) rfl (kaw (pgn (i:=3) Qz.nd) (kaw (pgn (i:=4) Qz.nd) (kaw (pgn (i:=5) Qz.nd) kbk))))
   (kah (ps_if (PW.pt (kbw (kas op_eq (pv 3) kbz (kav _)) (kbj (PW.pt (pw_or (PW.pt (kbw (kas op_eq (pv 4) (pv 2) (kav _)) (kbj (kas kcE (pv 5) (pv 1) (by with_unfolding_all rfl))))) (keV (PW.pt (kbw (kas op_eq (pv 5) (pv 2) (kav _)) (kbj (kas kcE (pv 4) (pv 1) (by with_unfolding_all rfl))))))))))) (kah (kap pe_bl)) (kat))))
   (kah (kap pe_bl)),?_⟩
  refine⟨_,rfl,rl,rfl,⟨_,SqL.of hrl⟩,kbX (xs:=ra.map V.ref) (fun i σ H'=>H'=H∧(∀r∈rs.take i,nevR used n r=false)∧∃v3 v4 v5:Option V,σ=[some (.ref rl),some (.ref u),some (iV n),v3,v4,v5])
   ⟨rfl,(fun r hr=>by simp at hr),none,none,none,rfl⟩ (fun i σ H' _ h=>by rw[h.1];exact SqL.of hrl) ?_ ?_⟩
  ·rintro i y σ H' hy ⟨rfl,hno,v3,v4,v5,rfl⟩
   obtain⟨a,ea,rfl⟩:=kbN hy
   obtain⟨r,er,hra⟩:=hr.at ea
   have yes:nevR used n r=true→Q (.bl true) H':=fun e=>by
    have z:=kjM (f:=nevR used n) er e
    unfold keZ at k
    rw[z] at k
    exact k
   refine⟨a,_,rfl,SqT.of hra,rfl,_,_,rfl,_,_,rfl,_,_,rfl,rfl,?_⟩
   refine⟨_,rfl,rfl,_,rfl,?_⟩
   show if decide (V.str r.w=V.str "never")=true then _ else _
   rw[eq_str]
   by_cases hw:r.w=("never" :Str)
   ·rw [decide_eq_true hw]
    refine iteT ⟨_,rfl,_,rfl,rfl,_,rfl,?_⟩
    show if decide (iV r.a=iV n)=true then _ else _
    rw[khH]
    by_cases ha:r.a=n
    ·rw[decide_eq_true ha]
     refine iteT ⟨_,rfl,_,rfl,u,_,rfl, .inl (SqL.of hu),rfl,kcm _,_,rfl,?_⟩
     rw[if_neg Na,kcL]
     cases hb:used.contains r.b with
     |true=>exact iteT (iteT (yes (by unfold nevR;rw[decide_eq_true hw,decide_eq_true ha,hb];rfl)))
     | false=>
      refine iteF ⟨_,rfl,_,rfl,rfl,_,rfl,?_⟩
      show if decide (iV r.b=iV n)=true then _ else _
      rw[khH]
      by_cases hc:r.b=n
      ·rw[decide_eq_true hc]
       refine iteT ⟨_,rfl,_,rfl,u,_,rfl, .inl (SqL.of hu),rfl,kcm _,_,rfl,?_⟩
       rw[if_neg Na,kcL]
       cases hd:used.contains r.a with
       |true=>exact iteT (yes (by unfold nevR;rw[decide_eq_true hw,decide_eq_true ha,hb,decide_eq_true hc,hd];rfl))
       |false=>exact iteF ⟨rfl,kbP er hno (by unfold nevR;rw[decide_eq_true hw,decide_eq_true ha,hb,decide_eq_true hc,hd];rfl),_,_,_,rfl⟩
      ·rw[decide_eq_false hc]
       exact iteF (iteF ⟨rfl,kbP er hno (by unfold nevR;rw[decide_eq_true hw,decide_eq_true ha,hb,decide_eq_false hc];rfl),_,_,_,rfl⟩)
    ·rw[decide_eq_false ha]
     refine iteF (iteF ⟨_,rfl,_,rfl,rfl,_,rfl,?_⟩)
     show if decide (iV r.b=iV n)=true then _ else _
     rw[khH]
     by_cases hc:r.b=n
     ·rw[decide_eq_true hc]
      refine iteT ⟨_,rfl,_,rfl,u,_,rfl, .inl (SqL.of hu),rfl,kcm _,_,rfl,?_⟩
      rw[if_neg Na,kcL]
      cases hd:used.contains r.a with
      |true=>exact iteT (yes (by unfold nevR;rw[decide_eq_true hw,decide_eq_false ha,decide_eq_true hc,hd];rfl))
      |false=>exact iteF ⟨rfl,kbP er hno (by unfold nevR;rw[decide_eq_true hw,decide_eq_false ha,decide_eq_true hc,hd];rfl),_,_,_,rfl⟩
     ·rw[decide_eq_false hc]
      exact iteF (iteF ⟨rfl,kbP er hno (by unfold nevR;rw[decide_eq_true hw,decide_eq_false ha,decide_eq_false hc];rfl),_,_,_,rfl⟩)
   ·rw[decide_eq_false hw]
    refine iteF (iteF ⟨rfl,kbP er hno ?_,_,_,_,rfl⟩)
    unfold nevR
    rw[decide_eq_false hw]
    rfl
  ·rintro σ H' ⟨rfl,hno,v3,v4,v5,rfl⟩
   have z:=klb (by rw[JY];exact hr.len) hno
   unfold keZ at k
   rw[z] at k
   exact k
theorem QA:kan ["rules","used","number","word","one","other"] ["rules","used","number"] (kag kbZ):=by ac_rfl
theorem ken(W:WB K mg d base):FO P w W 1 d.Yj d.Yk ["rules","used","number"] (kgz ke6):=by
 exists W.ZQ.F,QA
 ·obtain⟨rl,u,ra,rs,used,n,rfl,hrl,hr,hu,k⟩:=h
  refine⟨_,kac (kbx PassesOwn.never rfl (kaH (K:=K) (pv 0)) (kbl (K:=K) (n:=3) rfl (kaw (pgn (i:=3) QA.nd) (kaw (pgn (i:=4) QA.nd) (kaw (pgn (i:=5) QA.nd) kbk))))
   (kah (ps_if (PW.pt (kbw (kas op_eq (pv 3) kbz (kav _)) (kbw (kas op_eq (pv 4) (pv 2) (kav _)) (kbj (kas kcE (pv 5) (pv 1) (by with_unfolding_all rfl)))))) (kah (kap pe_bl)) (kat))))
   (kah (kap pe_bl)),?_⟩
  refine⟨_,rfl,rl,rfl,⟨_,SqL.of hrl⟩,kbX (xs:=ra.map V.ref) (fun i σ H'=>H'=H∧(∀r∈rs.take i,ahdR used n r=false)∧∃v3 v4 v5:Option V,σ=[some (.ref rl),some (.ref u),some (iV n),v3,v4,v5])
   ⟨rfl,(fun r hr=>by simp at hr),none,none,none,rfl⟩ (fun i σ H' _ h=>by rw[h.1];exact SqL.of hrl) ?_ ?_⟩
  ·rintro i y σ H' hy ⟨rfl,hno,v3,v4,v5,rfl⟩
   obtain⟨a,ea,rfl⟩:=kbN hy
   obtain⟨r,er,hra⟩:=hr.at ea
   have yes:ahdR used n r=true→Q (.bl true) H':=fun e=>by
    have z:=kjM (f:=ahdR used n) er e
    unfold ke6 at k
    rw[z] at k
    exact k
   refine⟨a,_,rfl,SqT.of hra,rfl,_,_,rfl,_,_,rfl,_,_,rfl,rfl,?_⟩
   refine⟨_,rfl,rfl,_,rfl,?_⟩
   show if decide (V.str r.w=V.str "ahead")=true then _ else _
   rw[eq_str]
   by_cases hw:r.w=("ahead" :Str)
   ·rw[decide_eq_true hw]
    refine iteT ⟨_,rfl,_,rfl,rfl,_,rfl,?_⟩
    show if decide (iV r.a=iV n)=true then _ else _
    rw[khH]
    by_cases ha:r.a=n
    ·rw[decide_eq_true ha]
     refine iteT ⟨_,rfl,_,rfl,u,_,rfl, .inl (SqL.of hu),rfl,kcm _,_,rfl,?_⟩
     rw[if_neg Na,kcL]
     cases hb:used.contains r.b with
     |true=>exact iteT (yes (by unfold ahdR;rw[decide_eq_true hw,decide_eq_true ha,hb];rfl))
     |false=>exact iteF ⟨rfl,kbP er hno (by unfold ahdR;rw[decide_eq_true hw,decide_eq_true ha,hb];rfl),_,_,_,rfl⟩
    ·rw[decide_eq_false ha]
     exact iteF (iteF ⟨rfl,kbP er hno (by unfold ahdR;rw[decide_eq_true hw,decide_eq_false ha];rfl),_,_,_,rfl⟩)
   ·rw[decide_eq_false hw]
    refine iteF (iteF ⟨rfl,kbP er hno ?_,_,_,_,rfl⟩)
    unfold ahdR
    rw[decide_eq_false hw]
    rfl
  ·rintro σ H' ⟨rfl,hno,v3,v4,v5,rfl⟩
   have z:=klb (by rw[JY];exact hr.len) hno
   unfold ke6 at k
   rw[z] at k
   exact k
inductive kfT (vs:List V) (H:Hp) (Q:VK) (E_:XK):Prop
 |ct (rl u:Addr)(ra:List Addr)(rs:List Rul)(order:List Nat)(_:vs=[.ref rl, .ref u])(_:H rl=some (.lst (ra.map V.ref)))(_:P2 (fun a r=>RulIs H a r) ra rs)(_:H u=some (.lst (order.map iV)))(_:Q (pV (onlyM rs order)) H):kfT vs H Q E_
theorem khE{f:Rul→Bool}:∀{rs:List Rul}{i:Nat}{r:Rul},rs[i]?=some r→f r=true→(∀q∈rs.take i,f q=false)→rs.find? f=some r
 |[],i,r,e,_,_=>by simp at e
 |q::rs,0,r,e,h,_=>by
  have e2:q=r:=by simpa using e
  subst e2
  simp[h]
 |q::rs,i+1,r,e,h,hno=>by
  have h1:=hno q (by simp)
  rw[List.find?_cons_of_neg (by rw[h1];simp)]
  exact khE (by simpa using e) h fun z hz=>hno z (by simp[hz])
theorem klS{f:Rul→Bool}{rs:List Rul}{n:Nat}(hn:n=rs.length)(h:∀r∈rs.take n,f r=false):rs.find? f=none:=by
 rw[hn,NU] at h
 exact List.find?_eq_none.mpr fun r hr=>by rw[h r hr];simp
theorem QB:kan ["rules","order","word","one","other"] ["rules","order"] (kag kbp):=by ac_rfl
theorem kdg(W:WB K mg d base):FO P w W 1 d.Yl d.Ym ["rules","order"] kfT:=by
 exists W.ZR.F,QB
 ·obtain⟨rl,u,ra,rs,order,rfl,hrl,hr,hu,k⟩:=h
  refine⟨_,kac (kbx PassesOwn.never rfl (kaH (K:=K) (pv 0)) (kbl (K:=K) (n:=3) rfl (kaw (pgn (i:=2) QB.nd) (kaw (pgn (i:=3) QB.nd) (kaw (pgn (i:=4) QB.nd) kbk))))
   (kah (ps_if (PW.pt (kbw (kas op_eq (pv 2) kbz (kav _)) (kbw (kas kcE (pv 3) (pv 1) (by with_unfolding_all rfl)) (kbj (kas kf6 (pv 4) (pv 1) (by with_unfolding_all rfl)))))) (kah (kap (pv 3))) (kat))))
   (kah (kap ka0)),?_⟩
  refine⟨_,rfl,rl,rfl,⟨_,SqL.of hrl⟩,kbX (xs:=ra.map V.ref) (fun i σ H'=>H'=H∧(∀r∈rs.take i,loneM order r=false)∧∃v3 v4 v5:Option V,σ=[some (.ref rl),some (.ref u),v3,v4,v5])
   ⟨rfl,(fun r hr=>by simp at hr),none,none,none,rfl⟩ (fun i σ H' _ h=>by rw[h.1];exact SqL.of hrl) ?_ ?_⟩
  ·rintro i y σ H' hy ⟨rfl,hno,v3,v4,v5,rfl⟩
   obtain⟨a,ea,rfl⟩:=kbN hy
   obtain⟨r,er,hra⟩:=hr.at ea
   refine⟨a,_,rfl,SqT.of hra,rfl,_,_,rfl,_,_,rfl,_,_,rfl,rfl,?_⟩
   refine⟨_,rfl,rfl,_,rfl,?_⟩
   show if decide (V.str r.w=V.str "only")=true then _ else _
   rw[eq_str]
   by_cases hw:r.w=("only" :Str)
   ·rw[decide_eq_true hw]
    refine iteT ⟨_,rfl,_,rfl,u,_,rfl, .inl (SqL.of hu),rfl,kcm _,_,rfl,?_⟩
    rw[if_neg Na,kcL]
    cases ha:order.contains r.a with
    | true=>
     refine iteT ⟨_,rfl,_,rfl,u,_,rfl, .inl (SqL.of hu),rfl,kcm _,_,rfl,?_⟩
     rw[if_pos rfl,kcL]
     cases hb:order.contains r.b with
     |true=>exact iteF ⟨rfl,kbP er hno (by unfold loneM;rw[decide_eq_true hw,ha,hb];rfl),_,_,_,rfl⟩
     |false=>
      refine iteT ⟨_,rfl,?_⟩
      have z:=khE (f:=loneM order) er (by unfold loneM;rw[decide_eq_true hw,ha,hb];rfl) hno
      unfold onlyM at k
      rw[z] at k
      exact k
    |false=>exact iteF (iteF ⟨rfl,kbP er hno (by unfold loneM;rw[decide_eq_true hw,ha];rfl),_,_,_,rfl⟩)
   ·rw[decide_eq_false hw]
    refine iteF (iteF ⟨rfl,kbP er hno ?_,_,_,_,rfl⟩)
    unfold loneM
    rw[decide_eq_false hw]
    rfl
  ·rintro σ H' ⟨rfl,hno,v3,v4,v5,rfl⟩
   have z:=klS (by rw[JY];exact hr.len) hno
   unfold onlyM at k
   rw[z] at k
   exact k
inductive kg5 (d:D) (vs:List V) (H:Hp) (Q:VK) (E_:XK):Prop
 |ct (t h u:Addr)(T:TillD)(hand:List Int)(used:List Nat)(n:Nat)(V:Vch)(_:vs=[.ref t, .ref h, .ref u,iV n])(_:TillIs d H t T)(_:H h=some (.lst (hand.map L2.V.int)))(_:H u=some (.lst (used.map iV)))(_:T.vs[n]?=some V)(_:hand.length=T.vs.length)(_:Q (sV (wordM V T.rs hand used n)) H):kg5 d vs H Q E_
theorem kdO:kan ["till","hand","used","number"] ["till","hand","used","number"] (kag kbH):=by ac_rfl
theorem kdV(W:WB K mg d base):FO P w W 2 d.Yf d.Yg ["till","hand","used","number"] (kg5 d):=by
 exists W.ZO.F,kdO
 ·obtain⟨t,h,u,T,hand,used,n,Vc,rfl,hT,hh,hu,hn,hl,k⟩:=h
  obtain⟨dx,fs,p,vl,rl,va,ra,ht,t1,t2,t3,t4,hp,hvl,hva,hrl,hra⟩:=hT
  exists UA,kem,W
  exists UB,ken,W
  refine⟨_,kac (ps_if (kas op_gt (pe_op kaA (pe_bm NA PySem.F.slot_list_count PySem.F.type_list_count kj9 (pv 2) (kaa (pv 3) kae)) kaf) (pe_ix (r:=rIxL K) kaG (pv 1) (pv 3) (fun _ _=>rfl)) (kav _)) (kah (kap kbz)) (kat))
   (kac (ps_if (PW.pt (kbw (kaU (kam (K:=K) (kam (K:=K) (pe_ix (r:=rIxL K) kaG (kam (K:=K) (pv 0) rfl) (pv 3) (fun _ _=>rfl)) rfl) rfl)) (kbj (kas kcE (pv 3) (pv 2) (by with_unfolding_all rfl))))) (kah (kap kbz)) (kat))
   (kac (ps_if (kaU (pcl UA hr W.ZP (kaa (kam (K:=K) (pv 0) rfl) (kaa (pv 2) (kaa (pv 3) kae))))) (kah (kap kbz)) (kat))
   (kac (ps_if (kaU (pcl UB hr W.ZQ (kaa (kam (K:=K) (pv 0) rfl) (kaa (pv 2) (kaa (pv 3) kae))))) (kah (kap kbz)) (kat))
   (kah (kap ka0))))),?_⟩
  obtain⟨v,ev⟩:=at_of (xs:=va) (i:=n) (by rw[hva.len];exact at_lt hn)
  obtain⟨Vc',eV',hV⟩:=hva.at ev
  rw[hn] at eV'
  cases eV'
  obtain⟨mA,dxv,fsv,hv,lvm,_,⟨dxm,fsm,hm,m1,m2,m3,m4,m5,m6⟩,hh',_⟩:=id hV
  obtain⟨z,ez⟩:=at_of (xs:=hand) (i:=n) (by rw[hl];exact at_lt hn)
  have eu:H u=some (.lst ((used.map fun(i:Nat)=>(i:Int)).map V.int)):=by rw[hu,Nx];rfl
  have eg:hand.getD n 0=z:=by rw[Nm,ez];rfl
  refine⟨_,rfl, .inl ⟨rfl,_,SqL.of hu⟩,_,rfl,u,_,_,rfl,rfl,eu,_,_,rfl,rfl,_,rfl,_,rfl,h,_,_,_,rfl,rfl,SqL.of hh,kbe (v:=.int z) (by rw[Nc,ez];rfl),_,_,rfl,rfl,_,rfl,?_⟩
  rw[klW]
  unfold wordM at k
  rw[eg] at k
  by_cases c1:z<(used.count n:Int)+1
  ·rw[if_pos c1] at k
   rw[show decide ((used.count n:Int)+1 > z)=true from decide_eq_true c1]
   exact iteT k
  rw[if_neg c1] at k
  rw[show decide ((used.count n:Int)+1 > z)=false from decide_eq_false c1]
  refine iteF ?_
  refine⟨_,rfl,t,d.qd,dx,fs,_,rfl,ht,W.qd.cl,W.qx,t2,_,rfl,vl,_,_,_,rfl,rfl,SqL.of hvl,kbe (v:=.ref v) (by rw[Nc,ev];rfl),v,clsOf d Vc.so,dxv,fsv,_,rfl,hv,cl_of W hh',na_of W hh',lvm,mA,d.qg,dxm,fsm,_,rfl,hm,W.qg.cl,W.Vj,m5,Vc.ms.once,rfl,?_⟩
  cases ho:Vc.ms.once with
  | true=>
   rw[ho,Bool.true_and] at k
   refine iteT ⟨_,rfl,_,rfl,u,_,rfl, .inl (SqL.of hu),rfl,kcm _,_,rfl,?_⟩
   rw[if_neg Na,kcL]
   cases hc:used.contains n with
   |true=>
    rw[hc,if_pos rfl] at k
    exact iteT k
   | false=>
    rw[hc,if_neg Na] at k
    refine iteF ?_
    refine⟨_,rfl,t,d.qd,dx,fs,_,rfl,ht,W.qd.cl,W.qL,t3,_,rfl,_,rfl,rl,u,ra,T.rs,used,n,rfl,hrl,hra,hu,_,rfl,?_⟩
    cases h1:keZ T.rs used n with
    |true=>
     rw[h1,if_pos rfl] at k
     exact iteT k
    | false=>
     rw[h1,if_neg Na] at k
     refine iteF ⟨_,rfl,t,d.qd,dx,fs,_,rfl,ht,W.qd.cl,W.qL,t3,_,rfl,_,rfl,rl,u,ra,T.rs,used,n,rfl,hrl,hra,hu,_,rfl,?_⟩
     cases h2:ke6 T.rs used n with
     |true=>
      rw[h2,if_pos rfl] at k
      exact iteT k
     |false=>
      rw[h2,if_neg Na] at k
      exact iteF k
  | false=>
   rw[ho,Ej,if_neg Na] at k
   refine iteF (iteF ?_)
   refine⟨_,rfl,t,d.qd,dx,fs,_,rfl,ht,W.qd.cl,W.qL,t3,_,rfl,_,rfl,rl,u,ra,T.rs,used,n,rfl,hrl,hra,hu,_,rfl,?_⟩
   cases h1:keZ T.rs used n with
   |true=>
    rw[h1,if_pos rfl] at k
    exact iteT k
   | false=>
    rw[h1,if_neg Na] at k
    refine iteF ⟨_,rfl,t,d.qd,dx,fs,_,rfl,ht,W.qd.cl,W.qL,t3,_,rfl,_,rfl,rl,u,ra,T.rs,used,n,rfl,hrl,hra,hu,_,rfl,?_⟩
    cases h2:ke6 T.rs used n with
    |true=>
     rw[h2,if_pos rfl] at k
     exact iteT k
    |false=>
     rw[h2,if_neg Na] at k
     exact iteF k
inductive kip (d:D) (vs:List V) (H:Hp) (Q:VK) (E_:XK):Prop
 |ct (H0:Hp)(w dx t b h:Addr)(hand:List Int)(B:Bask)(_:vs=[.ref w, .ref t, .ref b, .ref h])(_:H0 w=none)(_:Same H0 H)(_:H w=some (.ins d.c_Way dx []))(_:H0 h=some (.lst (hand.map V.int)))(_:BaskIs d.qe d.qf H0 b B)(_:B.rs.length≤12)(_:(∀r∈B.rs,r.Ok))(_:∀(H':Hp)(x:Addr),Same H0 H'→H0 x=none→WayN d 5 H0 H' w t b x hand []→StndIs d.qc H' x (stnd0 B)→Q .non H'):kip d vs H Q E_
theorem kgE:kan ["self","till","basket","hand"] ["self","till","basket","hand"] (kag kdx):=by ac_rfl
theorem kc5(W:WB K mg d base):FO P w W 4 d.Zn d.Zo ["self","till","basket","hand"] (kip d):=by
 exists W.qK.F,kgE
 ·obtain⟨H0,wy,dx,t,b,h,hand,B,rfl,fw,s0,hw,hh,hb,hB,hok,k⟩:=h
  exists Xm,kcr,W
  refine⟨_,kac (kax (pv 0) (pv 1) rfl)
   (kac (kax (pv 0) (pv 2) rfl)
   (kac (kax (pv 0) (kaF (r:=kbd K) kaC (by rfl) W.B.list kbo (kaa (pv 3) kae)) rfl)
   (kac (kax (pv 0) (kaI kae) rfl)
   (kah (kax (pv 0) (ka3 (W.Qd.mk' W.qc) Xm hr rfl W.qc.m W.Qd.b .nil pass0 (kaa (pv 2) kae)) rfl))))),?_⟩
  exists Y4
  refine⟨_,rfl,_,rfl,wy,d.c_Way,dx,[],rfl,hw,W.c_Way.cl,W.qG,by decide,?_⟩
  have s1:Same H0 (upd H wy (.ins d.c_Way dx (putF "till" (.ref t) []))):=kao fw s0 (nx hw)
  have hw1:(upd H wy (.ins d.c_Way dx (putF "till" (.ref t) []))) wy=some (.ins d.c_Way dx (putF "till" (.ref t) [])):=kad
  generalize upd H wy (.ins d.c_Way dx (putF "till" (.ref t) []))=H1 at *
  symm
  exists Y4
  refine⟨_,rfl,_,rfl,wy,d.c_Way,dx,_,rfl,hw1,W.c_Way.cl,W.Qu,few (J5 (kal (n:=0) (J4 _)) (by decide)),?_⟩
  have s2:Same H0 (upd H1 wy (.ins d.c_Way dx (putF "basket" (.ref b) (putF "till" (.ref t) [])))):=kao fw s1 (nx hw1)
  have hw2:(upd H1 wy (.ins d.c_Way dx (putF "basket" (.ref b) (putF "till" (.ref t) [])))) wy=some (.ins d.c_Way dx (putF "basket" (.ref b) (putF "till" (.ref t) []))):=kad
  generalize upd H1 wy (.ins d.c_Way dx (putF "basket" (.ref b) (putF "till" (.ref t) [])))=H2 at *
  symm
  exists Y4
  refine⟨_,rfl,h,_,rfl, .inl (SqL.of (s2 _ _ hh)),fun h' hh'=>?_⟩
  have n3:=kak (o:=.lst (hand.map V.int)) hh'
  have nh:h'≠wy:=(kai hw2 hh').symm
  have s3:=s2.trans n3
  have e3:(upd H2 h' (.lst (hand.map V.int))) h'=some (.lst (hand.map V.int)):=kad
  have hw3:=n3 _ _ hw2
  clear n3
  generalize upd H2 h' (.lst (hand.map V.int))=H3 at *
  symm
  exists Y4
  refine⟨_,rfl,wy,d.c_Way,dx,_,rfl,hw3,W.c_Way.cl,W.Q6,few (J5 (kal (kal (n:=0) (J4 _))) (by decide)),?_⟩
  have s4:Same H0 (upd H3 wy (.ins d.c_Way dx (putF "hand" (.ref h') (putF "basket" (.ref b) (putF "till" (.ref t) []))))):=kao fw s3 (nx hw3)
  have e4:(upd H3 wy (.ins d.c_Way dx (putF "hand" (.ref h') (putF "basket" (.ref b) (putF "till" (.ref t) []))))) h'=some (.lst (hand.map V.int)):=by rw[kaj nh];exact e3
  have hw4:(upd H3 wy (.ins d.c_Way dx (putF "hand" (.ref h') (putF "basket" (.ref b) (putF "till" (.ref t) []))))) wy=some (.ins d.c_Way dx (putF "hand" (.ref h') (putF "basket" (.ref b) (putF "till" (.ref t) [])))):=kad
  generalize upd H3 wy (.ins d.c_Way dx (putF "hand" (.ref h') (putF "basket" (.ref b) (putF "till" (.ref t) []))))=H4 at *
  symm
  exists Y4
  refine⟨by decide,fun u hu=>?_⟩
  have n5:=kak (o:=.lst []) hu
  have nu:u≠wy:=(kai hw4 hu).symm
  have s5:=s4.trans n5
  have e5:=n5 _ _ e4
  have eu5:(upd H4 u (.lst [])) u=some (.lst (([]:List Nat).map iV)):=kad
  have hw5:=n5 _ _ hw4
  clear n5
  generalize upd H4 u (.lst [])=H5 at *
  symm
  exists Y4
  refine⟨_,rfl,wy,d.c_Way,dx,_,rfl,hw5,W.c_Way.cl,W.qR,few (J5 (kal (kal (kal (n:=0) (J4 _)))) (by decide)),?_⟩
  have s6:Same H0 (upd H5 wy (.ins d.c_Way dx (putF "used" (.ref u) (putF "hand" (.ref h') (putF "basket" (.ref b) (putF "till" (.ref t) [])))))):=kao fw s5 (nx hw5)
  have e6:(upd H5 wy (.ins d.c_Way dx (putF "used" (.ref u) (putF "hand" (.ref h') (putF "basket" (.ref b) (putF "till" (.ref t) [])))))) h'=some (.lst (hand.map V.int)):=by rw[kaj nh];exact e5
  have eu6:(upd H5 wy (.ins d.c_Way dx (putF "used" (.ref u) (putF "hand" (.ref h') (putF "basket" (.ref b) (putF "till" (.ref t) [])))))) u=some (.lst (([]:List Nat).map iV)):=by rw[kaj nu];exact eu5
  have hw6:(upd H5 wy (.ins d.c_Way dx (putF "used" (.ref u) (putF "hand" (.ref h') (putF "basket" (.ref b) (putF "till" (.ref t) [])))))) wy=some (.ins d.c_Way dx (putF "used" (.ref u) (putF "hand" (.ref h') (putF "basket" (.ref b) (putF "till" (.ref t) []))))):=kad
  generalize upd H5 wy (.ins d.c_Way dx (putF "used" (.ref u) (putF "hand" (.ref h') (putF "basket" (.ref b) (putF "till" (.ref t) [])))))=H6 at *
  symm
  exists Y4
  refine⟨_,rfl,klH (hb.same s6) hB hok fun H7 x s7 f7 hx=>?_⟩
  have hw7:=s7 _ _ hw6
  have fx:H0 x=none:=s6.free f7
  have nxw:x≠wy:=(kai hw6 f7).symm
  symm
  exists Y4
  refine⟨_,rfl,wy,d.c_Way,dx,_,rfl,hw7,W.c_Way.cl,W.qS,few (J5 (kal (kal (kal (kal (n:=0) (J4 _))))) (by decide)),?_⟩
  symm
  refine k _ x (kao fw (s6.trans s7) (nx hw7)) fx ⟨fw,dx,_,h',u,none_of s2 hh',none_of s4 hu,kad,?_,?_,?_,?_,?_,?_,?_,?_,?_,?_,?_,?_⟩ ?_
  ·ac_nf
  ·ac_nf
  ·ac_nf
  ·ac_nf
  ·ac_nf
  ·ac_nf
   rfl
  ·ac_nf
   rfl
  ·ac_nf
   rfl
  ·ac_nf
   rfl
  ·exact J5 (kal (kal (kal (kal (kal (n:=0) (J4 _)))))) (by decide)
  ·rw[kaj nh];exact s7 _ _ e6
  ·rw[kaj nu];exact s7 _ _ eu6
  ·obtain⟨o,pp,mm,⟨dxs,fss,hxs,q⟩,ho,hpp,hmm⟩:=hx
   symm
   exact⟨o,pp,mm,⟨dxs,fss,by rw[kaj nxw];exact hxs,q⟩,by rw[kaj (ne_of ho hw7 (by intro z;cases z))];exact ho,by rw[kaj (ne_of hpp hw7 (by intro z;cases z))];exact hpp,by rw[kaj (ne_of hmm hw7 (by intro z;cases z))];exact hmm⟩
theorem ki8{d:D}{H:Hp}{t b h:Addr}{hand:List Int}{B:Bask}{R:Addr→Hp→Prop}{E:XK}(hh:H h=some (.lst (hand.map V.int)))(hb:BaskIs d.qe d.qf H b B)(hB:B.rs.length≤12)(hok:∀r∈B.rs,r.Ok)
  (k:∀(H':Hp)(w x:Addr),Same H H'→H w=none→H x=none→WayN d 5 H H' w t b x hand []→StndIs d.qc H' x (stnd0 B)→R w H'):
  ∀w dx,H w=none→H dx=none→dx≠w→kip d [.ref w, .ref t, .ref b, .ref h] (upd (upd H dx (.own w)) w (.ins d.c_Way dx [])) (fun v H2=>v=.non∧R w H2) E:=
 fun w dx nw nd _=>⟨H,w,dx,t,b,h,hand,B,rfl,nw,kaX nw nd,kad,hh,hb,hB,hok,fun H' x s f hW hx=>⟨rfl,k H' w x s nw f hW hx⟩⟩
inductive kfN (d:D) (vs:List V) (H:Hp) (Q:VK) (E_:XK):Prop
 |ct (wy t b x:Addr)(T:TillD)(B:Bask)(S:Stnd)(hand:List Int)(used:List Nat)(n:Nat)(V:Vch)(_:vs=[.ref wy,iV n])(_:WayIs d H wy t b x hand used)(_:TillIs d H t T)(_:BaskIs d.qe d.qf H b B)(_:StndIs d.qc H x S)(_:Wf T.ps B S)(_:VchOk T.ps V)(_:T.vs[n]?=some V)(_:hand.length=T.vs.length)(_:∀(H':Hp),Same H H'→Q (dueM V T B hand used S n) H'):kfN d vs H Q E_
theorem VJ:kan ["self","number","word"] ["self","number"] (kag kb6):=by ac_rfl
theorem kcF(W:WB K mg d base):FO P w W 5 d.Zp d.Zq ["self","number"] (kfN d):=by
 exists W.Qe.F,VJ
 ·obtain⟨wy,t,b,x,T,B,S,hand,used,n,Vc,rfl,hW,hT,hB,hS,wf,vo,hn,hl,k⟩:=h
  obtain⟨dxw,fsw,h,u,hw,w1,w2,w3,w4,w5,w6,w7,w8,w9,w10,hh,hu⟩:=id hW
  obtain⟨dx,fs,p,vl,rl,va,ra,ht,t1,t2,t3,t4,hp,hvl,hva,hrl,hra⟩:=id hT
  exists UC,kdV,W
  exists UD,kf7,W
  exists hr2,2,hr,0
  refine⟨_,kac (psl (i:=2) VJ.nd (pcl UC hr2 W.ZO (kaa (kam (K:=K) (pv 0) rfl) (kaa (kam (K:=K) (pv 0) rfl) (kaa (kam (K:=K) (pv 0) rfl) (kaa (pv 1) kae))))))
   (kac (ps_if (kas kck (pv 2) ka0 (kav _)) (kah (kap (pv 2))) (kat))
   (kah (kap (pcl UD hr W.ZG (kaa (pe_ix (r:=rIxL K) kaG (kam (K:=K) (kam (K:=K) (pv 0) rfl) rfl) (pv 1) (fun _ _=>rfl)) (kaa (kam (K:=K) (kam (K:=K) (pv 0) rfl) rfl) (kaa (kam (K:=K) (pv 0) rfl) (kaa (kam (K:=K) (pv 0) rfl) kae)))))))),?_⟩
  obtain⟨v,ev⟩:=at_of (xs:=va) (i:=n) (by rw[hva.len];exact at_lt hn)
  obtain⟨Vc',eV',hV⟩:=hva.at ev
  rw[hn] at eV'
  cases eV'
  refine⟨_,rfl,wy,d.c_Way,dxw,fsw,_,rfl,hw,W.c_Way.cl,W.qG,w1,_,rfl,wy,d.c_Way,dxw,fsw,_,rfl,hw,W.c_Way.cl,W.Q6,w3,_,rfl,wy,d.c_Way,dxw,fsw,_,rfl,hw,W.c_Way.cl,W.qR,w4,_,rfl,t,h,u,T,hand,used,n,Vc,rfl,hT,hh,hu,hn,hl,?_⟩
  unfold dueM at k
  cases e:wordM Vc T.rs hand used n with
  |some z=>
   rw[e] at k
   refine⟨_,rfl,rfl,_,rfl,?_⟩
   show if(!decide (V.str z=V.non))=true then _ else _
   rw[show(!decide (V.str z=V.non))=true by simp]
   exact iteT ⟨_,rfl,k H (Same.refl _)⟩
  |none=>
   rw[e] at k
   refine⟨_,rfl,rfl,_,rfl,?_⟩
   show if(!decide (V.non=V.non))=true then _ else _
   rw[show(!decide (V.non=V.non))=false by simp]
   refine iteF ⟨_,rfl,wy,d.c_Way,dxw,fsw,_,rfl,hw,W.c_Way.cl,W.qG,w1,t,d.qd,dx,fs,_,rfl,ht,W.qd.cl,W.qx,t2,_,rfl,vl,_,_,_,rfl,rfl,SqL.of hvl,kbe (v:=.ref v) (by rw[Nc,ev];rfl),?_⟩
   refine⟨_,rfl,wy,d.c_Way,dxw,fsw,_,rfl,hw,W.c_Way.cl,W.qG,w1,t,d.qd,dx,fs,_,rfl,ht,W.qd.cl,W.Qg,t1,_,rfl,wy,d.c_Way,dxw,fsw,_,rfl,hw,W.c_Way.cl,W.Qu,w2,_,rfl,wy,d.c_Way,dxw,fsw,_,rfl,hw,W.c_Way.cl,W.qS,w5,?_⟩
   exact⟨v,p,b,x,Vc,T.ps,B,S,rfl,hV,SqL.of hp,hB,hS,wf,vo,k⟩
inductive khg (d:D) (vs:List V) (H:Hp) (Q:VK) (E_:XK):Prop
 |ct (wy t b x:Addr)(T:TillD)(B:Bask)(S:Stnd)(hand:List Int)(used:List Nat)(n:Nat)(V:Vch)(_:vs=[.ref wy,iV n])(_:WayIs d H wy t b x hand used)(_:TillIs d H t T)(_:BaskIs d.qe d.qf H b B)(_:StndIs d.qc H x S)(_:Wf T.ps B S)(_:VchOk T.ps V)(_:T.vs[n]?=some V)(_:used.length<64)(_:∀(H':Hp)(wy' x':Addr),Same H H'→H wy'=none→WayN d 7 H H' wy' t b x' hand (used++[n])→StndN d.qc H H' x' (aftM V T.ps (kds B) S)→Q (.ref wy') H'):khg d vs H Q E_
theorem VL:kan ["self","number","further"] ["self","number"] (kag kcB):=by ac_rfl
theorem kdj(W:WB K mg d base):FO P w W 6 d.Zr d.Zs ["self","number"] (khg d):=by
 exists W.Qf.F,VL
 ·obtain⟨wy,t,b,x,T,B,S,hand,used,n,Vc,rfl,hW,hT,hB,hS,wf,vo,hn,hl,k⟩:=h
  obtain⟨dxw,fsw,h,u,hw,w1,w2,w3,w4,w5,w6,w7,w8,w9,w10,hh,hu⟩:=id hW
  obtain⟨dx,fs,p,vl,rl,va,ra,ht,t1,t2,t3,t4,hp,hvl,hva,hrl,hra⟩:=id hT
  exists Qj,kc5,W
  exists UE,kj8,W
  refine⟨_,kac (psl (i:=2) VL.nd (ka3 (W.qK.mk' W.c_Way) Qj hr rfl W.c_Way.m W.qK.b .nil pass0 (kaa (kam (K:=K) (pv 0) rfl) (kaa (kam (K:=K) (pv 0) rfl) (kaa (kam (K:=K) (pv 0) rfl) kae)))))
   (kac (kax (pv 2) (pe_op ki4 (kam (K:=K) (pv 0) rfl) (kaI (kaa (pv 1) kae))) rfl)
   (kac (kax (pv 2) (pcl UE hr W.ZI (kaa (pe_ix (r:=rIxL K) kaG (kam (K:=K) (kam (K:=K) (pv 0) rfl) rfl) (pv 1) (fun _ _=>rfl)) (kaa (kam (K:=K) (kam (K:=K) (pv 0) rfl) rfl) (kaa (kam (K:=K) (pv 0) rfl) (kaa (kam (K:=K) (pv 0) rfl) kae))))) rfl)
   (kah (kap (pv 2))))),?_⟩
  obtain⟨v,ev⟩:=at_of (xs:=va) (i:=n) (by rw[hva.len];exact at_lt hn)
  obtain⟨Vc',eV',hV⟩:=hva.at ev
  rw[hn] at eV'
  cases eV'
  exists Y4
  refine⟨_,rfl,wy,d.c_Way,dxw,fsw,_,rfl,hw,W.c_Way.cl,W.qG,w1,_,rfl,wy,d.c_Way,dxw,fsw,_,rfl,hw,W.c_Way.cl,W.Qu,w2,_,rfl,wy,d.c_Way,dxw,fsw,_,rfl,hw,W.c_Way.cl,W.Q6,w3,ki8 hh hB wf.nl wf.ok fun H1 y x1 s1 fy fx1 hy hx1=>?_⟩
  obtain⟨_,dxy,fsy,h1,u1,fh1,_,hyy,y1,y2,y3,y4,y5,y6,y7,y8,y9,y10,hh1,hu1⟩:=hy
  symm
  exists Y4
  refine⟨_,rfl,wy,d.c_Way,dxw,fsw,_,rfl,s1 _ _ hw,W.c_Way.cl,W.qR,w4,_,rfl,(by show 1≤sizeLine;decide),fun q1 hq1=>?_⟩
  have n2:=kak (o:=.lst [iV n]) hq1
  have eq1:(upd H1 q1 (.lst [iV n])) q1=some (.lst [iV n]):=kad
  have s2:=s1.trans n2
  have hy2:=n2 _ _ hyy
  have hh2:=n2 _ _ hh1
  clear n2
  generalize upd H1 q1 (.lst [iV n])=H2 at *
  symm
  exists Y4
  refine⟨u,q1,_,_,rfl,rfl,s2 _ _ hu,eq1,Ng (kaq (by rw[JY];show _+1≤1000;omega)),fun q2 hq2=>?_⟩
  have n3:=kak (o:=.lst (used.map iV++[iV n])) hq2
  have eq2:(upd H2 q2 (.lst (used.map iV++[iV n]))) q2=some (.lst ((used++[n]).map iV)):=by rw[kad,J9];rfl
  have s3:=s2.trans n3
  have hy3:=n3 _ _ hy2
  have hh3:=n3 _ _ hh2
  have nq2:q2≠y:=(kai hy2 hq2).symm
  clear n3
  generalize upd H2 q2 (.lst (used.map iV++[iV n]))=H3 at *
  have nh1:h1≠y:=ne_of hh3 hy3 (by intro z;cases z)
  symm
  exists Y4
  refine⟨_,rfl,y,d.c_Way,dxy,fsy,rfl,hy3,W.c_Way.cl,W.qR,few (J5 y10 (by decide)),?_⟩
  have s4:Same H (upd H3 y (.ins d.c_Way dxy (putF "used" (.ref q2) fsy))):=kao fy s3 (nx hy3)
  have eq4:(upd H3 y (.ins d.c_Way dxy (putF "used" (.ref q2) fsy))) q2=some (.lst ((used++[n]).map iV)):=by rw[kaj nq2];exact eq2
  have hh4:(upd H3 y (.ins d.c_Way dxy (putF "used" (.ref q2) fsy))) h1=some (.lst (hand.map V.int)):=by rw[kaj nh1];exact hh3
  have hy4:(upd H3 y (.ins d.c_Way dxy (putF "used" (.ref q2) fsy))) y=some (.ins d.c_Way dxy (putF "used" (.ref q2) fsy)):=kad
  generalize upd H3 y (.ins d.c_Way dxy (putF "used" (.ref q2) fsy))=H4 at *
  symm
  exists Y4
  refine⟨_,rfl,wy,d.c_Way,dxw,fsw,_,rfl,s4 _ _ hw,W.c_Way.cl,W.qG,w1,t,d.qd,dx,fs,_,rfl,s4 _ _ ht,W.qd.cl,W.qx,t2,_,rfl,vl,_,_,_,rfl,rfl,SqL.of (s4 _ _ hvl),kbe (v:=.ref v) (by rw[Nc,ev];rfl),?_⟩
  symm
  exists Y4
  refine⟨_,rfl,wy,d.c_Way,dxw,fsw,_,rfl,s4 _ _ hw,W.c_Way.cl,W.qG,w1,t,d.qd,dx,fs,_,rfl,s4 _ _ ht,W.qd.cl,W.Qg,t1,_,rfl,wy,d.c_Way,dxw,fsw,_,rfl,s4 _ _ hw,W.c_Way.cl,W.Qu,w2,_,rfl,wy,d.c_Way,dxw,fsw,_,rfl,s4 _ _ hw,W.c_Way.cl,W.qS,w5,?_⟩
  symm
  exists Y4
  refine⟨v,p,b,x,Vc,T.ps,B,S,rfl,hV.same s4,SqL.of (s4 _ _ hp),hB.same s4,hS.same s4,wf,vo,fun H5 x' s5 f5 ⟨_,o,pp,mm,⟨dxs,fss,hxs,q⟩,fo,fpp,fmm,ho,hpp,hmm⟩=>?_⟩
  have hy5:=s5 _ _ hy4
  have hh5:=s5 _ _ hh4
  have eq5:=s5 _ _ eq4
  have nx':x'≠y:=(kai hy4 f5).symm
  symm
  exists Y4
  refine⟨_,rfl,y,d.c_Way,dxy,_,rfl,hy5,W.c_Way.cl,W.qS,few (J5 (kal y10) (by decide)),?_⟩
  symm
  exists Y4
  refine⟨_,rfl,k _ y x' (kao fy (s4.trans s5) (nx hy5)) fy ⟨fy,dxy,_,h1,q2,fh1,none_of s2 hq2,kad,?_,?_,?_,?_,?_,?_,?_,?_,?_,?_,?_,?_⟩ ?_⟩
  ·ac_nf
   symm
   exact y1
  ·ac_nf
   symm
   exact y2
  ·ac_nf
   symm
   exact y3
  ·ac_nf
  ·ac_nf
  ·ac_nf
   symm
   exact y6
  ·ac_nf
   symm
   exact y7
  ·ac_nf
   symm
   exact y8
  ·ac_nf
   symm
   exact y9
  ·exact J5 (kal (kal y10)) (by decide)
  ·rw[kaj nh1];exact hh5
  ·rw[kaj nq2];exact eq5
  ·exact⟨none_of s4 f5,o,pp,mm,⟨dxs,fss,by rw[kaj nx'];exact hxs,q⟩,none_of s4 fo,none_of s4 fpp,none_of s4 fmm,by rw[kaj (ne_of ho hy5 (by intro z;cases z))];exact ho,by rw[kaj (ne_of hpp hy5 (by intro z;cases z))];exact hpp,by rw[kaj (ne_of hmm hy5 (by intro z;cases z))];exact hmm⟩
inductive kiv (d:D) (vs:List V) (H:Hp) (Q:VK) (E_:XK):Prop
 |ct (wy t b x:Addr)(T:TillD)(hand:List Int)(used:List Nat)(_:vs=[.ref wy])(_:WayIs d H wy t b x hand used)(_:TillIs d H t T)(_:Q (.bl (onlyM T.rs used).isNone) H):kiv d vs H Q E_
theorem kdR:kan ["self"] ["self"] (kag kbL):=by ac_rfl
theorem kdY(W:WB K mg d base):FO P w W 2 d.Zt d.Zu ["self"] (kiv d):=by
 exists W.Q7.F,kdR
 ·obtain⟨wy,t,b,x,T,hand,used,rfl,hW,hT,k⟩:=h
  obtain⟨dxw,fsw,h,u,hw,w1,w2,w3,w4,w5,w6,w7,w8,w9,w10,hh,hu⟩:=id hW
  obtain⟨dx,fs,p,vl,rl,va,ra,ht,t1,t2,t3,t4,hp,hvl,hva,hrl,hra⟩:=id hT
  exists UF,kdg,W
  refine⟨_,kah (kap (kbm keY (pcl UF hr W.ZR (kaa (kam (K:=K) (kam (K:=K) (pv 0) rfl) rfl) (kaa (kam (K:=K) (pv 0) rfl) kae))) ka0 (kav _))),?_⟩
  refine⟨_,rfl,wy,d.c_Way,dxw,fsw,_,rfl,hw,W.c_Way.cl,W.qG,w1,t,d.qd,dx,fs,_,rfl,ht,W.qd.cl,W.qL,t3,_,rfl,wy,d.c_Way,dxw,fsw,_,rfl,hw,W.c_Way.cl,W.qR,w4,rl,u,ra,T.rs,used,rfl,hrl,hra,hu,rfl,?_⟩
  cases e:onlyM T.rs used with
  |none=>
   rw[e] at k
   show Q (.bl (decide (V.non=V.non))) H
   rw[show decide (V.non=V.non)=true by simp]
   exact k
  |some z=>
   rw[e] at k
   show Q (.bl (decide (V.int (z:Int)=V.non))) H
   rw[show decide (V.int (z:Int)=V.non)=false by simp]
   exact k
noncomputable def walkM(T:TillD)(B:Bask)(hand:List Int):List Nat→List Nat→Stnd→List Nat×Stnd
 |[],used,S=>(used,S)
 |n::ns,used,S=>match T.vs[n]? with
  |none=>(used,S)
  |some V=>if dueM V T B hand used S n=.non then walkM T B hand ns (used++[n]) (aftM V T.ps (kds B) S) else(used,S)
inductive kiq (d:D) (vs:List V) (H:Hp) (Q:VK) (E_:XK):Prop
 |ct (t b h o:Addr)(T:TillD)(B:Bask)(hand:List Int)(order:List Nat)(_:vs=[.ref t, .ref b, .ref h, .ref o])(_:TillIs d H t T)(_:kcP T)(_:BaskIs d.qe d.qf H b B)(_:Wf T.ps B (stnd0 B))(_:H h=some (.lst (hand.map V.int)))(_:H o=some (.lst (order.map iV)))(_:hand.length=T.vs.length)(_:(∀n∈order,n<T.vs.length))(_:order.length<64)(_:∀(H':Hp)(wy x:Addr),Same H H'→H wy=none→WayIs d H' wy t b x hand (walkM T B hand order [] (stnd0 B)).1→StndIs d.qc H' x (walkM T B hand order [] (stnd0 B)).2→Wf T.ps B (walkM T B hand order [] (stnd0 B)).2→Q (.ref wy) H'):kiq d vs H Q E_
theorem QC:kan ["till","basket","hand","order","way","number"] ["till","basket","hand","order"] (kag kfi):=by ac_rfl
theorem ki5(W:WB K mg d base):FO P w W 7 d.Yd d.Ye ["till","basket","hand","order"] (kiq d):=by
 exists W.ZN.F,QC
 ·obtain⟨t,b,h,o,T,B,hand,order,rfl,hT,tok,hB,wf0,hh,ho,hl,hlt,h64,k⟩:=h
  exists Qj,kc5,W
  exists Xn,kcF,W
  exists Xo,kdj,W
  exists hr5,5,hr,0
  refine⟨_,kac (psl (i:=4) QC.nd (ka3 (W.qK.mk' W.c_Way) Qj hr5 rfl W.c_Way.m W.qK.b .nil pass0 (kaa (pv 0) (kaa (pv 1) (kaa (pv 2) kae)))))
   (kac (kbx PassesOwn.never rfl (kaH (K:=K) (pv 3)) (pgn (i:=5) QC.nd)
   (kac (ps_if (kas kck (kfo (pv 4) W.c_Way.cl W.Qe.me Xn hr5 W.Qe.b .nil pass0 (kaa (pv 5) kae)) ka0 (kav _)) (kah (kap (pv 4))) (kat))
   (kah (psl (i:=4) QC.nd (kfo (pv 4) W.c_Way.cl W.Qf.me Xo hr W.Qf.b .nil pass0 (kaa (pv 5) kae))))))
   (kah (kap (pv 4)))),?_⟩
  generalize eR:walkM T B hand order [] (stnd0 B)=R at k
  exists Y4
  refine⟨_,rfl,_,rfl,_,rfl,ki8 hh hB wf0.nl wf0.ok fun H1 y0 x0 s1 fy0 fx0 hy0N hx0=>?_⟩
  have hy0:=hy0N.at
  symm
  exists Y4
  refine⟨_,rfl,o,rfl,⟨_,SqL.of (s1 _ _ ho)⟩,kbX (xs:=order.map iV) (fun i σ H'=>Same H H'∧∃(y x:Addr)(used:List Nat)(S:Stnd)(v5:Option V),WayIs d H' y t b x hand used∧H y=none∧StndIs d.qc H' x S∧Wf T.ps B S∧used.length=i∧walkM T B hand (order.drop i) used S=R∧σ=[some (.ref t),some (.ref b),some (.ref h),some (.ref o),some (.ref y),v5])
   ⟨s1,y0,x0,[],_,none,hy0.most (by decide),fy0,hx0,wf0,rfl,eR,rfl⟩ (fun i σ H' _ h=>SqL.of (h.1 _ _ ho)) ?_ ?_⟩
  ·rintro i yv σ H' hyv ⟨sI,y,x,used,S,v5,hY,fy,hx,wf,hul,hwalk,rfl⟩
   obtain⟨n,en,rfl⟩:∃n,order[i]?=some n∧yv=iV n:=kbQ hyv
   have hi:=at_lt en
   obtain⟨Vc,hV⟩:=at_of (hlt n (Nb en))
   have vo:=tok.vs Vc (Nb hV)
   have ed:order.drop i=n::order.drop (i+1):=by
    obtain⟨h1,h2⟩:=Nh.mp en
    rw[Dc h1,h2]
   rw[ed] at hwalk
   have hwk:=hwalk
   unfold walkM at hwk
   rw[hV] at hwk
   simp only at hwk
   obtain⟨dxw,fsw,hd,u,hw,w1,w2,w3,w4,w5,w6,w7,w8,w9,w10,hh',hu⟩:=id hY
   symm
   exists Y6
   refine⟨_,rfl,y,dxw,fsw,rfl,hw,w6,_,rfl,y,t,b,x,T,B,S,hand,used,n,Vc,rfl,hY,hT.same sI,hB.same sI,hx,wf,vo,hV,hl,fun H2 s2=>⟨rfl,_,rfl,?_⟩⟩
   have s02:=sI.trans s2
   by_cases hn:dueM Vc T B hand used S n=.non
   ·rw[if_pos hn] at hwk
    rw[hn]
    rw[show(!decide (V.non=V.non))=false by simp]
    refine iteF ?_
    nofun
    exists Y8
    refine⟨_,rfl,y,dxw,fsw,rfl,s2 _ _ hw,w7,_,rfl,y,t,b,x,T,B,S,hand,used,n,Vc,rfl,hY.same s2,hT.same s02,hB.same s02,hx.same s2,wf,vo,hV,by omega,fun H3 y' x' s3 fy' hY1 hx1=>?_⟩
    have hY':=hY1.at
    have hx':=hx1.is
    exists 3
    exact⟨s02.trans s3,y',x',used++[n],_,_,hY',s02.free fy',hx',wf.after vo,by rw[Np,hul];rfl,hwk,rfl⟩
   ·rw[if_neg hn] at hwk
    rw[show(!decide (dueM Vc T B hand used S n=V.non))=true by simp[hn]]
    refine iteT ?_
    exists 3
    exists Y8
    refine⟨_,rfl,k H2 y x s02 fy ?_ ?_ ?_⟩
    ·rw[←hwk];exact hY.same s2
    ·rw[←hwk];exact hx.same s2
    ·rw[←hwk];exact wf
  ·rintro σ H' ⟨sI,y,x,used,S,v5,hY,fy,hx,wf,hul,hwalk,rfl⟩
   rw[JY,List.drop_length] at hwalk
   have hwk:=hwalk
   unfold walkM at hwk
   nofun
   exists Y6
   refine⟨_,rfl,k H' y x sI fy ?_ ?_ ?_⟩
   ·rw[←hwk];exact hY
   ·rw[←hwk];exact hx
   ·rw[←hwk];exact wf
noncomputable def ka9(T:TillD)(B:Bask)(hand:List Int)(order:List Nat):Option (Nat×L2.V):=
 let r:=walkM T B hand order [] (stnd0 B)
 if r.1.length<order.length then match T.vs[order.getD r.1.length 0]? with
  |none=>none
  |some V=>some (r.1.length,dueM V T B hand r.1 r.2 (order.getD r.1.length 0))
 else if(onlyM T.rs r.1).isNone=true then none else some (r.1.length, .str "only")
noncomputable def FltIs(H:Hp)(v:L2.V):Option (Nat×L2.V)→Prop
 |none=>v=.non
 |some (k,z)=>∃a,v=.ref a∧H a=some (.tup [iV k,z])
inductive kiz (d:D) (vs:List V) (H:Hp) (Q:VK) (E_:XK):Prop
 |ct (t b h o:Addr)(T:TillD)(B:Bask)(hand:List Int)(order:List Nat)(_:vs=[.ref t, .ref b, .ref h, .ref o])(_:TillIs d H t T)(_:kcP T)(_:BaskIs d.qe d.qf H b B)(_:Wf T.ps B (stnd0 B))(_:H h=some (.lst (hand.map V.int)))(_:H o=some (.lst (order.map iV)))(_:hand.length=T.vs.length)(_:(∀n∈order,n<T.vs.length))(_:order.length<64)(_:∀(H':Hp)(v:L2.V),Same H H'→FltIs H' v (ka9 T B hand order)→Q v H'):kiz d vs H Q E_
theorem Xp:kan ["till","basket","hand","order","way","place"] ["till","basket","hand","order"] (kag kgH):=by ac_rfl
theorem kdh(W:WB K mg d base):FO P w W 8 d.Yb d.Yc ["till","basket","hand","order"] (kiz d):=by
 exists W.qO.F,Xp
 ·obtain⟨t,b,h,o,T,B,hand,order,rfl,hT,tok,hB,wf0,hh,ho,hl,hlt,h64,k⟩:=h
  exists UG,ki5,W
  exists Xn,kcF,W
  exists UH,kdY,W
  exists hr2,2,hr,0
  exists hr5,5,hr,0
  refine⟨_,kac (psl (i:=4) Xp.nd (pcl UG hr W.ZN (kaa (pv 0) (kaa (pv 1) (kaa (pv 2) (kaa (pv 3) kae))))))
   (kac (psl (i:=5) Xp.nd (kau (r:=kba K) kaz (by rfl) W.B.len b_len (kaa (kam (K:=K) (pv 4) rfl) kae)))
   (kac (ps_if (kas op_lt (pv 5) (kau (r:=kba K) kaz (by rfl) W.B.len b_len (kaa (pv 3) kae)) (kav _)) (kah (kap (kb9 (kaa (pv 5) (kaa (kfo (pv 4) W.c_Way.cl W.Qe.me Xn hr5 W.Qe.b .nil pass0 (kaa (pe_ix (r:=rIxL K) kaG (pv 3) (pv 5) (fun _ _=>rfl)) kae)) kae))))) (kat))
   (kac (ps_if (kcT (kaU (khq (pv 4) W.c_Way.cl W.Q7.me UH hr2 W.Q7.b .nil pass0))) (kah (kap (kb9 (kaa (pv 5) (kaa kbz kae))))) (kat))
   (kah (kap ka0))))),?_⟩
  exists Y4
  refine⟨_,rfl,_,rfl,_,rfl,_,rfl,t,b,h,o,T,B,hand,order,rfl,hT,tok,hB,wf0,hh,ho,hl,hlt,h64,fun H1 y x s1 fy hY hx wf=>?_⟩
  unfold ka9 at k
  simp only at k
  generalize walkM T B hand order [] (stnd0 B)=r at *
  obtain⟨used,S⟩:=r
  simp only at *
  obtain⟨dxw,fsw,hd,u,hw,w1,w2,w3,w4,w5,w6,w7,w8,w9,w10,hh',hu⟩:=id hY
  symm
  exists Y4
  refine⟨_,rfl,y,d.c_Way,dxw,fsw,_,rfl,hw,W.c_Way.cl,W.qR,w4,u,_,rfl, .inl (SqL.of hu),?_⟩
  rw[JY]
  symm
  exists Y4
  refine⟨_,rfl,_,rfl,o,_,rfl, .inl (SqL.of (s1 _ _ ho)),_,_,rfl,rfl,_,rfl,?_⟩
  rw[JY]
  by_cases hlen:used.length<order.length
  ·rw[if_pos hlen] at k
   rw[show decide ((used.length:Int)<(order.length:Int))=true by simp;exact hlen]
   obtain⟨n,en⟩:=at_of hlen
   have eg:order.getD used.length 0=n:=by rw[Nm,en];rfl
   obtain⟨Vc,hV⟩:=at_of (hlt n (Nb en))
   rw[eg,hV] at k
   have vo:=tok.vs Vc (Nb hV)
   refine iteT ?_
   symm
   exists Y6
   refine⟨_,rfl,_,rfl,y,dxw,fsw,rfl,hw,w6,_,rfl,_,rfl,o,_,_,_,rfl,rfl,SqL.of (s1 _ _ ho),kbe (v:=iV n) (by rw[Nc,en];rfl),y,t,b,x,T,B,S,hand,used,n,Vc,rfl,hY,hT.same s1,hB.same s1,hx,wf,vo,hV,hl,fun H2 s2=>?_⟩
   nofun
   exists Y6
   refine⟨(by show 2≤sizeLine;decide),fun q hq=>?_⟩
   nofun
   exact k _ _ ((s1.trans s2).trans (kak hq)) ⟨q,rfl,kad⟩
  ·rw[if_neg hlen] at k
   rw[show decide ((used.length:Int)<(order.length:Int))=false by simp;omega]
   refine iteF ?_
   nofun
   exists Y6
   refine⟨_,rfl,y,dxw,fsw,rfl,hw,w8,y,t,b,x,T,hand,used,rfl,hY,hT.same s1,_,rfl,?_⟩
   cases e:(onlyM T.rs used).isNone with
   |true=>
    rw[e,if_pos rfl] at k
    refine iteF ?_
    nofun
    exact k H1 _ s1 rfl
   |false=>
    rw[e,if_neg Na] at k
    refine iteT ?_
    nofun
    exists Y8
    refine⟨_,rfl,(by show 2≤sizeLine;decide),fun q hq=>?_⟩
    exists 3
    exact k _ _ (s1.trans (kak hq)) ⟨q,rfl,kad⟩
structure Step where
 n:Nat
 cs:List Int
 c:Int
noncomputable def StepIs(H:Hp)(a:Addr)(s:Step):Prop:=∃l,H a=some (.tup [iV s.n, .ref l, .int s.c])∧H l=some (.lst (s.cs.map V.int))
theorem StepIs.same{H H':Hp}{a:Addr}{t:Step}(s:Same H H'):StepIs H a t→StepIs H' a t:=fun⟨l,h1,h2⟩=>⟨l,s _ _ h1,s _ _ h2⟩
noncomputable def StepN(H0 H:Hp)(a:Addr)(s:Step):Prop:=H0 a=none∧∃l,H0 l=none∧H a=some (.tup [iV s.n, .ref l, .int s.c])∧H l=some (.lst (s.cs.map V.int))
theorem StepN.same{H0 H H':Hp}{a:Addr}{t:Step}(s:Same H H'):StepN H0 H a t→StepN H0 H' a t:=fun⟨f,l,g,h1,h2⟩=>⟨f,l,g,s _ _ h1,s _ _ h2⟩
theorem StepN.but{H0 H H':Hp}{a x:Addr}{t:Step}(b:But x H H')(hx:H0 x≠none):StepN H0 H a t→StepN H0 H' a t:=fun⟨f,l,g,h1,h2⟩=>⟨f,l,g,b _ _ (fun e=>hx (e▸f)) h1,b _ _ (fun e=>hx (e▸g)) h2⟩
structure BillD where
 order:List Nat
 steps:List Step
 pr:List Int
 cg:Int
 total:Int
inductive BillIs (d:D) (H0 H:Hp) (b:Addr) (B:BillD):Prop
 |ct (dx:Addr)(fs:List (Str×V))(o s p:Addr)(sa:List Addr)(_:H b=some (.ins d.qj dx fs))(_:fs.lookup ("order" :Str)=some (.ref o))(_:fs.lookup ("steps" :Str)=some (.ref s))(_:fs.lookup ("prices" :Str)=some (.ref p))(_:fs.lookup ("carriage" :Str)=some (.int B.cg))(_:fs.lookup ("total" :Str)=some (.int B.total))(_:H0 b=none)(_:H0 o=none)(_:H0 s=none)(_:H0 p=none)(_:H o=some (.lst (B.order.map iV)))(_:H s=some (.lst (sa.map V.ref)))(_:P2 (fun a t=>StepN H0 H a t) sa B.steps)(_:H p=some (.lst (B.pr.map V.int))):BillIs d H0 H b B
theorem BillIs.same{d:D}{H0 H H':Hp}{b:Addr}{B:BillD}(z:Same H H'):BillIs d H0 H b B→BillIs d H0 H' b B:=fun⟨dx,fs,o,s,p,sa,h1,h2,h3,h4,h5,h6,f1,f2,f3,f4,h7,h8,h9,h10⟩=>
 ⟨dx,fs,o,s,p,sa,z _ _ h1,h2,h3,h4,h5,h6,f1,f2,f3,f4,z _ _ h7,z _ _ h8,h9.mono fun a t h=>h.same z,z _ _ h10⟩
theorem BillIs.but{d:D}{H0 H H':Hp}{b x:Addr}{B:BillD}(z:But x H H')(hx:H0 x≠none):BillIs d H0 H b B→BillIs d H0 H' b B:=fun⟨dx,fs,o,s,p,sa,h1,h2,h3,h4,h5,h6,f1,f2,f3,f4,h7,h8,h9,h10⟩=>
 ⟨dx,fs,o,s,p,sa,z _ _ (fun e=>hx (e▸f1)) h1,h2,h3,h4,h5,h6,f1,f2,f3,f4,z _ _ (fun e=>hx (e▸f2)) h7,z _ _ (fun e=>hx (e▸f3)) h8,h9.mono fun a t h=>h.but z hx,z _ _ (fun e=>hx (e▸f4)) h10⟩
inductive kgB (d:D) (vs:List V) (H:Hp) (Q:VK) (E_:XK):Prop
 |ct (H0:Hp)(b dx o s x:Addr)(order:List Nat)(steps:List Step)(S:Stnd)(sa:List Addr)(_:vs=[.ref b, .ref o, .ref s, .ref x])(_:H0 b=none)(_:Same H0 H)(_:H b=some (.ins d.qj dx []))(_:H0 o=some (.lst (order.map iV)))(_:H0 s=some (.lst (sa.map V.ref)))(_:P2 (fun a t=>StepIs H0 a t) sa steps)(_:steps.length<64)(_:StndIs d.qc H0 x S)(_:∀H',Same H0 H'→BillIs d H0 H' b ⟨order,steps,S.pr,S.cg,S.pr.sum+S.cg⟩→Q .non H'):kgB d vs H Q E_
theorem kf0:kan ["self","order","steps","standing"] ["self","order","steps","standing"] (kag kc2):=by ac_rfl
theorem kgb(W:WB K mg d base):FO P w W 2 d.Zv d.Zw ["self","order","steps","standing"] (kgB d):=by
 exists W.Q9.F,kf0
 ·obtain⟨H0,b,dx,o,st,x,order,steps,S,sa,rfl,fb,s0,hb,ho,hst,hsa,h64,hS,kk⟩:=h
  obtain⟨ow,pp,mm,⟨dxs,fss,hxs,l1,l2,l3,l4,l5⟩,how,hpp,hmm⟩:=id hS
  exists UI,kdD,W
  refine⟨_,kac (kax (pv 0) (kaF (r:=kbd K) kaC (by rfl) W.B.list kbo (kaa (pv 1) kae)) rfl)
   (kac (kax (pv 0) (ka6 (N:=["number","piece_cuts","carriage_cut"]) (CompScope.plain rfl (by decide +kernel) (by decide +kernel) (by decide +kernel) (show(["number","piece_cuts","carriage_cut"]:List Str).Nodup by decide +kernel)) rfl (kaH (K:=K) (pv 2)) (fun _ _ _ _=>kbl (K:=K) (n:=3) rfl (kaw (pgn (i:=0) (show(["number","piece_cuts","carriage_cut"]:List Str).Nodup by decide +kernel)) (kaw (pgn (i:=1) (show(["number","piece_cuts","carriage_cut"]:List Str).Nodup by decide +kernel)) (kaw (pgn (i:=2) (show(["number","piece_cuts","carriage_cut"]:List Str).Nodup by decide +kernel)) kbk)))) (fun _ _ _ _=>(kb9 (kaa (pv 0) (kaa (kaF (r:=kbd K) kaC (by rfl) W.B.list kbo (kaa (pv 1) kae)) (kaa (pv 2) kae)))))) rfl)
   (kac (kax (pv 0) (kaF (r:=kbd K) kaC (by rfl) W.B.list kbo (kaa (kam (K:=K) (pv 3) rfl) kae)) rfl)
   (kac (kax (pv 0) (kam (K:=K) (pv 3) rfl) rfl)
   (kah (kax (pv 0) (khq (pv 3) W.qc.cl W.Q5.me UI hr W.Q5.b .nil pass0) rfl))))),?_⟩
  exists Y4
  refine⟨_,rfl,o,_,rfl, .inl (SqL.of (s0 _ _ ho)),fun o' ho'=>?_⟩
  have n1:=kak (o:=.lst (order.map iV)) ho'
  have fo:=s0.free ho'
  have no:o'≠b:=(kai hb ho').symm
  have e1:(upd H o' (.lst (order.map iV))) o'=some (.lst (order.map iV)):=kad
  have s1:=s0.trans n1
  have hb1:=n1 _ _ hb
  clear n1
  generalize upd H o' (.lst (order.map iV))=H1 at *
  symm
  exists Y4
  refine⟨_,rfl,b,d.qj,dx,[],rfl,hb1,W.qj.cl,W.VV,by decide,?_⟩
  have s2:Same H0 (upd H1 b (.ins d.qj dx (putF "order" (.ref o') []))):=kao fb s1 (nx hb1)
  have e2:(upd H1 b (.ins d.qj dx (putF "order" (.ref o') []))) o'=some (.lst (order.map iV)):=by rw[kaj no];exact e1
  have hb2:(upd H1 b (.ins d.qj dx (putF "order" (.ref o') []))) b=some (.ins d.qj dx (putF "order" (.ref o') [])):=kad
  generalize upd H1 b (.ins d.qj dx (putF "order" (.ref o') []))=H2 at *
  symm
  exists Y4
  refine⟨_,rfl,st,rfl,⟨_,SqL.of (s2 _ _ hst)⟩,kaS (xs:=sa.map V.ref) (fun i σ ys H'=>Same H2 H'∧∃(ta:List Addr)(v0 v1 v2:Option V),ys=ta.map V.ref∧P2 (fun a t=>StepN H0 H' a t) ta (steps.take i)∧σ=[v0,v1,v2])
   ⟨Same.refl _,[],none,none,none,rfl, .nil,rfl⟩ (by rw[JY,hsa.len];exact Ng (kaq (by omega))) ?_ ?_ ?_⟩
  ·rintro i σ ys H' hi ⟨s3,ta,v0,v1,v2,rfl,hT,rfl⟩
   symm
   exists Y6
   refine⟨SqL.of (s3 _ _ (s2 _ _ hst)),?_⟩
   rw[JY,hT.len,Nt]
   rw[JY,hsa.len] at hi
   omega
  ·rintro i y σ ys H' hy ⟨s3,ta,v0,v1,v2,rfl,hT,rfl⟩
   obtain⟨a,ea,rfl⟩:=kbN hy
   obtain⟨t,et,l,ha,hl⟩:=hsa.at ea
   have s03:=s2.trans s3
   nofun
   exists Y6
   refine⟨a,_,rfl,SqT.of (s03 _ _ ha),rfl,_,_,rfl,_,_,rfl,_,_,rfl,rfl,?_⟩
   nofun
   exists Y6
   refine⟨_,rfl,_,rfl,l,_,rfl, .inl (SqL.of (s03 _ _ hl)),fun l' hl'=>⟨_,rfl,(by show 3≤sizeLine;decide),fun q hq=>?_⟩⟩
   have n4:=kak (o:=.lst (t.cs.map V.int)) hl'
   have n5:=kak (o:=.tup [iV t.n,V.ref l',V.int t.c]) hq
   nofun
   exists Y6
   refine⟨s3.trans (n4.trans n5),ta++[q],_,_,_,by rw[J9];rfl,?_,rfl⟩
   rw[kbh et]
   nofun
   exact P2.snoc (hT.mono fun a t h=>h.same (n4.trans n5)) ⟨s03.free (n4.free hq),l',s03.free hl',kad,n5 _ _ kad⟩
  rintro σ ys H3 ⟨s3,ta,v0,v1,v2,rfl,hT,rfl⟩ sp hsp
  rw[JY,hsa.len,NU] at hT
  have n4:=kak (o:=.lst (ta.map V.ref)) hsp
  have s03:=s2.trans s3
  have fsp:=s03.free hsp
  have hb3:=s3 _ _ hb2
  have nsp:sp≠b:=(kai hb3 hsp).symm
  have s4:=s03.trans n4
  have e4:=n4 _ _ (s3 _ _ e2)
  have es4:(upd H3 sp (.lst (ta.map V.ref))) sp=some (.lst (ta.map V.ref)):=kad
  have hT4:P2 (fun a t=>StepN H0 (upd H3 sp (.lst (ta.map V.ref))) a t) ta steps:=hT.mono fun a t h=>h.same n4
  have hb4:=n4 _ _ hb3
  clear n4
  generalize upd H3 sp (.lst (ta.map V.ref))=H4 at *
  symm
  exists Y4
  refine⟨_,rfl,b,d.qj,dx,_,rfl,hb4,W.qj.cl,W.VW,few (J5 (kal (n:=0) (J4 _)) (by decide)),?_⟩
  have b5:But b H4 (upd H4 b (.ins d.qj dx (putF "steps" (.ref sp) (putF "order" (.ref o') [])))):=kar (nx hb4)
  have s5:Same H0 (upd H4 b (.ins d.qj dx (putF "steps" (.ref sp) (putF "order" (.ref o') [])))):=kao fb s4 (nx hb4)
  have e5:(upd H4 b (.ins d.qj dx (putF "steps" (.ref sp) (putF "order" (.ref o') [])))) o'=some (.lst (order.map iV)):=by rw[kaj no];exact e4
  have es5:(upd H4 b (.ins d.qj dx (putF "steps" (.ref sp) (putF "order" (.ref o') [])))) sp=some (.lst (ta.map V.ref)):=by rw[kaj nsp];exact es4
  have hb5:(upd H4 b (.ins d.qj dx (putF "steps" (.ref sp) (putF "order" (.ref o') [])))) b=some (.ins d.qj dx (putF "steps" (.ref sp) (putF "order" (.ref o') []))):=kad
  have stepb:∀{H5:Hp},But b H4 H5→P2 (fun a t=>StepN H0 H5 a t) ta steps:=fun {H5} bt=>hT4.mono fun a t ⟨f,l,g,h1,h2⟩=>⟨f,l,g,bt _ _ (ne_of h1 hb4 (by intro z;cases z)) h1,bt _ _ (ne_of h2 hb4 (by intro z;cases z)) h2⟩
  generalize upd H4 b (.ins d.qj dx (putF "steps" (.ref sp) (putF "order" (.ref o') [])))=H5 at *
  symm
  exists Y4
  refine⟨_,rfl,x,d.qc,dxs,fss,_,rfl,s5 _ _ hxs,W.qc.cl,W.qw,l2,pp,_,rfl, .inl (SqL.of (s5 _ _ hpp)),fun p' hp'=>?_⟩
  have n6:=kak (o:=.lst (S.pr.map V.int)) hp'
  have fp:=s5.free hp'
  have np:p'≠b:=(kai hb5 hp').symm
  have s6:=s5.trans n6
  have b6:=b5.same n6
  have e6:=n6 _ _ e5
  have es6:=n6 _ _ es5
  have ep6:(upd H5 p' (.lst (S.pr.map V.int))) p'=some (.lst (S.pr.map V.int)):=kad
  have hb6:=n6 _ _ hb5
  clear n6
  generalize upd H5 p' (.lst (S.pr.map V.int))=H6 at *
  symm
  exists Y4
  refine⟨_,rfl,b,d.qj,dx,_,rfl,hb6,W.qj.cl,W.Vx,few (J5 (kal (kal (n:=0) (J4 _))) (by decide)),?_⟩
  have b7:But b H4 (upd H6 b (.ins d.qj dx (putF "prices" (.ref p') (putF "steps" (.ref sp) (putF "order" (.ref o') []))))):=b6.trans (kar (nx hb6))
  have s7:Same H0 (upd H6 b (.ins d.qj dx (putF "prices" (.ref p') (putF "steps" (.ref sp) (putF "order" (.ref o') []))))):=kao fb s6 (nx hb6)
  have e7:(upd H6 b (.ins d.qj dx (putF "prices" (.ref p') (putF "steps" (.ref sp) (putF "order" (.ref o') []))))) o'=some (.lst (order.map iV)):=by rw[kaj no];exact e6
  have es7:(upd H6 b (.ins d.qj dx (putF "prices" (.ref p') (putF "steps" (.ref sp) (putF "order" (.ref o') []))))) sp=some (.lst (ta.map V.ref)):=by rw[kaj nsp];exact es6
  have ep7:(upd H6 b (.ins d.qj dx (putF "prices" (.ref p') (putF "steps" (.ref sp) (putF "order" (.ref o') []))))) p'=some (.lst (S.pr.map V.int)):=by rw[kaj np];exact ep6
  have hb7:(upd H6 b (.ins d.qj dx (putF "prices" (.ref p') (putF "steps" (.ref sp) (putF "order" (.ref o') []))))) b=some (.ins d.qj dx (putF "prices" (.ref p') (putF "steps" (.ref sp) (putF "order" (.ref o') [])))):=kad
  generalize upd H6 b (.ins d.qj dx (putF "prices" (.ref p') (putF "steps" (.ref sp) (putF "order" (.ref o') []))))=H7 at *
  symm
  exists Y4
  refine⟨_,rfl,x,d.qc,dxs,fss,_,rfl,s7 _ _ hxs,W.qc.cl,W.qQ,l3,_,rfl,b,d.qj,dx,_,rfl,hb7,W.qj.cl,W.VX,few (J5 (kal (kal (kal (n:=0) (J4 _)))) (by decide)),?_⟩
  have s8:Same H0 (upd H7 b (.ins d.qj dx (putF "carriage" (.int S.cg) (putF "prices" (.ref p') (putF "steps" (.ref sp) (putF "order" (.ref o') [])))))):=kao fb s7 (nx hb7)
  have hb8:(upd H7 b (.ins d.qj dx (putF "carriage" (.int S.cg) (putF "prices" (.ref p') (putF "steps" (.ref sp) (putF "order" (.ref o') [])))))) b=some (.ins d.qj dx (putF "carriage" (.int S.cg) (putF "prices" (.ref p') (putF "steps" (.ref sp) (putF "order" (.ref o') []))))):=kad
  symm
  exists Y4
  refine⟨_,rfl,x,dxs,fss,rfl,s8 _ _ hxs,l5,x,ow,pp,mm,S.cg,S.pr,rfl,⟨dxs,fss,s8 _ _ hxs,l1,l2,l3,l4,l5⟩,s8 _ _ hpp,_,rfl,b,d.qj,dx,_,rfl,hb8,W.qj.cl,W.Q8,few (J5 (kal (kal (kal (kal (n:=0) (J4 _))))) (by decide)),?_⟩
  symm
  refine kk _ (kao fb s8 (nx hb8)) ⟨dx,_,o',sp,p',ta,kad,?_,?_,?_,?_,?_,fb,fo,fsp,fp,?_,?_,stepb ((b7.trans (kar (nx hb7))).trans (kar (nx hb8))),?_⟩
  ·ac_nf
  ·ac_nf
  ·ac_nf
  ·ac_nf
  ·ac_nf
  ·rw[kaj no,kaj no];exact e7
  ·rw[kaj nsp,kaj nsp];exact es7
  ·rw[kaj np,kaj np];exact ep7
theorem klJ{d:D}{H:Hp}{o s x:Addr}{order:List Nat}{steps:List Step}{S:Stnd}{sa:List Addr}{R:Addr→Hp→Prop}{E:XK}(ho:H o=some (.lst (order.map iV)))(hs:H s=some (.lst (sa.map V.ref)))(hsa:P2 (fun a t=>StepIs H a t) sa steps)(h64:steps.length<64)(hS:StndIs d.qc H x S)
  (k:∀(H':Hp)(b:Addr),Same H H'→BillIs d H H' b ⟨order,steps,S.pr,S.cg,S.pr.sum+S.cg⟩→R b H'):
  ∀b dx,H b=none→H dx=none→dx≠b→kgB d [.ref b, .ref o, .ref s, .ref x] (upd (upd H dx (.own b)) b (.ins d.qj dx [])) (fun v H2=>v=.non∧R b H2) E:=
 fun b dx nb nd _=>⟨H,b,dx,o,s,x,order,steps,S,sa,rfl,nb,kaX nb nd,kad,ho,hs,hsa,h64,hS,fun H' z hB=>⟨rfl,k H' b z hB⟩⟩
inductive khd (d:D) (vs:List V) (H:Hp) (Q:VK) (E_:XK):Prop
 |ct (a:Addr)(k w:V)(_:vs=[.ref a,k,w])(_:H a=some (ExcN a (.ref d.qo) none))(_:∀(H':Hp)(dx:Addr),H dx=none→dx≠a→(∀b,b≠a→b≠dx→H' b=H b)→H' a=some (ExcN a (.ref d.qo) (some dx))→H' dx=some (XdO dx [("place",k),("word",w)])→Q .non H'):khd d vs H Q E_
theorem keJ:kan ["self","place","word"] ["self","place","word"] (kag kci):=by ac_rfl
theorem keP(W:WB K mg d base):FO P w W 1 d.ZA d.ZC ["self","place","word"] (khd d):=by
 exists W.Qv.F,keJ
 ·obtain⟨a,k,w,rfl,ha,kk⟩:=h
  refine⟨_,kac (kiS (pv 0) (pv 1) rfl)
   (kah (kiS (pv 0) (pv 2) rfl)),?_⟩
  refine⟨_,rfl,_,rfl,a,d.qo,d.qz,rfl,W.w_NotLet,W.VE, .inl ⟨ha,fun dx fdx ndx=>?_⟩⟩
  refine⟨_,rfl,_,rfl,a,d.qo,d.qz,rfl,W.w_NotLet,W.Xc, .inr ⟨dx,[("place",k)],kad,by rw[kaj ndx,kad],(by show 1<1000;decide),?_⟩⟩
  refine kk _ dx fdx ndx (fun b n1 n2=>?_) ?_ ?_
  ·rw[kaj n2,kaj n1,kaj n2]
  ·rw[kaj ndx.symm,kad]
  ·rw[kad]
   rfl
theorem kdy{H:Hp}{sp o:Addr}{xs:List Addr}{ys:List V}(hsp:H sp=some (.lst (xs.map V.ref)))(h0:xs≠[])(ho:H o=some (.lst ys))(hy:∀y∈ys,∀r,y≠V.ref r):o≠sp:=fun z=>by
 rw[z,hsp] at ho
 injection ho with ho
 injection ho with ho
 cases xs with
 |nil=>exact h0 rfl
 |cons r xs=>exact hy (V.ref r) (by rw[←ho];simp) r rfl
theorem StndIs.butR{C sp x:Addr}{H H':Hp}{S:Stnd}{xs:List Addr}(b:But sp H H')(hsp:H sp=some (.lst (xs.map V.ref)))(h0:xs≠[]):StndIs C H x S→StndIs C H' x S:=fun⟨o,p,mk,⟨dx,fs,hx,q⟩,ho,hp,hm⟩=>
 ⟨o,p,mk,⟨dx,fs,b _ _ (ne_of hx hsp (by intro z;cases z)) hx,q⟩,
  b _ _ (kdy hsp h0 ho fun y hy r e=>by obtain⟨n,_,rfl⟩:=Nq.mp hy;cases e) ho,
  b _ _ (kdy hsp h0 hp fun y hy r e=>by obtain⟨n,_,rfl⟩:=Nq.mp hy;cases e) hp,
  b _ _ (kdy hsp h0 hm fun y hy r e=>by obtain⟨n,_,rfl⟩:=Nq.mp hy;cases e) hm⟩
theorem WayAt.butR{d:D}{m:Nat}{sp w t b x:Addr}{H H':Hp}{hand:List Int}{used:List Nat}{xs:List Addr}(z:But sp H H')(hsp:H sp=some (.lst (xs.map V.ref)))(h0:xs≠[]):WayAt d m H w t b x hand used→WayAt d m H' w t b x hand used:=fun⟨dx,fs,h,u,h1,h2,h3,h4,h5,h6,h7,h8,h9,h10,h11,h12,h13⟩=>
 ⟨dx,fs,h,u,z _ _ (ne_of h1 hsp (by intro z;cases z)) h1,h2,h3,h4,h5,h6,h7,h8,h9,h10,h11,
  z _ _ (kdy hsp h0 h12 fun y hy r e=>by obtain⟨n,_,rfl⟩:=Nq.mp hy;cases e) h12,
  z _ _ (kdy hsp h0 h13 fun y hy r e=>by obtain⟨n,_,rfl⟩:=Nq.mp hy;cases e) h13⟩
noncomputable def billM(T:TillD)(B:Bask):List Nat→Stnd→List Step×Stnd
 |[],S=>([],S)
 |n::ns,S=>match T.vs[n]? with
  |none=>([],S)
  |some V=>(⟨n,(cutM V T.ps (kds B) S).1,(cutM V T.ps (kds B) S).2⟩::(billM T B ns (aftM V T.ps (kds B) S)).1,(billM T B ns (aftM V T.ps (kds B) S)).2)
noncomputable def keG(T:TillD)(B:Bask)(order:List Nat):BillD:=⟨order,(billM T B order (stnd0 B)).1,(billM T B order (stnd0 B)).2.pr,(billM T B order (stnd0 B)).2.cg,(billM T B order (stnd0 B)).2.pr.sum+(billM T B order (stnd0 B)).2.cg⟩
inductive kg8 (d:D) (vs:List V) (H:Hp) (Q:VK) (E:XK):Prop
 |ct (t b h o:Addr)(T:TillD)(B:Bask)(hand:List Int)(order:List Nat)(_:vs=[.ref t, .ref b, .ref h, .ref o])(_:TillIs d H t T)(_:kcP T)(_:BaskIs d.qe d.qf H b B)(_:Wf T.ps B (stnd0 B))(_:H h=some (.lst (hand.map V.int)))(_:H o=some (.lst (order.map iV)))(_:hand.length=T.vs.length)(_:(∀n∈order,n<T.vs.length))(_:order.length<64)(_:(ka9 T B hand order=none→∀(H0 H':Hp)(bl:Addr),Same H H0→Same H0 H'→BillIs d H0 H' bl (keG T B order)→Q (.ref bl) H'))(_:∀(k:Nat)(z:L2.V),ka9 T B hand order=some (k,z)→∀(H':Hp)(dx:Addr),Same H H'→H' dx=some (XdO dx [("place",iV k),("word",z)])→E (.ref d.qo) (some dx) H'):kg8 d vs H Q E
theorem qN:kan ["till","basket","hand","order","due","way","steps","number","told"] ["till","basket","hand","order"] (kag kfj):=by ac_rfl
theorem kdz(W:WB K mg d base):FnOk P w K mg base (CX1 P w) 9 d.Yn d.Yo ["till","basket","hand","order"] (kg8 d):=by
 refine FunD.okX W.qP.F qN (fun vs H Q E h=>?_) (fun cdv A outer s H vs Q E hr h=>?_)
 ·obtain⟨t,b,h,o,T,B,hand,order,rfl,_⟩:=h
  rfl
 ·obtain⟨t,b,h,o,T,B,hand,order,rfl,hT,tok,hB,wf0,hh,ho,hl,hlt,h64,kk,kx⟩:=h
  exists qC,kdh,W
  exists UJ,keP,W
  exists Qj,kc5,W
  exists UK,klE,W
  exists Xo,kdj,W
  exists UL,kgb,W
  exists hr2,2,hr,0
  exists hr3,3,hr,0
  exists hr5,5,hr,0
  exists hr6,6,hr,0
  refine⟨_,kac (psl (i:=4) qN.nd (pcl qC hr W.qO (kaa (pv 0) (kaa (pv 1) (kaa (pv 2) (kaa (pv 3) kae))))))
   (kac (ps_if (kas kck (pv 4) ka0 (kav _)) (kah (kiR (kjZ W.w_NotLet W.kp_NotLet W.Qv.at_ W.Qv.fn UJ hr2 rfl W.VD W.Qv.b .nil pass0 (kaa (pe_ix (r:=rIxT K) kew (pv 4) kaf (fun _ _=>rfl)) (kaa (pe_ix (r:=rIxT K) kew (pv 4) kaf (fun _ _=>rfl)) kae))) kl6 rfl rfl)) (kat))
   (kac (psl (i:=5) qN.nd (ka3 (W.qK.mk' W.c_Way) Qj hr5 rfl W.c_Way.m W.qK.b .nil pass0 (kaa (pv 0) (kaa (pv 1) (kaa (pv 2) kae)))))
   (kac (psl (i:=6) qN.nd (kaI kae))
   (kac (kkS (kbx PassesOwn.never rfl (kaH (K:=K) (pv 3)) (pgn (i:=7) qN.nd)
   (kac (psl (i:=8) qN.nd (pcl UK hr5 W.ZH (kaa (pe_ix (r:=rIxL K) kaG (kam (K:=K) (pv 0) rfl) (pv 7) (fun _ _=>rfl)) (kaa (kam (K:=K) (pv 0) rfl) (kaa (pv 1) (kaa (kam (K:=K) (pv 5) rfl) kae))))))
   (kac (kaL (pe_bm NA NW NY kaW (pv 6) (kaa (kb9 (kaa (pv 7) (kaa (pe_ix (r:=rIxT K) kew (pv 8) kaf (fun _ _=>rfl)) (kaa (pe_ix (r:=rIxT K) kew (pv 8) kaf (fun _ _=>rfl)) kae)))) kae)))
   (kah (psl (i:=5) qN.nd (kfo (pv 5) W.c_Way.cl W.Qf.me Xo hr6 W.Qf.b .nil pass0 (kaa (pv 7) kae))))))))
   (kah (kap (ka3 (W.Q9.mk' W.qj) UL hr3 rfl W.qj.m W.Q9.b .nil pass0 (kaa (pv 3) (kaa (pv 6) (kaa (kam (K:=K) (pv 5) rfl) kae)))))))))),?_⟩
  exists Y4
  refine⟨_,rfl,_,rfl,_,rfl,_,rfl,t,b,h,o,T,B,hand,order,rfl,hT,tok,hB,wf0,hh,ho,hl,hlt,h64,fun H1 v s1 hF=>?_⟩
  cases hf:ka9 T B hand order with
  |some kz=>
   obtain⟨k,z⟩:=kz
   rw[hf] at hF
   obtain⟨q,rfl,hq⟩:=hF
   symm
   exists Y6
   refine⟨_,rfl,rfl,_,rfl,?_⟩
   show if(!decide (V.ref q=V.non))=true then _ else _
   rw[show(!decide (V.ref q=V.non))=true by simp]
   refine iteT ?_
   nofun
   exists Y6
   refine⟨_,rfl,q,_,_,_,rfl,rfl,SqT.of hq,rfl,_,rfl,q,_,_,_,rfl,rfl,SqT.of hq,rfl,fun x fx=>?_⟩
   nofun
   exists Y6
   refine⟨x,iV k,z,rfl,kad,fun H' dx fdx ndx hk ha hd=>⟨rfl,x,d.qo,d.qz,some dx,rfl,W.w_NotLet,ha,s1.free fx,?_⟩⟩
   rw[kaj ndx] at fdx
   nofun
   refine kx k z hf _ dx (s1.trans (khS fun b u e=>?_)) ((kcu ndx).trans hd)
   have n1:=kai e fx
   rw[kcu n1,hk b n1 (kai e fdx),kaj n1]
   nofun
   exact e
  |none=>
  rw[hf] at hF
  have kk:=kk hf
  have ev:v=.non:=hF
  subst ev
  symm
  exists Y4
  refine⟨_,rfl,rfl,_,rfl,?_⟩
  show if(!decide (V.non=V.non))=true then _ else _
  rw[show(!decide (V.non=V.non))=false by simp]
  refine iteF ?_
  symm
  exists Y4
  refine⟨_,rfl,_,rfl,_,rfl,ki8 (s1 _ _ hh) (hB.same s1) wf0.nl wf0.ok fun H2 y0 x0 s2 fy0 fx0 hy0N hx0=>?_⟩
  have hy0:=hy0N.at
  have s02:=s1.trans s2
  symm
  exists Y4
  refine⟨by decide,fun sp fsp=>?_⟩
  generalize hgH3:upd H2 sp _=H3
  obtain⟨n3,(esp0:H3 sp=some (.lst (([]:List Addr).map V.ref)))⟩:=kaV hgH3 fsp
  have fsp0:=s02.free fsp
  generalize eR:billM T B order (stnd0 B)=R at *
  symm
  exists Y4
  refine⟨_,rfl,o,rfl,⟨_,SqL.of ((s02.trans n3) _ _ ho)⟩,kbX (xs:=order.map iV) (fun i σ H'=>Same H2 H'∧∃(y x:Addr)(used:List Nat)(S:Stnd)(sa:List Addr)(st:List Step)(v7 v8:Option V),WayIs d H' y t b x hand used∧StndIs d.qc H' x S∧(sa=[]→WayIs d H2 y t b x hand used∧StndIs d.qc H2 x S)∧Wf T.ps B S∧used.length=i∧H' sp=some (.lst (sa.map V.ref))∧P2 (fun a t=>StepIs H' a t) sa st∧st.length=i∧st++(billM T B (order.drop i) S).1=R.1∧(billM T B (order.drop i) S).2=R.2∧σ=[some (.ref t),some (.ref b),some (.ref h),some (.ref o),some .non,some (.ref y),some (.ref sp),v7,v8])
   ⟨n3,y0,x0,[],_,[],[],none,none,(hy0.most (by decide)).same n3,hx0.same n3,(fun _=>⟨hy0.most (by decide),hx0⟩),wf0,rfl,esp0, .nil,rfl,by rw[Ez,eR];rfl,by rw[Ez,eR],rfl⟩ (fun i σ H' _ h=>SqL.of ((s02.trans h.1) _ _ ho)) ?_ ?_⟩
  ·rintro i yv σ H' hyv ⟨sI,y,x,used,S,sa,st,v7,v8,hY,hx,h2,wf,hul,hsp,hsa,hsl,hR1,hR2,rfl⟩
   obtain⟨n,en,rfl⟩:∃n,order[i]?=some n∧yv=iV n:=kbQ hyv
   have hi:=at_lt en
   obtain⟨Vc,hV⟩:=at_of (hlt n (Nb en))
   have vo:=tok.vs Vc (Nb hV)
   have ed:order.drop i=n::order.drop (i+1):=by
    obtain⟨z1,z2⟩:=Nh.mp en
    rw[Dc z1,z2]
   rw[ed] at hR1 hR2
   unfold billM at hR1 hR2
   rw[hV] at hR1 hR2
   simp only at hR1 hR2
   have s0I:=s02.trans sI
   obtain⟨dxw,fsw,hd,u,hw,w1,w2,w3,w4,w5,w6,w7,w8,w9,w10,hh',hu⟩:=id hY
   obtain⟨dx,fs,p,vl,rl,va,ra,ht,t1,t2,t3,t4,hp,hvl,hva,hrl,hra⟩:=id (hT.same s0I)
   obtain⟨vv,evv⟩:=at_of (xs:=va) (i:=n) (by rw[hva.len];exact at_lt hV)
   obtain⟨Vc',eV',hVv⟩:=hva.at evv
   rw[hV] at eV'
   cases eV'
   symm
   exists Y6
   refine⟨_,rfl,t,d.qd,dx,fs,_,rfl,ht,W.qd.cl,W.qx,t2,_,rfl,vl,_,_,_,rfl,rfl,SqL.of hvl,kbe (v:=.ref vv) (by rw[Nc,evv];rfl),?_⟩
   nofun
   exists Y6
   refine⟨_,rfl,t,d.qd,dx,fs,_,rfl,ht,W.qd.cl,W.Qg,t1,_,rfl,_,rfl,y,d.c_Way,dxw,fsw,_,rfl,hw,W.c_Way.cl,W.qS,w5,?_⟩
   nofun
   exists Y6
   refine⟨vv,p,b,x,Vc,T.ps,B,S,rfl,hVv,SqL.of hp,hB.same s0I,hx,wf,vo,fun H4 tt pc s4 ft fpc htt hpc=>?_⟩
   have hsp4:=s4 _ _ hsp
   nofun
   exists Y6
   refine⟨_,rfl, .inl ⟨rfl,_,SqL.of hsp4⟩,_,rfl,_,rfl,tt,_,_,_,rfl,rfl,SqT.of htt,rfl,_,rfl,tt,_,_,_,rfl,rfl,SqT.of htt,rfl,(by show 3≤sizeLine;decide),fun q hq=>?_⟩
   have n5:=kak (o:=.tup [iV n,V.ref pc,V.int (cutM Vc T.ps (kds B) S).2]) hq
   have eq5:(upd H4 q (.tup [iV n,V.ref pc,V.int (cutM Vc T.ps (kds B) S).2])) q=some (.tup [iV n,V.ref pc,V.int (cutM Vc T.ps (kds B) S).2]):=kad
   have s5:=s4.trans n5
   have hsp5:=n5 _ _ hsp4
   have hpc5:=n5 _ _ hpc
   have npc:pc≠sp:=(kai hsp fpc).symm
   clear n5
   generalize upd H4 q (.tup [iV n,V.ref pc,V.int (cutM Vc T.ps (kds B) S).2])=H5 at *
   nofun
   exists Y6
   refine⟨sp,_,_,rfl,rfl,hsp5,kaq (by rw[JY,hsa.len];omega),?_⟩
   have b6:But sp H5 (upd H5 sp (.lst (sa.map V.ref++[V.ref q]))):=kar (nx hsp5)
   have s6:Same H2 (upd H5 sp (.lst (sa.map V.ref++[V.ref q]))):=kao fsp (sI.trans s5) (nx hsp5)
   have esp6:(upd H5 sp (.lst (sa.map V.ref++[V.ref q]))) sp=some (.lst ((sa++[q]).map V.ref)):=by rw[kad,J9];rfl
   generalize upd H5 sp (.lst (sa.map V.ref++[V.ref q]))=H6 at *
   have hYx:WayIs d H6 y t b x hand used∧StndIs d.qc H6 x S:=by
    by_cases h0:sa=[]
    ·exact⟨(h2 h0).1.same s6,(h2 h0).2.same s6⟩
    ·exact⟨(hY.same s5).butR b6 hsp5 h0,(hx.same s5).butR b6 hsp5 h0⟩
   have hst:P2 (fun a t=>StepIs H6 a t) (sa++[q]) (st++[⟨n,(cutM Vc T.ps (kds B) S).1,(cutM Vc T.ps (kds B) S).2⟩]):=by
    nofun
    refine P2.snoc ?_ ⟨pc,b6 _ _ (ne_of eq5 hsp5 (by intro z;cases z)) eq5,b6 _ _ npc hpc5⟩
    by_cases h0:sa=[]
    ·subst h0
     cases hsa
     nofun
     exact .nil
    ·refine hsa.mono fun a t ⟨l,g1,g2⟩=>?_
     have g1':=s5 _ _ g1
     have g2':=s5 _ _ g2
     nofun
     exists Y10
     refine⟨l,b6 _ _ (ne_of g1' hsp5 (by intro z;cases z)) g1',b6 _ _ ?_ g2'⟩
     exists 4
     exact kdy hsp5 h0 g2' fun y hy r e=>by obtain⟨n,_,rfl⟩:=Nq.mp hy;cases e
   have s06:=s02.trans s6
   obtain⟨dxw',fsw',hd',u',hw',_,_,_,_,_,_,w7',_⟩:=id hYx.1
   nofun
   exists Y6
   refine⟨_,rfl,y,dxw',fsw',rfl,hw',w7',_,rfl,y,t,b,x,T,B,S,hand,used,n,Vc,rfl,hYx.1,hT.same s06,hB.same s06,hYx.2,wf,vo,hV,by omega,fun H7 y' x' s7 fy' hY1 hx1=>?_⟩
   have hY':=hY1.at
   have hx':=hx1.is
   nofun
   exists Y6
   refine⟨s6.trans s7,y',x',used++[n],_,sa++[q],_,_,_,hY',hx',(fun e=>by simp at e),wf.after vo,by rw[Np,hul];rfl,s7 _ _ esp6,hst.mono fun a t h=>h.same s7,by rw[Np,hsl];rfl,?_,hR2,rfl⟩
   rw[Mm]
   nofun
   exact hR1
  ·rintro σ H' ⟨sI,y,x,used,S,sa,st,v7,v8,hY,hx,h2,wf,hul,hsp,hsa,hsl,hR1,hR2,rfl⟩
   rw[JY,List.drop_length] at hR1 hR2
   unfold billM at hR1 hR2
   have e1:st=R.1:=by simpa using hR1
   have e2:S=R.2:=hR2
   obtain⟨dxw,fsw,hd,u,hw,w1,w2,w3,w4,w5,w6,w7,w8,w9,w10,hh',hu⟩:=id hY
   rw[JY] at hsl
   nofun
   exists Y6
   refine⟨_,rfl,_,rfl,_,rfl,y,d.c_Way,dxw,fsw,_,rfl,hw,W.c_Way.cl,W.qS,w5,klJ ((s02.trans sI) _ _ ho) hsp hsa (by omega) hx fun H8 bl s8 hBl=>?_⟩
   nofun
   refine kk H' H8 bl (s02.trans sI) s8 ?_
   unfold keG
   rw[eR,←e1,←e2]
   nofun
   exact hBl
theorem kdL{H:Hp}{x y C C' dx dx':Addr}{fs fs':List (Str×V)}{g:Str}{v:V}(hx:H x=some (.ins C dx fs))(hy:H y=some (.ins C' dx' fs'))(l:fs'.lookup g=some v)(n:fs.lookup g=none):y≠x:=fun e=>by
 subst e
 rw[hx] at hy
 injection hy with hy
 injection hy with _ _ c
 rw[c,l] at n
 cases n
theorem kcQ{f:Str}{y:V}:∀{fs:List (Str×V)}{v:V},fs.lookup f=some v→(putF f y fs).length=fs.length
 |[],v,h=>by cases h
 | (g,z)::r,v,h=>by
  rw[show putF f y ((g,z)::r)=(if g=f then(g,y)::r else(g,z)::putF f y r) from rfl]
  by_cases e:g=f
  ·rw[if_pos e]
   rfl
  ·rw[if_neg e]
   have hb:(f==g)=false:=beq_eq_false_iff_ne.mpr (Ne.symm e)
   have h':r.lookup f=some v:=by simpa only[NZ,hb] using h
   show(putF f y r).length+1=r.length+1
   rw[kcQ h']
noncomputable def Foe(fs:List (Str×V)):Prop:=fs.lookup ("marks" :Str)=none∧fs.lookup ("kind" :Str)=none∧fs.lookup ("parents" :Str)=none∧fs.lookup ("lines" :Str)=none
section
variable {d:D} {H H':Hp} {x C dx:Addr} {fs:List (Str×V)}
theorem Tbs.butI(b:But x H H')(hx:H x=some (.ins C dx fs))(h:Tbs d H):Tbs d H':=by
 obtain⟨ps,e,t⟩:=id h
 exact(b _ _ (ne_of e hx (by intro z;cases z)) e).2 h
theorem VchIs.butI(b:But x H H')(hx:H x=some (.ins C dx fs))(foe:Foe fs){v:Addr}{V:Vch}:VchIs d H v V→VchIs d H' v V:=fun⟨mA,dv,fv,h1,h2,h3,⟨dm,fm,hm,l1,q⟩,h5,tb⟩=>
 ⟨mA,dv,fv,b _ _ (kdL hx h1 h2 foe.1) h1,h2,h3,⟨dm,fm,b _ _ (kdL hx hm l1 foe.2.1) hm,l1,q⟩,h5,tb.butI b hx⟩
theorem TillIs.butI(b:But x H H')(hx:H x=some (.ins C dx fs))(foe:Foe fs){t:Addr}{T:TillD}:TillIs d H t T→TillIs d H' t T:=by
 rintro⟨dt,ft,p,vl,rl,va,ra,h1,h2,h3,h4,h5,h6,h7,h8,h9,h10⟩
 exact⟨dt,ft,p,vl,rl,va,ra,b _ _ (kdL hx h1 h2 foe.2.2.1) h1,h2,h3,h4,h5,b _ _ (ne_of h6 hx (by intro z;cases z)) h6,b _ _ (ne_of h7 hx (by intro z;cases z)) h7,h8.mono fun a V h=>h.butI b hx foe,b _ _ (ne_of h9 hx (by intro z;cases z)) h9,h10.mono fun a r h=>b _ _ (ne_of h hx (by intro z;cases z)) h⟩
theorem BaskIs.butI(b:But x H H')(hx:H x=some (.ins C dx fs))(foe:Foe fs){CL CB y:Addr}{B:Bask}:BaskIs CL CB H y B→BaskIs CL CB H' y B:=by
 rintro⟨l,ls,⟨db,fb,h1,h2,q⟩,h3,h4⟩
 exact⟨l,ls,⟨db,fb,b _ _ (kdL hx h1 h2 foe.2.2.2) h1,h2,q⟩,b _ _ (ne_of h3 hx (by intro z;cases z)) h3,h4.mono fun a r ⟨dl,fl,g1,g2,g3⟩=>⟨dl,fl,b _ _ (kdL hx g1 g2 foe.2.1) g1,g2,g3⟩⟩
theorem kbc(b:But x H H')(hx:H x=some (.ins C dx fs)){y:Addr}{xs:List V}(h:H y=some (.lst xs)):H' y=some (.lst xs):=b _ _ (ne_of h hx (by intro z;cases z)) h
end
structure AccD where
 T:TillD
 B:Bask
 pr:List Int
 hand:List Int
 order:List Nat
 fallen:List Nat
 many:List Int
 paid:Int
 owed:Int
noncomputable def accNo:List Str:=["take_back","has_left","pay_back","paid_behind","what_stays","due_again","go_through","marks","kind","parents","lines"]
structure AccF (fs:List (Str×V)) (t b h fp o fa m:Addr) (paid owed:Int):Prop where
 l1:fs.lookup ("till" :Str)=some (.ref t)
 l2:fs.lookup ("basket" :Str)=some (.ref b)
 l3:fs.lookup ("hand" :Str)=some (.ref h)
 l4:fs.lookup ("first_prices" :Str)=some (.ref fp)
 l5:fs.lookup ("order" :Str)=some (.ref o)
 l6:fs.lookup ("fallen" :Str)=some (.ref fa)
 l7:fs.lookup ("many" :Str)=some (.ref m)
 l8:fs.lookup ("paid" :Str)=some (.int paid)
 l9:fs.lookup ("owed" :Str)=some (.int owed)
 l10:fs.length≤10
 l11:∀z∈accNo,fs.lookup z=none
theorem kaE{fs:List (Str×V)}{v:V}{f g:Str}{r:Option V}(h:fs.lookup g=r)(n:g≠f:=by decide +kernel):(putF f v fs).lookup g=r:=by
 rw[kab,if_neg n]
 exact h
theorem lk_at{fs:List (Str×V)}{v:V}{f:Str}:(putF f v fs).lookup f=some v:=by rw[kab,if_pos rfl]
theorem kbW{fs:List (Str×V)}{v:V}{f:Str}(h:∀z∈accNo,fs.lookup z=none)(n:f∉accNo:=by decide +kernel):∀z∈accNo,(putF f v fs).lookup z=none:=fun z hz=>kaE (h z hz) fun e=>n (e▸hz)
section
variable {fs:List (Str×V)} {t b h fp o fa m c:Addr} {p q z:Int}
theorem AccF.order(A:AccF fs t b h fp o fa m p q):AccF (putF "order" (.ref c) fs) t b h fp c fa m p q:=⟨kaE A.l1,kaE A.l2,kaE A.l3,kaE A.l4,lk_at,kaE A.l6,kaE A.l7,kaE A.l8,kaE A.l9,by rw[kcQ A.l5];exact A.l10,kbW A.l11⟩
theorem AccF.fallen(A:AccF fs t b h fp o fa m p q):AccF (putF "fallen" (.ref c) fs) t b h fp o c m p q:=⟨kaE A.l1,kaE A.l2,kaE A.l3,kaE A.l4,kaE A.l5,lk_at,kaE A.l7,kaE A.l8,kaE A.l9,by rw[kcQ A.l6];exact A.l10,kbW A.l11⟩
theorem AccF.many(A:AccF fs t b h fp o fa m p q):AccF (putF "many" (.ref c) fs) t b h fp o fa c p q:=⟨kaE A.l1,kaE A.l2,kaE A.l3,kaE A.l4,kaE A.l5,kaE A.l6,lk_at,kaE A.l8,kaE A.l9,by rw[kcQ A.l7];exact A.l10,kbW A.l11⟩
theorem AccF.paid(A:AccF fs t b h fp o fa m p q):AccF (putF "paid" (.int z) fs) t b h fp o fa m z q:=⟨kaE A.l1,kaE A.l2,kaE A.l3,kaE A.l4,kaE A.l5,kaE A.l6,kaE A.l7,lk_at,kaE A.l9,by rw[kcQ A.l8];exact A.l10,kbW A.l11⟩
theorem AccF.owed(A:AccF fs t b h fp o fa m p q):AccF (putF "owed" (.int z) fs) t b h fp o fa m p z:=⟨kaE A.l1,kaE A.l2,kaE A.l3,kaE A.l4,kaE A.l5,kaE A.l6,kaE A.l7,kaE A.l8,lk_at,by rw[kcQ A.l9];exact A.l10,kbW A.l11⟩
theorem AccF.foe(A:AccF fs t b h fp o fa m p q):Foe fs:=⟨A.l11 _ (by decide +kernel),A.l11 _ (by decide +kernel),A.l11 _ (by decide +kernel),A.l11 _ (by decide +kernel)⟩
end
structure AccK (d:D) (Hs:Hp) (t b h fp o fa m:Addr) (A:AccD):Prop where
 T:TillIs d Hs t A.T
 B:BaskIs d.qe d.qf Hs b A.B
 h:Hs h=some (.lst (A.hand.map V.int))
 p:Hs fp=some (.lst (A.pr.map V.int))
 o:Hs o=some (.lst (A.order.map iV))
 f:Hs fa=some (.lst (A.fallen.map iV))
 m:Hs m=some (.lst (A.many.map V.int))
inductive AccIn (d:D) (Hs H:Hp) (x:Addr) (A:AccD):Prop
 |ct (dx t b h fp o fa m:Addr)(fs:List (Str×V))(_:H x=some (.ins d.qi dx fs))(_:AccF fs t b h fp o fa m A.paid A.owed)(_:AccK d Hs t b h fp o fa m A):AccIn d Hs H x A
section
variable {d:D} {Hs Hs' H H':Hp} {x:Addr} {A:AccD}
theorem AccK.kept{t b h fp o fa m:Addr}(s:Same Hs Hs')(k:AccK d Hs t b h fp o fa m A):AccK d Hs' t b h fp o fa m A:=⟨k.T.same s,k.B.same s,s _ _ k.h,s _ _ k.p,s _ _ k.o,s _ _ k.f,s _ _ k.m⟩
theorem AccIn.same(s:Same H H'):AccIn d Hs H x A→AccIn d Hs H' x A:=fun⟨dx,t,b,h,fp,o,fa,m,fs,hx,f,q⟩=>⟨dx,t,b,h,fp,o,fa,m,fs,s _ _ hx,f,q⟩
theorem AccIn.but{y:Addr}(z:But y H H')(n:x≠y):AccIn d Hs H x A→AccIn d Hs H' x A:=fun⟨dx,t,b,h,fp,o,fa,m,fs,hx,f,q⟩=>⟨dx,t,b,h,fp,o,fa,m,fs,z _ _ n hx,f,q⟩
theorem AccIn.kept(s:Same Hs Hs'):AccIn d Hs H x A→AccIn d Hs' H x A:=fun⟨dx,t,b,h,fp,o,fa,m,fs,hx,f,q⟩=>⟨dx,t,b,h,fp,o,fa,m,fs,hx,f,q.kept s⟩
theorem AccIn.obj(h:AccIn d Hs H x A):∃(dx:Addr)(fs:List (Str×V)),H x=some (.ins d.qi dx fs)∧Foe fs:=by
 obtain⟨dx,t,b,h,fp,o,fa,m,fs,hx,f,q⟩:=h
 exact⟨dx,fs,hx,f.foe⟩
theorem AccIn.rmv{y C dy:Addr}{gs:List (Str×V)}(hy:Hs y=some (.ins C dy gs))(foe:Foe gs):AccIn d Hs H x A→AccIn d (rmv y Hs) H x A:=fun⟨dx,t,b,h,fp,o,fa,m,fs,hx,f,q⟩=>
 have bt:=kfl (nx hy)
 ⟨dx,t,b,h,fp,o,fa,m,fs,hx,f,q.T.butI bt hy foe,q.B.butI bt hy foe,kbc bt hy q.h,kbc bt hy q.p,kbc bt hy q.o,kbc bt hy q.f,kbc bt hy q.m⟩
end
inductive TillN (d:D) (H0 H:Hp) (t:Addr) (T:TillD):Prop
 |ct (dx:Addr)(fs:List (Str×V))(p vl rl:Addr)(va ra:List Addr)(_:H0 p=none)(_:H0 vl=none)(_:H0 rl=none)(_:H t=some (.ins d.qd dx fs))(_:fs.lookup ("parents" :Str)=some (.ref p))(_:fs.lookup ("vouchers" :Str)=some (.ref vl))(_:fs.lookup ("rules" :Str)=some (.ref rl))(_:fs.lookup ("back" :Str)=some (.str T.bk))(_:H p=some (.lst (T.ps.map pV)))(_:H vl=some (.lst (va.map V.ref)))(_:P2 (fun a V=>VchIs d H a V) va T.vs)(_:H rl=some (.lst (ra.map V.ref)))(_:P2 (fun a r=>RulIs H a r) ra T.rs):TillN d H0 H t T
inductive BaskN (CL CB:Addr) (H0 H:Hp) (b:Addr) (B:Bask):Prop
 |ct (l:Addr)(ls:List Addr)(_:H0 l=none)(_:BaskAt CB H b l B.cg B.m)(_:H l=some (.lst (ls.map V.ref)))(_:Lines CL H ls B.rs):BaskN CL CB H0 H b B
section
variable {d:D} {H0 H H':Hp} {x C dx q:Addr} {fs:List (Str×V)} {t:Addr} {T:TillD} {B:Bask} {CL CB:Addr} {xs:List V}
theorem TillN.is:TillN d H0 H t T→TillIs d H t T:=fun⟨dt,ft,p,vl,rl,va,ra,_,_,_,h1,h2,h3,h4,h5,h6,h7,h8,h9,h10⟩=>⟨dt,ft,p,vl,rl,va,ra,h1,h2,h3,h4,h5,h6,h7,h8,h9,h10⟩
theorem TillN.butI(b:But x H H')(hx:H x=some (.ins C dx fs))(foe:Foe fs):TillN d H0 H t T→TillN d H0 H' t T:=by
 rintro⟨dt,ft,p,vl,rl,va,ra,f1,f2,f3,h1,h2,h3,h4,h5,h6,h7,h8,h9,h10⟩
 exact⟨dt,ft,p,vl,rl,va,ra,f1,f2,f3,b _ _ (kdL hx h1 h2 foe.2.2.1) h1,h2,h3,h4,h5,b _ _ (ne_of h6 hx (by intro z;cases z)) h6,b _ _ (ne_of h7 hx (by intro z;cases z)) h7,h8.mono fun a V h=>h.butI b hx foe,b _ _ (ne_of h9 hx (by intro z;cases z)) h9,h10.mono fun a r h=>b _ _ (ne_of h hx (by intro z;cases z)) h⟩
theorem BaskN.is:BaskN CL CB H0 H x B→BaskIs CL CB H x B:=fun⟨l,ls,_,h1,h2,h3⟩=>⟨l,ls,h1,h2,h3⟩
theorem BaskN.butI{y:Addr}(b:But x H H')(hx:H x=some (.ins C dx fs))(foe:Foe fs):BaskN CL CB H0 H y B→BaskN CL CB H0 H' y B:=by
 rintro⟨l,ls,f,⟨db,fb,h1,h2,q⟩,h3,h4⟩
 exact⟨l,ls,f,⟨db,fb,b _ _ (kdL hx h1 h2 foe.2.2.2) h1,h2,q⟩,b _ _ (ne_of h3 hx (by intro z;cases z)) h3,h4.mono fun a r ⟨dl,fl,g1,g2,g3⟩=>⟨dl,fl,b _ _ (kdL hx g1 g2 foe.2.1) g1,g2,g3⟩⟩
theorem VchIs.butL(b:But q H H')(hq:H q=some (.lst xs)){v:Addr}{V:Vch}:VchIs d H v V→VchIs d H' v V:=fun⟨mA,dv,fv,h1,h2,h3,⟨dm,fm,hm,l1,r⟩,h5,tb⟩=>by
 have hn:∀{a C dx:Addr}{fs:List (Str×L2.V)},H a=some (.ins C dx fs)→a≠q:=fun h=>ne_of h hq (by intro z;cases z)
 refine⟨mA,dv,fv,b _ _ (hn h1) h1,h2,h3,⟨dm,fm,b _ _ (hn hm) hm,l1,r⟩,h5,?_⟩
 obtain⟨ps,e,t⟩:=id tb
 exact(b _ _ (ne_of e hq (by intro z;cases z)) e).2 tb
theorem TillN.rmv(f0:H0 q≠none)(hq:H q=some (.lst xs)):TillN d H0 H t T→TillIs d (rmv q H) t T:=by
 rintro⟨dt,ft,p,vl,rl,va,ra,f1,f2,f3,h1,h2,h3,h4,h5,h6,h7,h8,h9,h10⟩
 have b:=kfl (nx hq)
 exact⟨dt,ft,p,vl,rl,va,ra,b _ _ (ne_of h1 hq (by intro z;cases z)) h1,h2,h3,h4,h5,(kbG f0 f1).trans h6,(kbG f0 f2).trans h7,h8.mono fun a V h=>h.butL b hq,(kbG f0 f3).trans h9,h10.mono fun a r h=>b _ _ (ne_of h hq (by intro z;cases z)) h⟩
theorem BaskN.rmv(f0:H0 q≠none)(hq:H q=some (.lst xs)):BaskN CL CB H0 H x B→BaskIs CL CB (rmv q H) x B:=by
 rintro⟨l,ls,f,⟨db,fb,h1,h2,r⟩,h3,h4⟩
 have b:=kfl (nx hq)
 exact⟨l,ls,⟨db,fb,b _ _ (ne_of h1 hq (by intro z;cases z)) h1,h2,r⟩,(kbG f0 f).trans h3,h4.mono fun a r ⟨dl,fl,g1,g2,g3⟩=>⟨dl,fl,b _ _ (ne_of g1 hq (by intro z;cases z)) g1,g2,g3⟩⟩
end
theorem kkb{d:D}{H0 H:Hp}{p vl rl:Addr}{T:TillD}{va ra:List Addr}{R:Addr→Hp→Prop}{E:XK}(s0:Same H0 H)(hp:H p=some (.lst (T.ps.map pV)))(hvl:H vl=some (.lst (va.map V.ref)))(hv:P2 (fun a V=>VchIs d H a V) va T.vs)(hrl:H rl=some (.lst (ra.map V.ref)))(hr:P2 (fun a r=>RulIs H a r) ra T.rs)
  (k:∀(H':Hp)(x:Addr),Same H H'→H x=none→TillN d H0 H' x T→R x H'):
  ∀x dx,H x=none→H dx=none→dx≠x→kfb d [.ref x, .ref p, .ref vl, .ref rl, .str T.bk] (upd (upd H dx (.own x)) x (.ins d.qd dx [])) (fun v H2=>v=.non∧R x H2) E:=
 fun x dx nx nd _=>⟨H,x,dx,p,vl,rl,_,_,_,_,rfl,nx,kaX nx nd,kad,hp,hvl,hrl,fun H' p' vl' rl' fs s f1 f2 f3 h1 h2 h3 hx l1 l2 l3 l4=>⟨rfl,k H' x s nx ⟨dx,fs,p',vl',rl',va,ra,none_of s0 f1,none_of s0 f2,none_of s0 f3,hx,l1,l2,l3,l4,h1,h2,hv.mono fun a V h=>h.same s,h3,hr.mono fun a r h=>s _ _ h⟩⟩⟩
theorem kdb{Hk H0 H':Hp}{x C dx:Addr}{fs fs':List (Str×V)}(h:upd Hk x (.ins C dx fs')=H')(hx:Hk x=some (.ins C dx fs))(fx:H0 x=none)(s:Same H0 Hk):But x Hk H'∧Same H0 H'∧H' x=some (.ins C dx fs'):=by
 subst h
 exact⟨kar (nx hx),kao fx s (nx hx),kad⟩
noncomputable def acc0(T:TillD)(B:Bask)(hand:List Int)(order:List Nat):AccD:=⟨T,B,(keG T B order).pr,hand,order,[],B.rs.map fun r=>r.mn,(keG T B order).total,0⟩
inductive kiD (d:D) (vs:List V) (H:Hp) (Q:VK) (E:XK):Prop
 |ct (H0:Hp)(x dx t b h o:Addr)(T:TillD)(B:Bask)(hand:List Int)(order:List Nat)(_:vs=[.ref x, .ref t, .ref b, .ref h, .ref o])(_:H0 x=none)(_:Same H0 H)(_:H x=some (.ins d.qi dx []))(_:TillIs d H0 t T)(_:kcP T)(_:BaskIs d.qe d.qf H0 b B)(_:Wf T.ps B (stnd0 B))(_:H0 h=some (.lst (hand.map V.int)))(_:H0 o=some (.lst (order.map iV)))(_:hand.length=T.vs.length)(_:(∀n∈order,n<T.vs.length))(_:order.length<64)(_:(ka9 T B hand order=none→∀H',Same H0 H'→AccIn d H' H' x (acc0 T B hand order)→(∀q xs,H0 q=some (.lst xs)→AccIn d (rmv q H') H' x (acc0 T B hand order))→Q .non H'))(_:∀(k:Nat)(z:L2.V),ka9 T B hand order=some (k,z)→∀(H':Hp)(dx:Addr),Same H0 H'→H' dx=some (XdO dx [("place",iV k),("word",z)])→E (.ref d.qo) (some dx) H'):kiD d vs H Q E
theorem VM:kan ["self","till","basket","hand","order","bill"] ["self","till","basket","hand","order"] (kag kb7):=by ac_rfl
theorem kdU(W:WB K mg d base):FnOk P w K mg base (CX1 P w) 10 d.Zy d.Zz ["self","till","basket","hand","order"] (kiD d):=by
 refine FunD.okX W.Xb.F VM (fun vs H Q E h=>?_) (fun cdv A outer s H vs Q E hr h=>?_)
 ·obtain⟨H0,x,dx,t,b,h,o,T,B,hand,order,rfl,_⟩:=h
  rfl
 ·obtain⟨H0,x,dx,t,b,h,o,T,B,hand,order,rfl,fx,s0,hx,hT,tok,hB,wf0,hh,ho,hhl,hlt,h64,kk,kx⟩:=h
  exists GX_priced,kdz,W
  exists Qk,kcG,W
  exists Xq,kcV,W
  exists hr2,2,hr,0
  refine⟨_,kac (psl (i:=5) VM.nd (kiZ GX_priced hr rfl W.qP.m W.qP.F.kp W.qP.b .nil (klU (E':=E) fun _ _ _ z=>z) (kaa (pv 1) (kaa (pv 2) (kaa (pv 3) (kaa (pv 4) kae))))))
   (kac (kax (pv 0) (ka3 (W.qM.mk' W.qd) Qk hr2 rfl W.qd.m W.qM.b .nil pass0 (kaa (kam (K:=K) (pv 1) rfl) (kaa (kam (K:=K) (pv 1) rfl) (kaa (kam (K:=K) (pv 1) rfl) (kaa (kam (K:=K) (pv 1) rfl) kae))))) rfl)
   (kac (kax (pv 0) (ka3 (W.Qb.mk' W.qf) Xq hr2 rfl W.qf.m W.Qb.b .nil pass0 (kaa (kam (K:=K) (pv 2) rfl) (kaa (kam (K:=K) (pv 2) rfl) (kaa (kam (K:=K) (pv 2) rfl) kae)))) rfl)
   (kac (kax (pv 0) (kaF (r:=kbd K) kaC (by rfl) W.B.list kbo (kaa (pv 3) kae)) rfl)
   (kac (kax (pv 0) (kam (K:=K) (pv 5) rfl) rfl)
   (kac (kax (pv 0) (kaF (r:=kbd K) kaC (by rfl) W.B.list kbo (kaa (pv 4) kae)) rfl)
   (kac (kax (pv 0) (kaI kae) rfl)
   (kac (kkS (kax (pv 0) (ka6 (N:=["line"]) (CompScope.plain rfl (by decide +kernel) (by decide +kernel) (by decide +kernel) (nd1 _)) rfl (kaH (K:=K) (kam (K:=K) (pv 2) rfl)) (fun _ _ _ _=>pgn (i:=0) (nd1 _)) (fun _ _ _ _=>(kam (K:=K) (pv 0) rfl))) rfl))
   (kac (kax (pv 0) (kam (K:=K) (pv 5) rfl) rfl)
   (kah (kax (pv 0) kaf rfl)))))))))),?_⟩
  exists Y4
  refine⟨_,rfl,_,rfl,_,rfl,_,rfl,t,b,h,o,T,B,hand,order,rfl,hT.same s0,tok,hB.same s0,wf0,s0 _ _ hh,s0 _ _ ho,hhl,hlt,h64,fun hf Hz H1 bl z0 z1 hBl=>?_,fun k z hf H' dx' s' hd=>kx k z hf H' dx' (s0.trans s') hd⟩
  have k:=kk hf
  have len0:([]:List (Str×V)).length≤0:=J4 _
  have hzx:Hz x≠none:=by
   rw[z0 _ _ hx]
   intro z
   cases z
  have S1:=(s0.trans z0).trans z1
  have hx1:=(z0.trans z1) _ _ hx
  obtain⟨dxt,fst,tp,vl,rl,va,ra,ht,t1,t2,t3,t4,htp,hvl,hva,hrl,hra⟩:=id (hT.same S1)
  symm
  exists Y4
  refine⟨_,rfl,t,d.qd,dxt,fst,_,rfl,ht,W.qd.cl,W.Qg,t1,_,rfl,t,d.qd,dxt,fst,_,rfl,ht,W.qd.cl,W.qx,t2,_,rfl,t,d.qd,dxt,fst,_,rfl,ht,W.qd.cl,W.qL,t3,_,rfl,t,d.qd,dxt,fst,_,rfl,ht,W.qd.cl,W.Xa,t4,kkb (T:=T) S1 htp hvl hva hrl hra fun H2 t' s2 ft' hT'=>?_⟩
  have S2:=S1.trans s2
  have hx2:=s2 _ _ hx1
  symm
  exists Y4
  refine⟨_,rfl,x,d.qi,dx,_,rfl,hx2,W.qi.cl,W.VZ,(by have:=len0;omega),?_⟩
  generalize hH3:upd H2 x _=H3
  obtain⟨b3,S3,hx3⟩:=kdb hH3 hx2 fx S2
  have len1:=kal (f:="till") (v:=.ref t') len0
  obtain⟨l,ls,⟨dxb,fsb,hb,lbl,lbc,lbm⟩,hl,hL⟩:=id (hB.same S3)
  symm
  exists Y4
  refine⟨_,rfl,b,d.qf,dxb,fsb,_,rfl,hb,W.qf.cl,W.qF,lbl,_,rfl,b,d.qf,dxb,fsb,_,rfl,hb,W.qf.cl,W.Q4,lbc,_,rfl,b,d.qf,dxb,fsb,_,rfl,hb,W.qf.cl,W.Qt,lbm,kjb (SqL.of hl) fun H4 b' l' s4 fb' fl' hl' hb'=>?_⟩
  have S4:=S3.trans s4
  have hx4:=s4 _ _ hx3
  have hB':BaskN d.qe d.qf H0 H4 b' B:=⟨l',ls,none_of S3 fl',hb',hl',hL.same s4⟩
  symm
  exists Y4
  refine⟨_,rfl,x,d.qi,dx,_,rfl,hx4,W.qi.cl,W.V0,(by have:=len1;omega),?_⟩
  generalize hH5:upd H4 x _=H5
  obtain⟨b5,S5,hx5⟩:=kdb hH5 hx4 fx S4
  have len2:=kal (f:="basket") (v:=.ref b') len1
  symm
  exists Y4
  refine⟨_,rfl,h,_,rfl, .inl (SqL.of (S5 _ _ hh)),fun h' fh'=>?_⟩
  generalize hgH6:upd H5 h' _=H6
  obtain⟨s6,eh⟩:=kaV hgH6 fh'
  have S6:=S5.trans s6
  have hx6:=s6 _ _ hx5
  symm
  exists Y4
  refine⟨_,rfl,x,d.qi,dx,_,rfl,hx6,W.qi.cl,W.V1,(by have:=len2;omega),?_⟩
  generalize hH7:upd H6 x _=H7
  obtain⟨b7,S7,hx7⟩:=kdb hH7 hx6 fx S6
  have len3:=kal (f:="hand") (v:=.ref h') len2
  obtain⟨dx2,fs2,o2,sp,pp,sa,g1,g2,g3,g4,g5,g6,_,_,_,fpp,g7,g8,g9,g10⟩:=id ((((((hBl.same s2).but b3 hzx).same s4).but b5 hzx).same s6).but b7 hzx)
  symm
  exists Y4
  refine⟨_,rfl,bl,d.qj,dx2,fs2,_,rfl,g1,W.qj.cl,W.Vx,g4,?_⟩
  symm
  exists Y4
  refine⟨_,rfl,x,d.qi,dx,_,rfl,hx7,W.qi.cl,W.V2,(by have:=len3;omega),?_⟩
  generalize hH8:upd H7 x _=H8
  obtain⟨b8,S8,hx8⟩:=kdb hH8 hx7 fx S7
  have len4:=kal (f:="first_prices") (v:=.ref pp) len3
  symm
  exists Y4
  refine⟨_,rfl,o,_,rfl, .inl (SqL.of (S8 _ _ ho)),fun o' fo'=>?_⟩
  generalize hgH9:upd H8 o' _=H9
  obtain⟨s9,eo⟩:=kaV hgH9 fo'
  have S9:=S8.trans s9
  have hx9:=s9 _ _ hx8
  symm
  exists Y4
  refine⟨_,rfl,x,d.qi,dx,_,rfl,hx9,W.qi.cl,W.Vy,(by have:=len4;omega),?_⟩
  generalize hH10:upd H9 x _=H10
  obtain⟨b10,S10,hx10⟩:=kdb hH10 hx9 fx S9
  have len5:=kal (f:="order") (v:=.ref o') len4
  symm
  exists Y4
  refine⟨by decide,fun fa ffa=>?_⟩
  generalize hgH11:upd H10 fa _=H11
  obtain⟨s11,efa⟩:=kaV hgH11 ffa
  have S11:=S10.trans s11
  have hx11:=s11 _ _ hx10
  symm
  exists Y4
  refine⟨_,rfl,x,d.qi,dx,_,rfl,hx11,W.qi.cl,W.Vz,(by have:=len5;omega),?_⟩
  generalize hH12:upd H11 x _=H12
  obtain⟨b12,S12,hx12⟩:=kdb hH12 hx11 fx S11
  have len6:=kal (f:="fallen") (v:=.ref fa) len5
  obtain⟨l2,ls2,⟨dxb2,fsb2,hb2,lbl2,lbc2,lbm2⟩,hl2,hL2⟩:=id (hB.same S12)
  have hll:=hL2.len
  have hnl:=wf0.nl
  symm
  exists Y4
  refine⟨_,rfl,b,d.qf,dxb2,fsb2,_,rfl,hb2,W.qf.cl,W.qF,lbl2,l2,rfl,⟨_,SqL.of hl2⟩,kaS (xs:=ls2.map V.ref) (fun i σ ys H'=>H'=H12∧ys=((B.rs.take i).map fun r=>r.mn).map V.int∧∃v,σ=[v]) ⟨rfl,rfl,none,rfl⟩ (by rw[JY,hll];exact Ng (kaq (by omega))) ?_ ?_ ?_⟩
  ·rintro i σ ys H' hi ⟨rfl,rfl,_⟩
   symm
   exact⟨SqL.of hl2,by rw[JY,JY,Nt];rw[JY] at hi;omega⟩
  ·rintro i y σ ys H' hy ⟨rfl,rfl,v,rfl⟩
   obtain⟨lx,el,rfl⟩:=kbN hy
   obtain⟨r,er⟩:=at_of (xs:=B.rs) (i:=i) (by have:=at_lt el;omega)
   obtain⟨dxl,fsl,hlx,lk1,lk2,lk3,lk4⟩:=hL2.get el er
   symm
   exists Y6
   refine⟨_,rfl,lx,d.qe,dxl,fsl,_,rfl,hlx,W.qe.cl,W.qE,lk3,rfl,?_,_,rfl⟩
   rw[take_snoc er,J9,J9]
   rfl
  ·rintro σ ys H' ⟨rfl,rfl,v,rfl⟩ m' fm'
   rw[JY,hll,NU]
   generalize hgH13:upd H' m' _=H13
   obtain⟨s13,em⟩:=kaV hgH13 fm'
   have S13:=S12.trans s13
   have hx13:=s13 _ _ hx12
   nofun
   exists Y6
   refine⟨_,rfl,x,d.qi,dx,_,rfl,hx13,W.qi.cl,W.VA,(by have:=len6;omega),?_⟩
   generalize hH14:upd H13 x _=H14
   obtain⟨b14,S14,hx14⟩:=kdb hH14 hx13 fx S13
   have len7:=kal (f:="many") (v:=.ref m') len6
   obtain⟨dx3,fs3,o3,sp3,pp3,sa3,k1,_,_,_,_,k6,_⟩:=id ((((((((((hBl.same s2).but b3 hzx).same s4).but b5 hzx).same s6).but b7 hzx).but b8 hzx).same s9).but b10 hzx).same s11 |>.but b12 hzx |>.same s13 |>.but b14 hzx)
   nofun
   exists Y6
   refine⟨_,rfl,bl,d.qj,dx3,fs3,_,rfl,k1,W.qj.cl,W.Q8,k6,?_⟩
   nofun
   exists Y6
   refine⟨_,rfl,x,d.qi,dx,_,rfl,hx14,W.qi.cl,W.VB,(by have:=len7;omega),?_⟩
   generalize hH15:upd H14 x _=H15
   obtain⟨b15,S15,hx15⟩:=kdb hH15 hx14 fx S14
   have len8:=kal (f:="paid") (v:=.int (keG T B order).total) len7
   nofun
   exists Y6
   refine⟨_,rfl,x,d.qi,dx,_,rfl,hx15,W.qi.cl,W.VC,(by have:=len8;omega),?_⟩
   generalize hH16:upd H15 x _=H16
   obtain⟨b16,S16,hx16⟩:=kdb hH16 hx15 fx S15
   have len9:=kal (f:="owed") (v:=.int 0) len8
   have c13:=(b14.trans b15).trans b16
   have c11:=(b12.same s13).trans c13
   have c9:=(b10.same s11).trans c11
   have c7:=(b8.same s9).trans c9
   have c6:=b7.trans c7
   have c4:=(b5.same s6).trans c6
   have c2:=(b3.same s4).trans c4
   have foe0:Foe ([]:List (Str×V)):=⟨rfl,rfl,rfl,rfl⟩
   have foe1:Foe (putF "till" (.ref t') []):=⟨rfl,rfl,rfl,rfl⟩
   have fin:AccF (putF "owed" (.int 0) (putF "paid" (.int (keG T B order).total) (putF "many" (.ref m') (putF "fallen" (.ref fa) (putF "order" (.ref o') (putF "first_prices" (.ref pp) (putF "hand" (.ref h') (putF "basket" (.ref b') (putF "till" (.ref t') []))))))))) t' b' h' pp o' fa m' (keG T B order).total 0:=by
    nofun
    exists Y8
    refine⟨?_,?_,?_,?_,?_,?_,?_,?_,?_,(by have:=len9;omega),?_⟩
    ·ac_nf
    ·ac_nf
    ·ac_nf
    ·ac_nf
    ·ac_nf
    ·ac_nf
    ·ac_nf
    ·ac_nf
    ·ac_nf
    ·exact kbW (kbW (kbW (kbW (kbW (kbW (kbW (kbW (kbW fun _ _=>rfl))))))))
   have zT:=hT'.butI c2 hx2 foe0
   have zB:=hB'.butI c4 hx4 foe1
   have z1:=kbc c6 hx6 eh
   have z2:=kbc c7 hx7 g10
   have z3:=kbc c9 hx9 eo
   have z4:=kbc c11 hx11 efa
   have z5:=kbc c13 hx13 em
   nofun
   refine k H16 S16 ⟨dx,t',b',h',pp,o',fa,m',_,hx16,fin,zT.is,zB.is,z1,z2,z3,z4,z5⟩ fun q xs hq=>?_
   have hq0:H0 q≠none:=by rw[hq];intro z;cases z
   have hq1:=S16 _ _ hq
   nofun
   exact⟨dx,t',b',h',pp,o',fa,m',_,hx16,fin,zT.rmv hq0 hq1,zB.rmv hq0 hq1,(kbG hq0 (none_of S5 fh')).trans z1,(kbG hq0 (none_of (s0.trans z0) fpp)).trans z2,(kbG hq0 (none_of S8 fo')).trans z3,(kbG hq0 (none_of S10 ffa)).trans z4,(kbG hq0 (none_of S12 fm')).trans z5⟩
theorem klK{d:D}{H:Hp}{t b h o:Addr}{T:TillD}{B:Bask}{hand:List Int}{order:List Nat}{R:Addr→Hp→Prop}{E:XK}(hT:TillIs d H t T)(tok:kcP T)(hB:BaskIs d.qe d.qf H b B)(wf0:Wf T.ps B (stnd0 B))(hh:H h=some (.lst (hand.map V.int)))(ho:H o=some (.lst (order.map iV)))(hhl:hand.length=T.vs.length)(hlt:∀n∈order,n<T.vs.length)(h64:order.length<64)
  (k:ka9 T B hand order=none→∀(H':Hp)(x:Addr),Same H H'→H x=none→AccIn d H' H' x (acc0 T B hand order)→(∀q xs,H q=some (.lst xs)→AccIn d (rmv q H') H' x (acc0 T B hand order))→R x H')
  (kx:∀(k:Nat)(z:L2.V),ka9 T B hand order=some (k,z)→∀(H':Hp)(dx:Addr),Same H H'→H' dx=some (XdO dx [("place",iV k),("word",z)])→E (.ref d.qo) (some dx) H'):
  ∀x dx,H x=none→H dx=none→dx≠x→kiD d [.ref x, .ref t, .ref b, .ref h, .ref o] (upd (upd H dx (.own x)) x (.ins d.qi dx [])) (fun v H2=>v=.non∧R x H2) E:=
 fun x dx nx nd _=>⟨H,x,dx,t,b,h,o,T,B,hand,order,rfl,nx,kaX nx nd,kad,hT,tok,hB,wf0,hh,ho,hhl,hlt,h64,fun hf H' s hA hA'=>⟨rfl,k hf H' x s nx hA hA'⟩,kx⟩
inductive khf (K:JZ) (vs:List V) (H:Hp) (Q:VK) (E_:XK):Prop
 |ct (a:Addr)(ns:List Int)(n:Int)(_:vs=[.ref a, .int n])(_:SqL K H a (ns.map V.int))(_:0≤n)(_:Q (.int (ns.getD n.toNat 0)) H):khf K vs H Q E_
theorem kea:kan ["_law_script","_law_k"] ["_law_script","_law_k"] (kag kb5):=by ac_rfl
theorem ker(W:WB K mg d base):FO P w W 1 d.Yp d.Yq ["_law_script","_law_k"] (khf K):=by
 exists W.ZS.F,kea
 ·obtain⟨a,ns,n,rfl,hS,n0,kk⟩:=h
  refine⟨_,kac (ps_if (kas op_lt (pv 1) (kau (r:=kba K) kaz (by rfl) W.B.len b_len (kaa (pv 0) kae)) (kav _)) (kah (kap (pe_ix (r:=rIxL K) kaG (pv 0) (pv 1) (fun _ _=>rfl)))) (kat))
   (kah (kap kaf)),?_⟩
  obtain⟨m,rfl⟩:=Int.eq_ofNat_of_zero_le n0
  rw[Int.toNat_natCast] at kk
  refine⟨_,rfl,_,rfl,a,_,rfl, .inl hS,_,_,rfl,rfl,_,rfl,ite2 (fun h=>?_) (fun h=>?_)⟩
  ·have hn:m<ns.length:=by
    have:(m:Int)<((ns.map V.int).length:Nat):=by simpa using h
    rw[JY] at this
    omega
   obtain⟨z,ez⟩:=at_of hn
   rw[Nm,ez] at kk
   exact⟨_,rfl,_,rfl,a,_,_,_,rfl,rfl,hS,kbe (v:=.int z) (by rw[Nc,ez];rfl),kk⟩
  ·have hn:ns.length≤m:=by
    have:¬(m:Int)<((ns.map V.int).length:Nat):=by simpa using h
    rw[JY] at this
    omega
   rw[Nm,MI hn] at kk
   exact kk
noncomputable def someM(ns:List Int)(k t m:Int):Int:=((ns.getD k.toNat 0%1000003+1)*(48271+1000*k*k+69621*t*t)%2147483647)*((ns.getD k.toNat 0%1000003+1)*(48271+1000*k*k+69621*t*t)%2147483647)%2147483629/3%m
inductive kkK (K:JZ) (vs:List V) (H:Hp) (Q:VK) (E_:XK):Prop
 |ct (a:Addr)(ns:List Int)(k t m:Int)(_:vs=[.ref a, .int k, .int t, .int m])(_:SqL K H a (ns.map V.int))(_:(0≤k∧k≤1000))(_:(0≤t∧t≤1000))(_:0<m)(_:∀z:Int,0≤z→z<m∧z=someM ns k t m→Q (.int z) H):kkK K vs H Q E_
theorem Xr:kan ["_law_script","_law_k","_law_salt","_law_many","_law_cell","_law_mixed"] ["_law_script","_law_k","_law_salt","_law_many"] (kag kc1):=by ac_rfl
theorem kaM(W:WB K mg d base):FO P w W 2 d.Yr d.Yt ["_law_script","_law_k","_law_salt","_law_many"] (kkK K):=by
 exists W.qk.F,Xr
 ·obtain⟨a,ns,k,t,m,rfl,hS,hk,ht,hm,kk⟩:=h
  exists UM,ker,W
  refine⟨_,kac (psl (i:=4) Xr.nd (pe_op kaA (pe_op kdH (pcl UM hr W.ZS (kaa (pv 0) (kaa (pv 1) kae))) kaf) kaf))
   (kac (psl (i:=5) Xr.nd (pe_op kdH (pe_op kbO (pv 4) (pe_op kaA (pe_op kaA kaf (pe_op kbO (pe_op kbO kaf (pv 1)) (pv 1))) (pe_op kbO (pe_op kbO kaf (pv 2)) (pv 2)))) kaf))
   (kah (kap (pe_op kdH (pe_op kel (pe_op kdH (pe_op kbO (pv 5) (pv 5)) kaf) kaf) (pv 3))))),?_⟩
  have ek:∀x,(ns.getD k.toNat 0%1000003+1)*(48271+1000*k*k+69621*t*t)%2147483647=x→x*x%2147483629/3%m=someM ns k t m:=fun x e=>by
   rw[←e]
   rfl
  refine⟨_,rfl,_,rfl,a,ns,k,rfl,hS,hk.1,?_⟩
  generalize ns.getD k.toNat 0=z at ek⊢
  refine⟨_,_,rfl,rfl,(by show(0:Int)<1000003;decide),_,_,rfl,rfl,?_⟩
  refine⟨_,rfl,_,rfl,_,_,rfl,rfl, .inl ⟨by decide,by decide⟩,_,rfl,_,_,rfl,rfl, .inr ⟨by omega,by omega⟩,_,_,rfl,rfl,_,rfl,_,_,rfl,rfl, .inl ⟨by decide,by decide⟩,_,rfl,_,_,rfl,rfl, .inr ⟨by omega,by omega⟩,_,_,rfl,rfl,_,_,rfl,rfl, .inl ⟨by omega,by omega⟩,_,_,rfl,rfl,(by show(0:Int)<2147483647;decide),?_⟩
  generalize hx:(z%1000003+1)*(48271+1000*k*k+69621*t*t)%2147483647=x
  have x0:0≤x∧x<2147483647:=by omega
  refine⟨_,rfl,_,rfl,_,_,rfl,rfl, .inl ⟨by omega,by omega⟩,_,_,rfl,rfl,(by show(0:Int)<2147483629;decide),_,_,rfl,rfl,⟨by decide,by decide⟩,_,rfl,_,_,rfl,rfl,hm,?_⟩
  exact kk _ (Int.emod_nonneg _ (by omega)) ⟨Int.emod_lt_of_pos _ hm,by rw[hx];exact ek x hx⟩
noncomputable def kf2(ns:List Int)(k t:Int):Int:=if someM ns k t 4<2 then someM ns k (t+1) 10 else if someM ns k t 4=2 then 25*someM ns k (t+1) 40 else someM ns k (t+1) 1000000*1000000+someM ns k (t+2) 1000001
inductive kg9 (K:JZ) (vs:List V) (H:Hp) (Q:VK) (E_:XK):Prop
 |ct (a:Addr)(ns:List Int)(k t:Int)(_:vs=[.ref a, .int k, .int t])(_:SqL K H a (ns.map V.int))(_:(0≤k∧k≤1000))(_:(0≤t∧t≤900))(_:∀z:Int,0≤z→z≤1000000000000∧z=kf2 ns k t→Q (.int z) H):kg9 K vs H Q E_
theorem VN:kan ["_law_script","_law_k","_law_salt","_law_how"] ["_law_script","_law_k","_law_salt"] (kag kcx):=by ac_rfl
theorem kfs(W:WB K mg d base):FO P w W 3 d.Yu d.Yv ["_law_script","_law_k","_law_salt"] (kg9 K):=by
 exists W.Qo.F,VN
 ·obtain⟨a,ns,k,t,rfl,hS,hk,ht,kk⟩:=h
  exists qh,kaM,W
  refine⟨_,kac (psl (i:=3) VN.nd (pcl qh hr W.qk (kaa (pv 0) (kaa (pv 1) (kaa (pv 2) (kaa kaf kae))))))
   (kac (ps_if (kas op_lt (pv 3) kaf (kav _)) (kah (kap (pcl qh hr W.qk (kaa (pv 0) (kaa (pv 1) (kaa (pe_op kaA (pv 2) kaf) (kaa kaf kae))))))) (kat))
   (kac (ps_if (kas op_eq (pv 3) kaf (kav _)) (kah (kap (pe_op kbO kaf (pcl qh hr W.qk (kaa (pv 0) (kaa (pv 1) (kaa (pe_op kaA (pv 2) kaf) (kaa kaf kae)))))))) (kat))
   (kah (kap (pe_op kaA (pe_op kbO (pcl qh hr W.qk (kaa (pv 0) (kaa (pv 1) (kaa (pe_op kaA (pv 2) kaf) (kaa kaf kae))))) kaf) (pcl qh hr W.qk (kaa (pv 0) (kaa (pv 1) (kaa (pe_op kaA (pv 2) kaf) (kaa kaf kae)))))))))),?_⟩
  unfold kf2 at kk
  refine⟨_,rfl,_,rfl,_,rfl,a,ns,k,t,4,rfl,hS,hk,⟨by omega,by omega⟩,by decide,fun w w0 w1=>?_⟩
  rw[←w1.2] at kk
  refine⟨_,rfl,_,_,rfl,rfl,_,rfl,ite2 (fun h=>?_) (fun h=>?_)⟩
  ·rw[if_pos (of_decide_eq_true h)] at kk
   exact⟨_,rfl,_,rfl,_,rfl,_,_,rfl,rfl,a,ns,k,t+1,10,rfl,hS,hk,⟨by omega,by omega⟩,by decide,fun z z0 z1=>kk z z0 ⟨by omega,z1.2⟩⟩
  rw[if_neg (by simpa using h)] at kk
  refine⟨_,rfl,rfl,_,rfl,ite2 (fun h=>?_) (fun h=>?_)⟩
  ·rw[if_pos (by simpa using h)] at kk
   exact⟨_,rfl,_,rfl,_,rfl,_,_,rfl,rfl,a,ns,k,t+1,40,rfl,hS,hk,⟨by omega,by omega⟩,by decide,fun z z0 z1=>⟨_,_,rfl,rfl, .inl ⟨by decide,by decide⟩,kk _ (by omega) ⟨by omega,by rw[←z1.2]⟩⟩⟩
  rw[if_neg (by simpa using h)] at kk
  exact⟨_,rfl,_,rfl,_,rfl,_,_,rfl,rfl,a,ns,k,t+1,1000000,rfl,hS,hk,⟨by omega,by omega⟩,by decide,fun z z0 z1=>⟨_,_,rfl,rfl, .inr ⟨by decide,by decide⟩,_,rfl,_,rfl,_,rfl,_,_,rfl,rfl,a,ns,k,t+2,1000001,rfl,hS,hk,⟨by omega,by omega⟩,by decide,fun y y0 y1=>⟨_,_,rfl,rfl,kk _ (by omega) ⟨by omega,by rw[←z1.2,←y1.2]⟩⟩⟩⟩
inductive kkL (K:JZ) (vs:List V) (H:Hp) (Q:VK) (E_:XK):Prop
 |ct (a:Addr)(ns:List Int)(_:vs=[.ref a])(_:SqL K H a (ns.map V.int))(_:∀(H':Hp)(p:Addr)(ps:List (Option Nat)),Same H H'→H p=none→H' p=some (.lst (ps.map pV))→Good ps→ps.length≤20→0<ps.length→Q (.ref p) H'):kkL K vs H Q E_
theorem Xs:kan ["_law_script","_law_parents_here","_law_j"] ["_law_script"] (kag kb4):=by ac_rfl
theorem keq(W:WB K mg d base):FO P w W 3 d.Yw d.Yx ["_law_script"] (kkL K):=by
 exists W.ZT.F,Xs
 ·obtain⟨a,ns,rfl,hS,kk⟩:=h
  exists qh,kaM,W
  refine⟨_,kac (psl (i:=1) Xs.nd (kaI kae))
   (kac (kbx PassesOwn.never rfl (kby rfl W.B.range (kaa (pe_op kaA kaf (pcl qh hr W.qk (kaa (pv 0) (kaa kaf (kaa kaf (kaa kaf kae)))))) kae)) (pgn (i:=2) Xs.nd)
   (kah (ps_if (PW.pt (pw_or (kas op_eq (pv 2) kaf (kav _)) (keV (kas op_eq (pcl qh hr W.qk (kaa (pv 0) (kaa kaf (kaa (pe_op kaA kaf (pv 2)) (kaa kaf kae))))) kaf (kav _))))) (kah (kaL (pe_bm NA NW NY kaW (pv 1) (kaa ka0 kae)))) (kah (kaL (pe_bm NA NW NY kaW (pv 1) (kaa (pcl qh hr W.qk (kaa (pv 0) (kaa kaf (kaa (pe_op kaA kaf (pv 2)) (kaa (pv 2) kae))))) kae)))))))
   (kah (kap (pv 1)))),?_⟩
  refine⟨by decide,fun p hp=>?_⟩
  generalize hgH1:upd H p _=H1
  obtain⟨s1,(hp1:H1 p=some (.lst (([]:List (Option Nat)).map pV)))⟩:=kaV hgH1 hp
  refine⟨_,rfl,a,ns,0,1,6,rfl,s1.seq hS,⟨by decide,by decide⟩,⟨by decide,by decide⟩,by decide,fun m m0 m1=>⟨_,_,rfl,rfl,_,rfl,by omega,by omega,?_⟩⟩
  refine kcb (fun i σ H'=>Same H H'∧∃(ps:List (Option Nat))(v2:Option V),σ=[some (.ref a),some (.ref p),v2]∧H' p=some (.lst (ps.map pV))∧ps.length=i∧Good ps)
   ⟨s1,[],none,rfl,hp1,rfl,kko⟩ ?_ ?_
  ·rintro i σ H' hi ⟨s2,ps,v2,rfl,hp2,hl,hg⟩
   rw[Int.zero_add]
   have hi6:i<7:=by omega
   have fin:∀(o:Option Nat)(v2:Option V),(∀k,o=some k→k<ps.length)→kiO (.ref p) [pV o] H' (fun _ H1=>Same H H1∧∃(ps':List (Option Nat))(v2':Option V),([some (.ref a),some (.ref p),v2]:St)=[some (.ref a),some (.ref p),v2']∧H1 p=some (.lst (ps'.map pV))∧ps'.length=i+1∧Good ps'):=by
    intro o v2 h
    refine⟨p,_,_,rfl,rfl,hp2,kaq (by rw[JY];omega),kao hp s2,ps++[o],v2,rfl,?_,by simp[hl],kjs hg h⟩
    rw[kad]
    simp
   refine⟨_,rfl,rfl,_,rfl,ite2 (fun _=>iteT ⟨_,rfl, .inl ⟨rfl,_,SqL.of hp2⟩,fin none _ (fun k e=>by cases e)⟩) (fun h0=>?_)⟩
   refine⟨_,rfl,_,rfl,_,_,rfl,rfl,a,ns,0,10+(i:Int),3,rfl,s2.seq hS,⟨by decide,by decide⟩,⟨by omega,by omega⟩,by decide,fun y y0 y1=>⟨rfl,_,rfl,ite2 (fun _=>⟨_,rfl, .inl ⟨rfl,_,SqL.of hp2⟩,fin none _ (fun k e=>by cases e)⟩) (fun _=>?_)⟩⟩
   have hi0:0<i:=by
    rcases Nat.eq_zero_or_pos i with e|e
    ·exact absurd (by rw[e];decide) h0
    ·exact e
   refine⟨_,rfl, .inl ⟨rfl,_,SqL.of hp2⟩,_,rfl,_,rfl,_,_,rfl,rfl,_,rfl,a,ns,0,20+(i:Int),(i:Int),rfl,s2.seq hS,⟨by decide,by decide⟩,⟨by omega,by omega⟩,by omega,fun y y0 y1=>?_⟩
   obtain⟨n,en⟩:=Int.eq_ofNat_of_zero_le y0
   have q:=fin (some n) (some (.int i)) (fun k e=>by cases e;omega)
   rw[show pV (some n)=V.int y by rw[en];rfl] at q
   exact q
  ·rintro σ H' ⟨s2,ps,v2,rfl,hp2,hl,hg⟩
   exact⟨_,rfl,kk H' p ps s2 hp hp2 hg (by omega) (by omega)⟩
inductive keU (vs:List V) (H:Hp) (Q:VK) (E_:XK):Prop
 |ct (n:Int)(_:vs=[.int n, .int n])(_:Q (.bl true) H):keU vs H Q E_
theorem kdv:kan ["_law_found","_law_due"] ["_law_found","_law_due"] (kag kbE):=by ac_rfl
theorem kbs(W:WB K mg d base):FO P w W 1 d.YT d.YU ["_law_found","_law_due"] keU:=by
 exists W.Qa.F,kdv
 ·obtain⟨n,rfl,kk⟩:=h
  refine⟨_,kah (kap (kf4 (kau (r:=rIsi K) kaT (by rfl) W.B.isi b_isi (kaa (pv 0) (kaa (keg (v:=.ty "int") (by rfl) W.B.int b_int rfl) kae))) (kf4 (kmg (kau (r:=rIsi K) kaT (by rfl) W.B.isi b_isi (kaa (pv 0) (kaa (keg (v:=.ty "bool") (by rfl) W.B.bool kmC rfl) kae)))) (kf3 (kbm op_eq (pv 0) (pv 1) (kav _)))))),?_⟩
  refine⟨_,rfl,_,_,_,_,rfl, .inl ⟨_,rfl⟩,TyOf.int _,kbu _ _,_,rfl,iteT ⟨_,rfl,_,_,_,_,rfl, .inl ⟨_,rfl⟩,TyOf.int _,kgg _,_,rfl,_,rfl,iteT ⟨_,rfl,_,rfl,rfl,?_⟩⟩⟩
  show Q (.bl (decide (V.int n=V.int n))) H
  rw[show decide (V.int n=V.int n)=true by simp]
  exact kk
noncomputable def wrth(rs:List Row):List Int:=rs.map fun r=>r.pr*r.mn
inductive kim (d:D) (vs:List V) (H:Hp) (Q:VK) (E_:XK):Prop
 |ct (b:Addr)(B:Bask)(_:vs=[.ref b])(_:BaskIs d.qe d.qf H b B)(_:B.rs.length≤12)(_:(∀r∈B.rs,r.Ok))(_:∀(H':Hp),Same H H'→0≤(wrth B.rs).sum→Q (.int (wrth B.rs).sum) H'):kim d vs H Q E_
theorem kff:kan ["_law_basket_here"] ["_law_basket_here"] (kag kcv):=by ac_rfl
theorem kfq(W:WB K mg d base):FO P w W 1 d.YI d.YJ ["_law_basket_here"] (kim d):=by
 exists W.ZX.F,kff
 ·obtain⟨b,B,rfl,hB,h12,hok,kk⟩:=h
  obtain⟨l,ls,⟨dxb,fsb,hb,lb1,lb2,lb3⟩,hl,hL⟩:=id hB
  refine⟨_,kah (kap (kau (r:=rSum K) (kcp rfl) (by rfl) W.B.sum b_sum (kaa (ka6 (N:=["_law_line"]) (CompScope.plain rfl (by decide +kernel) (by decide +kernel) (by decide +kernel) (nd1 _)) rfl (kaH (K:=K) (kam (K:=K) (pv 0) rfl)) (fun _ _ _ _=>pgn (i:=0) (nd1 _)) (fun _ _ _ _=>(pe_op kbO (kam (K:=K) (pv 0) rfl) (kam (K:=K) (pv 0) rfl)))) kae))),?_⟩
  refine⟨_,rfl,b,d.qf,dxb,fsb,_,rfl,hb,W.qf.cl,W.qF,lb1,l,rfl,⟨_,SqL.of hl⟩,kaS (xs:=ls.map V.ref) (fun i σ ys H'=>H'=H∧ys=((wrth B.rs).take i).map V.int∧∃v0:Option V,σ=[v0]) ⟨rfl,rfl,none,rfl⟩ (by rw[JY,hL.len];exact Ng (kaq (by omega))) ?_ ?_ ?_⟩
  ·rintro i σ ys H' hi ⟨rfl,rfl,v0,rfl⟩
   refine⟨SqL.of hl,?_⟩
   rw[JY,Nt]
   unfold wrth
   rw[JY,hL.len] at hi
   rw[JY]
   omega
  ·rintro i y σ ys H' hy ⟨rfl,rfl,v0,rfl⟩
   obtain⟨a,ea,rfl⟩:=kbN hy
   obtain⟨r,er,dxl,fsl,ha,q1,q2,q3,q4⟩:=hL.at ea
   have ro:=hok r (Nb er)
   refine⟨_,rfl,a,d.qe,dxl,fsl,_,rfl,ha,W.qe.cl,W.Qs,q2,_,rfl,a,d.qe,dxl,fsl,_,rfl,ha,W.qe.cl,W.qE,q3,_,_,rfl,rfl, .inl ⟨by have:=ro.pr0;omega,by have:=ro.pr1;omega⟩,rfl,?_,_,rfl⟩
   rw[kbh (r:=r.pr*r.mn) (by unfold wrth;rw[Nc,er];rfl),J9]
   rfl
  ·rintro σ ys H' ⟨rfl,rfl,v0,rfl⟩ D hD
   rw[JY,N4 (by unfold wrth;rw[JY,hL.len];exact J4 _)]
   refine⟨D,_,rfl,SqL.of kad,kk _ (kak hD) (kbT fun z hz=>?_)⟩
   obtain⟨r,hr,rfl⟩:=Nq.mp hz
   have ro:=hok r hr
   exact Int.mul_nonneg ro.pr0 ro.mn0
theorem at5N{a b c e f:V}{i:Int}(h0:0≤i)(h5:i<5):∃v,atI [a,b,c,e,f] i=some v∧(v=a∨v=b∨v=c∨v=e∨v=f):=by
 obtain⟨n,rfl⟩:=Int.eq_ofNat_of_zero_le h0
 have hn:n<5:=by omega
 match n,hn with
 |0,_=>exact⟨a,rfl, .inl rfl⟩
 |1,_=>exact⟨b,rfl, .inr (.inl rfl)⟩
 |2,_=>exact⟨c,rfl, .inr (.inr (.inl rfl))⟩
 |3,_=>exact⟨e,rfl, .inr (.inr (.inr (.inl rfl)))⟩
 |4,_=>exact⟨f,rfl, .inr (.inr (.inr (.inr rfl)))⟩
inductive kiw (K:JZ) (vs:List V) (H:Hp) (Q:VK) (E_:XK):Prop
 |ct (a:Addr)(ns:List Int)(m:Nat)(_:vs=[.ref a,iV m])(_:SqL K H a (ns.map V.int))(_:m≤8)(_:∀(H':Hp)(h:Addr)(hand:List Int),Same H H'→H h=none→H' h=some (.lst (hand.map V.int))→hand.length=m→Q (.ref h) H'):kiw K vs H Q E_
theorem kfX:kan ["_law_script","_law_many"] ["_law_script","_law_many"] (kag kcf):=by ac_rfl
theorem kf9(W:WB K mg d base):FO P w W 3 d.YM d.YN ["_law_script","_law_many"] (kiw K):=by
 exists W.ZZ.F,kfX
 ·obtain⟨a,ns,m,rfl,hS,hm,kk⟩:=h
  exists qh,kaM,W
  refine⟨_,kah (kap (ka6 (N:=["_law_j","_law_script"]) (CompScope.of (N:=["_law_j","_law_script"]) (cap:=[none,some 0]) (kag kcf).names ["_law_script","_law_many"] rfl rfl (by decide +kernel)) rfl (kby rfl W.B.range (kaa (pv 1) kae)) (fun _ _ _ _=>pgn (i:=0) (show(["_law_j","_law_script"]:List Str).Nodup by decide +kernel)) (fun _ _ _ _=>(pe_ix (r:=rIxL K) kaG (kaI (kaa kaf (kaa kaf (kaa kaf (kaa kaf (kaa kaf kae)))))) (pcl qh hr W.qk (kaa (pv 1) (kaa kaf (kaa (pe_op kaA kaf (pv 0)) (kaa kaf kae))))) (fun _ _=>rfl))))),?_⟩
  refine⟨_,rfl,_,rfl,by omega,by omega,?_⟩
  rw[Int.toNat_natCast]
  refine ke4 (fun i σ ys H'=>Same H H'∧∃(hand:List Int)(v0:Option V),ys=hand.map V.int∧hand.length=i∧σ=[v0,some (.ref a)])
   ⟨Same.refl _,[],none,rfl,rfl,rfl⟩ (Ng (kaq (by omega))) (fun i σ ys H' hi h=>by obtain⟨_,o,v0,rfl,hl,_⟩:=h;rw[JY];exact hl) ?_ ?_
  ·rintro i σ ys H' hi ⟨s1,hand,v0,rfl,hl,rfl⟩
   rw[Int.zero_add]
   refine⟨(by show 5≤sizeLine;decide),fun l hl'=>?_⟩
   have n2:=kak (o:=.lst [V.int 1,V.int 1,V.int 2,V.int 0,V.int 3]) hl'
   refine⟨_,rfl,_,rfl,_,_,rfl,rfl,a,ns,7,1+(i:Int),5,rfl,(s1.trans n2).seq hS,⟨by decide,by decide⟩,⟨by omega,by omega⟩,by decide,fun z z0 z1=>?_⟩
   obtain⟨v,e,hv⟩:=at5N (a:=.int 1) (b:=.int 1) (c:=.int 2) (e:=.int 0) (f:=.int 3) z0 z1.1
   obtain⟨k,rfl⟩:∃k:Int,v=.int k:=by rcases hv with rfl|rfl|rfl|rfl|rfl <;> exact⟨_,rfl⟩
   exact⟨l,_,_,_,rfl,rfl,SqL.of kad,e,s1.trans n2,hand++[k],_,by rw[J9];rfl,by simp[hl],rfl⟩
  ·rintro σ ys H' ⟨s1,hand,v0,rfl,hl,rfl⟩ D hD
   exact kk _ D hand (s1.trans (kak hD)) (s1.free hD) kad hl
noncomputable def goM(T:TillD)(B:Bask)(hand:List Int)(order:List Nat):Bool:=match ka9 T B hand order with
 |none=>true
 |some (_,z)=>decide (z=.str "only")
inductive kix (d:D) (vs:List V) (H:Hp) (Q:VK) (E_:XK):Prop
 |ct (t b h o:Addr)(T:TillD)(B:Bask)(hand:List Int)(order:List Nat)(_:vs=[.ref t, .ref b, .ref h, .ref o])(_:TillIs d H t T)(_:kcP T)(_:BaskIs d.qe d.qf H b B)(_:Wf T.ps B (stnd0 B))(_:H h=some (.lst (hand.map V.int)))(_:H o=some (.lst (order.map iV)))(_:hand.length=T.vs.length)(_:(∀n∈order,n<T.vs.length))(_:order.length<64)(_:∀(H':Hp)(g:Bool),Same H H'→g=goM T B hand order→Q (.bl g) H'):kix d vs H Q E_
variable {T:TillD}{B:Bask}{hand:List Int}
theorem kjw{order:List Nat}{k:Nat}{z:L2.V}(hf:ka9 T B hand order=some (k,z)):(∃s,z=.str s)∨z=.non:=by
 unfold ka9 at hf
 simp only at hf
 split at hf
 ·split at hf
  ·cases hf
  ·injection hf with hf
   injection hf with _ hz
   subst hz
   unfold dueM
   split
   ·exact .inl ⟨_,rfl⟩
   ·unfold hindM
    split
    ·exact .inl ⟨_,rfl⟩
    ·split
     ·exact .inl ⟨_,rfl⟩
     ·split
      ·exact .inl ⟨_,rfl⟩
      ·exact .inr rfl
 ·split at hf
  ·cases hf
  ·injection hf with hf
   injection hf with _ hz
   exact .inl ⟨_,hz.symm⟩
theorem VO:kan ["_law_till_here","_law_basket_here","_law_hand_here","_law_order_here","_law_found"] ["_law_till_here","_law_basket_here","_law_hand_here","_law_order_here"] (kag kcA):=by ac_rfl
theorem kfv(W:WB K mg d base):FO P w W 9 d.YO d.YQ ["_law_till_here","_law_basket_here","_law_hand_here","_law_order_here"] (kix d):=by
 exists W.Z9.F,VO
 ·obtain⟨t,b,h,o,T,B,hand,order,rfl,hT,tok,hB,wf0,hh,ho,hl,hlt,h64,kk⟩:=h
  exists qC,kdh,W
  refine⟨_,kac (psl (i:=4) VO.nd (pcl qC hr W.qO (kaa (pv 0) (kaa (pv 1) (kaa (pv 2) (kaa (pv 3) kae))))))
   (kah (kap (pe_or (kbm keY (pv 4) ka0 (kav _)) (kf3 (kbm op_eq (pe_ix (r:=rIxT K) kew (pv 4) kaf (fun _ _=>rfl)) kbz (kav _)))))),?_⟩
  refine⟨_,rfl,_,rfl,_,rfl,_,rfl,t,b,h,o,T,B,hand,order,rfl,hT,tok,hB,wf0,hh,ho,hl,hlt,h64,fun H1 v s1 hF=>?_⟩
  cases e:ka9 T B hand order with
  |none=>
   rw[e] at hF
   have ev:v=.non:=hF
   subst ev
   refine⟨_,rfl,rfl,_,rfl,?_⟩
   show if decide (V.non=V.non)=true then _ else _
   rw[show decide (V.non=V.non)=true by simp]
   exact iteT (kk H1 _ s1 (by unfold goM;rw[e]))
  |some p=>
   obtain⟨k,z⟩:=p
   rw[e] at hF
   obtain⟨a,rfl,ha⟩:=hF
   refine⟨_,rfl,rfl,_,rfl,?_⟩
   show if decide (V.ref a=V.non)=true then _ else _
   rw[show decide (V.ref a=V.non)=false by simp]
   refine iteF ⟨_,rfl,a,_,_,_,rfl,rfl,SqT.of ha,rfl,?_,kk H1 _ s1 (by unfold goM;rw[e])⟩
   rcases kjw e with⟨s,rfl⟩|rfl <;> rfl
theorem kgk:ka9 T B hand []=none:=by
 have e:onlyM T.rs []=none:=by
  unfold onlyM
  rw[List.find?_eq_none.mpr fun r _=>by unfold loneM;simp]
  rfl
 have ew:walkM T B hand [] [] (stnd0 B)=([],stnd0 B):=rfl
 unfold ka9
 rw[ew]
 simp[e]
inductive khb (K:JZ) (d:D) (vs:List V) (H:Hp) (Q:VK) (E_:XK):Prop
 |ct (a t b h:Addr)(ns:List Int)(k:Int)(T:TillD)(B:Bask)(hand:List Int)(_:vs=[.ref a, .int k, .ref t, .ref b, .ref h])(_:SqL K H a (ns.map V.int))(_:(0≤k∧k≤900))(_:TillIs d H t T)(_:kcP T)(_:0<T.vs.length)(_:BaskIs d.qe d.qf H b B)(_:Wf T.ps B (stnd0 B))(_:H h=some (.lst (hand.map V.int)))(_:hand.length=T.vs.length)(_:∀(H':Hp)(o:Addr)(order:List Nat),Same H H'→H o=none→H' o=some (.lst (order.map iV))→(∀n∈order,n<T.vs.length)→order.length≤8→ka9 T B hand order=none→Q (.ref o) H'):khb K d vs H Q E_
theorem qT:kan ["_law_script","_law_k","_law_till_here","_law_basket_here","_law_hand_here","_law_order_here","_law_most","_law_j","_law_number"] ["_law_script","_law_k","_law_till_here","_law_basket_here","_law_hand_here"] (kag kcy):=by ac_rfl
theorem kft(W:WB K mg d base):FO P w W 10 d.YR d.YS ["_law_script","_law_k","_law_till_here","_law_basket_here","_law_hand_here"] (khb K d):=by
 exists W.Va.F,qT
 ·obtain⟨a,t,b,h,ns,k,T,B,hand,rfl,hS,hk,hT,tok,hv0,hB,wf0,hh,hl,kk⟩:=h
  exists qh,kaM,W
  exists UN,kfv,W
  exists qC,kdh,W
  exists hr2,2,hr,0
  exists hr8,8,hr,0
  refine⟨_,kac (psl (i:=5) qT.nd (kaI kae))
   (kac (psl (i:=6) qT.nd kaf)
   (kac (kcC (ps_if (PW.pt (kbw (kas op_lt (kau (r:=rSum K) (kcp rfl) (by rfl) W.B.sum b_sum (kaa (ka6 (N:=["_law_line"]) (CompScope.plain rfl (by decide +kernel) (by decide +kernel) (by decide +kernel) (nd1 _)) rfl (kaH (K:=K) (kam (K:=K) (pv 3) rfl)) (fun _ _ _ _=>pgn (i:=0) (nd1 _)) (fun _ _ _ _=>(kam (K:=K) (pv 0) rfl))) kae)) kaf (kav _)) (kbj (kas op_eq (pcl qh hr2 W.qk (kaa (pv 0) (kaa kaf (kaa kaf (kaa kaf kae))))) kaf (kav _))))) (kah (psl (i:=6) qT.nd kaf)) (kat)))
   (kac (kbx PassesOwn.never rfl (kby rfl W.B.range (kaa (pe_ix (r:=rIxL K) kaG (kaI (kaa kaf (kaa kaf kae))) (kaF kdq (by rfl) W.B.int b_int (kaa (kbm op_eq (pv 6) kaf (kav _)) kae)) (fun _ _=>rfl)) kae)) (pgn (i:=7) qT.nd)
   (kac (psl (i:=8) qT.nd (pcl qh hr2 W.qk (kaa (pv 0) (kaa (pe_op kaA (pv 1) (pv 7)) (kaa kaf (kaa (kau (r:=kba K) kaz (by rfl) W.B.len b_len (kaa (kam (K:=K) (pv 2) rfl) kae)) kae))))))
   (kah (ps_if (PW.pt (kbw (kas op_lt (kau (r:=kba K) kaz (by rfl) W.B.len b_len (kaa (pv 5) kae)) (pv 6) (kav _)) (kbj (kaU (pcl UN hr W.Z9 (kaa (pv 2) (kaa (pv 3) (kaa (pv 4) (kaa (pe_op ki4 (pv 5) (kaI (kaa (pv 8) kae))) kae))))))))) (kah (kaL (pe_bm NA NW NY kaW (pv 5) (kaa (pv 8) kae)))) (kat)))))
   (kac (kfm PassesOwn.never (kas kck (pcl qC hr8 W.qO (kaa (pv 2) (kaa (pv 3) (kaa (pv 4) (kaa (pv 5) kae))))) ka0 (kav _))
   (kah (kaL (ki0 NA Dd De kkZ (pv 5)))))
   (kah (kap (pv 5))))))),?_⟩
  exists Y4
  refine⟨by decide,fun o fo=>?_⟩
  generalize hgH1:upd H o _=H1
  obtain⟨s1,(eo1:H1 o=some (.lst (([]:List Nat).map iV)))⟩:=kaV hgH1 fo
  symm
  refine⟨fun σ H'=>Same H H'∧H' o=some (.lst (([]:List Nat).map iV))∧∃m:Int,(m=5∨m=8)∧σ=[some (.ref a),some (.int k),some (.ref t),some (.ref b),some (.ref h),some (.ref o),some (.int m),none,none],?_,?_⟩
  ·obtain⟨l,ls,⟨dxb,fsb,hb,lbl,lbc,lbm⟩,hlb,hL⟩:=id (hB.same s1)
   have hll:=hL.len
   have hnl:=wf0.nl
   symm
   exists Y6
   refine⟨_,rfl,b,d.qf,dxb,fsb,_,rfl,hb,W.qf.cl,W.qF,lbl,l,rfl,⟨_,SqL.of hlb⟩,kaS (xs:=ls.map V.ref) (fun i σ ys H'=>H'=H1∧(∃zs:List Int,ys=zs.map V.int∧zs.length=i)∧∃v,σ=[v]) ⟨rfl,⟨[],rfl,rfl⟩,none,rfl⟩ (by rw[JY,hll];exact Ng (kaq (by omega))) ?_ ?_ ?_⟩
   ·rintro i σ ys H' hi ⟨rfl,⟨zs,rfl,hz⟩,_⟩
    nofun
    exact⟨SqL.of hlb,by rw[JY];exact hz⟩
   ·rintro i y σ ys H' hy ⟨rfl,⟨zs,rfl,hz⟩,v,rfl⟩
    obtain⟨lx,el,rfl⟩:=kbN hy
    obtain⟨r,er⟩:=at_of (xs:=B.rs) (i:=i) (by have:=at_lt el;omega)
    obtain⟨dxl,fsl,hlx,lk1,lk2,lk3,lk4⟩:=hL.get el er
    nofun
    exact⟨_,rfl,lx,d.qe,dxl,fsl,_,rfl,hlx,W.qe.cl,W.qE,lk3,rfl,⟨zs++[r.mn],by rw[J9];rfl,by rw[Np,hz];rfl⟩,_,rfl⟩
   ·rintro σ ys H' ⟨rfl,⟨zs,rfl,hz⟩,v,rfl⟩ D hD
    generalize hgH2:upd H' D _=H2
    obtain⟨n2,u2⟩:=kaV hgH2 hD
    have s2:=s1.trans n2
    nofun
    exists Y8
    refine⟨D,_,rfl,SqL.of u2,_,_,rfl,rfl,_,rfl,ite2 (fun _=>?_) (fun _=>?_)⟩
    ·refine⟨_,rfl,a,ns,7,20,4,rfl,s2.seq hS,⟨by decide,by decide⟩,⟨by decide,by decide⟩,by decide,fun z z0 z1=>⟨rfl,_,rfl,ite2 (fun _=>?_) (fun _=>?_)⟩⟩
     ·exact⟨s2,n2 _ _ eo1,8, .inr rfl,rfl⟩
     ·exact⟨s2,n2 _ _ eo1,5, .inl rfl,rfl⟩
    ·exact iteF ⟨s2,n2 _ _ eo1,5, .inl rfl,rfl⟩
  rintro σ H1' ⟨s1',eo1',m,hm,rfl⟩
  symm
  refine⟨(by show 2≤sizeLine;decide),fun q0 hq0=>?_⟩
  generalize hgH2p:upd H1' q0 _=H2'
  obtain⟨n2,u2⟩:=kaV hgH2p hq0
  symm
  exists Y4
  refine⟨_,rfl,rfl, .inr ⟨_,rfl,?_⟩⟩
  generalize decide (V.int m=V.int 8)=dm
  obtain⟨c,ec,hc⟩:∃c:Int,atI [V.int 5,V.int 12] (if dm=true then(1:Int) else 0)=some (.int c)∧0≤c∧c≤12:=by
   cases dm with
   |true=>exact⟨12,rfl,by omega,by omega⟩
   |false=>exact⟨5,rfl,by omega,by omega⟩
  symm
  exists Y4
  refine⟨q0,_,_,_,rfl,rfl,SqL.of u2,ec,_,rfl,by omega,by omega,?_⟩
  symm
  refine kcb (fun i σ H'=>Same H H'∧∃(order:List Nat)(v7 v8:Option V),H' o=some (.lst (order.map iV))∧(∀n∈order,n<T.vs.length)∧order.length≤8∧σ=[some (.ref a),some (.int k),some (.ref t),some (.ref b),some (.ref h),some (.ref o),some (.int m),v7,v8])
   ⟨s1'.trans n2,[],none,none,n2 _ _ eo1',(fun n hn=>by simp at hn),by simp,rfl⟩ ?_ ?_
  ·rintro i σ H' hi ⟨s2,order,v7,v8,eo,hlt,hle,rfl⟩
   have hi12:i<12:=by omega
   rw[Int.zero_add]
   obtain⟨dx,fs,p,vl,rl,va,ra,ht,t1,t2,t3,t4,hp,hvl,hva,hrl,hra⟩:=id (hT.same s2)
   have lva:=hva.len
   symm
   exists Y6
   refine⟨_,rfl,_,rfl,_,rfl,_,_,rfl,rfl,_,rfl,t,d.qd,dx,fs,_,rfl,ht,W.qd.cl,W.qx,t2,vl,_,rfl, .inl (SqL.of hvl),a,ns,k+(i:Int),1,_,rfl,s2.seq hS,⟨by omega,by omega⟩,⟨by decide,by decide⟩,(by rw[JY];omega),fun z z0 z1=>?_⟩
   rw[JY,lva] at z1
   obtain⟨n,rfl⟩:=Int.eq_ofNat_of_zero_le z0
   have hn:n<T.vs.length:=by omega
   nofun
   exists Y6
   refine⟨_,rfl,o,_,rfl, .inl (SqL.of eo),_,rfl,_,_,rfl,rfl,_,rfl,ite2 (fun hlm=>?_) (fun _=>iteF ⟨s2,order,_,_,eo,hlt,hle,rfl⟩)⟩
   have hlm':order.length<8:=by
    have h1:(((order.map iV).length:Nat):Int)<m:=by simpa using hlm
    rw[JY] at h1
    omega
   nofun
   exists Y6
   refine⟨_,rfl,_,rfl,_,rfl,_,rfl,_,rfl,(by show 1≤sizeLine;decide),fun q1 hq1=>?_⟩
   have n3:=kak (o:=.lst [V.int (n:Int)]) hq1
   nofun
   exists Y6
   refine⟨o,q1,_,_,rfl,rfl,n3 _ _ eo,kad,Ng (kaq (by rw[JY];show _+1≤1000;omega)),fun q2 hq2=>?_⟩
   have n4:=kak (o:=.lst (order.map iV++[V.int (n:Int)])) hq2
   have eq2:(upd (upd H' q1 (.lst [V.int (n:Int)])) q2 (.lst (order.map iV++[V.int (n:Int)]))) q2=some (.lst ((order++[n]).map iV)):=by rw[kad,J9];rfl
   have s34:=n3.trans n4
   generalize upd (upd H' q1 (.lst [V.int (n:Int)])) q2 (.lst (order.map iV++[V.int (n:Int)]))=H4 at *
   have s4:=s2.trans s34
   have eo4:=s34 _ _ eo
   have hlt':∀m∈order++[n],m<T.vs.length:=fun m hm=>by
    rcases NJ.mp hm with h|h
    ·exact hlt m h
    ·have:m=n:=by simpa using h
     omega
   nofun
   exists Y6
   refine⟨t,b,h,q2,T,B,hand,order++[n],rfl,hT.same s4,tok,hB.same s4,wf0,s4 _ _ hh,eq2,hl,hlt',by rw[Np];show _+1<64;omega,fun H5 g s5 _=>⟨g,rfl,?_⟩⟩
   have s05:=s4.trans s5
   have eo5:=s5 _ _ eo4
   cases g with
   |true=>
    refine iteT ?_
    nofun
    exists Y8
    refine⟨_,rfl, .inl ⟨rfl,_,SqL.of eo5⟩,_,rfl,o,_,_,rfl,rfl,eo5,kaq (by rw[JY];omega),?_⟩
    exists 3
    exists Y8
    refine⟨kao fo s05 (nx eo5),order++[n],_,_,?_,hlt',by rw[Np];show _+1≤_;omega,rfl⟩
    rw[kad,J9]
    rfl
   |false=>exact iteF ⟨s05,order,_,_,eo5,hlt,by omega,rfl⟩
  ·rintro σ H' ⟨s2,order,v7,v8,eo,hlt,hle,rfl⟩
   have hle8:order.length≤8:=hle
   nofun
   refine ke7 (fun σ H'=>Same H H'∧∃(order:List Nat)(v7 v8:Option V),H' o=some (.lst (order.map iV))∧(∀n∈order,n<T.vs.length)∧order.length≤8∧σ=[some (.ref a),some (.int k),some (.ref t),some (.ref b),some (.ref h),some (.ref o),some (.int m),v7,v8])
    (fun _ H'=>match H' o with|some (.lst xs)=>xs.length|_=>0) ⟨s2,order,v7,v8,eo,hlt,hle8,rfl⟩ ?_ ?_
   ·rintro σ H3 ⟨s3,order,v7,v8,eo3,hlt,hle,rfl⟩
    nofun
    exists Y8
    refine⟨_,rfl,_,rfl,_,rfl,_,rfl,t,b,h,o,T,B,hand,order,rfl,hT.same s3,tok,hB.same s3,wf0,s3 _ _ hh,eo3,hl,hlt,by omega,fun H4 v s4 hF=>⟨rfl,_,rfl,?_⟩⟩
    have eo4:=s4 _ _ eo3
    cases e:ka9 T B hand order with
    |none=>
     rw[e] at hF
     have ev:v=.non:=hF
     subst ev
     rw[show(!decide (V.non=V.non))=false by simp]
     refine iteF ?_
     exists 3
     exact⟨_,rfl,kk H4 o order (s3.trans s4) fo eo4 hlt hle e⟩
    | some pz=>
     obtain⟨kz,z⟩:=pz
     rw[e] at hF
     obtain⟨fa,rfl,hfa⟩:=hF
     rw[show(!decide (V.ref fa=V.non))=true by simp]
     have h0:order≠[]:=fun z=>by
      rw[z,kgk] at e
      cases e
     have hpos:0<order.length:=List.length_pos_iff.mpr h0
     obtain⟨y,ey⟩:=at_of (xs:=order) (i:=order.length-1) (by omega)
     refine iteT ?_
     exists 3
     exists Y10
     refine⟨_,rfl, .inl ⟨rfl,_,SqL.of eo4⟩,o,_,iV y,rfl,rfl,eo4,(by rw[JY,Nc,ey];rfl),?_⟩
     rw[←List.map_dropLast]
     exists 5
     exists Y10
     refine⟨⟨kao fo (s3.trans s4) (nx eo4),order.dropLast,_,_,kad,fun n hn=>hlt n ((Df order).subset hn),by rw[MD];omega,rfl⟩,?_⟩
     show(match(upd H4 o _) o with|some (.lst xs)=>xs.length|_=>0)<(match H3 o with|some (.lst xs)=>xs.length|_=>0)
     rw[kad,eo3]
     show(order.dropLast.map iV).length<(order.map iV).length
     rw[JY,JY,MD]
     omega
   ·rintro σ H' Q' Q'' hq ⟨x0,g0,x1,g1,x2,g2,x3,g3,t',b',h',o',T',B',hd',od',e,a1,a2,a3,a4,a5,a6,a7,a8,a9,kz⟩
    exists 3
    exists Y8
    refine⟨x0,g0,x1,g1,x2,g2,x3,g3,t',b',h',o',T',B',hd',od',e,a1,a2,a3,a4,a5,a6,a7,a8,a9,fun H1 v z1 hF=>?_⟩
    obtain⟨r,c,e2,q⟩:=kz H1 v z1 hF
    exists 3
    exact⟨r,c,e2,hq _ _ q⟩
inductive kfP (vs:List V) (H:Hp) (Q:VK) (E_:XK):Prop
 |ct (x y:Addr)(zs:List Int)(_:vs=[.ref x, .ref y])(_:H x=some (.lst (zs.map V.int)))(_:H y=some (.lst (zs.map V.int)))(_:zs.length≤720)(_:∀H',Same H H'→Q (.bl true) H'):kfP vs H Q E_
theorem kcZ:kan ["_law_found","_law_due"] ["_law_found","_law_due"] (kag kbi):=by ac_rfl
theorem kc4(W:WB K mg d base):FO P w W 2 d.YV d.YW ["_law_found","_law_due"] kfP:=by
 exists W.Qp.F,kcZ
 ·obtain⟨x,y,zs,rfl,hx,hy,h720,kk⟩:=h
  exists qU,kbs,W
  refine⟨_,kac (ps_if (PW.pt (pw_or (kcT (kaU (kau (r:=rIsi K) kaT (by rfl) W.B.isi b_isi (kaa (pv 0) (kaa (keg (v:=.ty "list") (by rfl) W.B.list kbo rfl) kae))))) (keV (kas op_ne (kau (r:=kba K) kaz (by rfl) W.B.len b_len (kaa (pv 0) kae)) (kau (r:=kba K) kaz (by rfl) W.B.len b_len (kaa (pv 1) kae)) (kav _))))) (kah (kap pe_bl)) (kat))
   (kah (kap (kau (khI rfl) (by rfl) W.B.all b_all (kaa (ka6 (N:=["_law_one","_law_other"]) (CompScope.plain rfl (by decide +kernel) (by decide +kernel) (by decide +kernel) (show(["_law_one","_law_other"]:List Str).Nodup by decide +kernel)) rfl (kef rfl W.B.zip (kaa (pv 0) (kaa (pv 1) kae))) (fun _ _ _ _=>kbl (K:=K) (n:=2) rfl (kaw (pgn (i:=0) (show(["_law_one","_law_other"]:List Str).Nodup by decide +kernel)) (kaw (pgn (i:=1) (show(["_law_one","_law_other"]:List Str).Nodup by decide +kernel)) kbk))) (fun _ _ _ _=>(pcl qU hr W.Qa (kaa (pv 0) (kaa (pv 1) kae))))) kae)))),?_⟩
  refine⟨_,rfl,_,_,_,_,rfl, .inl ⟨_,rfl⟩,TyOf.lst hx,kbu _ _,_,rfl,iteF ?_⟩
  refine⟨_,rfl,x,_,rfl, .inl (SqL.of hx),_,rfl,y,_,rfl, .inl (SqL.of hy),rfl,_,rfl,?_⟩
  rw[show(!decide (V.int (((zs.map V.int).length:Nat):Int)=V.int (((zs.map V.int).length:Nat):Int)))=false by simp]
  have em:min (zs.map V.int).length (zs.map V.int).length=zs.length:=by rw[My,JY]
  refine iteF ⟨_,rfl,_,rfl,x,y,_,_,rfl,hx,hy,kfD (xs:=zs.map V.int) (ys:=zs.map V.int) (fun i σ ws H'=>Same H H'∧ws=(J6 i true).map V.bl∧∃v0 v1:Option V,σ=[v0,v1])
   ⟨Same.refl _,rfl,none,none,rfl⟩ (by rw[em];exact Ng (kaq (by omega))) (fun i σ ws H' hi h=>⟨h.1 _ _ hx,h.1 _ _ hy,by rw[h.2.1];simp⟩) ?_ ?_⟩
  ·rintro i y1 y2 t σ ws H' hy1 hy2 ⟨s1,rfl,v0,v1,rfl⟩ ht
   obtain⟨z1,ez1,rfl⟩:=kbQ hy1
   obtain⟨z2,ez2,rfl⟩:=kbQ hy2
   rw[ez1] at ez2
   cases ez2
   refine⟨t,_,rfl,SqT.of kad,rfl,_,_,rfl,_,_,rfl,rfl,_,rfl,_,rfl,z1,rfl,s1.trans (kak ht),?_,_,_,rfl⟩
   rw[MO,J9]
   rfl
  ·rintro σ ws H' ⟨s1,rfl,v0,v1,rfl⟩ D hD
   rw[em]
   refine⟨D,J6 zs.length true,rfl,SqL.of kad,?_⟩
   rw[show(J6 zs.length true).all id=true by simp]
   exact kk _ (s1.trans (kak hD))
inductive kg7 (K:JZ) (vs:List V) (H:Hp) (Q:VK) (E_:XK):Prop
 |ct (a:Addr)(ns:List Int)(m:Nat)(_:vs=[.ref a,iV m])(_:SqL K H a (ns.map V.int))(_:0<m)(_:∀(H':Hp)(l:Addr)(ra:List Addr)(rs:List Rul),Same H H'→H l=none→H' l=some (.lst (ra.map V.ref))→P2 (fun a r=>RulIs H' a r) ra rs→rs.length≤20→Q (.ref l) H'):kg7 K vs H Q E_
theorem QD:kan ["_law_script","_law_many","_law_rules_here","_law_j","_law_word"] ["_law_script","_law_many"] (kag kcw):=by ac_rfl
theorem kfr(W:WB K mg d base):FO P w W 3 d.YG d.YH ["_law_script","_law_many"] (kg7 K):=by
 exists W.ZW.F,QD
 ·obtain⟨a,ns,m,rfl,hS,hm,kk⟩:=h
  exists qh,kaM,W
  refine⟨_,kac (psl (i:=2) QD.nd (kaI kae))
   (kac (kbx PassesOwn.never rfl (kby rfl W.B.range (kaa (pcl qh hr W.qk (kaa (pv 0) (kaa kaf (kaa kaf (kaa kaf kae))))) kae)) (pgn (i:=3) QD.nd)
   (kac (psl (i:=4) QD.nd (pe_ix (r:=rIxL K) kaG (kaI (kaa kbz (kaa kbz (kaa kbz kae)))) (pcl qh hr W.qk (kaa (pv 0) (kaa kaf (kaa (pe_op kaA kaf (pv 3)) (kaa kaf kae))))) (fun _ _=>rfl)))
   (kah (kaL (pe_bm NA NW NY kaW (pv 2) (kaa (kb9 (kaa (pv 4) (kaa (pcl qh hr W.qk (kaa (pv 0) (kaa kaf (kaa (pe_op kaA kaf (pv 3)) (kaa (pv 1) kae))))) (kaa (pcl qh hr W.qk (kaa (pv 0) (kaa kaf (kaa (pe_op kaA kaf (pv 3)) (kaa (pv 1) kae))))) kae)))) kae))))))
   (kah (kap (pv 2)))),?_⟩
  exists Y4
  refine⟨by decide,fun l fl=>?_⟩
  generalize hgH1:upd H l _=H1
  obtain⟨s1,(el1:H1 l=some (.lst (([]:List Addr).map V.ref)))⟩:=kaV hgH1 fl
  symm
  exists Y4
  refine⟨_,rfl,a,ns,5,1,4,rfl,s1.seq hS,⟨by decide,by decide⟩,⟨by decide,by decide⟩,by decide,fun c c0 c1=>⟨_,rfl,by omega,by omega,?_⟩⟩
  symm
  refine kcb (fun i σ H'=>Same H H'∧∃(ra:List Addr)(rs:List Rul)(v3 v4:Option V),H' l=some (.lst (ra.map V.ref))∧P2 (fun a r=>RulIs H' a r) ra rs∧rs.length=i∧σ=[some (.ref a),some (iV m),some (.ref l),v3,v4])
   ⟨s1,[],[],none,none,el1, .nil,rfl,rfl⟩ ?_ ?_
  ·rintro i σ H' hi ⟨s2,ra,rs,v3,v4,el,hr,hlen,rfl⟩
   have hi4:i<4:=by omega
   rw[Int.zero_add]
   symm
   exists Y6
   refine⟨(by show 3≤sizeLine;decide),fun q1 hq1=>?_⟩
   have n3:=kak (o:=.lst [V.str "only",V.str "never",V.str "ahead"]) hq1
   have e3:(upd H' q1 (.lst [V.str "only",V.str "never",V.str "ahead"])) q1=some (.lst [V.str "only",V.str "never",V.str "ahead"]):=kad
   have el3:=n3 _ _ el
   have s3:=s2.trans n3
   have hr3:P2 (fun a r=>RulIs (upd H' q1 (.lst [V.str "only",V.str "never",V.str "ahead"])) a r) ra rs:=hr.mono fun a r h=>n3 _ _ h
   clear n3
   generalize upd H' q1 (.lst [V.str "only",V.str "never",V.str "ahead"])=H3 at *
   nofun
   exists Y6
   refine⟨_,rfl,_,rfl,_,_,rfl,rfl,a,ns,5,10+(i:Int),3,rfl,s3.seq hS,⟨by decide,by decide⟩,⟨by omega,by omega⟩,by decide,fun z z0 z1=>?_⟩
   obtain⟨v,ev,hv⟩:∃v,atI [V.str "only",V.str "never",V.str "ahead"] z=some v∧∃w:Str,v=.str w:=by
    obtain⟨n,rfl⟩:=Int.eq_ofNat_of_zero_le z0
    have hn:n<3:=by omega
    match n,hn with
    |0,_=>exact⟨_,rfl,_,rfl⟩
    |1,_=>exact⟨_,rfl,_,rfl⟩
    |2,_=>exact⟨_,rfl,_,rfl⟩
   obtain⟨wd,rfl⟩:=hv
   nofun
   exists Y6
   refine⟨q1,_,_,_,rfl,rfl,SqL.of e3,ev,?_⟩
   nofun
   exists Y6
   refine⟨_,rfl, .inl ⟨rfl,_,SqL.of el3⟩,_,rfl,_,rfl,_,rfl,_,_,rfl,rfl,_,rfl,a,ns,5,20+(i:Int),(m:Int),rfl,s3.seq hS,⟨by decide,by decide⟩,⟨by omega,by omega⟩,by omega,fun x x0 x1=>?_⟩
   nofun
   exists Y6
   refine⟨_,rfl,_,rfl,_,_,rfl,rfl,_,rfl,a,ns,5,30+(i:Int),(m:Int),rfl,s3.seq hS,⟨by decide,by decide⟩,⟨by omega,by omega⟩,by omega,fun y y0 y1=>⟨(by show 3≤sizeLine;decide),fun q hq=>?_⟩⟩
   obtain⟨xn,rfl⟩:=Int.eq_ofNat_of_zero_le x0
   obtain⟨yn,rfl⟩:=Int.eq_ofNat_of_zero_le y0
   have n4:=kak (o:=.tup [V.str wd,V.int (xn:Int),V.int (yn:Int)]) hq
   have e4:(upd H3 q (.tup [V.str wd,V.int (xn:Int),V.int (yn:Int)])) q=some (.tup [V.str wd,V.int (xn:Int),V.int (yn:Int)]):=kad
   have el4:=n4 _ _ el3
   have s4:=s3.trans n4
   have hr4:P2 (fun a r=>RulIs (upd H3 q (.tup [V.str wd,V.int (xn:Int),V.int (yn:Int)])) a r) ra rs:=hr3.mono fun a r h=>n4 _ _ h
   clear n4
   generalize upd H3 q (.tup [V.str wd,V.int (xn:Int),V.int (yn:Int)])=H4 at *
   nofun
   exists Y6
   refine⟨l,_,_,rfl,rfl,el4,kaq (by rw[JY,hr.len];omega),?_⟩
   have b5:But l H4 (upd H4 l (.lst (ra.map V.ref++[V.ref q]))):=kar (nx el4)
   nofun
   exists Y6
   refine⟨kao fl s4 (nx el4),ra++[q],rs++[⟨wd,xn,yn⟩],_,_,by rw[kad,J9];rfl,P2.snoc (hr4.mono fun a r h=>b5 _ _ (ne_of h el4 (by intro z;cases z)) h) (b5 _ _ (ne_of e4 el4 (by intro z;cases z)) e4),by rw[Np,hlen];rfl,rfl⟩
  ·rintro σ H' ⟨s2,ra,rs,v3,v4,el,hr,hlen,rfl⟩
   nofun
   exact⟨_,rfl,kk H' l ra rs s2 fl el hr (by omega)⟩
inductive khi (K:JZ) (vs:List V) (H:Hp) (Q:VK) (E_:XK):Prop
 |ct (a:Addr)(ns:List Int)(k t w:Int)(_:vs=[.ref a, .int k, .int t, .int w])(_:SqL K H a (ns.map V.int))(_:(0≤k∧k≤1000))(_:(0≤t∧t≤900))(_:0≤w)(_:∀(H':Hp)(z:Int),Same H H'→0≤z→z≤1000000000000→Q (.int z) H'):khi K vs H Q E_
theorem Xt:kan ["_law_script","_law_k","_law_salt","_law_worth_here","_law_how","_law_some_here"] ["_law_script","_law_k","_law_salt","_law_worth_here"] (kag kch):=by ac_rfl
theorem kcU(W:WB K mg d base):FO P w W 3 d.YA d.YB ["_law_script","_law_k","_law_salt","_law_worth_here"] (khi K):=by
 exists W.qZ.F,Xt
 ·obtain⟨a,ns,k,t,wo,rfl,hS,hk,ht,hw,kk⟩:=h
  exists qh,kaM,W
  refine⟨_,kac (psl (i:=4) Xt.nd (pcl qh hr W.qk (kaa (pv 0) (kaa (pv 1) (kaa (pv 2) (kaa kaf kae))))))
   (kac (psl (i:=5) Xt.nd (kaI (kaa (pcl qh hr W.qk (kaa (pv 0) (kaa (pv 1) (kaa (pe_op kaA (pv 2) kaf) (kaa kaf kae))))) (kaa (pv 3) (kaa (pe_op kaA (pv 3) kaf) (kaa (pe_op kel (pv 3) kaf) (kaa (pe_op kel (pv 3) kaf) kae)))))))
   (kac (kaL (pe_bm NA NW NY kaW (pv 5) (kaa (pcl qh hr W.qk (kaa (pv 0) (kaa (pv 1) (kaa (pe_op kaA (pv 2) kaf) (kaa kaf kae))))) kae)))
   (kah (kap (kau (keD rfl) (by rfl) W.B.min b_min (kaa kaf (kaa (pe_ix (r:=rIxL K) kaG (pv 5) (pv 4) (fun _ _=>rfl)) kae))))))),?_⟩
  refine⟨_,rfl,_,rfl,_,rfl,a,ns,k,t,6,rfl,hS,hk,⟨by omega,by omega⟩,by decide,fun c c0 c1=>?_⟩
  refine⟨_,rfl,_,rfl,_,rfl,_,_,rfl,rfl,a,ns,k,t+1,10,rfl,hS,hk,⟨by omega,by omega⟩,by decide,fun x x0 x1=>⟨_,rfl,_,rfl,_,_,rfl,rfl,_,rfl,_,_,rfl,rfl,⟨by decide,by decide⟩,_,rfl,_,_,rfl,rfl,⟨by decide,by decide⟩,(by show 5≤sizeLine;decide),fun l fl=>?_⟩⟩
  generalize hgH1:upd H l _=H1
  obtain⟨s1,(e1:H1 l=some (.lst ([x,wo,wo+1,wo/2,wo/5].map V.int)))⟩:=kaV hgH1 fl
  refine⟨_,rfl, .inl ⟨rfl,_,SqL.of e1⟩,_,rfl,_,rfl,_,rfl,_,_,rfl,rfl,a,ns,k,t+1,1000000,rfl,s1.seq hS,hk,⟨by omega,by omega⟩,by decide,fun y y0 y1=>⟨l,_,_,rfl,rfl,e1,kaq (by show 5≤1000;decide),?_⟩⟩
  have s2:Same H (upd H1 l (.lst ([x,wo,wo+1,wo/2,wo/5].map V.int++[V.int y]))):=kao fl s1 (nx e1)
  have e2:(upd H1 l (.lst ([x,wo,wo+1,wo/2,wo/5].map V.int++[V.int y]))) l=some (.lst ([x,wo,wo+1,wo/2,wo/5,y].map V.int)):=kad
  generalize upd H1 l (.lst ([x,wo,wo+1,wo/2,wo/5].map V.int++[V.int y]))=H2 at *
  obtain⟨z,ez,hz⟩:=pickI (zs:=[x,wo,wo+1,wo/2,wo/5,y]) (m:=c) c0 (by show _<(6:Int);exact c1.1)
  have hz0:0≤z:=by
   simp only[Nl,N5,or_false] at hz
   omega
  refine⟨_,rfl,_,rfl,l,_,_,_,rfl,rfl,SqL.of e2,ez,_,_,rfl,kk H2 _ s2 ?_ ?_⟩
  ·split <;> omega
  ·split <;> omega
noncomputable def MkV(d:D)(H:Hp)(v:V)(M:Mks):Prop:=(v=.non∧M=mks0)∨∃mA,v=.ref mA∧MksIs d.qg H mA M
theorem MkV.same{d:D}{H H':Hp}{v:V}{M:Mks}(s:Same H H'):MkV d H v M→MkV d H' v M
 | .inl h=>.inl h
 | .inr ⟨mA,e,h⟩=>.inr ⟨mA,e,h.same s⟩
inductive khe (K:JZ) (d:D) (vs:List V) (H:Hp) (Q:VK) (E_:XK):Prop
 |ct (a:Addr)(ns:List Int)(k w:Int)(ps:List (Option Nat))(_:vs=[.ref a, .int k,iV ps.length, .int w])(_:SqL K H a (ns.map V.int))(_:(0≤k∧k≤1000))(_:0<ps.length)(_:0≤w)(_:∀(H':Hp)(v:V)(M:Mks),Same H H'→MkV d H' v M→MksOk ps M→Q v H'):khe K d vs H Q E_
theorem qI:kan ["_law_script","_law_k","_law_kinds","_law_worth_here","_law_kind","_law_least","_law_bound","_law_bits"] ["_law_script","_law_k","_law_kinds","_law_worth_here"] (kag kcz):=by ac_rfl
theorem kfu(W:WB K mg d base):FO P w W 4 d.YC d.YD ["_law_script","_law_k","_law_kinds","_law_worth_here"] (khe K d):=by
 exists W.ZU.F,qI
 ·obtain⟨a,ns,k,wo,ps,rfl,hS,hk,hp0,hw,kk⟩:=h
  exists qh,kaM,W
  exists Ql,kcU,W
  exists Xe,kdk,W
  exists hr2,2,hr,0
  refine⟨_,kac (ps_if (kas op_eq (pcl qh hr2 W.qk (kaa (pv 0) (kaa (pv 1) (kaa kaf (kaa kaf kae))))) kaf (kav _)) (kah (kap ka0)) (kat))
   (kac (psl (i:=4) qI.nd ka0)
   (kac (kcC (ps_if (kas op_eq (pcl qh hr2 W.qk (kaa (pv 0) (kaa (pv 1) (kaa kaf (kaa kaf kae))))) kaf (kav _)) (kah (psl (i:=4) qI.nd (pcl qh hr2 W.qk (kaa (pv 0) (kaa (pv 1) (kaa kaf (kaa (pv 2) kae))))))) (kat)))
   (kac (psl (i:=5) qI.nd kaf)
   (kac (kcC (ps_if (kas op_eq (pcl qh hr2 W.qk (kaa (pv 0) (kaa (pv 1) (kaa kaf (kaa kaf kae))))) kaf (kav _)) (kah (psl (i:=5) qI.nd (pcl Ql hr W.qZ (kaa (pv 0) (kaa (pv 1) (kaa kaf (kaa (pv 3) kae))))))) (kat)))
   (kac (psl (i:=6) qI.nd ka0)
   (kac (kcC (ps_if (kas op_eq (pcl qh hr2 W.qk (kaa (pv 0) (kaa (pv 1) (kaa kaf (kaa kaf kae))))) kaf (kav _)) (kah (psl (i:=6) qI.nd (pcl Ql hr W.qZ (kaa (pv 0) (kaa (pv 1) (kaa kaf (kaa (pv 3) kae))))))) (kat)))
   (kac (psl (i:=7) qI.nd (pcl qh hr2 W.qk (kaa (pv 0) (kaa (pv 1) (kaa kaf (kaa kaf kae))))))
   (kah (kap (ka3 (W.Qr.mk' W.qg) Xe hr2 rfl W.qg.m W.Qr.b .nil pass0 (kaa (pv 4) (kaa (pv 5) (kaa (pv 6) (kaa (kbm op_eq (pe_op kdH (pv 7) kaf) kaf (kav _)) (kaa (kbm op_eq (pe_op kdH (pv 7) kaf) kaf (kav _)) (kaa (kbm op_eq (pe_op kdH (pv 7) kaf) kaf (kav _)) kae)))))))))))))))),?_⟩
  refine⟨_,rfl,_,rfl,a,ns,k,1,3,rfl,hS,hk,⟨by decide,by decide⟩,by decide,fun c c0 c1=>⟨rfl,_,rfl,ite2 (fun _=>?_) (fun _=>?_)⟩⟩
  ·exact kk H _ mks0 (Same.refl _) (.inl ⟨rfl,rfl⟩) ⟨(fun k e=>by cases e),⟨by decide,by decide⟩,(fun m e=>by cases e)⟩
  refine⟨fun σ H'=>H'=H∧∃kd:Option Nat,(∀k,kd=some k→k<ps.length)∧σ=[some (.ref a),some (.int k),some (iV ps.length),some (.int wo),some (pV kd),none,none,none],?_,?_⟩
  ·refine⟨_,rfl,_,rfl,a,ns,k,2,3,rfl,hS,hk,⟨by decide,by decide⟩,by decide,fun c c0 c1=>⟨rfl,_,rfl,ite2 (fun _=>?_) (fun _=>⟨rfl,none,(fun k e=>by cases e),rfl⟩)⟩⟩
   refine⟨_,rfl,_,rfl,_,rfl,a,ns,k,3,_,rfl,hS,hk,⟨by decide,by decide⟩,(by show(0:Int)<(ps.length:Int);omega),fun z z0 z1=>?_⟩
   obtain⟨n,rfl⟩:=Int.eq_ofNat_of_zero_le z0
   exact⟨rfl,some n,(fun k e=>by cases e;have:(n:Int)<(ps.length:Int):=z1.1;omega),rfl⟩
  rintro σ H' ⟨rfl,kd,hkd,rfl⟩
  refine⟨fun σ H1=>Same H' H1∧∃nd:Int,(0≤nd∧nd≤1000000000000)∧σ=[some (.ref a),some (.int k),some (iV ps.length),some (.int wo),some (pV kd),some (.int nd),none,none],?_,?_⟩
  ·refine⟨_,rfl,_,rfl,a,ns,k,4,4,rfl,hS,hk,⟨by decide,by decide⟩,by decide,fun c c0 c1=>⟨rfl,_,rfl,ite2 (fun _=>?_) (fun _=>⟨Same.refl _,0,⟨by decide,by decide⟩,rfl⟩)⟩⟩
   exact⟨_,rfl,_,rfl,_,rfl,a,ns,k,5,wo,rfl,hS,hk,⟨by decide,by decide⟩,hw,fun H1 z s1 z0 z1=>⟨s1,z,⟨z0,z1⟩,rfl⟩⟩
  rintro σ H1 ⟨s1,nd,hnd,rfl⟩
  refine⟨fun σ H2=>Same H1 H2∧∃mo:Option Int,(∀m,mo=some m→0≤m∧m≤1000000000000)∧σ=[some (.ref a),some (.int k),some (iV ps.length),some (.int wo),some (pV kd),some (.int nd),some (oV mo),none],?_,?_⟩
  ·refine⟨_,rfl,_,rfl,a,ns,k,8,3,rfl,s1.seq hS,hk,⟨by decide,by decide⟩,by decide,fun c c0 c1=>⟨rfl,_,rfl,ite2 (fun _=>?_) (fun _=>⟨Same.refl _,none,(fun m e=>by cases e),rfl⟩)⟩⟩
   exact⟨_,rfl,_,rfl,_,rfl,a,ns,k,9,wo,rfl,s1.seq hS,hk,⟨by decide,by decide⟩,hw,fun H2 z s2 z0 z1=>⟨s2,some z,(fun m e=>by cases e;exact⟨z0,z1⟩),rfl⟩⟩
  rintro σ H2 ⟨s2,mo,hmo,rfl⟩
  have s12:=s1.trans s2
  refine⟨_,rfl,_,rfl,a,ns,k,12,60,rfl,s12.seq hS,hk,⟨by decide,by decide⟩,by decide,fun bt b0 b1=>?_⟩
  refine⟨_,rfl,_,rfl,_,rfl,_,rfl,_,_,rfl,rfl,(by show(0:Int)<5;decide),rfl,_,rfl,_,_,rfl,rfl,(by show(0:Int)<4;decide),rfl,_,rfl,_,_,rfl,rfl,(by show(0:Int)<3;decide),rfl,?_⟩
  generalize decide (V.int (bt%5)=V.int 0)=m1
  generalize decide (V.int (bt%4)=V.int 0)=m2
  generalize decide (V.int (bt%3)=V.int 0)=m3
  exact khx (M:=⟨kd,nd,mo,m1,m2,m3⟩) fun H3 mA s3 f3 hM=>kk H3 _ _ (s12.trans s3) (.inr ⟨mA,rfl,hM⟩) ⟨hkd,hnd,hmo⟩
theorem kes{d:D}{H:Hp}{so:Srt}{is:Srt→Prop}{mv:V}{M:Mks}{R:Addr→Hp→Prop}{E:XK}(hi:is so)(hh:here so=true)(hM:MkV d H mv M)(k:∀(H':Hp)(x:Addr),Same H H'→H x=none→VchIs d H' x ⟨so,M⟩→R x H')(htb:Tbs d H:=by assumption):
  ∀x dx,H x=none→H dx=none→dx≠x→kda (clsOf d so) d.qg is (.ref x::(kfa so++[mv])) (upd (upd H dx (.own x)) x (.ins (clsOf d so) dx [])) (fun v H2=>v=.non∧R x H2) E:=by
 rcases hM with⟨rfl,rfl⟩|⟨mA,rfl,h⟩
 ·exact klG hi hh k htb
 ·exact kmm hi hh h k htb
inductive kkJ (K:JZ) (d:D) (vs:List V) (H:Hp) (Q:VK) (E_:XK):Prop
 |ct (a:Addr)(ns:List Int)(k w:Int)(ps:List (Option Nat))(_:vs=[.ref a, .int k,iV ps.length, .int w])(_:SqL K H a (ns.map V.int))(_:(0≤k∧k≤1000))(_:0<ps.length)(_:0≤w)(_:Tbs d H)(_:∀(H':Hp)(v:Addr)(V:Vch),Same H H'→H v=none→VchIs d H' v V→VchOk ps V→Q (.ref v) H'):kkJ K d vs H Q E_
theorem QE:kan ["_law_script","_law_k","_law_kinds","_law_worth_here","_law_marks_here","_law_how","_law_share"] ["_law_script","_law_k","_law_kinds","_law_worth_here"] (kag kb0):=by ac_rfl
theorem keo(W:WB K mg d base):FO P w W 6 d.YE d.YF ["_law_script","_law_k","_law_kinds","_law_worth_here"] (kkJ K d):=by
 exists W.ZV.F,QE
 ·obtain⟨a,ns,k,wo,ps,rfl,hS,hk,hp0,hw,htb0,kk⟩:=h
  exists UO,kfu,W
  exists qh,kaM,W
  exists UP,kgP,W
  exists Ql,kcU,W
  exists UQ,kfw,W
  exists UR,kdZ,W
  exists US,keQ,W
  exists UT,kd2,W
  exists hr2,2,hr,0
  exists hr3,3,hr,0
  exists hr4,4,hr,0
  refine⟨_,kac (psl (i:=4) QE.nd (pcl UO hr4 W.ZU (kaa (pv 0) (kaa (pv 1) (kaa (pv 2) (kaa (pv 3) kae))))))
   (kac (psl (i:=5) QE.nd (pcl qh hr2 W.qk (kaa (pv 0) (kaa (pv 1) (kaa kaf (kaa kaf kae))))))
   (kac (ps_if (kas op_eq (pv 5) kaf (kav _)) (kah (kap (ka3 (W.QX.mk' W.c_Off) UP hr rfl W.c_Off.m W.QX.b .nil pass0 (kaa (pcl Ql hr3 W.qZ (kaa (pv 0) (kaa (pv 1) (kaa kaf (kaa (pv 3) kae))))) (kaa (pv 4) kae))))) (kat))
   (kac (ps_if (kas op_eq (pv 5) kaf (kav _)) (kac (psl (i:=6) QE.nd (pe_ix (r:=rIxL K) kaG (kaI (kaa kaf (kaa kaf (kaa (pe_op kaA kaf (pcl qh hr2 W.qk (kaa (pv 0) (kaa (pv 1) (kaa kaf (kaa kaf kae)))))) kae)))) (pcl qh hr2 W.qk (kaa (pv 0) (kaa (pv 1) (kaa kaf (kaa kaf kae))))) (fun _ _=>rfl)))
   (kah (kap (ka3 (W.QY.mk' W.ql) UQ hr rfl W.ql.m W.QY.b .nil pass0 (kaa (pv 6) (kaa (kbm op_eq (pcl qh hr2 W.qk (kaa (pv 0) (kaa (pv 1) (kaa kaf (kaa kaf kae))))) kaf (kav _)) (kaa (pv 4) kae))))))) (kat))
   (kac (ps_if (kas op_eq (pv 5) kaf (kav _)) (kah (kap (ka3 (W.QZ.mk' W.qp) UR hr rfl W.qp.m W.QZ.b .nil pass0 (kaa (pe_op kaA kaf (pcl qh hr2 W.qk (kaa (pv 0) (kaa (pv 1) (kaa kaf (kaa (pe_ix (r:=rIxL K) kaG (kaI (kaa kaf (kaa kaf kae))) (pcl qh hr2 W.qk (kaa (pv 0) (kaa (pv 1) (kaa kaf (kaa kaf kae))))) (fun _ _=>rfl)) kae)))))) (kaa (pv 4) kae))))) (kat))
   (kac (ps_if (kas op_eq (pv 5) kaf (kav _)) (kah (kap (ka3 (W.Q0.mk' W.qm) US hr rfl W.qm.m W.Q0.b .nil pass0 (kaa (pe_op kaA kaf (pcl qh hr2 W.qk (kaa (pv 0) (kaa (pv 1) (kaa kaf (kaa kaf kae)))))) (kaa (pcl Ql hr3 W.qZ (kaa (pv 0) (kaa (pv 1) (kaa kaf (kaa (pe_op kel (pv 3) kaf) kae))))) (kaa (pv 4) kae)))))) (kat))
   (kah (kap (ka3 (W.Q1.mk' W.qq) UT hr rfl W.qq.m W.Q1.b .nil pass0 (kaa (pv 4) kae))))))))),?_⟩
  exists Y4
  refine⟨_,rfl,_,rfl,_,rfl,_,rfl,a,ns,k,wo,ps,rfl,hS,hk,hp0,hw,fun H1 mv M s1 hM mok=>?_⟩
  symm
  exists Y4
  refine⟨_,rfl,_,rfl,a,ns,k,20,5,rfl,s1.seq hS,hk,⟨by decide,by decide⟩,by decide,fun c c0 c1=>?_⟩
  have fin:∀{so:Srt}{H2:Hp},Same H H2→SrtOk so→∀(H3:Hp)(x:Addr),Same H2 H3→H2 x=none→VchIs d H3 x ⟨so,M⟩→Q (.ref x) H3:=fun {so H2} z ho H3 x s3 f3 hV=>kk H3 x _ (z.trans s3) (z.free f3) hV ⟨ho,mok⟩
  symm
  exists Y4
  refine⟨_,rfl,rfl,_,rfl,ite2 (fun _=>?_) (fun _=>?_)⟩
  ·refine⟨_,rfl,_,rfl,_,rfl,a,ns,k,21,wo,rfl,s1.seq hS,hk,⟨by decide,by decide⟩,hw,fun H2 z s2 z0 z1=>⟨_,rfl,kes (so:=.off z) ⟨_,rfl⟩ rfl (hM.same s2) (fin (s1.trans s2) ⟨z0,z1⟩) (Tbs.same (s1.trans s2) htb0)⟩⟩
  symm
  exists Y4
  refine⟨_,rfl,rfl,_,rfl,ite2 (fun _=>?_) (fun _=>?_)⟩
  ·refine⟨_,rfl,_,rfl,a,ns,k,23,1000,rfl,s1.seq hS,hk,⟨by decide,by decide⟩,by decide,fun x x0 x1=>⟨_,_,rfl,rfl,(by show 3≤sizeLine;decide),fun l hl=>?_⟩⟩
   have n2:=kak (o:=.lst [V.int 1,V.int 1000,V.int (1+x)]) hl
   symm
   exists Y6
   refine⟨_,rfl,_,rfl,a,ns,k,24,3,rfl,(s1.trans n2).seq hS,hk,⟨by decide,by decide⟩,by decide,fun y y0 y1=>?_⟩
   obtain⟨z,ez,hz⟩:=pickI (zs:=[1,1000,1+x]) (m:=y) y0 (by show _<(3:Int);exact y1.1)
   have hz:1≤z∧z≤1000:=by
    simp only[Nl,N5,or_false] at hz
    omega
   nofun
   exists Y6
   refine⟨l,_,_,_,rfl,rfl,SqL.of kad,ez,?_⟩
   nofun
   refine⟨_,rfl,_,rfl,_,rfl,a,ns,k,25,2,rfl,(s1.trans n2).seq hS,hk,⟨by decide,by decide⟩,by decide,fun b b0 b1=>⟨rfl,_,rfl,kes (so:=.share z _) ⟨_,_,rfl⟩ rfl (hM.same n2) (fin (s1.trans n2) hz) (Tbs.same (s1.trans n2) htb0)⟩⟩
  symm
  exists Y4
  refine⟨_,rfl,rfl,_,rfl,ite2 (fun _=>?_) (fun _=>?_)⟩
  ·refine⟨_,rfl,_,rfl,(by show 2≤sizeLine;decide),fun l hl=>?_⟩
   have n2:=kak (o:=.lst [V.int 3,V.int 19]) hl
   symm
   exists Y6
   refine⟨_,rfl,_,rfl,a,ns,k,27,2,rfl,(s1.trans n2).seq hS,hk,⟨by decide,by decide⟩,by decide,fun y y0 y1=>?_⟩
   obtain⟨z,ez,hz⟩:=pickI (zs:=[3,19]) (m:=y) y0 (by show _<(2:Int);exact y1.1)
   have hz:0<z∧z≤19:=by
    simp only[Nl,N5,or_false] at hz
    omega
   nofun
   exists Y6
   refine⟨l,_,_,_,rfl,rfl,SqL.of kad,ez,a,ns,k,26,z,rfl,(s1.trans n2).seq hS,hk,⟨by decide,by decide⟩,hz.1,fun x x0 x1=>⟨_,_,rfl,rfl,_,rfl,kes (so:=.cheap (2+x)) ⟨_,rfl⟩ rfl (hM.same n2) (fin (s1.trans n2) ⟨by omega,by omega⟩) (Tbs.same (s1.trans n2) htb0)⟩⟩
  symm
  exists Y4
  refine⟨_,rfl,rfl,_,rfl,ite2 (fun _=>?_) (fun _=>?_)⟩
  ·refine⟨_,rfl,_,rfl,a,ns,k,28,4,rfl,s1.seq hS,hk,⟨by decide,by decide⟩,by decide,fun x x0 x1=>⟨_,_,rfl,rfl,_,rfl,_,rfl,_,rfl,_,_,rfl,rfl,⟨by decide,by decide⟩,a,ns,k,30,wo/3,rfl,s1.seq hS,hk,⟨by decide,by decide⟩,by omega,fun H2 z s2 z0 z1=>⟨_,rfl,kes (so:=.bund (2+x) z) ⟨_,_,rfl⟩ rfl (hM.same s2) (fin (s1.trans s2) ⟨by omega,by omega,z0,z1⟩) (Tbs.same (s1.trans s2) htb0)⟩⟩⟩
  symm
  exact⟨_,rfl,kes (so:=.carr) (is:=fun so=>so=.carr) rfl rfl hM (fin s1 trivial) (Tbs.same s1 htb0)⟩
inductive kis (K:JZ) (d:D) (vs:List V) (H:Hp) (Q:VK) (E_:XK):Prop
 |ct (a p b:Addr)(ns:List Int)(ps:List (Option Nat))(B:Bask)(bk:Str)(_:vs=[.ref a, .ref p, .ref b, .str bk])(_:SqL K H a (ns.map V.int))(_:H p=some (.lst (ps.map pV)))(_:0<ps.length)(_:BaskIs d.qe d.qf H b B)(_:B.rs.length≤12)(_:(∀r∈B.rs,r.Ok))(_:Tbs d H)(_:∀(H':Hp)(t:Addr)(vs:List Vch)(rs:List Rul),Same H H'→H t=none→TillIs d H' t ⟨ps,vs,rs,bk⟩→kcP ⟨ps,vs,rs,bk⟩→0<vs.length→Q (.ref t) H'):kis K d vs H Q E_
theorem Xu:kan ["_law_script","_law_parents_here","_law_basket_here","_law_back","_law_many","_law_vouchers"] ["_law_script","_law_parents_here","_law_basket_here","_law_back"] (kag kcd):=by ac_rfl
theorem kf8(W:WB K mg d base):FO P w W 7 d.YK d.YL ["_law_script","_law_parents_here","_law_basket_here","_law_back"] (kis K d):=by
 exists W.ZY.F,Xu
 ·obtain⟨a,p,b,ns,ps,B,bk,rfl,hS,hp,hp0,hB,h12,hok,htb0,kk⟩:=h
  exists qh,kaM,W
  exists UU,keo,W
  exists UV,kfq,W
  exists Qk,kcG,W
  exists UW,kfr,W
  exists hr1,1,hr,0
  exists hr2,2,hr,0
  exists hr3,3,hr,0
  refine⟨_,kac (psl (i:=4) Xu.nd (pe_op kaA kaf (pcl qh hr2 W.qk (kaa (pv 0) (kaa kaf (kaa kaf (kaa kaf kae)))))))
   (kac (kgK (N:=["_law_j","_law_script","_law_parents_here","_law_basket_here"]) (CompScope.of (N:=["_law_j","_law_script","_law_parents_here","_law_basket_here"]) (cap:=[none,some 0,some 1,some 2]) (kag kcd).names ["_law_script","_law_parents_here","_law_basket_here","_law_back","_law_many","_law_vouchers"] rfl rfl (by decide +kernel)) rfl (kby rfl W.B.range (kaa (pv 4) kae)) (fun _ _ _ _=>pgn (i:=0) (show(["_law_j","_law_script","_law_parents_here","_law_basket_here"]:List Str).Nodup by decide +kernel)) (fun _ _ _ _=>(pcl UU hr W.ZV (kaa (pv 1) (kaa (pe_op kaA kaf (pv 0)) (kaa (kau (r:=kba K) kaz (by rfl) W.B.len b_len (kaa (pv 2) kae)) (kaa (pcl UV hr1 W.ZX (kaa (pv 3) kae)) kae)))))) (pgn (i:=5) Xu.nd))
   (kah (kap (ka3 (W.qM.mk' W.qd) Qk hr2 rfl W.qd.m W.qM.b .nil pass0 (kaa (pv 1) (kaa (pv 5) (kaa (pcl UW hr3 W.ZW (kaa (pv 0) (kaa (pv 4) kae))) (kaa (pv 3) kae)))))))),?_⟩
  exists Y4
  refine⟨_,rfl,a,ns,0,2,4,rfl,hS,⟨by decide,by decide⟩,⟨by decide,by decide⟩,by decide,fun z z0 z1=>⟨_,_,rfl,rfl,?_⟩⟩
  obtain⟨zn,rfl⟩:=Int.eq_ofNat_of_zero_le z0
  dsimp only
  rw[show(1:Int)+(zn:Int)=((1+zn:Nat):Int) by omega]
  have hm:1+zn≤4:=by omega
  have hm0:0<1+zn:=by omega
  generalize 1+zn=m at *
  symm
  exists Y4
  refine⟨_,rfl,_,rfl,by omega,by omega,?_⟩
  rw[Int.toNat_natCast]
  symm
  refine ke4 (fun i σ ys H'=>Same H H'∧∃(va:List Addr)(Vs:List Vch)(v0:Option V),ys=va.map V.ref∧P2 (fun a V=>VchIs d H' a V) va Vs∧(∀V∈Vs,VchOk ps V)∧Vs.length=i∧σ=[v0,some (.ref a),some (.ref p),some (.ref b)])
   ⟨Same.refl _,[],[],none,rfl, .nil,(fun V hV=>by simp at hV),rfl,rfl⟩ (Ng (kaq (by omega))) (fun i σ ys H' hi h=>by obtain⟨_,va,Vs,v0,rfl,hP,_,hl,_⟩:=h;rw[JY,hP.len];exact hl) ?_ ?_
  ·rintro i σ ys H' hi ⟨s1,va,Vs,v0,rfl,hP,hvo,hl,rfl⟩
   rw[Int.zero_add]
   symm
   exists Y6
   refine⟨_,rfl,_,rfl,_,_,rfl,rfl,_,rfl,p,_,rfl, .inl (SqL.of (s1 _ _ hp)),_,rfl,b,B,rfl,hB.same s1,h12,hok,fun H3 s3 hw=>?_⟩
   have s13:=s1.trans s3
   nofun
   exists Y6
   refine⟨a,ns,1+(i:Int),_,ps,(by rw[JY];rfl),s13.seq hS,⟨by omega,by omega⟩,hp0,hw,Tbs.same s13 htb0,fun H4 v Vc s4 f4 hV vo=>?_⟩
   nofun
   exists Y6
   refine⟨s13.trans s4,va++[v],Vs++[Vc],_,by rw[J9];rfl,P2.snoc (hP.mono fun a V h=>(h.same s3).same s4) hV,fun V hV'=>?_,by simp[hl],rfl⟩
   rcases NJ.mp hV' with h|h
   ·exact hvo V h
   ·have e:V=Vc:=by simpa using h
    rw[e]
    nofun
    exact vo
  ·rintro σ ys H' ⟨s1,va,Vs,v0,rfl,hP,hvo,hl,rfl⟩ D hD
   have n2:=kak (o:=.lst (va.map V.ref)) hD
   have s2:=s1.trans n2
   have eD:(upd H' D (.lst (va.map V.ref))) D=some (.lst (va.map V.ref)):=kad
   have hP2:P2 (fun a c=>VchIs d (upd H' D (.lst (va.map V.ref))) a c) va Vs:=hP.mono fun a c h=>h.same n2
   clear n2
   generalize upd H' D (.lst (va.map V.ref))=H2 at *
   nofun
   exists Y6
   refine⟨_,rfl,_,rfl,_,rfl,_,rfl,a,ns,m,rfl,s2.seq hS,hm0,fun H5 rl ra rs s5 f5 h5 hr hlen=>⟨_,rfl,ki9 (T:=⟨ps,Vs,rs,bk⟩) ((s2.trans s5) _ _ hp) (s5 _ _ eD) (hP2.mono fun a V h=>h.same s5) h5 hr fun H6 t s6 f6 hT=>?_⟩⟩
   have s26:=(s2.trans s5).trans s6
   nofun
   exact kk H6 t Vs rs s26 ((s2.trans s5).free f6) hT ⟨hvo,by show Vs.length≤8;omega⟩ (by omega)
theorem P2.ins{α β:Type}{R: α→β→Prop}{a: α}{b: β}(hab:R a b):∀{as:List α}{bs:List β},P2 R as bs→∀k,P2 R (as.take k++a::as.drop k) (bs.take k++b::bs.drop k)
 |_,_, .nil,k=>by
  cases k <;> exact .cons hab .nil
 |_,_, .cons h t,0=>.cons hab (.cons h t)
 |_,_, .cons h t,k+1=>.cons h (P2.ins hab t k)
theorem P2.app{α β:Type}{R: α→β→Prop}{as':List α}{bs':List β}(h':P2 R as' bs'):∀{as:List α}{bs:List β},P2 R as bs→P2 R (as++as') (bs++bs')
 |_,_, .nil=>h'
 |_,_, .cons h t=>.cons h (P2.app h' t)
theorem P2.tk{α β:Type}{R: α→β→Prop}:∀{as:List α}{bs:List β},P2 R as bs→∀k,P2 R (as.take k) (bs.take k)
 |_,_, .nil,k=>by
  rw[List.take_nil,List.take_nil]
  exact .nil
 |_,_, .cons _ _,0=>.nil
 |_,_, .cons h t,k+1=>.cons h (P2.tk t k)
theorem khs:∀(rs:List Row)(k:Nat),(∀r∈rs,0≤r.mn)→(((rs.zipIdx k).map fun p=>J6 p.1.mn.toNat p.2).flatten.length:Int)=(rs.map fun r=>r.mn).sum
 |[],_,_=>by simp
 |r::rs,k,h=>by
  have h1:=h r Nz
  have ih:=khs rs (k+1) fun q hq=>h q (Nw _ hq)
  rw[EI,Nv,NC,Np,Mj,Nv,ER]
  simp only
  omega
theorem ki2(rs:List Row)(h:∀r∈rs,0≤r.mn):((ownN rs).length:Int)=(rs.map fun r=>r.mn).sum:=khs rs 0 h
theorem kkk{α:Type}{a x: α}{l:List α}{k:Nat}(h:x∈l.take k++a::l.drop k):x=a∨x∈l:=by
 rcases NJ.mp h with h|h
 ·exact .inr (Ee h)
 ·rcases Nl.mp h with h|h
  ·exact .inl h
  ·exact .inr (List.mem_of_mem_drop h)
theorem klm{r:Row}{rs:List Row}{k:Nat}:((rs.take k++r::rs.drop k).map fun r=>r.mn).sum=(rs.map fun r=>r.mn).sum+r.mn:=by
 have e:(rs.map fun r=>r.mn).sum=((rs.take k).map fun r=>r.mn).sum+((rs.drop k).map fun r=>r.mn).sum:=by
  rw[←Ef,←J9,EK]
 rw[e,J9,Nv,Ef,ER]
 omega
noncomputable def wdM(ns:List Int):Bool:=decide (V.int (someM ns 6 99 16)=V.int 0)
noncomputable def slM(ns:List Int):Int:=200*(if wdM ns=true then(1:Int) else 0)
noncomputable def mn0M(ns:List Int)(j:Nat):Int:=if someM ns 6 (20+(j:Int)) 8<2 then(if someM ns 6 (25+(j:Int)) 2=0 then 0 else if decide ((j:Int) > 0)=true then 3 else 15) else 1+someM ns 6 (10+(j:Int)) 4
noncomputable def mnM(ns:List Int)(j:Nat):Int:=if wdM ns=true then someM ns 6 (slM ns+10+(j:Int)) 2 else mn0M ns j
noncomputable def exM(ns:List Int)(j:Nat):Option Int:=if someM ns 6 (slM ns+30+(j:Int)) 3=0 then some (kf2 ns 6 (slM ns+40+3*(j:Int))) else none
noncomputable def rowM(ns:List Int)(n:Nat)(j:Nat):Row:=⟨someM ns 6 (slM ns+60+(j:Int)) (n:Int),kf2 ns 6 (slM ns+80+3*(j:Int)),mnM ns j,exM ns j⟩
noncomputable def ctM(ns:List Int):Int:=if wdM ns=true then 8+someM ns 6 1 5 else someM ns 6 1 5
noncomputable def insM(ns:List Int):List Row→List Row
 |[]=>[]
 |r0::rs=>if(r0::rs).length<12∧(((r0::rs)++(r0::rs).take 1).map fun r=>r.mn).sum<31∧someM ns 6 98 3=0 then(r0::rs).take (someM ns 6 97 (((r0::rs).length:Int)+1)).toNat++r0::(r0::rs).drop (someM ns 6 97 (((r0::rs).length:Int)+1)).toNat else r0::rs
noncomputable def basM(ns:List Int)(n:Nat):Bask:=⟨insM ns ((J8 (ctM ns).toNat).map (rowM ns n)),kf2 ns 6 90,decide (V.int (someM ns 6 95 2)=V.int 1)⟩
inductive kkQ (K:JZ) (CL CB:Addr) (vs:List V) (H:Hp) (Q:VK) (E_:XK):Prop
 |ct (a:Addr)(ns:List Int)(n:Nat)(_:vs=[.ref a,iV n])(_:SqL K H a (ns.map V.int))(_:0<n)(_:∀(H':Hp)(b:Addr)(B:Bask),B=basM ns n→Same H H'→H b=none→BaskIs CL CB H' b B→B.rs.length≤12→(∀r∈B.rs,r.Ok)→(∀r∈B.rs,0≤r.kd∧r.kd<(n:Int))→0≤B.cg∧B.cg≤1000000000000→(ownN B.rs).length<64→Q (.ref b) H'):kkQ K CL CB vs H Q E_
theorem qt:kan ["_law_script","_law_kinds","_law_lines","_law_wide","_law_salt","_law_j","_law_many","_law_extra","_law_price_here","_law_pieces"] ["_law_script","_law_kinds"] (kag kcg):=by ac_rfl
theorem keO(W:WB K mg d base):FO P w W 4 d.Yy d.Yz ["_law_script","_law_kinds"] (kkQ K d.qe d.qf):=by
 exists W.QU.F,qt
 ·obtain⟨a,ns,n,rfl,hS,hn0,kk⟩:=h
  exists qh,kaM,W
  exists Xv,kfs,W
  exists UX,kga,W
  exists Xq,kcV,W
  exists hr2,2,hr,0
  refine⟨_,kac (psl (i:=2) qt.nd (kaI kae))
   (kac (psl (i:=3) qt.nd (kbm op_eq (pcl qh hr2 W.qk (kaa (pv 0) (kaa kaf (kaa kaf (kaa kaf kae))))) kaf (kav _)))
   (kac (psl (i:=4) qt.nd (pe_op kbO kaf (kaF kdq (by rfl) W.B.int b_int (kaa (pv 3) kae))))
   (kac (kbx PassesOwn.never rfl (kby rfl W.B.range (kaa (pe_ix (r:=rIxL K) kaG (kaI (kaa (pcl qh hr2 W.qk (kaa (pv 0) (kaa kaf (kaa kaf (kaa kaf kae))))) (kaa (pe_op kaA kaf (pcl qh hr2 W.qk (kaa (pv 0) (kaa kaf (kaa kaf (kaa kaf kae)))))) kae))) (kaF kdq (by rfl) W.B.int b_int (kaa (pv 3) kae)) (fun _ _=>rfl)) kae)) (pgn (i:=5) qt.nd)
   (kac (psl (i:=6) qt.nd (pe_op kaA kaf (pcl qh hr2 W.qk (kaa (pv 0) (kaa kaf (kaa (pe_op kaA kaf (pv 5)) (kaa kaf kae)))))))
   (kac (kcC (ps_if (kas op_lt (pcl qh hr2 W.qk (kaa (pv 0) (kaa kaf (kaa (pe_op kaA kaf (pv 5)) (kaa kaf kae))))) kaf (kav _)) (kah (psl (i:=6) qt.nd (pe_ix (r:=rIxL K) kaG (kaI (kaa kaf (kaa (pe_ix (r:=rIxL K) kaG (kaI (kaa kaf (kaa kaf kae))) (kaF kdq (by rfl) W.B.int b_int (kaa (kbm op_gt (pv 5) kaf (kav _)) kae)) (fun _ _=>rfl)) kae))) (pcl qh hr2 W.qk (kaa (pv 0) (kaa kaf (kaa (pe_op kaA kaf (pv 5)) (kaa kaf kae))))) (fun _ _=>rfl)))) (kat)))
   (kac (kcC (ps_if (kaU (pv 3)) (kah (psl (i:=6) qt.nd (pcl qh hr2 W.qk (kaa (pv 0) (kaa kaf (kaa (pe_op kaA (pe_op kaA (pv 4) kaf) (pv 5)) (kaa kaf kae))))))) (kat)))
   (kac (psl (i:=7) qt.nd ka0)
   (kac (kcC (ps_if (kas op_eq (pcl qh hr2 W.qk (kaa (pv 0) (kaa kaf (kaa (pe_op kaA (pe_op kaA (pv 4) kaf) (pv 5)) (kaa kaf kae))))) kaf (kav _)) (kah (psl (i:=7) qt.nd (pcl Xv hr W.Qo (kaa (pv 0) (kaa kaf (kaa (pe_op kaA (pe_op kaA (pv 4) kaf) (pe_op kbO kaf (pv 5))) kae)))))) (kat)))
   (kac (psl (i:=8) qt.nd (pcl Xv hr W.Qo (kaa (pv 0) (kaa kaf (kaa (pe_op kaA (pe_op kaA (pv 4) kaf) (pe_op kbO kaf (pv 5))) kae)))))
   (kah (kaL (pe_bm NA NW NY kaW (pv 2) (kaa (ka3 (W.Q3.mk' W.qe) UX hr2 rfl W.qe.m W.Q3.b .nil pass0 (kaa (pcl qh hr2 W.qk (kaa (pv 0) (kaa kaf (kaa (pe_op kaA (pe_op kaA (pv 4) kaf) (pv 5)) (kaa (pv 1) kae))))) (kaa (pv 8) (kaa (pv 6) (kaa (pv 7) kae))))) kae)))))))))))
   (kac (psl (i:=9) qt.nd (kau (r:=rSum K) (kcp rfl) (by rfl) W.B.sum b_sum (kaa (ka6 (N:=["_law_line"]) (CompScope.plain rfl (by decide +kernel) (by decide +kernel) (by decide +kernel) (nd1 _)) rfl (kaH (K:=K) (pe_op ki4 (pv 2) (khp (r:=rSlL K) kiF (pv 2) klx (kgL kaf)))) (fun _ _ _ _=>pgn (i:=0) (nd1 _)) (fun _ _ _ _=>(kam (K:=K) (pv 0) rfl))) kae)))
   (kac (kcC (ps_if (PW.pt (kbw (kjW op_lt op_lt kaf (kau (r:=kba K) kaz (by rfl) W.B.len b_len (kaa (pv 2) kae)) kaf) (kbw (kas op_lt (pv 9) kaf (kav _)) (kbj (kas op_eq (pcl qh hr2 W.qk (kaa (pv 0) (kaa kaf (kaa kaf (kaa kaf kae))))) kaf (kav _)))))) (kah (kaL (pe_bm NA PySem.F.slot_list_insert PySem.F.type_list_insert ki7 (pv 2) (kaa (pcl qh hr2 W.qk (kaa (pv 0) (kaa kaf (kaa kaf (kaa (pe_op kaA (kau (r:=kba K) kaz (by rfl) W.B.len b_len (kaa (pv 2) kae)) kaf) kae))))) (kaa (pe_ix (r:=rIxL K) kaG (pv 2) kaf (fun _ _=>rfl)) kae))))) (kat)))
   (kah (kap (ka3 (W.Qb.mk' W.qf) Xq hr2 rfl W.qf.m W.Qb.b .nil pass0 (kaa (pv 2) (kaa (pcl Xv hr W.Qo (kaa (pv 0) (kaa kaf (kaa kaf kae)))) (kaa (kbm op_eq (pcl qh hr2 W.qk (kaa (pv 0) (kaa kaf (kaa kaf (kaa kaf kae))))) kaf (kav _)) kae))))))))))),?_⟩
  exists Y4
  refine⟨by decide,fun l fl=>?_⟩
  generalize hgH1:upd H l _=H1
  obtain⟨s1,(el1:H1 l=some (.lst (([]:List Addr).map V.ref)))⟩:=kaV hgH1 fl
  symm
  exists Y4
  refine⟨_,rfl,a,ns,6,99,16,rfl,s1.seq hS,⟨by decide,by decide⟩,⟨by decide,by decide⟩,by decide,fun w0 _ w1=>⟨rfl,?_⟩⟩
  rw[w1.2]
  rw[show decide (V.int (someM ns 6 99 16)=V.int 0)=wdM ns from rfl]
  clear w1
  generalize hwd:wdM ns=wd
  symm
  exists Y4
  refine⟨_,rfl, .inr ⟨wd,rfl,_,_,rfl,rfl, .inl ⟨by decide,by decide⟩,?_⟩⟩
  dsimp only
  have hsl:0≤200*(if wd=true then(1:Int) else 0)∧200*(if wd=true then(1:Int) else 0)≤200:=by split <;> omega
  have esl:slM ns=200*(if wd=true then(1:Int) else 0):=by unfold slM;rw[hwd]
  generalize 200*(if wd=true then(1:Int) else 0)=sl at *
  symm
  exists Y4
  refine⟨_,rfl,a,ns,6,1,5,rfl,s1.seq hS,⟨by decide,by decide⟩,⟨by decide,by decide⟩,by decide,fun x x0 x1=>⟨_,rfl,a,ns,6,1,5,rfl,s1.seq hS,⟨by decide,by decide⟩,⟨by decide,by decide⟩,by decide,fun y y0 y1=>⟨_,_,rfl,rfl,(by show 2≤sizeLine;decide),fun q0 hq0=>?_⟩⟩⟩
  have n2:=kak (o:=.lst [V.int x,V.int (8+y)]) hq0
  obtain⟨c,ec,hc0,hc1,hcw,hcM⟩:∃c:Int,atI [V.int x,V.int (8+y)] (if wd=true then(1:Int) else 0)=some (.int c)∧0≤c∧c≤12∧(wd=false→c≤4)∧c=ctM ns:=by
   cases wd with
   |true=>exact⟨8+y,rfl,by omega,by omega,(fun e=>by cases e),by unfold ctM;rw[hwd,if_pos rfl,←y1.2]⟩
   |false=>exact⟨x,rfl,by omega,by omega,(fun _=>by omega),by unfold ctM;rw[hwd,if_neg Na,←x1.2]⟩
  symm
  exists Y4
  refine⟨_,rfl, .inr ⟨wd,rfl,q0,_,_,_,rfl,rfl,SqL.of kad,ec,_,rfl,by omega,by omega,?_⟩⟩
  have s2:=s1.trans n2
  have el2:=n2 _ _ el1
  clear n2
  generalize upd H1 q0 (.lst [V.int x,V.int (8+y)])=H2 at *
  symm
  refine kcb (fun i σ H'=>Same H H'∧∃(ls:List Addr)(rs:List Row)(v5 v6 v7 v8:Option V),H' l=some (.lst (ls.map V.ref))∧Lines d.qe H' ls rs∧rs=(J8 i).map (rowM ns n)∧rs.length=i∧(∀r∈rs,r.Ok)∧(∀r∈rs,0≤r.kd∧r.kd<(n:Int))∧(rs.map fun r=>r.mn).sum≤(if wd=true then 1 else 15)*(i:Int)∧σ=[some (.ref a),some (iV n),some (.ref l),some (.bl wd),some (.int sl),v5,v6,v7,v8,none])
   ⟨s2,[],[],none,none,none,none,el2, .nil,rfl,rfl,(fun r hr=>by simp at hr),(fun r hr=>by simp at hr),by simp,rfl⟩ ?_ ?_
  ·rintro i σ H' hi ⟨s3,ls,rs,v5,v6,v7,v8,el,hL,hrs,hlen,hok,hkd,hsum,rfl⟩
   have hi12:i<12:=by omega
   rw[Int.zero_add]
   symm
   exists Y6
   refine⟨_,rfl,_,rfl,_,_,rfl,rfl,a,ns,6,10+(i:Int),4,rfl,s3.seq hS,⟨by decide,by decide⟩,⟨by omega,by omega⟩,by decide,fun m0 m00 m01=>⟨_,_,rfl,rfl,?_⟩⟩
   nofun
   exists Y6
   refine⟨fun σ H4=>Same H' H4∧∃m:Int,0≤m∧m≤15∧m=mn0M ns i∧σ=[some (.ref a),some (iV n),some (.ref l),some (.bl wd),some (.int sl),some (.int (i:Int)),some (.int m),v7,v8,none],?_,?_⟩
   ·refine⟨_,rfl,_,rfl,_,_,rfl,rfl,a,ns,6,20+(i:Int),8,rfl,s3.seq hS,⟨by decide,by decide⟩,⟨by omega,by omega⟩,by decide,fun t t0 t1=>⟨_,_,rfl,rfl,_,rfl,ite2 (fun ht=>?_) (fun ht=>⟨Same.refl _,1+m0,by omega,by omega,(by unfold mn0M;rw[←t1.2,if_neg (by simpa using ht),←m01.2]),rfl⟩)⟩⟩
    nofun
    exists Y8
    refine⟨(by show 2≤sizeLine;decide),fun q' hq'=>?_⟩
    generalize hgH3:upd H' q' _=H3
    obtain⟨n3,u3⟩:=kaV hgH3 hq'
    exists 3
    exists Y8
    refine⟨_,rfl,_,_,rfl,rfl, .inr ⟨_,rfl,?_⟩⟩
    have emn:mn0M ns i=if someM ns 6 (25+(i:Int)) 2=0 then 0 else if decide ((i:Int) > 0)=true then 3 else 15:=by unfold mn0M;rw[←t1.2,if_pos (by simpa using ht)]
    generalize decide ((i:Int) > 0)=dj at *
    obtain⟨c',ec',hc',hce⟩:∃c':Int,atI [V.int 15,V.int 3] (if dj=true then(1:Int) else 0)=some (.int c')∧(0≤c'∧c'≤15)∧c'=if dj=true then 3 else 15:=by
     cases dj with
     |true=>exact⟨3,rfl,⟨by omega,by omega⟩,rfl⟩
     |false=>exact⟨15,rfl,⟨by omega,by omega⟩,rfl⟩
    exists 3
    exists Y8
    refine⟨q',_,_,_,rfl,rfl,SqL.of u3,ec',(by show 2≤sizeLine;decide),fun q hq=>?_⟩
    have n4:=n3.trans (kak (o:=.lst [V.int 0,V.int c']) hq)
    exists 3
    exists Y8
    refine⟨_,rfl,_,rfl,_,_,rfl,rfl,a,ns,6,25+(i:Int),2,rfl,(s3.trans n4).seq hS,⟨by decide,by decide⟩,⟨by omega,by omega⟩,by decide,fun u u0 u1=>?_⟩
    obtain⟨z,ez,hz,hze⟩:∃z:Int,atI [V.int 0,V.int c'] u=some (.int z)∧(0≤z∧z≤15)∧z=mn0M ns i:=by
     rw[emn,←u1.2,←hce]
     rcases(show u=0∨u=1 by omega) with e|e
     ·rw[e]
      exists 3
      exact⟨0,rfl,⟨by omega,by omega⟩,rfl⟩
     ·rw[e]
      exists 3
      exact⟨c',rfl,hc',rfl⟩
    exists 3
    exact⟨q,_,_,_,rfl,rfl,SqL.of kad,ez,n4,z,hz.1,hz.2,hze,rfl⟩
   rintro σ H4 ⟨s4,m1,m10,m11,m1e,rfl⟩
   have s34:=s3.trans s4
   nofun
   exists Y6
   refine⟨fun σ H5=>H5=H4∧∃m:Int,0≤m∧m≤(if wd=true then 1 else 15)∧m=mnM ns i∧σ=[some (.ref a),some (iV n),some (.ref l),some (.bl wd),some (.int sl),some (.int (i:Int)),some (.int m),v7,v8,none],?_,?_⟩
   ·refine⟨_,rfl,wd,rfl,?_⟩
    cases wd with
    |true=>
     refine iteT ?_
     nofun
     exact⟨_,rfl,_,rfl,_,_,rfl,rfl,_,rfl,_,_,rfl,rfl,a,ns,6,sl+10+(i:Int),2,rfl,s34.seq hS,⟨by decide,by decide⟩,⟨by omega,by omega⟩,by decide,fun u u0 u1=>⟨rfl,u,u0,(by show u≤1;omega),(by unfold mnM;rw[hwd,if_pos rfl,esl,←u1.2]),rfl⟩⟩
    |false=>exact iteF ⟨rfl,m1,m10,m11,(by unfold mnM;rw[hwd,if_neg Na];exact m1e),rfl⟩
   rintro σ H5 ⟨rfl,m,hm0,hm1,hme,rfl⟩
   have hm60:m≤60:=by
    split at hm1 <;> omega
   nofun
   refine⟨fun σ H6=>H6=H5∧∃ex:Option Int,(∀z,ex=some z→0≤z∧z≤1000000000000)∧ex=exM ns i∧σ=[some (.ref a),some (iV n),some (.ref l),some (.bl wd),some (.int sl),some (.int (i:Int)),some (.int m),some (oV ex),v8,none],?_,?_⟩
   ·refine⟨_,rfl,_,rfl,_,_,rfl,rfl,_,rfl,_,_,rfl,rfl,a,ns,6,sl+30+(i:Int),3,rfl,s34.seq hS,⟨by decide,by decide⟩,⟨by omega,by omega⟩,by decide,fun u u0 u1=>⟨rfl,_,rfl,ite2 (fun hu=>?_) (fun hu=>⟨rfl,none,(fun z e=>by cases e),(by unfold exM;rw[esl,←u1.2,if_neg (by simpa using hu)]),rfl⟩)⟩⟩
    nofun
    exact⟨_,rfl,_,rfl,_,_,rfl,rfl,_,rfl,_,_,rfl,rfl, .inl ⟨by decide,by decide⟩,_,_,rfl,rfl,a,ns,6,sl+40+3*(i:Int),rfl,s34.seq hS,⟨by decide,by decide⟩,⟨by omega,by omega⟩,fun z z0 z1=>⟨rfl,some z,(fun y e=>by cases e;exact⟨z0,z1.1⟩),(by unfold exM;rw[esl,←u1.2,if_pos (by simpa using hu),←z1.2]),rfl⟩⟩
   rintro σ H6 ⟨rfl,ex,hex,hexe,rfl⟩
   nofun
   refine⟨_,rfl,_,rfl,_,_,rfl,rfl,_,rfl,_,_,rfl,rfl, .inl ⟨by decide,by decide⟩,_,_,rfl,rfl,a,ns,6,sl+80+3*(i:Int),rfl,s34.seq hS,⟨by decide,by decide⟩,⟨by omega,by omega⟩,fun pz pz0 pz1=>?_⟩
   have el6:=s4 _ _ el
   nofun
   refine⟨_,rfl, .inl ⟨rfl,_,SqL.of el6⟩,_,rfl,_,rfl,_,_,rfl,rfl,_,rfl,_,_,rfl,rfl,_,rfl,a,ns,6,sl+60+(i:Int),(n:Int),rfl,s34.seq hS,⟨by decide,by decide⟩,⟨by omega,by omega⟩,by omega,fun kd kd0 kd1=>⟨_,rfl,_,rfl,_,rfl,klI (r:=⟨kd,pz,m,ex⟩) fun H7 ln s7 f7 hln=>?_⟩⟩
   have hrow:(⟨kd,pz,m,ex⟩:Row)=rowM ns n i:=by unfold rowM;rw[esl,←kd1.2,←pz1.2,←hme,←hexe]
   have el7:=s7 _ _ el6
   have s37:=s34.trans s7
   nofun
   exists Y6
   refine⟨l,_,_,rfl,rfl,el7,kaq (by rw[JY,hL.len];omega),?_⟩
   nofun
   exists Y6
   refine⟨kao fl s37 (nx el7),ls++[ln],rs++[⟨kd,pz,m,ex⟩],_,_,_,_,by rw[kad,J9];rfl,P2.snoc ((Lines.same (s4.trans s7) hL).set el7) (hln.set el7),by rw[hrs,Mb,J9,hrow];rfl,by rw[Np,hlen];rfl,fun r hr=>?_,fun r hr=>?_,?_,rfl⟩
   ·rcases NJ.mp hr with h|h
    ·exact hok r h
    ·have e:r=⟨kd,pz,m,ex⟩:=by simpa using h
     rw[e]
     nofun
     exact⟨pz0,pz1.1,hm0,hm60,hex⟩
   ·rcases NJ.mp hr with h|h
    ·exact hkd r h
    ·have e:r=⟨kd,pz,m,ex⟩:=by simpa using h
     rw[e]
     nofun
     exact⟨kd0,kd1.1⟩
   ·rw[J9,Ef]
    show _+(m+0)≤_
    cases wd with
    |true=>simp only[if_true] at hsum hm1⊢;omega
    |false=>simp only[NS,if_false] at hsum hm1⊢;omega
  ·rintro σ H' ⟨s3,ls,rs,v5,v6,v7,v8,el,hL,hrs,hlen,hok,hkd,hsum,rfl⟩
   have hlen12:rs.length≤12:=by omega
   have hs60:(rs.map fun r=>r.mn).sum≤60:=by
    cases wd with
    |true=>simp only[if_true] at hsum;omega
    |false=>
     simp only[NS,if_false] at hsum
     have:=hcw rfl
     omega
   have hown:=ki2 rs fun r hr=>(hok r hr).mn0
   nofun
   exists Y6
   refine⟨_,rfl,_,rfl,_,rfl,l,_,rfl,SqL.of el,fun q1 hq1=>?_⟩
   have ecut:cutV (ls.map V.ref) none (some 1)=(ls.take 1).map V.ref:=by
    show cutV (ls.map V.ref) none (some ((1:Nat):Int))=_
    rw[kmz,MN]
   rw[ecut]
   have n4:=kak (o:=.lst ((ls.take 1).map V.ref)) hq1
   have e4:(upd H' q1 (.lst ((ls.take 1).map V.ref))) q1=some (.lst ((ls.take 1).map V.ref)):=kad
   have el4:=n4 _ _ el
   have hL4:=Lines.same n4 hL
   have s4:=s3.trans n4
   clear n4
   generalize upd H' q1 (.lst ((ls.take 1).map V.ref))=H4 at *
   nofun
   exists Y6
   refine⟨l,q1,_,_,rfl,rfl,el4,e4,Ng (kaq (by rw[JY,JY,Nt,hL.len];omega)),fun q2 hq2=>?_⟩
   rw[←J9]
   have n5:=kak (o:=.lst ((ls++ls.take 1).map V.ref)) hq2
   have e5:(upd H4 q2 (.lst ((ls++ls.take 1).map V.ref))) q2=some (.lst ((ls++ls.take 1).map V.ref)):=kad
   have el5:=n5 _ _ el4
   have hL5:=Lines.same n5 hL4
   have s5:=s4.trans n5
   clear n5
   generalize upd H4 q2 (.lst ((ls++ls.take 1).map V.ref))=H5 at *
   have hLL:P2 (LineAt d.qe H5) (ls++ls.take 1) (rs++rs.take 1):=P2.app (P2.tk hL5 1) hL5
   nofun
   exists Y6
   refine⟨q2,rfl,⟨_,SqL.of e5⟩,kaS (xs:=(ls++ls.take 1).map V.ref) (fun i σ ys H''=>H''=H5∧ys=(((rs++rs.take 1).map fun r=>r.mn).take i).map V.int∧∃v,σ=[v]) ⟨rfl,rfl,none,rfl⟩ (by rw[JY,hLL.len,Np,Nt];exact Ng (kaq (by omega))) ?_ ?_ ?_⟩
   ·rintro j σ ys H'' hj ⟨rfl,rfl,v,rfl⟩
    nofun
    exists Y8
    refine⟨SqL.of e5,?_⟩
    rw[JY,Nt,JY]
    rw[JY,hLL.len] at hj
    omega
   ·rintro j y σ ys H'' hy ⟨rfl,rfl,v,rfl⟩
    obtain⟨la,ea,rfl⟩:=kbN hy
    obtain⟨r,er,dxl,fsl,ha,g1,g2,g3,g4⟩:=hLL.at ea
    exists 3
    exists Y8
    refine⟨_,rfl,la,d.qe,dxl,fsl,_,rfl,ha,W.qe.cl,W.qE,g3,rfl,?_,_,rfl⟩
    rw[kbh (r:=r.mn) (by rw[Nc,er];rfl),J9 (f:=V.int)]
    rfl
   rintro σ ys H'' ⟨rfl,rfl,v,rfl⟩ D hD
   rw[JY,hLL.len,N4 (by rw[JY];exact J4 _)]
   have n6:=kak (o:=.lst (((rs++rs.take 1).map fun r=>r.mn).map V.int)) hD
   nofun
   exists Y6
   refine⟨D,_,rfl,SqL.of kad,?_⟩
   have el6:=n6 _ _ el5
   have hL6:=Lines.same n6 hL5
   have s6:=s5.trans n6
   clear n6
   generalize upd H'' D (.lst (((rs++rs.take 1).map fun r=>r.mn).map V.int))=H6 at *
   generalize hpc:((rs++rs.take 1).map fun r=>r.mn).sum=pc at *
   nofun
   exists Y6
   refine⟨fun σ H7=>Same H H7∧∃(ls':List Addr)(rs':List Row),rs'=insM ns rs∧H7 l=some (.lst (ls'.map V.ref))∧Lines d.qe H7 ls' rs'∧rs'.length≤12∧(∀r∈rs',r.Ok)∧(∀r∈rs',0≤r.kd∧r.kd<(n:Int))∧(ownN rs').length<64∧σ=[some (.ref a),some (iV n),some (.ref l),some (.bl wd),some (.int sl),v5,v6,v7,v8,some (.int pc)],?_,?_⟩
   ·have plain:insM ns rs=rs→Same H H6∧∃(ls':List Addr)(rs':List Row),rs'=insM ns rs∧H6 l=some (.lst (ls'.map V.ref))∧Lines d.qe H6 ls' rs'∧rs'.length≤12∧(∀r∈rs',r.Ok)∧(∀r∈rs',0≤r.kd∧r.kd<(n:Int))∧(ownN rs').length<64∧([some (.ref a),some (iV n),some (.ref l),some (.bl wd),some (.int sl),v5,v6,v7,v8,some (.int pc)]:St)=[some (.ref a),some (iV n),some (.ref l),some (.bl wd),some (.int sl),v5,v6,v7,v8,some (.int pc)]:=fun hin=>⟨s6,ls,rs,hin.symm,el6,hL6,hlen12,hok,hkd,by omega,rfl⟩
    nofun
    exists Y8
    refine⟨_,rfl,l,_,rfl, .inl (SqL.of el6),_,_,rfl,rfl,_,rfl,?_⟩
    exists 3
    refine ite2 (fun h1=>?_) (fun h1=>⟨_,rfl,iteF (iteF (plain ?_))⟩)
    rotate_left 1
    ·have:¬(0:Int)<((ls.map V.ref).length:Nat):=by simpa using h1
     rw[JY,hL.len] at this
     rw[E6 (l:=rs) (by omega)]
     rfl
    have hin:¬(rs.length<12∧pc<31∧someM ns 6 98 3=0)→insM ns rs=rs:=fun hn=>by
     cases rs with
     |nil=>rfl
     |cons r0 rs'=>
      unfold insM
      dsimp only
      rw[hpc,if_neg hn]
    have hl0:0<ls.length:=by
     have:(0:Int)<((ls.map V.ref).length:Nat):=by simpa using h1
     rw[JY] at this
     omega
    exists 3
    exists Y8
    refine⟨_,_,rfl,rfl,_,rfl,ite2 (fun h2=>?_) (fun h2=>iteF (plain (hin fun z=>?_)))⟩
    rotate_left 1
    ·have:¬((ls.map V.ref).length:Int)<12:=by simpa using h2
     rw[JY,hL.len] at this
     omega
    have hl12:ls.length<12:=by
     have:((ls.map V.ref).length:Int)<12:=by simpa using h2
     rw[JY] at this
     omega
    exists 3
    exists Y8
    refine⟨_,rfl,_,_,rfl,rfl,_,rfl,ite2 (fun h3=>?_) (fun h3=>iteF (plain (hin fun z=>by
     have:¬pc<31:=by simpa using h3
     omega)))⟩
    have hp61:pc<31:=by simpa using h3
    exists 3
    exists Y8
    refine⟨_,rfl,a,ns,6,98,3,rfl,s6.seq hS,⟨by decide,by decide⟩,⟨by decide,by decide⟩,by decide,fun u u0 u1=>⟨rfl,_,rfl,ite2 (fun hu=>?_) (fun hu=>plain (hin fun z=>by
     rw[←u1.2] at z
     exists 3
     exact absurd z.2.2 (by simpa using hu)))⟩⟩
    obtain⟨l0,el0⟩:=at_of hl0
    obtain⟨r0,er0,hr0⟩:=hL6.at el0
    have e0s:(rs.take 1).map (fun r=>r.mn)=[r0.mn]:=by
     rw[kbh er0]
     rfl
    have hpc':(rs.map fun r=>r.mn).sum+r0.mn=pc:=by
     rw[←hpc,J9,Ef,e0s]
     simp
    exists 3
    exists Y8
    refine⟨_,rfl, .inl ⟨rfl,_,SqL.of el6⟩,_,rfl,_,rfl,l,_,rfl, .inl (SqL.of el6),_,_,rfl,rfl,a,ns,6,97,_,rfl,s6.seq hS,⟨by decide,by decide⟩,⟨by decide,by decide⟩,(by show(0:Int)<_;omega),fun k k0 k1=>?_⟩
    exists 3
    exists Y8
    refine⟨_,rfl,l,_,_,_,rfl,rfl,SqL.of el6,kbe (j:=0) (v:=.ref l0) (by rw[Nc,el0];rfl),l,_,k,_,rfl,rfl,el6,k0,by omega,kaq (by rw[JY];omega),?_⟩
    rw[←MN,←EN]
    have el7:(upd H6 l (.lst ((ls.take k.toNat).map V.ref++V.ref l0::(ls.drop k.toNat).map V.ref))) l=some (.lst ((ls.take k.toNat++l0::ls.drop k.toNat).map V.ref)):=by
     rw[kad,J9,Nv]
    have hmem:∀r∈rs.take k.toNat++r0::rs.drop k.toNat,r∈rs:=fun r hr=>by
     rcases kkk hr with e|e
     ·rw[e];exact Nb er0
     ·exact e
    have hown7:=ki2 (rs.take k.toNat++r0::rs.drop k.toNat) fun r hr=>(hok r (hmem r hr)).mn0
    rw[klm] at hown7
    exists 3
    exists Y8
    refine⟨kao fl s6 (nx el6),ls.take k.toNat++l0::ls.drop k.toNat,rs.take k.toNat++r0::rs.drop k.toNat,?_,el7,P2.ins (hr0.set el6) (Lines.set el6 hL6) k.toNat,?_,fun r hr=>hok r (hmem r hr),fun r hr=>hkd r (hmem r hr),by omega,rfl⟩
    ·have ek:k=someM ns 6 97 ((rs.length:Int)+1):=by
      have:=k1.2
      rw[JY,hL.len] at this
      exists 3
      exact this
     have hu0:someM ns 6 98 3=0:=by rw[←u1.2];simpa using hu
     have hl12':rs.length<12:=by rw[←hL.len];exact hl12
     cases rs with
     |nil=>cases er0
     |cons r1 rs'=>
      cases er0
      unfold insM
      dsimp only
      rw[hpc,if_pos ⟨hl12',hp61,hu0⟩,←ek]
    have l1:=hL6.len
    rw[Np,NM,Nt,MU]
    omega
   rintro σ H7 ⟨s7,ls',rs',hre,el7,hL7,h12,hok7,hkd7,h64,rfl⟩
   nofun
   exists Y6
   refine⟨_,rfl,_,rfl,a,ns,6,90,rfl,s7.seq hS,⟨by decide,by decide⟩,⟨by decide,by decide⟩,fun cg cg0 cg1=>⟨_,rfl,a,ns,6,95,2,rfl,s7.seq hS,⟨by decide,by decide⟩,⟨by decide,by decide⟩,by decide,fun mb mb0 mb1=>⟨rfl,kjb (SqL.of el7) fun H8 b l' s8 f8 f8' hl' hb=>?_⟩⟩⟩
   nofun
   exact kk H8 b ⟨rs',cg,_⟩ (by unfold basM;rw[hre,hrs,cg1.2,mb1.2,←hcM];rfl) (s7.trans s8) (s7.free f8) ⟨l',ls',hb,hl',Lines.same s8 hL7⟩ h12 hok7 hkd7 ⟨cg0,cg1.1⟩ h64
noncomputable def Fl3(d:D)(H:Hp)(x o fa m:Addr)(paid owed:Int):Prop:=∃(dx t b h fp:Addr)(fs:List (Str×V)),H x=some (.ins d.qi dx fs)∧AccF fs t b h fp o fa m paid owed
theorem Fl3.same{d:D}{H H':Hp}{x o fa m:Addr}{p q:Int}(s:Same H H'):Fl3 d H x o fa m p q→Fl3 d H' x o fa m p q:=fun⟨dx,t,b,h,fp,fs,hx,f⟩=>⟨dx,t,b,h,fp,fs,s _ _ hx,f⟩
theorem Fl3.butL{d:D}{H H':Hp}{x o fa m y:Addr}{p q:Int}{xs:List V}(z:But y H H')(hy:H y=some (.lst xs)):Fl3 d H x o fa m p q→Fl3 d H' x o fa m p q:=fun⟨dx,t,b,h,fp,fs,hx,f⟩=>⟨dx,t,b,h,fp,fs,z _ _ (ne_of hx hy (by intro z;cases z)) hx,f⟩
theorem kmu{d:D}{H:Hp}{x:Addr}{A:AccD}{Ys:Addr→Prop}(h:AccIn d H H x A)(h':∀y,Ys y→AccIn d (rmv y H) H x A):∃o fa m:Addr,Fl3 d H x o fa m A.paid A.owed∧H o=some (.lst (A.order.map iV))∧H fa=some (.lst (A.fallen.map iV))∧H m=some (.lst (A.many.map V.int))∧∀y,Ys y→o≠y∧fa≠y∧m≠y:=by
 obtain⟨dx,t,b,hd,fp,o,fa,m,fs,hx,F,k⟩:=h
 refine⟨o,fa,m,⟨dx,t,b,hd,fp,fs,hx,F⟩,k.o,k.f,k.m,fun y hy=>?_⟩
 obtain⟨dx2,t2,b2,hd2,fp2,o2,fa2,m2,fs2,hx2,F2,k2⟩:=h' y hy
 rw[hx] at hx2
 cases hx2
 have e1:=F.l5.symm.trans F2.l5
 have e2:=F.l6.symm.trans F2.l6
 have e3:=F.l7.symm.trans F2.l7
 cases e1
 cases e2
 cases e3
 have no:∀{c:Addr}{u:HO},rmv y H c=some u→c≠y:=fun {c u} e z=>by
  rw[z,kiL] at e
  cases e
 exact⟨no k2.o,no k2.f,no k2.m⟩
inductive kiC (d:D) (vs:List V) (H:Hp) (Q:VK) (E_:XK):Prop
 |ct (x o fa m o' fa' m':Addr)(ord fal:List Nat)(mny:List Int)(paid owed:Int)(_:vs=[.ref x, .ref o, .ref fa, .ref m, .int paid, .int owed])(_:Fl3 d H x o' fa' m' paid owed)(_:H o'=some (.lst (ord.map iV)))(_:H fa'=some (.lst (fal.map iV)))(_:H m'=some (.lst (mny.map V.int)))(_:H o=some (.lst (ord.map iV)))(_:H fa=some (.lst (fal.map iV)))(_:H m=some (.lst (mny.map V.int)))(_:ord.length+fal.length≤8)(_:mny.length≤12)(_:∀H',Same H H'→Q (.bl true) H'):kiC d vs H Q E_
theorem kdd:kan ["_law_account","_law_order_here","_law_fallen","_law_many","_law_paid","_law_owed"] ["_law_account","_law_order_here","_law_fallen","_law_many","_law_paid","_law_owed"] (kag kbr):=by ac_rfl
theorem kdi(W:WB K mg d base):FO P w W 3 d.YX d.YY ["_law_account","_law_order_here","_law_fallen","_law_many","_law_paid","_law_owed"] (kiC d):=by
 exists W.Vb.F,kdd
 ·obtain⟨x,o,fa,m,o',fa',m',ord,fal,mny,paid,owed,rfl,⟨dx,t,b,hd,fp,fs,hx,F⟩,ho',hfa',hm',ho,hfa,hm,lo,lm,kk⟩:=h
  exists Xw,kc4,W
  exists qU,kbs,W
  exists hr1,1,hr,0
  refine⟨_,kac (ps_if (PW.pt (pw_or (kcT (kaU (pcl Xw hr W.Qp (kaa (kam (K:=K) (pv 0) rfl) (kaa (pv 1) kae))))) (keV (kcT (kaU (pcl Xw hr W.Qp (kaa (kam (K:=K) (pv 0) rfl) (kaa (pv 2) kae)))))))) (kah (kap pe_bl)) (kat))
   (kac (ps_if (kcT (kaU (pcl Xw hr W.Qp (kaa (kam (K:=K) (pv 0) rfl) (kaa (pv 3) kae))))) (kah (kap pe_bl)) (kat))
   (kah (kap (kf4 (pcl qU hr1 W.Qa (kaa (kam (K:=K) (pv 0) rfl) (kaa (pv 4) kae))) (kf3 (pcl qU hr1 W.Qa (kaa (kam (K:=K) (pv 0) rfl) (kaa (pv 5) kae)))))))),?_⟩
  have eoi:∀xs:List Nat,xs.map iV=(xs.map (fun n:Nat=>(n:Int))).map V.int:=fun xs=>by rw[Nx];rfl
  rw[eoi] at ho hfa ho' hfa'
  refine⟨_,rfl,x,d.qi,dx,fs,_,rfl,hx,W.qi.cl,W.Vy,F.l5,_,rfl,o',o,_,rfl,ho',ho,by rw[JY];omega,fun H1 s1=>⟨_,rfl,iteF ?_⟩⟩
  refine⟨_,rfl,x,d.qi,dx,fs,_,rfl,s1 _ _ hx,W.qi.cl,W.Vz,F.l6,_,rfl,fa',fa,_,rfl,s1 _ _ hfa',s1 _ _ hfa,by rw[JY];omega,fun H2 s2=>⟨_,rfl,iteF ?_⟩⟩
  have s02:=s1.trans s2
  refine⟨_,rfl,x,d.qi,dx,fs,_,rfl,s02 _ _ hx,W.qi.cl,W.VA,F.l7,_,rfl,m',m,_,rfl,s02 _ _ hm',s02 _ _ hm,by omega,fun H3 s3=>⟨_,rfl,iteF ?_⟩⟩
  have s03:=s02.trans s3
  refine⟨_,rfl,x,d.qi,dx,fs,_,rfl,s03 _ _ hx,W.qi.cl,W.VB,F.l8,_,rfl,paid,rfl,_,rfl,iteT ?_⟩
  exact⟨_,rfl,x,d.qi,dx,fs,_,rfl,s03 _ _ hx,W.qi.cl,W.VC,F.l9,_,rfl,owed,rfl,kk _ s03⟩
inductive khc (d:D) (vs:List V) (H:Hp) (Q:VK) (E_:XK):Prop
 |ct (t b h o:Addr)(T:TillD)(B:Bask)(hand:List Int)(order:List Nat)(_:vs=[.ref t, .ref b, .ref h, .ref o])(_:TillIs d H t T)(_:kcP T)(_:BaskIs d.qe d.qf H b B)(_:Wf T.ps B (stnd0 B))(_:H h=some (.lst (hand.map V.int)))(_:H o=some (.lst (order.map iV)))(_:hand.length=T.vs.length)(_:(∀n∈order,n<T.vs.length))(_:order.length<64)(_:(ka9 T B hand order=none→∀(H':Hp)(x q:Addr),Same H H'→H x=none→AccIn d H' H' x (acc0 T B hand order)→(∀y xs,H y=some (.lst xs)→AccIn d (rmv y H') H' x (acc0 T B hand order))→H' q=some (.tup [.ref x, .non])→Q (.ref q) H'))(_:∀(k:Nat)(z:L2.V),ka9 T B hand order=some (k,z)→∀(H':Hp)(e dx q:Addr),Same H H'→H' e=some (ExcO e (.ref d.qo) (some dx))→H' dx=some (XdO dx [("place",iV k),("word",z)])→H' q=some (.tup [.non, .ref e])→Q (.ref q) H'):khc d vs H Q E_
theorem qV:kan ["_law_till_here","_law_basket_here","_law_hand_here","_law_order_here","_law_caught","_law_found","error"] ["_law_till_here","_law_basket_here","_law_hand_here","_law_order_here"] (kag kce):=by ac_rfl
theorem keN(W:WB K mg d base):FO P w W 12 d.YZ d.Y0 ["_law_till_here","_law_basket_here","_law_hand_here","_law_order_here"] (khc d):=by
 exists W.Vd.F,qV
 ·obtain⟨t,b,h,o,T,B,hand,order,rfl,hT,tok,hB,wf0,hh,ho,hl,hlt,h64,kk,kx⟩:=h
  exists GX_Account_init,kdU,W
  refine⟨_,kac (psl (i:=4) qV.nd ka0)
   (kac (psl (i:=5) qV.nd ka0)
   (kac (kmb (n:="error") (i:=6) kih qV.nd rfl rfl rfl W.Uq (kl1 (i:=5) qV.nd (klf kih (fun _ _ z=>z) (W.Xb.mk' W.qi) GX_Account_init hr rfl W.qi.m W.Xb.b .nil (kaa (pv 0) (kaa (pv 1) (kaa (pv 2) (kaa (pv 3) kae)))))) (fun _=>kah (psl (i:=4) qV.nd (pv 6))))
   (kah (kap (kb9 (kaa (pv 5) (kaa (pv 4) kae))))))),?_⟩
  refine⟨_,rfl,_,rfl,_,rfl,_,rfl,klK hT tok hB wf0 hh ho hl hlt h64 (fun hf H1 x s1 fx hA hA'=>?_) (fun k z hf H1 dx s1 hdx=>⟨W.xm_NotLet_TillError,fun e fe=>?_⟩)⟩
  ·refine⟨_,rfl,_,rfl,(by show 2≤sizeLine;decide),fun q fq=>?_⟩
   have n2:=kak (o:=.tup [V.ref x,V.non]) fq
   refine kk hf _ x q (s1.trans n2) fx ((hA.same n2).kept n2) (fun y xs hy=>((hA' y xs hy).same n2).kept ?_) kad
   exact kkB (rmv_sub.trans n2) (kfl (nx ((s1.trans n2) _ _ hy))) kiL
  ·have n2:=kak (o:=ExcO e (.ref d.qo) (some dx)) fe
   refine⟨_,rfl,_,rfl,_,rfl,(by show 2≤sizeLine;decide),fun q fq=>?_⟩
   have n3:=kak (o:=.tup [V.non,V.ref e]) fq
   exact kx k z hf _ e dx q ((s1.trans n2).trans n3) (n3 _ _ kad) (n3 _ _ (n2 _ _ hdx)) kad
inductive kfO (d:D) (vs:List V) (H:Hp) (Q:VK) (E_:XK):Prop
 |ct (e dx q:Addr)(k:Nat)(z:Str)(_:vs=[.ref e, .ref q])(_:H e=some (ExcO e (.ref d.qo) (some dx)))(_:H dx=some (XdO dx [("place",iV k),("word", .str z)]))(_:H q=some (.tup [iV k, .str z]))(_:∀(H':Hp),Same H H'→Q (.bl true) H'):kfO d vs H Q E_
theorem kd9:kan ["_law_caught","_law_due"] ["_law_caught","_law_due"] (kag kb3):=by ac_rfl
theorem kep(W:WB K mg d base):FO P w W 2 d.Y1 d.Y2 ["_law_caught","_law_due"] (kfO d):=by
 exists W.Ve.F,kd9
 ·obtain⟨e,dx,q,k,z,rfl,he,hdx,hq,kk⟩:=h
  exists qU,kbs,W
  refine⟨_,kac (ps_if (PW.pt (pw_or (kcT (kaU (kau (r:=rIsiX K) kgo (by rfl) W.B.isi b_isi (kaa (pv 0) (kaa (kb8 (v:=.ref d.qo) (by rfl) W.VD rfl) kae))))) (keV (kcT (kaU (kau (r:=rIsiX K) kgo (by rfl) W.B.isi b_isi (kaa (pv 0) (kaa (keg (v:=.ty "ValueError") (by rfl) W.zVE kgu rfl) kae)))))))) (kah (kap pe_bl)) (kat))
   (kac (ps_if (kaU (kau (r:=kkR K) kia (by rfl) W.B.isi b_isi (kaa (pv 0) (kaa (kb9 (kaa (kb8 (v:=.ref d.qW) (by rfl) W.Ur rfl) (kaa (kb8 (v:=.ref d.qX) (by rfl) W.Us rfl) kae))) kae)))) (kah (kap pe_bl)) (kat))
   (kah (kap (kf4 (pcl qU hr W.Qa (kaa (kgO (pv 0) rfl) (kaa (pe_ix (r:=rIxT K) kew (pv 1) kaf (fun _ _=>rfl)) kae))) (kf4 (kau (r:=rIsi K) kaT (by rfl) W.B.isi b_isi (kaa (kgO (pv 0) rfl) (kaa (keg (v:=.ty "str") (by rfl) W.B.str b_str rfl) kae))) (kf3 (kbm op_eq (kgO (pv 0) rfl) (pe_ix (r:=rIxT K) kew (pv 1) kaf (fun _ _=>rfl)) (kav _)))))))),?_⟩
  have hd:∀b,some dx=some b→∃u,H b=some u:=fun b z=>by cases z;exact⟨_,hdx⟩
  refine⟨_,rfl,e,d.qo,some dx,_,true,rfl, .inr ⟨_,rfl⟩,he,hd,W.x_NotLet,kbu _ _,?_⟩
  refine⟨_,rfl,iteF ⟨_,rfl,e,d.qo,some dx,_,true,rfl, .inl ⟨_,rfl⟩,he,hd,W.x_NotLet,W.ki_NotLet_ValueError,_,rfl,iteF ?_⟩⟩
  refine⟨_,rfl,(by show 2≤sizeLine;decide),fun tp ftp=>?_⟩
  generalize hg3:upd H tp _=H3
  obtain⟨n3,(e3:H3 tp=some (.tup ([d.qW,d.qX].map V.ref)))⟩:=kaV hg3 ftp
  refine⟨e,d.qo,tp,some dx,_,false,rfl,SqT.of e3,n3 _ _ he,(fun b z=>by cases z;exact⟨_,n3 _ _ hdx⟩),W.x_NotLet,?_,_,rfl,iteF ?_⟩
  ·show ML K _ [.ref d.qW, .ref d.qX]=some false
   unfold ML ML ML
   rw[W.ki_NotLet_NoPieces,W.ki_NotLet_LineError]
  refine⟨_,rfl,e,d.qo,d.qz,dx,_,_,rfl,n3 _ _ he,n3 _ _ hdx,W.x_NotLet,W.w_NotLet,W.VE,rfl,_,rfl,q,_,_,_,rfl,rfl,SqT.of (n3 _ _ hq),rfl,(k:Int),rfl,?_⟩
  refine⟨_,rfl,iteT ⟨_,rfl,e,d.qo,d.qz,dx,_,_,rfl,n3 _ _ he,n3 _ _ hdx,W.x_NotLet,W.w_NotLet,W.Xc,rfl,_,_,_,_,rfl, .inl ⟨_,rfl⟩,TyOf.str _,kbu _ _,_,rfl,iteT ?_⟩⟩
  refine⟨_,rfl,e,d.qo,d.qz,dx,_,_,rfl,n3 _ _ he,n3 _ _ hdx,W.x_NotLet,W.w_NotLet,W.Xc,rfl,_,rfl,q,_,_,_,rfl,rfl,SqT.of (n3 _ _ hq),rfl,?_⟩
  refine⟨rfl,?_⟩
  rw[show decide (V.str z=V.str z)=true from decide_eq_true rfl]
  exact kk H3 n3
inductive kiy (d:D) (vs:List V) (H:Hp) (Q:VK) (E_:XK):Prop
 |ct (x b o o' fa' m':Addr)(B:Bask)(ord:List Nat)(paid:Int)(_:vs=[.ref x, .ref b, .ref o, .int paid])(_:Fl3 d H x o' fa' m' paid 0)(_:H o'=some (.lst (ord.map iV)))(_:H fa'=some (.lst (([]:List Nat).map iV)))(_:H m'=some (.lst ((B.rs.map fun r=>r.mn).map V.int)))(_:H o=some (.lst (ord.map iV)))(_:BaskIs d.qe d.qf H b B)(_:B.rs.length≤12)(_:ord.length≤8)(_:∀H',Same H H'→Q (.bl true) H'):kiy d vs H Q E_
theorem kdQ:kan ["_law_account","_law_basket_here","_law_order_here","_law_paid"] ["_law_account","_law_basket_here","_law_order_here","_law_paid"] (kag kbK):=by ac_rfl
theorem kdX(W:WB K mg d base):FO P w W 4 d.Y3 d.Y5 ["_law_account","_law_basket_here","_law_order_here","_law_paid"] (kiy d):=by
 exists W.Vf.F,kdQ
 ·obtain⟨x,b,o,o',fa',m',B,ord,paid,rfl,hF,ho',hfa',hm',ho,hB,h12,h8,kk⟩:=h
  exists UY,kdi,W
  refine⟨_,kah (kap (pcl UY hr W.Vb (kaa (pv 0) (kaa (pv 2) (kaa (kaI kae) (kaa (ka6 (N:=["_law_line"]) (CompScope.plain rfl (by decide +kernel) (by decide +kernel) (by decide +kernel) (nd1 _)) rfl (kaH (K:=K) (kam (K:=K) (pv 1) rfl)) (fun _ _ _ _=>pgn (i:=0) (nd1 _)) (fun _ _ _ _=>(kam (K:=K) (pv 0) rfl))) (kaa (pv 3) (kaa kaf kae)))))))),?_⟩
  refine⟨_,rfl,_,rfl,by decide,fun f ff=>?_⟩
  generalize hg1:upd H f _=H1
  obtain⟨n1,(e1:H1 f=some (.lst (([]:List Nat).map iV)))⟩:=kaV hg1 ff
  obtain⟨l,ls,⟨dxb,fsb,hbb,lbl,lbc,lbm⟩,hlb,hL⟩:=id (hB.same n1)
  have hll:=hL.len
  refine⟨_,rfl,b,d.qf,dxb,fsb,_,rfl,hbb,W.qf.cl,W.qF,lbl,l,rfl,⟨_,SqL.of hlb⟩,kaS (xs:=ls.map V.ref) (fun i σ ys H'=>H'=H1∧ys=((B.rs.take i).map fun r=>r.mn).map V.int∧∃v,σ=[v]) ⟨rfl,rfl,none,rfl⟩ (by rw[JY,hll];exact Ng (kaq (by omega))) ?_ ?_ ?_⟩
  ·rintro i σ ys H' hi ⟨rfl,rfl,_⟩
   exact⟨SqL.of hlb,by rw[JY,JY,Nt];rw[JY] at hi;omega⟩
  ·rintro i y σ ys H' hy ⟨rfl,rfl,v,rfl⟩
   obtain⟨lx,el,rfl⟩:=kbN hy
   obtain⟨r,er⟩:=at_of (xs:=B.rs) (i:=i) (by have:=at_lt el;omega)
   obtain⟨dxl,fsl,hlx,lk1,lk2,lk3,lk4⟩:=hL.get el er
   refine⟨_,rfl,lx,d.qe,dxl,fsl,_,rfl,hlx,W.qe.cl,W.qE,lk3,rfl,?_,_,rfl⟩
   rw[take_snoc er,J9,J9]
   rfl
  rintro σ ys H' ⟨rfl,rfl,v,rfl⟩ D fD
  rw[JY,hll,NU]
  generalize hg2:upd H' D _=H2
  obtain⟨n2,e2⟩:=kaV hg2 fD
  have s2:=n1.trans n2
  exact⟨_,rfl,x,o,f,D,o',fa',m',ord,[],B.rs.map fun r=>r.mn,paid,0,rfl,hF.same s2,s2 _ _ ho',s2 _ _ hfa',s2 _ _ hm',s2 _ _ ho,n2 _ _ e1,e2,(by show ord.length+0≤8;omega),(by rw[JY];exact h12),fun H3 s3=>kk H3 (s2.trans s3)⟩
inductive kkO (d:D) (vs:List V) (H:Hp) (Q:VK) (E_:XK):Prop
 |ct (t b h o:Addr)(T:TillD)(B:Bask)(hand:List Int)(order:List Nat)(_:vs=[.ref t, .ref b, .ref h, .ref o])(_:TillIs d H t T)(_:kcP T)(_:BaskIs d.qe d.qf H b B)(_:Wf T.ps B (stnd0 B))(_:H h=some (.lst (hand.map V.int)))(_:H o=some (.lst (order.map iV)))(_:hand.length=T.vs.length)(_:(∀n∈order,n<T.vs.length))(_:order.length≤8)(_:∀(H':Hp),Same H H'→Q .non H'):kkO d vs H Q E_
theorem VP:kan ["_law_till_here","_law_basket_here","_law_hand_here","_law_order_here","_law_begin"] ["_law_till_here","_law_basket_here","_law_hand_here","_law_order_here"] (kag ka2):=by ac_rfl
theorem kcl(W:WB K mg d base):FO P w W 10 d.Y7 d.Y9 ["_law_till_here","_law_basket_here","_law_hand_here","_law_order_here"] (kkO d):=by
 exists W.Vg.F,VP
 ·obtain⟨t,b,h,oo,T,B,hand,order,rfl,hT,tok,hB,wf0,hh,ho,hl,hlt,h8,kk⟩:=h
  exists qC,kdh,W
  have Xx:=(kdz (P:=P) (w:=w) (base:=base) W).calm
  exists hr8,8,hr,0
  refine⟨_,kac (psl (i:=4) VP.nd (kaF (r:=kbd K) kaC (by rfl) W.B.list kbo (kaa (pv 3) kae)))
   (kac (kfm PassesOwn.never (kas kck (pcl qC hr8 W.qO (kaa (pv 0) (kaa (pv 1) (kaa (pv 2) (kaa (pv 4) kae))))) ka0 (kav _))
   (kah (kaL (ki0 NA Dd De kkZ (pv 4)))))
   (kah (kaL (pcl Xx hr W.qP (kaa (pv 0) (kaa (pv 1) (kaa (pv 2) (kaa (pv 4) kae)))))))),?_⟩
  refine⟨_,rfl,oo,_,rfl, .inl (SqL.of ho),fun o fo=>?_⟩
  generalize hg1:upd H o _=H1
  obtain⟨s1,eo1⟩:=kaV hg1 fo
  refine ke7 (fun σ H'=>Same H H'∧∃(order:List Nat),H' o=some (.lst (order.map iV))∧(∀n∈order,n<T.vs.length)∧order.length≤8∧σ=[some (.ref t),some (.ref b),some (.ref h),some (.ref oo),some (.ref o)])
   (fun _ H'=>match H' o with|some (.lst xs)=>xs.length|_=>0) ⟨s1,order,eo1,hlt,h8,rfl⟩ ?_ ?_
  ·rintro σ H3 ⟨s3,order,eo3,hlt,hle,rfl⟩
   refine⟨_,rfl,_,rfl,_,rfl,_,rfl,t,b,h,o,T,B,hand,order,rfl,hT.same s3,tok,hB.same s3,wf0,s3 _ _ hh,eo3,hl,hlt,by omega,fun H4 v s4 hF=>⟨rfl,_,rfl,?_⟩⟩
   have eo4:=s4 _ _ eo3
   cases e:ka9 T B hand order with
   |none=>
    rw[e] at hF
    have ev:v=.non:=hF
    subst ev
    rw[show(!decide (V.non=V.non))=false by simp]
    have s04:=s3.trans s4
    refine iteF ?_
    exact⟨_,rfl,_,rfl,_,rfl,_,rfl,t,b,h,o,T,B,hand,order,rfl,hT.same s04,tok,hB.same s04,wf0,s04 _ _ hh,eo4,hl,hlt,by omega,fun _ H5 H6 bl y0 y1 _=>kk H6 (s04.trans (y0.trans y1)),fun k z hf=>by rw[e] at hf;cases hf⟩
   | some pz=>
    obtain⟨kz,z⟩:=pz
    rw[e] at hF
    obtain⟨fa,rfl,hfa⟩:=hF
    rw[show(!decide (V.ref fa=V.non))=true by simp]
    have h0:order≠[]:=fun z=>by
     rw[z,kgk] at e
     cases e
    have hpos:0<order.length:=List.length_pos_iff.mpr h0
    obtain⟨y,ey⟩:=at_of (xs:=order) (i:=order.length-1) (by omega)
    refine iteT ⟨_,rfl, .inl ⟨rfl,_,SqL.of eo4⟩,o,_,iV y,rfl,rfl,eo4,(by rw[JY,Nc,ey];rfl),?_⟩
    rw[←List.map_dropLast]
    refine⟨⟨kao fo (s3.trans s4) (nx eo4),order.dropLast,kad,fun n hn=>hlt n ((Df order).subset hn),by rw[MD];omega,rfl⟩,?_⟩
    show(match(upd H4 o _) o with|some (.lst xs)=>xs.length|_=>0)<(match H3 o with|some (.lst xs)=>xs.length|_=>0)
    rw[kad,eo3]
    show(order.dropLast.map iV).length<(order.map iV).length
    rw[JY,JY,MD]
    omega
  ·rintro σ H' Q' Q'' hq ⟨x0,g0,x1,g1,x2,g2,x3,g3,t',b',h',o',T',B',hd',od',e,a1,a2,a3,a4,a5,a6,a7,a8,a9,kz⟩
   refine⟨x0,g0,x1,g1,x2,g2,x3,g3,t',b',h',o',T',B',hd',od',e,a1,a2,a3,a4,a5,a6,a7,a8,a9,fun H1 v z1 hF=>?_⟩
   obtain⟨r,c,e2,q⟩:=kz H1 v z1 hF
   exact⟨r,c,e2,hq _ _ q⟩
theorem kfI:∀(o u:List Nat)(S:Stnd),∃p s,o=p++s∧(walkM T B hand o u S).1=u++p∧∀n s',s=n::s'→∀V,T.vs[n]?=some V→dueM V T B hand (walkM T B hand o u S).1 (walkM T B hand o u S).2 n≠.non
 |[],u,S=>⟨[],[],rfl,(Mp u).symm,fun n s' e=>by cases e⟩
 | n ::o,u,S=>by
  unfold walkM
  cases hV:T.vs[n]? with
  |none=>exact⟨[],n::o,rfl,(Mp u).symm,fun m s' e V hV'=>by cases e;rw[hV] at hV';cases hV'⟩
  | some V=>
   dsimp only
   by_cases hn:dueM V T B hand u S n=.non
   ·rw[if_pos hn]
    obtain⟨p,s,e1,e2,e3⟩:=kfI o (u++[n]) (aftM V T.ps (kds B) S)
    exact⟨n::p,s,by rw[e1];rfl,by rw[e2,Mm];rfl,e3⟩
   ·rw[if_neg hn]
    exact⟨[],n::o,rfl,(Mp u).symm,fun m s' e V' hV'=>by
     cases e
     rw[hV] at hV'
     cases hV'
     exact hn⟩
theorem kku{V:Vch}{T:TillD}{B:Bask}{hand:List Int}{u:List Nat}{S:Stnd}{n:Nat}(h:dueM V T B hand u S n≠.non):∃z,dueM V T B hand u S n=.str z:=by
 unfold dueM at h⊢
 cases e:wordM V T.rs hand u n with
 |some z=>exact⟨z,rfl⟩
 | none=>
  rw[e] at h
  dsimp only at h⊢
  unfold hindM at h⊢
  split
  ·exact⟨_,rfl⟩
  ·split
   ·exact⟨_,rfl⟩
   ·split
    ·exact⟨_,rfl⟩
    ·rename_i h1 h2 h3
     rw[if_neg h1,if_neg h2,if_neg h3] at h
     exact absurd rfl h
theorem kh5{o:List Nat}{k:Nat}{z:L2.V}(h:ka9 T B hand o=some (k,z)):∃w,z=.str w:=by
 unfold ka9 at h
 obtain⟨p,s,e1,e2,e3⟩:=kfI (T:=T) (B:=B) (hand:=hand) o [] (stnd0 B)
 generalize walkM T B hand o [] (stnd0 B)=r at *
 obtain⟨u,S⟩:=r
 dsimp only at *
 rw[ME] at e2
 subst e2
 by_cases hl:u.length<o.length
 ·rw[if_pos hl] at h
  cases s with
  |nil=>
   rw[e1,Mp] at hl
   exact absurd hl (N6 _)
  | cons n s'=>
   have eg:o.getD u.length 0=n:=by rw[e1,Nm,Mq (J4 _),Nat.sub_self];rfl
   rw[eg] at h
   cases hV:T.vs[n]? with
   |none=>rw[hV] at h;cases h
   |some V=>
    rw[hV] at h
    obtain⟨w,ew⟩:=kku (e3 n s' rfl V hV)
    dsimp only at h
    rw[ew] at h
    cases h
    exact⟨w,rfl⟩
 ·rw[if_neg hl] at h
  split at h
  ·cases h
  ·cases h
   exact⟨_,rfl⟩
theorem P2.rev{α β:Type}{R: α→β→Prop}:∀{as:List α}{bs:List β},P2 R as bs→P2 R as.reverse bs.reverse
 |_,_, .nil=>.nil
 |_,_, .cons h t=>by
  rw[Mw,Mw]
  exact P2.snoc (P2.rev t) h
noncomputable def Rec3(d:D)(B:Bask)(bs:Addr)(H:Hp)(q:Addr):Prop:=∃(x o o' fa m:Addr)(ord:List Nat)(paid:Int),H q=some (.tup [.ref x, .ref o, .int paid])∧Fl3 d H x o' fa m paid 0∧H o'=some (.lst (ord.map iV))∧H fa=some (.lst (([]:List Nat).map iV))∧H m=some (.lst ((B.rs.map fun r=>r.mn).map V.int))∧H o=some (.lst (ord.map iV))∧o≠bs∧o'≠bs∧fa≠bs∧m≠bs∧ord.length≤8
theorem Rec3.same{d:D}{B:Bask}{bs q:Addr}{H H':Hp}(s:Same H H'):Rec3 d B bs H q→Rec3 d B bs H' q:=fun⟨x,o,o',fa,m,ord,paid,h1,h2,h3,h4,h5,h6,r⟩=>⟨x,o,o',fa,m,ord,paid,s _ _ h1,h2.same s,s _ _ h3,s _ _ h4,s _ _ h5,s _ _ h6,r⟩
theorem Rec3.but{d:D}{B:Bask}{bs q:Addr}{H H':Hp}{ys:List V}(b:But bs H H')(hbs:H bs=some (.lst ys)):Rec3 d B bs H q→Rec3 d B bs H' q:=fun⟨x,o,o',fa,m,ord,paid,h1,h2,h3,h4,h5,h6,n1,n2,n3,n4,r⟩=>
 ⟨x,o,o',fa,m,ord,paid,b _ _ (ne_of h1 hbs (by intro z;cases z)) h1,h2.butL b hbs,b _ _ n2 h3,b _ _ n3 h4,b _ _ n4 h5,b _ _ n1 h6,n1,n2,n3,n4,r⟩
theorem qr:kan ["_law_script","_law_parents_here","_law_basket_here","_law_twin","_law_till_here","_law_other","_law_hand_here","_law_held","_law_turn","_law_order_here","_law_j","_law_due","_law_handed","_law_account","_law_caught"] ["_law_script"] (kag s_law):=by ac_rfl
theorem kml(W:WB K mg d base):FO P w W 13 d.f_law d.Za ["_law_script"] (kfQ K d.tP_falling_groups):=by
 refine FunD.ok W.d_law.F qr (fun vs H Q E h=>?_) (fun cdv A outer s H vs Q E hr h=>?_)
 ·obtain⟨a,ns,rfl,_⟩:=h
  rfl
 ·obtain⟨a,ns,rfl,hS,hn,htb0,k⟩:=h
  exists UZ,keq,W
  exists VQ,keO,W
  exists U0,kf8,W
  exists qh,kaM,W
  exists Qk,kcG,W
  exists U1,kf9,W
  exists U2,kft,W
  exists qC,kdh,W
  exists U3,kcl,W
  exists U4,keN,W
  exists U5,kep,W
  have Xx:=(kdz (P:=P) (w:=w) (base:=base) W).calm
  exists U6,kdX,W
  exists hr2,2,hr,0
  exists hr3,3,hr,0
  exists hr4,4,hr,0
  exists hr7,7,hr,0
  exists hr8,8,hr,0
  exists hr9,9,hr,0
  exists hr10,10,hr,0
  refine⟨_,kac (psl (i:=1) qr.nd (pcl UZ hr3 W.ZT (kaa (pv 0) kae)))
   (kac (psl (i:=2) qr.nd (pcl VQ hr4 W.QU (kaa (pv 0) (kaa (kau (r:=kba K) kaz (by rfl) W.B.len b_len (kaa (pv 1) kae)) kae))))
   (kac (psl (i:=3) qr.nd (pcl VQ hr4 W.QU (kaa (pv 0) (kaa (kau (r:=kba K) kaz (by rfl) W.B.len b_len (kaa (pv 1) kae)) kae))))
   (kac (psl (i:=4) qr.nd (pcl U0 hr7 W.ZY (kaa (pv 0) (kaa (pv 1) (kaa (pv 3) (kaa (pe_ix (r:=rIxL K) kaG (kaI (kaa kbz (kaa kbz kae))) (pcl qh hr2 W.qk (kaa (pv 0) (kaa kaf (kaa kaf (kaa kaf kae))))) (fun _ _=>rfl)) kae))))))
   (kac (psl (i:=5) qr.nd (ka3 (W.qM.mk' W.qd) Qk hr2 rfl W.qd.m W.qM.b .nil pass0 (kaa (pv 1) (kaa (kgN (K:=K) rfl (by rfl) W.B.list (by rfl) W.B.rev (kam (K:=K) (pv 4) rfl)) (kaa (kaI kae) (kaa (kam (K:=K) (pv 4) rfl) kae))))))
   (kac (psl (i:=6) qr.nd (pcl U1 hr3 W.ZZ (kaa (pv 0) (kaa (kau (r:=kba K) kaz (by rfl) W.B.len b_len (kaa (kam (K:=K) (pv 4) rfl) kae)) kae))))
   (kac (psl (i:=7) qr.nd (kaI kae))
   (kac (kbx PassesOwn.never rfl (kby rfl W.B.range (kaa kaf kae)) (pgn (i:=8) qr.nd)
   (kac (psl (i:=9) qr.nd (pcl U2 hr10 W.Va (kaa (pv 0) (kaa (pe_op kaA kaf (pe_op kbO kaf (pv 8))) (kaa (pv 4) (kaa (pv 3) (kaa (pv 6) kae)))))))
   (kac (kcC (ps_if (kas op_eq (pe_op kdH (pv 8) kaf) kaf (kav _)) (kac (psl (i:=9) qr.nd (kaI kae))
   (kah (kbx PassesOwn.never rfl (kby rfl W.B.range (kaa (pcl qh hr2 W.qk (kaa (pv 0) (kaa (pe_op kaA kaf (pv 8)) (kaa kaf (kaa kaf kae))))) kae)) (pgn (i:=10) qr.nd)
   (kah (kaL (pe_bm NA NW NY kaW (pv 9) (kaa (pcl qh hr2 W.qk (kaa (pv 0) (kaa (pe_op kaA kaf (pv 8)) (kaa (pe_op kaA kaf (pv 10)) (kaa (kau (r:=kba K) kaz (by rfl) W.B.len b_len (kaa (kam (K:=K) (pv 4) rfl) kae)) kae))))) kae))))))) (kat)))
   (kac (psl (i:=11) qr.nd (pcl qC hr8 W.qO (kaa (pv 4) (kaa (pv 3) (kaa (pv 6) (kaa (pv 9) kae))))))
   (kac (kaL (pcl U3 hr10 W.Vg (kaa (pv 5) (kaa (pv 2) (kaa (pv 6) (kaa (pv 9) kae))))))
   (kac (psl (i:=12) qr.nd (kaI (kaa (kaF (r:=kbd K) kaC (by rfl) W.B.list kbo (kaa (pv 6) kae)) (kaa (kaF (r:=kbd K) kaC (by rfl) W.B.list kbo (kaa (pv 9) kae)) kae))))
   (kac (kiT (pcl U4 hr W.Vd (kaa (pv 4) (kaa (pv 2) (kaa (pe_ix (r:=rIxL K) kaG (pv 12) kaf (fun _ _=>rfl)) (kaa (pe_ix (r:=rIxL K) kaG (pv 12) kaf (fun _ _=>rfl)) kae))))) (kbl (K:=K) (n:=2) rfl (kaw (pgn (i:=13) qr.nd) (kaw (pgn (i:=14) qr.nd) kbk))))
   (kac (ps_if (PW.pt (pw_or (kas (kmk hr.units) (pv 12) (kaI (kaa (pv 6) (kaa (pv 9) kae))) (kav _)) (keV (PW.pt (kbw (kas kck (pv 11) ka0 (kav _)) (kbj (kcT (kaU (pcl U5 hr2 W.Ve (kaa (pv 14) (kaa (pv 11) kae))))))))))) (kah (kap pe_bl)) (kat))
   (kac (kaL (ki0 NA PySem.F.slot_list_clear PySem.F.type_list_clear kka (pe_ix (r:=rIxL K) kaG (pv 12) kaf (fun _ _=>rfl))))
   (kac (kaL (pe_bm NA NW NY kaW (pe_ix (r:=rIxL K) kaG (pv 12) kaf (fun _ _=>rfl)) (kaa kaf kae)))
   (kah (ps_if (kas keY (pv 11) ka0 (kav _)) (kac (ps_if (kcT (kaU (kau (r:=rIsi K) kaT (by rfl) W.B.isi b_isi (kaa (pv 13) (kaa (kb8 (v:=.ref d.qi) (by rfl) W.VY rfl) kae))))) (kah (kap pe_bl)) (kat))
   (kah (kaL (pe_bm NA NW NY kaW (pv 7) (kaa (kb9 (kaa (pv 13) (kaa (pv 9) (kaa (kam (K:=K) (pcl Xx hr9 W.qP (kaa (pv 4) (kaa (pv 3) (kaa (pv 6) (kaa (pv 9) kae))))) rfl) kae)))) kae))))) (kat)))))))))))))
   (kah (kap (kau (khI rfl) (by rfl) W.B.all b_all (kaa (ka6 (N:=["_law_account","_law_order_here","_law_paid","_law_basket_here"]) (CompScope.of (N:=["_law_account","_law_order_here","_law_paid","_law_basket_here"]) (cap:=[none,none,none,some 2]) (kag s_law).names ["_law_script","_law_parents_here","_law_basket_here","_law_twin","_law_till_here","_law_other","_law_hand_here","_law_held","_law_turn","_law_order_here","_law_j","_law_due","_law_handed","_law_account","_law_caught"] rfl rfl (by decide +kernel)) rfl (kaH (K:=K) (pv 7)) (fun _ _ _ _=>kbl (K:=K) (n:=3) rfl (kaw (pgn (i:=0) (show(["_law_account","_law_order_here","_law_paid","_law_basket_here"]:List Str).Nodup by decide +kernel)) (kaw (pgn (i:=1) (show(["_law_account","_law_order_here","_law_paid","_law_basket_here"]:List Str).Nodup by decide +kernel)) (kaw (pgn (i:=2) (show(["_law_account","_law_order_here","_law_paid","_law_basket_here"]:List Str).Nodup by decide +kernel)) kbk)))) (fun _ _ _ _=>(pcl U6 hr4 W.Vf (kaa (pv 0) (kaa (pv 3) (kaa (pv 1) (kaa (pv 2) kae))))))) kae))))))))))),?_⟩
  exists Y4
  refine⟨_,rfl,a,ns,rfl,hS,fun H1 p ps s1 f1 hp hg hl20 hl0=>?_⟩
  symm
  exists Y4
  refine⟨_,rfl,_,rfl,p,_,rfl, .inl (SqL.of hp),a,ns,ps.length,(by rw[JY];rfl),s1.seq hS,hl0,fun H2 b B eB s2 f2 hb hB12 hBok hBkd hBc hB64=>?_⟩
  have s02:=s1.trans s2
  symm
  exists Y4
  refine⟨_,rfl,_,rfl,p,_,rfl, .inl (SqL.of (s2 _ _ hp)),a,ns,ps.length,(by rw[JY];rfl),s02.seq hS,hl0,fun H3 tw B' eB' s3 f3 htw _ _ _ _ _=>?_⟩
  obtain rfl:B'=B:=eB'.trans eB.symm
  clear eB eB'
  have wf0:=Wf.start hg hl20 hBkd hBok hB12 hBc hB64
  have s03:=s02.trans s3
  have s13:=s2.trans s3
  symm
  exists Y4
  refine⟨_,rfl,_,rfl,_,rfl,(by show 2≤sizeLine;decide),fun l0 fl0=>?_⟩
  exists H3,l0,H4,n4,e4,fl0
  have s04:=s03.trans n4
  symm
  exists Y4
  refine⟨_,rfl,a,ns,0,3,2,rfl,s04.seq hS,⟨by decide,by decide⟩,⟨by decide,by decide⟩,by decide,fun z z0 z1=>?_⟩
  obtain⟨bk,ebk⟩:∃bk:Str,atI [V.str "again",V.str "shares"] z=some (.str bk):=by
   rcases(show z=0∨z=1 by omega) with e|e
   ·rw[e]
    symm
    exact⟨_,rfl⟩
   ·rw[e]
    symm
    exact⟨_,rfl⟩
  symm
  exists Y4
  refine⟨l0,_,_,_,rfl,rfl,SqL.of e4,ebk,?_⟩
  symm
  exists Y4
  refine⟨a,p,tw,ns,ps,B',bk,rfl,s04.seq hS,(s13.trans n4) _ _ hp,hl0,htw.same n4,hB12,hBok,Tbs.same s04 htb0,fun H5 t vs rs s5 f5 hT tok hv0=>?_⟩
  have s05:=s04.trans s5
  have s25:=(s3.trans n4).trans s5
  have s35:=n4.trans s5
  obtain⟨dxt,fst,tp,vl,rl,va,ra,ht,t1,t2,t3,t4,htp,hvl,hva,hrl,hra⟩:=id hT
  have lva:=hva.len
  have lvs:vs.length≤8:=tok.nv
  symm
  exists Y4
  refine⟨_,rfl,_,rfl,t,d.qd,dxt,fst,_,rfl,ht,W.qd.cl,W.qx,t2,vl,_,rfl,SqL.of hvl,fun v6 fv6=>?_⟩
  rw[←List.map_reverse]
  exists H5,v6,H6,n6,e6,fv6
  symm
  exists Y4
  refine⟨by decide,fun r7 fr7=>?_⟩
  exists H6,r7,H7,n7,e7,fr7
  have s57:=n6.trans n7
  symm
  exists Y4
  refine⟨_,rfl,t,d.qd,dxt,fst,_,rfl,s57 _ _ ht,W.qd.cl,W.Xa,t4,?_⟩
  symm
  refine ki9 (T:=⟨ps,vs.reverse,[],bk⟩) (va:=va.reverse) (ra:=[]) (((s13.trans s35).trans s57) _ _ hp) (n7 _ _ e6) (P2.rev (hva.mono fun v V h=>h.same s57)) e7 .nil fun H8 t8 s8 ft8 hT8=>?_
  have tok8:kcP ⟨ps,vs.reverse,[],bk⟩:=⟨fun V hV=>tok.vs V (List.mem_reverse.mp hV),by show vs.reverse.length≤8;rw[EC];exact tok.nv⟩
  have s58:=s57.trans s8
  have s08:=s05.trans s58
  have hT58:=hT.same s58
  symm
  exists Y4
  refine⟨_,rfl,_,rfl,t,d.qd,dxt,fst,_,rfl,s58 _ _ ht,W.qd.cl,W.qx,t2,vl,_,rfl, .inl (SqL.of (s58 _ _ hvl)),a,ns,vs.length,(by rw[JY,lva];rfl),s08.seq hS,lvs,fun H9 h hand s9 f9 hh hhl=>?_⟩
  have s09:=s08.trans s9
  have hT9:=hT58.same s9
  have hT89:=hT8.same s9
  have hb9:BaskIs d.qe d.qf H9 b B':=((hb.same s25).same s58).same s9
  have htw9:BaskIs d.qe d.qf H9 tw B':=((htw.same s35).same s58).same s9
  obtain⟨T2,eT2⟩:∃T2:TillD,T2=⟨ps,vs.reverse,[],bk⟩:=⟨_,rfl⟩
  have el2:T2.vs.length=vs.length:=by rw[eT2];exact EC ..
  have wf2:Wf T2.ps B' (stnd0 B'):=by rw[eT2];exact wf0
  rw[←eT2] at hT89 tok8
  clear eT2 hT8
  obtain⟨T,eT⟩:∃T:TillD,T=⟨ps,vs,rs,bk⟩:=⟨_,rfl⟩
  rw[←eT] at hT9 tok
  have eps:ps=T.ps:=by rw[eT]
  have evs:vs=T.vs:=by rw[eT]
  clear hT hT58 eT
  subst eps evs
  symm
  exists Y4
  refine⟨by decide,fun bs fbs=>?_⟩
  generalize hg10:upd H9 bs _=H10
  obtain⟨n10,(ebs0:H10 bs=some (.lst (([]:List Addr).map V.ref)))⟩:=kaV hg10 fbs
  clear hg10
  symm
  exists Y4
  refine⟨_,rfl,by decide,by decide,kcb (fun i σ H'=>Same H9 H'∧∃(qs:List Addr)(v8 v9 v10 v11 v12 v13 v14:Option V),H' bs=some (.lst (qs.map V.ref))∧(∀q∈qs,Rec3 d B' bs H' q)∧qs.length≤i∧σ=[some (.ref a),some (.ref p),some (.ref b),some (.ref tw),some (.ref t),some (.ref t8),some (.ref h),some (.ref bs),v8,v9,v10,v11,v12,v13,v14])
   ⟨n10,[],none,none,none,none,none,none,none,ebs0,(fun q hq=>by cases hq),J4 _,rfl⟩ ?_ ?_⟩
  ·rintro i σ Hi hi ⟨sI,qs,v8,v9,v10,v11,v12,v13,v14,ebs,hrec,hql,rfl⟩
   have hi4:i<4:=hi
   rw[Int.zero_add]
   have s0i:=s09.trans sI
   symm
   exists Y6
   refine⟨_,rfl,_,rfl,_,_,rfl,rfl, .inl ⟨by decide,by decide⟩,_,_,rfl,rfl,_,rfl,_,rfl,_,rfl,a,t,tw,h,ns,8+8*(i:Int),T,B',hand,rfl,s0i.seq hS,⟨by omega,by omega⟩,hT9.same sI,tok,hv0,htw9.same sI,wf0,sI _ _ hh,hhl,fun H11 o order s11 fo eo hlt h8 hfn=>?_⟩
   nofun
   exists Y6
   refine⟨fun σ H12=>Same Hi H12∧∃(o:Addr)(ord:List Nat)(w10:Option V),Hi o=none∧H12 o=some (.lst (ord.map iV))∧(∀n∈ord,n<T.vs.length)∧ord.length≤8∧σ=[some (.ref a),some (.ref p),some (.ref b),some (.ref tw),some (.ref t),some (.ref t8),some (.ref h),some (.ref bs),some (.int (i:Int)),some (.ref o),w10,v11,v12,v13,v14],?_,?_⟩
   ·refine⟨_,rfl,_,_,rfl,rfl,(by show(0:Int)<2;decide),rfl,_,rfl,ite2 (fun _=>?_) (fun _=>⟨s11,o,order,v10,fo,eo,hlt,h8,rfl⟩)⟩
    nofun
    exists Y8
    refine⟨by decide,fun o2 fo2=>?_⟩
    generalize hg12:upd H11 o2 _=H12
    obtain⟨n12,(eo2:H12 o2=some (.lst (([]:List Nat).map iV)))⟩:=kaV hg12 fo2
    clear hg12
    have fo2i:=s11.free fo2
    have si12:=s11.trans n12
    exists 3
    exists Y8
    refine⟨_,rfl,_,rfl,_,_,rfl,rfl,a,ns,8+(i:Int),2,9,rfl,(s0i.trans si12).seq hS,⟨by omega,by omega⟩,⟨by decide,by decide⟩,by decide,fun z z0 z1=>⟨_,rfl,by omega,by omega,?_⟩⟩
    exists 3
    refine kcb (fun j σ H'=>Same Hi H'∧∃(ord:List Nat)(w10:Option V),H' o2=some (.lst (ord.map iV))∧ord.length=j∧(∀n∈ord,n<T.vs.length)∧σ=[some (.ref a),some (.ref p),some (.ref b),some (.ref tw),some (.ref t),some (.ref t8),some (.ref h),some (.ref bs),some (.int (i:Int)),some (.ref o2),w10,v11,v12,v13,v14])
     ⟨si12,[],v10,eo2,rfl,(fun n hn=>by cases hn),rfl⟩ ?_ ?_
    ·rintro j σ Hj hj ⟨sJ,ord,w10,eoj,hol,hltj,rfl⟩
     have hj9:j<9:=by omega
     rw[Int.zero_add]
     have s9j:=sI.trans sJ
     have s5j:=(s58.trans s9).trans s9j
     exists 3
     exists Y10
     refine⟨_,rfl, .inl ⟨rfl,_,SqL.of eoj⟩,_,rfl,_,rfl,_,_,rfl,rfl,_,rfl,_,_,rfl,rfl,_,rfl,t,d.qd,dxt,fst,_,rfl,s5j _ _ ht,W.qd.cl,W.qx,t2,vl,_,rfl, .inl (SqL.of (s5j _ _ hvl)),a,ns,8+(i:Int),10+(j:Int),(T.vs.length:Int),(by rw[JY,lva];rfl),(s09.trans s9j).seq hS,⟨by omega,by omega⟩,⟨by omega,by omega⟩,by omega,fun y y0 y1=>?_⟩
     obtain⟨yn,rfl⟩:=Int.eq_ofNat_of_zero_le y0
     exists 5
     exists Y10
     refine⟨o2,_,_,rfl,rfl,eoj,kaq (by rw[JY];omega),?_⟩
     exists 5
     exists Y10
     refine⟨kao fo2i sJ (nx eoj),ord++[yn],_,by rw[kad,J9];rfl,by rw[Np,hol];rfl,fun n hn=>?_,rfl⟩
     rcases NJ.mp hn with hn|hn
     ·exact hltj n hn
     ·rw[NP.mp hn]
      omega
    ·rintro σ Hj ⟨sJ,ord,w10,eoj,hol,hltj,rfl⟩
     exists 5
     exact⟨sJ,o2,ord,w10,fo2i,eoj,hltj,by omega,rfl⟩
   clear fo eo hlt h8 hfn s11
   rintro σ H12 ⟨s12,o,ord,w10,fo,eo,hlt,h8,rfl⟩
   have s912:=sI.trans s12
   have no:o≠bs:=(kai ebs fo).symm
   nofun
   exists Y6
   refine⟨_,rfl,_,rfl,_,rfl,_,rfl,t,tw,h,o,T,B',hand,ord,rfl,hT9.same s912,tok,htw9.same s912,wf0,s912 _ _ hh,eo,hhl,hlt,by omega,fun H13 v s13' hF=>?_⟩
   have s913:=s912.trans s13'
   have eo13:=s13' _ _ eo
   nofun
   exists Y6
   refine⟨_,rfl,_,rfl,_,rfl,_,rfl,t8,b,h,o,T2,B',hand,ord,rfl,hT89.same s913,tok8,hb9.same s913,wf2,s913 _ _ hh,eo13,by rw[el2];exact hhl,(fun n hn=>by rw[el2];exact hlt n hn),h8,fun H14 s14=>?_⟩
   have s914:=s913.trans s14
   nofun
   exists Y6
   refine⟨_,rfl,h,_,rfl, .inl (SqL.of (s914 _ _ hh)),fun h1 fh1=>?_⟩
   exists H14,h1,H15,n15,e15,fh1
   nofun
   exists Y6
   refine⟨_,rfl,o,_,rfl, .inl (SqL.of ((s14.trans n15) _ _ eo13)),fun o1 fo1=>?_⟩
   exists H15,o1,H16,n16,e16,fo1
   nofun
   exists Y6
   refine⟨(by show 2≤sizeLine;decide),fun hd fhd=>?_⟩
   exists H16,hd,H17,n17,e17,fhd
   have s1417:=(n15.trans n16).trans n17
   have s917:=s914.trans s1417
   have s1317:=s14.trans s1417
   have si14:=(s12.trans s13').trans s14
   have si17:=si14.trans s1417
   have eh17:H17 h1=some (.lst (hand.map V.int)):=(n16.trans n17) _ _ e15
   have eo17:H17 o1=some (.lst (ord.map iV)):=n17 _ _ e16
   have eoo:=s1317 _ _ eo13
   have fh1i:Hi h1=none:=si14.free fh1
   have fo1i:Hi o1=none:=(si14.trans n15).free fo1
   have fhdi:Hi hd=none:=((si14.trans n15).trans n16).free fhd
   have nho:h1≠o1:=kai e15 fo1
   have nbh:bs≠h1:=kai ebs fh1i
   have nbo:bs≠o1:=kai ebs fo1i
   have noh:o≠h1:=kai (s14 _ _ eo13) fh1
   have noo:o≠o1:=kai ((s14.trans n15) _ _ eo13) fo1
   have ndh:hd≠h1:=(kai ((n16) _ _ e15) fhd).symm
   have ndo:hd≠o1:=(kai e16 fhd).symm
   nofun
   exists Y6
   refine⟨_,rfl,_,rfl,_,rfl,hd,_,_,_,rfl,rfl,SqL.of e17,rfl,_,rfl,hd,_,_,_,rfl,rfl,SqL.of e17,rfl,t,b,h1,o1,T,B',hand,ord,rfl,hT9.same s917,tok,hb9.same s917,wf0,eh17,eo17,hhl,hlt,by omega,fun hf H18 x q s18 fx hA hA' hq=>?_,fun k z hf H18 e dx q s18 he hdx hq=>?_⟩
   ·rw[hf] at hF
    have ev:v=.non:=hF
    subst ev
    nofun
    exists Y8
    refine⟨q,_,rfl,SqT.of hq,rfl,_,_,rfl,_,_,rfl,rfl,?_⟩
    exists 3
    exists Y8
    refine⟨_,rfl,_,rfl,_,rfl,(by show 2≤sizeLine;decide),fun q9 fq9=>?_⟩
    exists H18,q9,H19,n19,e19,fq9
    have s1719:=s18.trans n19
    exists 3
    exists Y8
    refine⟨hd,q9,_,_,rfl,rfl, .inl ⟨SqL.of (s1719 _ _ e17),SqL.of e19⟩,rfl,fun i x y ex ey=>?_,?_⟩
    ·match i,ex,ey with
     |0,ex,ey=>
      cases ex
      cases ey
      exists 3
      exact DEq.flats (SqL.of (s1719 _ _ eh17)) (SqL.of ((s917.trans s1719) _ _ hh)) (kju _)
     |1,ex,ey=>
      cases ex
      cases ey
      exists 3
      exact DEq.flats (SqL.of (s1719 _ _ eo17)) (SqL.of (s1719 _ _ eoo)) (kcm _)
     |i+2,ex,ey=>cases ex
    exists 3
    exists Y8
    refine⟨_,rfl,iteF ?_⟩
    exists 3
    exists Y8
    refine⟨_,rfl,rfl,_,rfl,?_⟩
    show if(!decide (V.non=V.non))=true then _ else _
    rw[show(!decide (V.non=V.non))=false by simp]
    refine iteF ?_
    refine iteF ?_
    have e17':=s1719 _ _ e17
    have eh19:=s1719 _ _ eh17
    have eo19:=s1719 _ _ eo17
    obtain⟨o',fa,m',hFl,k1,k2,k3,kn⟩:=kmu (Ys:=fun y=>y=h1∨y=o1∨y=bs) hA (fun y hy=>by
     rcases hy with rfl|rfl|rfl
     ·exact hA' _ _ eh17
     ·exact hA' _ _ eo17
     ·exact hA' _ _ (si17 _ _ ebs))
    obtain⟨a1,a2,a3⟩:=kn h1 (.inl rfl)
    obtain⟨c1,c2,c3⟩:=kn o1 (.inr (.inl rfl))
    obtain⟨d1,d2,d3⟩:=kn bs (.inr (.inr rfl))
    exists 3
    exists Y8
    refine⟨_,rfl,hd,_,_,_,rfl,rfl,SqL.of e17',rfl, .inl ⟨rfl,_,SqL.of eh19⟩,h1,_,rfl,rfl,eh19,?_⟩
    have b20:But h1 H19 (upd H19 h1 (.lst [])):=kar (nx eh19)
    have u20:Same Hi (upd H19 h1 (.lst [])):=kao fh1i (si17.trans s1719) (nx eh19)
    generalize upd H19 h1 (.lst [])=H20 at *
    have e20:=b20 _ _ ndh e17'
    have eo20:=b20 _ _ nho.symm eo19
    exists 3
    exists Y8
    refine⟨_,rfl,hd,_,_,_,rfl,rfl,SqL.of e20,rfl, .inl ⟨rfl,_,SqL.of eo20⟩,o1,_,_,rfl,rfl,eo20,kaq (by rw[JY];omega),?_⟩
    have b21:But o1 H20 (upd H20 o1 (.lst (ord.map iV++[V.int 0]))):=kar (nx eo20)
    have u21:Same Hi (upd H20 o1 (.lst (ord.map iV++[V.int 0]))):=kao fo1i u20 (nx eo20)
    generalize upd H20 o1 (.lst (ord.map iV++[V.int 0]))=H21 at *
    have hFl21:=((hFl.same n19).butL b20 eh19).butL b21 eo20
    have k1':=b21 _ _ c1 (b20 _ _ a1 (n19 _ _ k1))
    have k2':=b21 _ _ c2 (b20 _ _ a2 (n19 _ _ k2))
    have k3':=b21 _ _ c3 (b20 _ _ a3 (n19 _ _ k3))
    have eo21:=b21 _ _ noo (b20 _ _ noh (s1719 _ _ eoo))
    have s921:=sI.trans u21
    exists 3
    exists Y8
    refine⟨_,rfl,rfl,_,rfl,?_⟩
    show if decide (V.non=V.non)=true then _ else _
    rw[show decide (V.non=V.non)=true by simp]
    refine iteT ?_
    obtain⟨dx,tt,bb,hh',fp,fs,hx,hAF⟩:=id hFl21
    exists 3
    exists Y8
    refine⟨_,rfl,_,_,_,_,rfl, .inr ⟨_,rfl⟩,TyOf.ins hx W.qi.cl W.qi.isi.ha W.qi.isi.hn W.qi.isi.ht W.qi.isi.hm,kbu _ _,_,rfl,?_⟩
    refine iteF ?_
    have ebs21:=u21 _ _ ebs
    exists 3
    exists Y8
    refine⟨_,rfl, .inl ⟨rfl,_,SqL.of ebs21⟩,_,rfl,_,rfl,_,rfl,_,rfl,_,rfl,_,rfl,t,tw,h,o,T,B',hand,ord,rfl,hT9.same s921,tok,htw9.same s921,wf0,s921 _ _ hh,eo21,hhl,hlt,by omega,fun _ H22 H23 bl y0 y1 hBl=>?_,fun k z hf'=>by rw[hf] at hf';cases hf'⟩
    obtain⟨dxB,fsB,ob,sbb,pb,sa,hbl,p1,p2,p3,p4,p5,_⟩:=hBl
    have s2123:=y0.trans y1
    exists 3
    exists Y8
    refine⟨bl,d.qj,dxB,fsB,_,rfl,hbl,W.qj.cl,W.Q8,p5,(by show 3≤sizeLine;decide),fun q3 fq3=>?_⟩
    exists H23,q3,H24,n24,e24,fq3
    have s2124:=s2123.trans n24
    have ebs24:=s2124 _ _ ebs21
    exists 3
    exists Y8
    refine⟨bs,_,_,rfl,rfl,ebs24,kaq (by rw[JY];omega),?_⟩
    have b25:But bs H24 (upd H24 bs (.lst (qs.map V.ref++[V.ref q3]))):=kar (nx ebs24)
    have u25:Same H9 (upd H24 bs (.lst (qs.map V.ref++[V.ref q3]))):=kao fbs (s921.trans s2124) (nx ebs24)
    have ebs25:(upd H24 bs (.lst (qs.map V.ref++[V.ref q3]))) bs=some (.lst ((qs++[q3]).map V.ref)):=by rw[kad,J9];rfl
    generalize upd H24 bs (.lst (qs.map V.ref++[V.ref q3]))=H25 at *
    exists 3
    exists Y8
    refine⟨u25,qs++[q3],_,_,_,_,_,_,_,ebs25,fun q' hq'=>?_,by rw[Np,MV];omega,rfl⟩
    rcases NJ.mp hq' with hq'|hq'
    ·exact((hrec q' hq').same (u21.trans s2124)).but b25 ebs24
    ·obtain rfl:q'=q3:=NP.mp hq'
     exists 3
     exact Rec3.but b25 ebs24 ⟨x,o,o',fa,m',ord,_,e24,hFl21.same s2124,s2124 _ _ k1',s2124 _ _ k2',s2124 _ _ k3',s2124 _ _ eo21,no,d1,d2,d3,h8⟩
   ·rw[hf] at hF
    obtain⟨dq,rfl,edq⟩:=hF
    obtain⟨w,rfl⟩:=kh5 hf
    exists 3
    exists Y8
    refine⟨q,_,rfl,SqT.of hq,rfl,_,_,rfl,_,_,rfl,rfl,?_⟩
    exists 3
    exists Y8
    refine⟨_,rfl,_,rfl,_,rfl,(by show 2≤sizeLine;decide),fun q9 fq9=>?_⟩
    exists H18,q9,H19,n19,e19,fq9
    have s1719:=s18.trans n19
    exists 3
    exists Y8
    refine⟨hd,q9,_,_,rfl,rfl, .inl ⟨SqL.of (s1719 _ _ e17),SqL.of e19⟩,rfl,fun i x y ex ey=>?_,?_⟩
    ·match i,ex,ey with
     |0,ex,ey=>
      cases ex
      cases ey
      exists 3
      exact DEq.flats (SqL.of (s1719 _ _ eh17)) (SqL.of ((s917.trans s1719) _ _ hh)) (kju _)
     |1,ex,ey=>
      cases ex
      cases ey
      exists 3
      exact DEq.flats (SqL.of (s1719 _ _ eo17)) (SqL.of (s1719 _ _ eoo)) (kcm _)
     |i+2,ex,ey=>cases ex
    exists 3
    exists Y8
    refine⟨_,rfl,iteF ?_⟩
    exists 3
    exists Y8
    refine⟨_,rfl,rfl,_,rfl,?_⟩
    show if(!decide (V.ref dq=V.non))=true then _ else _
    rw[show(!decide (V.ref dq=V.non))=true by simp]
    refine iteT ?_
    exists 3
    exists Y8
    refine⟨_,rfl,_,rfl,e,dx,dq,k,w,rfl,n19 _ _ he,n19 _ _ hdx,(s1317.trans s1719) _ _ edq,fun H20 s20=>⟨_,rfl,?_⟩⟩
    refine iteF ?_
    have s1720:=s1719.trans s20
    have e17':=s1720 _ _ e17
    have eh19:=s1720 _ _ eh17
    have eo19:=s1720 _ _ eo17
    exists 3
    exists Y8
    refine⟨_,rfl,hd,_,_,_,rfl,rfl,SqL.of e17',rfl, .inl ⟨rfl,_,SqL.of eh19⟩,h1,_,rfl,rfl,eh19,?_⟩
    have b20:But h1 H20 (upd H20 h1 (.lst [])):=kar (nx eh19)
    have u20:Same Hi (upd H20 h1 (.lst [])):=kao fh1i (si17.trans s1720) (nx eh19)
    generalize upd H20 h1 (.lst [])=H21 at *
    have e20:=b20 _ _ ndh e17'
    have eo20:=b20 _ _ nho.symm eo19
    exists 3
    exists Y8
    refine⟨_,rfl,hd,_,_,_,rfl,rfl,SqL.of e20,rfl, .inl ⟨rfl,_,SqL.of eo20⟩,o1,_,_,rfl,rfl,eo20,kaq (by rw[JY];omega),?_⟩
    have u21:Same Hi (upd H21 o1 (.lst (ord.map iV++[V.int 0]))):=kao fo1i u20 (nx eo20)
    generalize upd H21 o1 (.lst (ord.map iV++[V.int 0]))=H22 at *
    exists 3
    exists Y8
    refine⟨_,rfl,rfl,_,rfl,?_⟩
    show if decide (V.ref dq=V.non)=true then _ else _
    rw[show decide (V.ref dq=V.non)=false by simp]
    refine iteF ?_
    exists 3
    exact⟨sI.trans u21,qs,_,_,_,_,_,_,_,u21 _ _ ebs,(fun q' hq'=>(hrec q' hq').same u21),Nat.le_succ_of_le hql,rfl⟩
  ·rintro σ H' ⟨sI,qs,v8,v9,v10,v11,v12,v13,v14,ebs,hrec,hql,rfl⟩
   have hq4:qs.length≤4:=hql
   nofun
   exists Y6
   refine⟨_,rfl,bs,rfl,⟨_,SqL.of ebs⟩,kaS (xs:=qs.map V.ref) (fun i σ ys H''=>Same H' H''∧ys=(J6 i true).map V.bl∧∃v0 v1 v2:Option V,σ=[v0,v1,v2,some (.ref b)]) ⟨Same.refl _,rfl,none,none,none,rfl⟩ (by rw[JY];exact Ng (kaq (by omega))) ?_ ?_ ?_⟩
   ·rintro j σ ys H'' hj ⟨s1',rfl,v0,v1,v2,rfl⟩
    nofun
    exact⟨SqL.of (s1' _ _ ebs),by simp⟩
   ·rintro j y σ ys H'' hy ⟨s1',rfl,v0,v1,v2,rfl⟩
    obtain⟨q,eq,rfl⟩:=kbN hy
    obtain⟨x,o,o',fa,m',ord,paid,g1,g2,g3,g4,g5,g6,_,_,_,_,g8⟩:=(hrec q (Nb eq)).same s1'
    have z:=sI.trans s1'
    nofun
    exists Y8
    refine⟨q,_,rfl,SqT.of g1,rfl,_,_,rfl,_,_,rfl,_,_,rfl,rfl,_,rfl,_,rfl,_,rfl,_,rfl,x,b,o,o',fa,m',B',ord,paid,rfl,g2,g3,g4,g5,g6,hb9.same z,hB12,g8,fun H3' s3'=>⟨s1'.trans s3',?_,_,_,_,rfl⟩⟩
    rw[MO,J9]
    rfl
   ·rintro σ ys H'' ⟨s1',rfl,v0,v1,v2,rfl⟩ D hD
    exists 3
    exists Y8
    refine⟨D,J6 (qs.map V.ref).length true,rfl,SqL.of kad,?_⟩
    rw[show(J6 (qs.map V.ref).length true).all id=true by simp]
    exists 3
    exact k _
end
end Vs
namespace Vs
open PySem L2
theorem ln0{C:List Value→Prop}(k:C []):∀us:List Value,us.length=0→C us:=fun us h=>by
 cases us with
 |nil=>exact k
 |cons a us=>cases h
theorem lnS{C:List Value→Prop}{n:Nat}(k:∀(a:Value)(us:List Value),us.length=n→C (a::us)):∀us:List Value,us.length=n+1→C us:=fun us h=>by
 cases us with
 |nil=>cases h
 |cons a us=>exact k a us (Nat.succ.inj h)
def nL1{C:List Value→Prop}(k:∀a0:Value,C [a0]):∀us:List Value,us.length=1→C us:=lnS fun a0=>ln0 (k a0)
def nL2{C:List Value→Prop}(k:∀a0 a1:Value,C [a0,a1]):∀us:List Value,us.length=2→C us:=lnS fun a0=>lnS fun a1=>ln0 (k a0 a1)
def nL3{C:List Value→Prop}(k:∀a0 a1 a2:Value,C [a0,a1,a2]):∀us:List Value,us.length=3→C us:=lnS fun a0=>lnS fun a1=>lnS fun a2=>ln0 (k a0 a1 a2)
def nL4{C:List Value→Prop}(k:∀a0 a1 a2 a3:Value,C [a0,a1,a2,a3]):∀us:List Value,us.length=4→C us:=lnS fun a0=>lnS fun a1=>lnS fun a2=>lnS fun a3=>ln0 (k a0 a1 a2 a3)
def nL5{C:List Value→Prop}(k:∀a0 a1 a2 a3 a4:Value,C [a0,a1,a2,a3,a4]):∀us:List Value,us.length=5→C us:=lnS fun a0=>lnS fun a1=>lnS fun a2=>lnS fun a3=>lnS fun a4=>ln0 (k a0 a1 a2 a3 a4)
def nL6{C:List Value→Prop}(k:∀a0 a1 a2 a3 a4 a5:Value,C [a0,a1,a2,a3,a4,a5]):∀us:List Value,us.length=6→C us:=lnS fun a0=>lnS fun a1=>lnS fun a2=>lnS fun a3=>lnS fun a4=>lnS fun a5=>ln0 (k a0 a1 a2 a3 a4 a5)
def nL7{C:List Value→Prop}(k:∀a0 a1 a2 a3 a4 a5 a6:Value,C [a0,a1,a2,a3,a4,a5,a6]):∀us:List Value,us.length=7→C us:=lnS fun a0=>lnS fun a1=>lnS fun a2=>lnS fun a3=>lnS fun a4=>lnS fun a5=>lnS fun a6=>ln0 (k a0 a1 a2 a3 a4 a5 a6)
def bd_mk{K:JZ}{fd:FuncData}{ps:List Str}{ds:List Value}{n:Nat}(hn:n+ds.length=ps.length)(k:∀s:Shared,K.In s.heap→∀us:List Value,us.length=n→BindsTo s fd ⟨us,[]⟩ (ps.zip (us++ds))):Binds K fd ps ds:=fun s us KX hl=>k s KX us (by rw[Np] at hl;omega)
def dn_mk{K:JZ}{st:Stmt}{ps:List Str}{f:Addr}{oc:Value}{od an:Option Addr}{osl:Array (Option Value)}{kV doc pm cdv ct:Value}{h:Heap}{mg:Str→Option Value}{x:Str}(X:K.In h)(G:h.Ns mainGlobals mg)(a:Nf K mainGlobals x=some (some (.ref f)))(l:K.lookup f=some ⟨oc,od, .func (Nj x x (kaB st) (kay st) (kag st) .none kV doc pm an cdv ct),osl⟩)(c:NI K cdv x=true)(k:Ni K (.ref f)=true)(b:∀(kV doc pm:Value)(an:Option Addr)(cdv ct:Value),∀us:List Value,us.length=ps.length→bindArgs (Nj x x (kaB st) (kay st) (kag st) .none kV doc pm an cdv ct) ⟨us,[]⟩=pure (ps.zip us)):Dn K mg x st ps f (Nj x x (kaB st) (kay st) (kag st) .none kV doc pm an cdv ct):=⟨kbn l c k,Binds.all (b _ _ _ _ _ _),Nu X G a⟩
def mt_mk{K:JZ}{st:Stmt}{ps:List Str}{f:Addr}{oc:Value}{od an:Option Addr}{osl:Array (Option Value)}{kV doc pm cdv ct:Value}{m qual:Str}{C:Addr}(a:J0 K (.ref C) m=some (some (.ref f)))(i:NL K (.ref f)=true)(l:K.lookup f=some ⟨oc,od, .func (Nj m qual (kaB st) (kay st) (kag st) .none kV doc pm an cdv ct),osl⟩)(c:NI K cdv qual=true)(k:Ni K (.ref f)=true)(b:∀(kV doc pm:Value)(an:Option Addr)(cdv ct:Value),∀us:List Value,us.length=ps.length→bindArgs (Nj m qual (kaB st) (kay st) (kag st) .none kV doc pm an cdv ct) ⟨us,[]⟩=pure (ps.zip us)):MthT K C m qual st ps f (Nj m qual (kaB st) (kay st) (kag st) .none kV doc pm an cdv ct):=⟨a,i,kbn l c k,Binds.all (b _ _ _ _ _ _)⟩
theorem all_mk{l:PySem.W.OpenLaw}{w:World}{K:JZ}{h:Heap}{mg:Str→Option Value}{fa zfv zfo z3d zfn zh3 z7m zh4 zfs z3e z2t z66 z3j zx z4b z8d z3y zbp zfy zdm z44 z5a z58 z2b zdj z4q z85 z6p z4u z60 z5o z6s z4o z6f z6d z8c z8x z6w z6t z2x z1z z2a z5u z4n z3v z1b zc3 zk z19 z3n zg zs z1v zn z1s z5r zf z1a z3k za zu z1o zd zy z28 zb zv z1p zq z1g z4f zl zz z2i ze z3q z3f zr z9z z4p z6b z3w zm z83 zp z1f z4i zc z52 zo zj zi z1n z5w z4g z5m:Addr}{z72 z2u zj0 zha zc7 z65 zbs z9q z4a z9h zdx z81 zdr zbr z5j zc2 z8w z32 z8j za9 z54 zb2 z7t z33 z80 zcd z6j zdc za6 z4z zb3 zd7 z6y zd8 z68:Option Addr}{z7b ziy zbn zbj z9m z9t ze8 zee zc1 zbi z8t z8g zb1 za5 z8l z8e zcv zdb zad zaj zcm zcf z67:Array (Option Value)}{z70 z2e z2d z2j zw z21 zjk zh5 zh9 zh7 zex zh6 zc4 z63 z64 z5l z2q z5y zbe z9d z3z z49 z4d z1q z3r z9s zeq z88 z7q z90 z4h z87 ze3 zbx z5i z5p z5q z27 z5v zbl z84 z3h z37 z30 z1d z3b z7u zaq z56 z5f z4j z1w z5d zb4 z8b z2w z39 z3a z1m z3g z8f zcu z6u z6z z6v z3o z6a zcq za3 z4x z4t z4y z1u z5e zax zci z6l z6i z6g z3l z6r zdh z1y:Value}{zbf z38 z91 ze4 zc5 z7w zay z8o zd1 zat z2g zcc z45 z2h z2k z2l:Nat}{zfu zf4 z35 zf5 zh2 z8q zh8 zfq z3i z29 z5n z31 z47 z8i z3s zbz zfz zdk z3p z5b z4v z2o zdi z50 z8m z6k z55 z5t z5k z6c z4r z6n z6h z82 z7o z6q z6o z2v z1x z22 z62 z59 z46 z1c z43 z36 z9y z57 z6e z3u z7x z53 z5x:FuncData}{zh:Array Value}{z2p:Str}{z2s z2f:Int}{z2n:Bool}{ts:List Addr}(X:K.In h)(G:h.Ns mainGlobals mg)(hfa:mg "law"=some (.ref fa))
  (zij:Dn K mg "dealt" kgI ["cut","weights"] zfv zfu)
  (zin:Dn K mg "under" kgG ["parents","one","other"] zfo zf4)
  (z8v:Dn K mg "price_of_piece" kbB ["line","member"] z3d z35)
  (ziw:Dn K mg "about" ked ["voucher","parents","basket","standing"] zfn zf5)
  (zj7:Dn K mg "fits" kiI ["marks","parents","kind","marked"] zh3 zh2)
  (zdq:Dn K mg "hindrance" kc0 ["voucher","parents","basket","standing"] z7m z8q)
  (zjh:Dn K mg "cuts" kiJ ["voucher","parents","basket","standing"] zh4 zh8)
  (zi3:Dn K mg "after" kgJ ["voucher","parents","basket","standing"] zfs zfq)
  (z7y:Dn K mg "cuts_of_pieces" kbD ["voucher","parents","basket","standing"] z3e z3i)
  (z7j:Dn K mg "cut_of_carriage" kbq ["voucher","standing"] z2t z29)
  (zbb:Dn K mg "wanted_cuts" ka8 ["voucher","standing","pieces"] z66 z5n)
  (z7r:Dn K mg "parted_by_line" kbC ["standing","pieces"] z3j z31)
  (z8u:Nf K mainGlobals "falling_groups"=some (some (.ref zx))) (z8h:K.lookup zx=some ⟨z70,z72, .func (Nj "falling_groups" "falling_groups" (kaB kaD) (kay kaD) (kag kaD) .none z2e z2d z2j z2u zw z21),z7b⟩) (z8s:NI K zw "falling_groups"=true) (z8n:Ni K (.ref zx)=true)
  (z9o:Dn K mg "marked_behind" kbJ ["voucher","standing","piece_cuts"] z4b z47)
  (zev:Dn K mg "prices_of" kcc ["standing","pieces"] z8d z8i)
  (z9l:Dn K mg "sum_of_prices" kbI ["standing","pieces"] z3y z3s)
  (zgt:Dn K mg "at_most" kec ["most","number"] zbp zbz)
  (zii:Dn K mg "fault" kgH ["till","basket","hand","order"] zfy zfz)
  (zhd:Dn K mg "way_by" kfi ["till","basket","hand","order"] zdm zdk)
  (z9c:Dn K mg "word_of_order" kbH ["till","hand","used","number"] z44 z3p)
  (zas:Dn K mg "breaks_never" kbY ["rules","used","number"] z5a z5b)
  (zau:Dn K mg "breaks_ahead" kbZ ["rules","used","number"] z58 z4v)
  (z79:Dn K mg "without_company" kbp ["rules","order"] z2b z2o)
  (zhp:Dn K mg "priced" kfj ["till","basket","hand","order"] zdj zdi)
  (za4:Dn K mg "_law_cell_at" kb5 ["_law_script","_law_k"] z4q z50)
  (ze9:Dn K mg "_law_some" kc1 ["_law_script","_law_k","_law_salt","_law_many"] z85 z8m)
  (zde:Dn K mg "_law_price" kcx ["_law_script","_law_k","_law_salt"] z6p z6k)
  (zar:Dn K mg "_law_parents" kb4 ["_law_script"] z4u z55)
  (zbk:Dn K mg "_law_basket" kcg ["_law_script","_law_kinds"] z60 z5t)
  (zb9:Dn K mg "_law_amount" kch ["_law_script","_law_k","_law_salt","_law_worth_here"] z5o z5k)
  (zdf:Dn K mg "_law_marks" kcz ["_law_script","_law_k","_law_kinds","_law_worth_here"] z6s z6c)
  (zac:Dn K mg "_law_voucher" kb0 ["_law_script","_law_k","_law_kinds","_law_worth_here"] z4o z4r)
  (zd6:Dn K mg "_law_rules" kcw ["_law_script","_law_many"] z6f z6n)
  (zco:Dn K mg "_law_worth" kcv ["_law_basket_here"] z6d z6h)
  (ze2:Dn K mg "_law_till" kcd ["_law_script","_law_parents_here","_law_basket_here","_law_back"] z8c z82)
  (zea:Dn K mg "_law_hand" kcf ["_law_script","_law_many"] z8x z7o)
  (zcj:Dn K mg "_law_going" kcA ["_law_till_here","_law_basket_here","_law_hand_here","_law_order_here"] z6w z6q)
  (zck:Dn K mg "_law_order" kcy ["_law_script","_law_k","_law_till_here","_law_basket_here","_law_hand_here"] z6t z6o)
  (z8k:Dn K mg "_law_number_is" kbE ["_law_found","_law_due"] z2x z2v)
  (z69:Dn K mg "_law_numbers_are" kbi ["_law_found","_law_due"] z1z z1x)
  (z75:Dn K mg "_law_account_is" kbr ["_law_account","_law_order_here","_law_fallen","_law_many","_law_paid","_law_owed"] z2a z22)
  (zby:Dn K mg "_law_opened" kce ["_law_till_here","_law_basket_here","_law_hand_here","_law_order_here"] z5u z62)
  (zam:Dn K mg "_law_refused" kb3 ["_law_caught","_law_due"] z4n z59)
  (z95:Dn K mg "_law_is_first" kbK ["_law_account","_law_basket_here","_law_order_here","_law_paid"] z3v z46)
  (z42:Dn K mg "_law_price_elsewhere" ka2 ["_law_till_here","_law_basket_here","_law_hand_here","_law_order_here"] z1b z1c)
  (zhx:Nf K mainGlobals "law"=some (some (.ref zc3))) (zjp:K.lookup zc3=some ⟨zjk,zj0, .func (Nj "law" "law" (kaB s_law) (kay s_law) (kag s_law) .none zh5 zh9 zh7 zha zex zh6),ziy⟩) (zjq:NI K zex "law"=true) (zjn:Ni K (.ref zc3)=true)
  (zik:Nf K mainGlobals "Marks"=some (some (.ref zk)))
  (zhm:J7 K zk (.type "object")=some true) (zhq:J7 K zk (.ref zk)=some true) (zht:NH K (.ref zk)=some (.type "type"))
  (inX:MB K (.builtin "object.__class__") "__get__"=some (some (.builtin "getset_descriptor.__get__"))) (itX:Eo K (.builtin "object.__class__")=some true)
  (zhi:NG K zk Str.empty=true) (zhb:NK K zk=true) (zhe:NO K zk=true) (zhu:J0 K (.ref zk) "__setattr__"=some (some (.builtin "object.__setattr__"))) (zhk:NN K zk=true) (zhr:Ni K (.ref zk)=true) (zhh:J0 K (.ref zk) "__class__"=some (some (.builtin "object.__class__")))
  (zcz:J0 K (.ref zk) "kind"=some none)
  (zc9:J0 K (.ref zk) "needs"=some none)
  (zcp:J0 K (.ref zk) "most"=some none)
  (zb0:J0 K (.ref zk) "member"=some none)
  (zda:J0 K (.ref zk) "once"=some none)
  (zcx:J0 K (.ref zk) "lone"=some none)
  (zcn:J0 K (.ref zk) "__init__"=some (some (.ref z19))) (zd3:NL K (.ref z19)=true) (zd4:K.lookup z19=some ⟨zc4,zc7, .func (Nj "__init__" "Marks.__init__" (kaB kaZ) (kay kaZ) (kag kaZ) (.ref z3n) z63 z64 z5l z65 z2q z5y),zbn⟩) (zd5:NI K z2q "Marks.__init__"=true) (zdg:Ni K (.ref z19)=true) (zt:K.lookup z3n=some ⟨zbe,zbs, .seq #[.none, .int 0 z38, .none, .bool false, .bool false, .bool false] zbf,zbj⟩)
  (zgp:Nf K mainGlobals "Voucher"=some (some (.ref zg)))
  (zfw:J7 K zg (.type "object")=some true) (zgi:J7 K zg (.ref zg)=some true) (zgg:NH K (.ref zg)=some (.type "type"))
  (zga:NG K zg Str.empty=true) (zfr:NK K zg=true) (zfa:NO K zg=true) (zfc:J0 K (.ref zg) "__setattr__"=some (some (.builtin "object.__setattr__"))) (zg7:NN K zg=true) (zgc:Ni K (.ref zg)=true) (zg3:J0 K (.ref zg) "__class__"=some (some (.builtin "object.__class__")))
  (zao:J0 K (.ref zg) "__init__"=some (some (.ref zs))) (zab:NL K (.ref zs)=true) (zah:K.lookup zs=some ⟨z9d,z9q, .func (Nj "__init__" "Voucher.__init__" (kaB kaO) (kay kaO) (kag kaO) (.ref z1v) z3z z49 z4d z4a z1q z3r),z9m⟩) (zaa:NI K z1q "Voucher.__init__"=true) (za7:Ni K (.ref zs)=true) (z5c:K.lookup z1v=some ⟨z9s,z9h, .seq #[.none] z91,z9t⟩)
  (zi2:Nf K mainGlobals "Off"=some (some (.ref zn)))
  (z8p:J7 K zn (.type "object")=some true) (z7s:J7 K zn (.ref zn)=some true) (z8r:NH K (.ref zn)=some (.type "type"))
  (ziz:NG K zn Str.empty=true) (zjl:NK K zn=true) (zjg:NO K zn=true) (zjd:J0 K (.ref zn) "__setattr__"=some (some (.builtin "object.__setattr__"))) (zjj:NN K zn=true) (zj3:Ni K (.ref zn)=true) (zje:J0 K (.ref zn) "__class__"=some (some (.builtin "object.__class__")))
  (zcs:J0 K (.ref zn) "amount"=some none)
  (zec:J0 K (.ref zn) "marks"=some none)
  (zgd:J0 K (.ref zn) "__init__"=some (some (.ref z1s))) (zft:NL K (.ref z1s)=true) (zgh:K.lookup z1s=some ⟨zeq,zdx, .func (Nj "__init__" "Off.__init__" (kaB kbf) (kay kbf) (kag kbf) (.ref z5r) z88 z7q z90 z81 z4h z87),ze8⟩) (zf7:NI K z4h "Off.__init__"=true) (zg2:Ni K (.ref z1s)=true) (za2:K.lookup z5r=some ⟨ze3,zdr, .seq #[.none] ze4,zee⟩)
  (zfg:Nf K mainGlobals "Share"=some (some (.ref zf)))
  (z3t:J7 K zf (.type "object")=some true) (z41:J7 K zf (.ref zf)=some true) (z40:NH K (.ref zf)=some (.type "type"))
  (zhc:NG K zf Str.empty=true) (zho:NK K zf=true) (zhf:NO K zf=true) (zhg:J0 K (.ref zf) "__setattr__"=some (some (.builtin "object.__setattr__"))) (zhj:NN K zf=true) (zhl:Ni K (.ref zf)=true) (zhn:J0 K (.ref zf) "__class__"=some (some (.builtin "object.__class__")))
  (zb8:J0 K (.ref zf) "share"=some none)
  (z9e:J0 K (.ref zf) "by_line"=some none)
  (zc8:J0 K (.ref zf) "marks"=some none)
  (zcr:J0 K (.ref zf) "__init__"=some (some (.ref z1a))) (zd0:NL K (.ref z1a)=true) (zcg:K.lookup z1a=some ⟨zbx,zbr, .func (Nj "__init__" "Share.__init__" (kaB kaY) (kay kaY) (kag kaY) (.ref z3k) z5i z5p z5q z5j z27 z5v),zc1⟩) (zdd:NI K z27 "Share.__init__"=true) (zcw:Ni K (.ref z1a)=true) (z3m:K.lookup z3k=some ⟨zbl,zc2, .seq #[.bool false, .none] zc5,zbi⟩)
  (za0:Nf K mainGlobals "Cheapest"=some (some (.ref za)))
  (z1i:J7 K za (.type "object")=some true) (z1h:J7 K za (.ref za)=some true) (z1j:NH K (.ref za)=some (.type "type"))
  (zeh:NG K za Str.empty=true) (zet:NK K za=true) (ze7:NO K za=true) (zdw:J0 K (.ref za) "__setattr__"=some (some (.builtin "object.__setattr__"))) (ze1:NN K za=true) (zer:Ni K (.ref za)=true) (zem:J0 K (.ref za) "__class__"=some (some (.builtin "object.__class__")))
  (z9k:J0 K (.ref za) "many"=some none)
  (z8y:J0 K (.ref za) "marks"=some none)
  (z9a:J0 K (.ref za) "__init__"=some (some (.ref zu))) (z9n:NL K (.ref zu)=true) (z97:K.lookup zu=some ⟨z84,z8w, .func (Nj "__init__" "Cheapest.__init__" (kaB kaJ) (kay kaJ) (kag kaJ) (.ref z1o) z3h z37 z30 z32 z1d z3b),z8t⟩) (z9x:NI K z1d "Cheapest.__init__"=true) (z9v:Ni K (.ref zu)=true) (z3x:K.lookup z1o=some ⟨z7u,z8j, .seq #[.none] z7w,z8g⟩)
  (zdl:Nf K mainGlobals "Bundle"=some (some (.ref zd)))
  (z26:J7 K zd (.type "object")=some true) (z23:J7 K zd (.ref zd)=some true) (z2r:NH K (.ref zd)=some (.type "type"))
  (zgz:NG K zd Str.empty=true) (zgx:NK K zd=true) (zgk:NO K zd=true) (zgv:J0 K (.ref zd) "__setattr__"=some (some (.builtin "object.__setattr__"))) (zh1:NN K zd=true) (zgn:Ni K (.ref zd)=true) (zgl:J0 K (.ref zd) "__class__"=some (some (.builtin "object.__class__")))
  (zbg:J0 K (.ref zd) "many"=some none)
  (zaw:J0 K (.ref zd) "price"=some none)
  (zb5:J0 K (.ref zd) "marks"=some none)
  (zbq:J0 K (.ref zd) "__init__"=some (some (.ref zy))) (zba:NL K (.ref zy)=true) (zbm:K.lookup zy=some ⟨zaq,za9, .func (Nj "__init__" "Bundle.__init__" (kaB kaQ) (kay kaQ) (kag kaQ) (.ref z28) z56 z5f z4j z54 z1w z5d),zb1⟩) (zbd:NI K z1w "Bundle.__init__"=true) (zbt:Ni K (.ref zy)=true) (z5s:K.lookup z28=some ⟨zb4,zb2, .seq #[.none] zay,za5⟩)
  (za1:Nf K mainGlobals "Carriage"=some (some (.ref zb)))
  (z1k:J7 K zb (.type "object")=some true) (z1e:J7 K zb (.ref zb)=some true) (z1l:NH K (.ref zb)=some (.type "type"))
  (zel:NG K zb Str.empty=true) (zed:NK K zb=true) (zen:NO K zb=true) (zej:J0 K (.ref zb) "__setattr__"=some (some (.builtin "object.__setattr__"))) (ze6:NN K zb=true) (zei:Ni K (.ref zb)=true) (zeo:J0 K (.ref zb) "__class__"=some (some (.builtin "object.__class__")))
  (z86:J0 K (.ref zb) "marks"=some none)
  (z98:J0 K (.ref zb) "__init__"=some (some (.ref zv))) (z9u:NL K (.ref zv)=true) (z9b:K.lookup zv=some ⟨z8b,z7t, .func (Nj "__init__" "Carriage.__init__" (kaB kaK) (kay kaK) (kag kaK) (.ref z1p) z2w z39 z3a z33 z1m z3g),z8l⟩) (z99:NI K z1m "Carriage.__init__"=true) (z92:Ni K (.ref zv)=true) (z4c:K.lookup z1p=some ⟨z8f,z80, .seq #[.none] z8o,z8e⟩)
  (zj9:Nf K mainGlobals "Line"=some (some (.ref zq)))
  (ziq:J7 K zq (.type "object")=some true) (zis:J7 K zq (.ref zq)=some true) (zi0:NH K (.ref zq)=some (.type "type"))
  (zif:NG K zq Str.empty=true) (zi4:NK K zq=true) (zig:NO K zq=true) (zio:J0 K (.ref zq) "__setattr__"=some (some (.builtin "object.__setattr__"))) (zih:NN K zq=true) (zhw:Ni K (.ref zq)=true) (zi8:J0 K (.ref zq) "__class__"=some (some (.builtin "object.__class__")))
  (zf0:J0 K (.ref zq) "kind"=some none)
  (zce:J0 K (.ref zq) "price"=some none)
  (zek:J0 K (.ref zq) "many"=some none)
  (zag:J0 K (.ref zq) "special"=some none)
  (zey:J0 K (.ref zq) "__init__"=some (some (.ref z1g))) (zeb:NL K (.ref z1g)=true) (zes:K.lookup z1g=some ⟨zcu,zcd, .func (Nj "__init__" "Line.__init__" (kaB ka5) (kay ka5) (kag ka5) (.ref z4f) z6u z6z z6v z6j z3o z6a),zcv⟩) (zeu:NI K z3o "Line.__init__"=true) (zf2:Ni K (.ref z1g)=true) (z8z:K.lookup z4f=some ⟨zcq,zdc, .seq #[.none] zd1,zdb⟩)
  (zhs:Nf K mainGlobals "Basket"=some (some (.ref zl)))
  (zgy:J7 K zl (.type "object")=some true) (zgs:J7 K zl (.ref zl)=some true) (zgo:NH K (.ref zl)=some (.type "type"))
  (zgm:NG K zl Str.empty=true) (zgj:NK K zl=true) (zgu:NO K zl=true) (zgr:J0 K (.ref zl) "__setattr__"=some (some (.builtin "object.__setattr__"))) (zgq:NN K zl=true) (zgw:Ni K (.ref zl)=true) (zh0:J0 K (.ref zl) "__class__"=some (some (.builtin "object.__class__")))
  (zav:J0 K (.ref zl) "lines"=some none)
  (z74:J0 K (.ref zl) "carriage"=some none)
  (z9i:J0 K (.ref zl) "member"=some none)
  (zbu:J0 K (.ref zl) "__init__"=some (some (.ref zz))) (zb7:NL K (.ref zz)=true) (zc0:K.lookup zz=some ⟨za3,za6, .func (Nj "__init__" "Basket.__init__" (kaB kaR) (kay kaR) (kag kaR) (.ref z2i) z4x z4t z4y z4z z1u z5e),zad⟩) (zbw:NI K z1u "Basket.__init__"=true) (zbc:Ni K (.ref zz)=true) (z24:K.lookup z2i=some ⟨zax,zb3, .seq #[.int 0 z2g, .bool false] zat,zaj⟩)
  (zfx:Nf K mainGlobals "Standing"=some (some (.ref ze)))
  (zep:J7 K ze (.type "object")=some true) (ze5:J7 K ze (.ref ze)=some true) (zf1:NH K (.ref ze)=some (.type "type"))
  (zdp:NG K ze Str.empty=true) (zdy:NK K ze=true) (zeg:NO K ze=true) (zdo:J0 K (.ref ze) "__setattr__"=some (some (.builtin "object.__setattr__"))) (zef:NN K ze=true) (zdu:Ni K (.ref ze)=true) (zdz:J0 K (.ref ze) "__class__"=some (some (.builtin "object.__class__")))
  (z73:J0 K (.ref ze) "owners"=some none)
  (z7i:J0 K (.ref ze) "prices"=some none)
  (z61:J0 K (.ref ze) "carriage"=some none)
  (z78:J0 K (.ref ze) "marked"=some none)
  (z9p:MthT K ze "__init__" "Standing.__init__" kbM ["self","basket"] z3q z43)
  (z7z:MthT K ze "whole" "Standing.whole" kbF ["self"] z3f z36)
  (zjo:Nf K mainGlobals "Way"=some (some (.ref zr)))
  (zj6:J7 K zr (.type "object")=some true) (zjm:J7 K zr (.ref zr)=some true) (zjc:NH K (.ref zr)=some (.type "type"))
  (zj8:NG K zr Str.empty=true) (zji:NK K zr=true) (zjf:NO K zr=true) (zj5:J0 K (.ref zr) "__setattr__"=some (some (.builtin "object.__setattr__"))) (zj4:NN K zr=true) (zja:Ni K (.ref zr)=true) (zj1:J0 K (.ref zr) "__class__"=some (some (.builtin "object.__class__")))
  (zge:J0 K (.ref zr) "till"=some none)
  (zd9:J0 K (.ref zr) "basket"=some none)
  (zf9:J0 K (.ref zr) "hand"=some none)
  (zfe:J0 K (.ref zr) "used"=some none)
  (zai:J0 K (.ref zr) "standing"=some none)
  (zff:MthT K zr "__init__" "Way.__init__" kdx ["self","till","basket","hand"] z9z z9y)
  (zae:MthT K zr "word_for" "Way.word_for" kb6 ["self","number"] z4p z57)
  (zcl:MthT K zr "behind" "Way.behind" kcB ["self","number"] z6b z6e)
  (z9f:MthT K zr "is_let_by" "Way.is_let_by" kbL ["self"] z3w z3u)
  (zjb:Nf K mainGlobals "Bill"=some (some (.ref zm)))
  (zi1:J7 K zm (.type "object")=some true) (zhy:J7 K zm (.ref zm)=some true) (zib:NH K (.ref zm)=some (.type "type"))
  (zix:NG K zm Str.empty=true) (zid:NK K zm=true) (zi6:NO K zm=true) (zit:J0 K (.ref zm) "__setattr__"=some (some (.builtin "object.__setattr__"))) (zil:NN K zm=true) (zi7:Ni K (.ref zm)=true) (zir:J0 K (.ref zm) "__class__"=some (some (.builtin "object.__class__")))
  (zcy:J0 K (.ref zm) "order"=some none)
  (zcb:J0 K (.ref zm) "steps"=some none)
  (zc6:J0 K (.ref zm) "prices"=some none)
  (z9g:J0 K (.ref zm) "carriage"=some none)
  (zd2:J0 K (.ref zm) "total"=some none)
  (zew:MthT K zm "__init__" "Bill.__init__" kc2 ["self","order","steps","standing"] z83 z7x)
  (zj2:Nf K mainGlobals "Till"=some (some (.ref zp)))
  (zie:J7 K zp (.type "object")=some true) (zic:J7 K zp (.ref zp)=some true) (zi5:NH K (.ref zp)=some (.type "type"))
  (zhz:NG K zp Str.empty=true) (zi9:NK K zp=true) (zia:NO K zp=true) (zhv:J0 K (.ref zp) "__setattr__"=some (some (.builtin "object.__setattr__"))) (zim:NN K zp=true) (ziv:Ni K (.ref zp)=true) (ziu:J0 K (.ref zp) "__class__"=some (some (.builtin "object.__class__")))
  (zal:J0 K (.ref zp) "parents"=some none)
  (z9j:J0 K (.ref zp) "vouchers"=some none)
  (zch:J0 K (.ref zp) "rules"=some none)
  (zdt:J0 K (.ref zp) "back"=some none)
  (zez:J0 K (.ref zp) "__init__"=some (some (.ref z1f))) (zdv:NL K (.ref z1f)=true) (zds:K.lookup z1f=some ⟨zci,zd7, .func (Nj "__init__" "Till.__init__" (kaB ka4) (kay ka4) (kag ka4) (.ref z4i) z6l z6i z6g z6y z3l z6r),zcm⟩) (ze0:NI K z3l "Till.__init__"=true) (zdn:Ni K (.ref z1f)=true) (z7p:K.lookup z4i=some ⟨zdh,zd8, .seq #[.str "again" z45] zcc,zcf⟩)
  (zbh:Nf K mainGlobals "Account"=some (some (.ref zc)))
  (zg0:J7 K zc (.type "object")=some true) (zg5:J7 K zc (.ref zc)=some true) (zfi:NH K (.ref zc)=some (.type "type"))
  (zg1:NG K zc Str.empty=true) (zgb:NK K zc=true) (zgf:NO K zc=true) (zfb:J0 K (.ref zc) "__setattr__"=some (some (.builtin "object.__setattr__"))) (zfk:NN K zc=true) (zg4:Ni K (.ref zc)=true) (zg6:J0 K (.ref zc) "__class__"=some (some (.builtin "object.__class__")))
  (zaz:J0 K (.ref zc) "till"=some none)
  (z7n:J0 K (.ref zc) "basket"=some none)
  (zan:J0 K (.ref zc) "hand"=some none)
  (z48:J0 K (.ref zc) "first_prices"=some none)
  (z93:J0 K (.ref zc) "order"=some none)
  (z89:J0 K (.ref zc) "fallen"=some none)
  (zb6:J0 K (.ref zc) "many"=some none)
  (zaf:J0 K (.ref zc) "paid"=some none)
  (za8:J0 K (.ref zc) "owed"=some none)
  (zak:MthT K zc "__init__" "Account.__init__" kb7 ["self","till","basket","hand","order"] z52 z53)
  (z96:PySem.W.readsIn K zg (.type "type")=true) (z9w:MB K (.ref zg) "__getattribute__"=some (some (.builtin "type.__getattribute__"))) (z94:PySem.W.findCls K (.ref zg) (.type "type") "__init__"=some (.val (.ref zs)))
  (z51:J7 K zn (.ref zb)=some false)
  (z2y:J7 K zf (.ref zb)=some false)
  (z1t:J7 K za (.ref zb)=some false)
  (z2c:J7 K zd (.ref zb)=some false)
  (z8a:J7 K zf (.ref zn)=some false)
  (z4k:J7 K za (.ref zn)=some false)
  (z6x:J7 K zd (.ref zn)=some false)
  (z4l:J7 K zb (.ref zn)=some false)
  (z7v:J7 K zn (.ref zf)=some false)
  (z34:J7 K za (.ref zf)=some false)
  (z4s:J7 K zd (.ref zf)=some false)
  (z3c:J7 K zb (.ref zf)=some false)
  (z4w:J7 K zn (.ref za)=some false)
  (z2z:J7 K zf (.ref za)=some false)
  (z2m:J7 K zd (.ref za)=some false)
  (z1r:J7 K zb (.ref za)=some false)
  (z6m:J7 K zn (.ref zd)=some false)
  (z4m:J7 K zf (.ref zd)=some false)
  (z20:J7 K za (.ref zd)=some false)
  (z25:J7 K zb (.ref zd)=some false)
  (z7g:zw=.ref zo)
  (z7k:K.lookup zo=some ⟨z1y,z68, .fields zh,z67⟩)
  (z7e:z1y=.type "code")
  (z7h:zh[11]?=some (.ref zj))
  (z7f:zh.getD 11 .none=.ref zj)
  (z7a:zh.getD 18 .none=.str z2p z2h)
  (z76:zh.getD 7 .none=.int z2s z2k)
  (z7d:zh.getD 9 .none=.bool z2n)
  (z71:zh.getD 10 .none=.int z2f z2l)
  (z7c:zo≠zj)
  (z77:K.lookup zj=none)
  (z7l:zj∈ts)
  (zfd:Nf K mainGlobals "NotLet"=some (some (.ref zi)))
  (zbo:Nf K mainGlobals "TillError"=some (some (.ref z1n)))
  (zct:Nf K mainGlobals "NoPieces"=some (some (.ref z5w)))
  (zbv:Nf K mainGlobals "LineError"=some (some (.ref z4g)))
  (zfl:∃(nm q:Str)(N:Addr)(bs:List Value)(sn:List Str)(sub:List Value)(ab:Bool)(col:Option Bool)(dd:Option Addr)(k0 k1 k2 k3 k5:Option Value),K.lookup zi=some (excClassObj nm q zi N bs (.ref z1n::veL) true sn sub ab col dd k0 k1 k2 k3 k5 "ValueError.__new__"))
  (zfp:EH K z1n veL "ValueError.__new__"=true)
  (zf8:J0 K (.ref zi) "__setattr__"=some (some (.builtin "object.__setattr__")))
  (zg8:J0 K (.ref zi) "__getattribute__"=some (some (.builtin "BaseException.__getattribute__")))
  (zf3:J0 K (.ref zi) "__getattr__"=some none)
  (zf6:J0 K (.ref zi) "__class__"=some (some (.builtin "object.__class__")))
  (zg9:Ex K (.ref zi) (.type "BaseException")=some true)
  (zfm:J7 K zi (.type "object")=some true)
  (zfj:(PySem.W.clsIn K zi).isSome=true)
  (zfh:Ni K (.ref zi)=true)
  (zca:MthT K zi "__init__" "NotLet.__init__" kci ["self","place","word"] z5m z5x)
  (z9r:J0 K (.ref zi) "place"=some none)
  (zap:J0 K (.ref zi) "word"=some none)
  (z5g:EF K (.ref zi) (.ref z1n)=some true)
  (z5z:Nd K (.ref zi) (.ref z5w)=some false)
  (z5h:Nd K (.ref zi) (.ref z4g)=some false)
  (z4e:Nd K (.ref zi) (.type "ValueError")=some true)
  (zVE:Nf K mainGlobals "ValueError"=some none)
  (z1:Nf K mainGlobals "range"=some none)
  (z2:Nf K mainGlobals "len"=some none)
  (z3:Nf K mainGlobals "min"=some none)
  (z4:Nf K mainGlobals "max"=some none)
  (z5:Nf K mainGlobals "isinstance"=some none)
  (z6:Nf K mainGlobals "bool"=some none)
  (z7:Nf K mainGlobals "int"=some none)
  (z8:Nf K mainGlobals "list"=some none)
  (z9:Nf K mainGlobals "sum"=some none)
  (z10:Nf K mainGlobals "enumerate"=some none)
  (z11:Nf K mainGlobals "any"=some none)
  (z12:Nf K mainGlobals "all"=some none)
  (z13:Nf K mainGlobals "reversed"=some none)
  (z14:Nf K mainGlobals "zip"=some none)
  (z15:Nf K mainGlobals "abs"=some none)
  (z16:Nf K mainGlobals "sorted"=some none)
  (z17:Nf K mainGlobals "tuple"=some none)
  (z18:Nf K mainGlobals "str"=some none)
  :∃(fd:FuncData)(tP c0:Addr),tP∈ts∧CodeK K c0 tP∧K.lookup tP=none∧(∀(s:Shared)(v:Value),BindsTo s fd ⟨[v],[]⟩ [("_law_script",v)])∧∀base:Heap,K.In base→base.Ns mainGlobals mg→BltM mg base→FnOk l.prog w K mg base CX0 13 fa fd ["_law_script"] (kfQ K tP):=by
 have e:=hfa.symm.trans (Nu X G zhx)
 have hf:zc3=fa:=by
  injection e with e
  injection e with e
  exact e.symm
 subst hf
 have B:TxtB mg:=⟨NF X G z1,NF X G z2,NF X G z3,NF X G z4,NF X G z5,NF X G z6,NF X G z7,NF X G z8,NF X G z9,NF X G z10,NF X G z11,NF X G z12,NF X G z13,NF X G z14,NF X G z15,NF X G z16,NF X G z17,NF X G z18⟩
 have W:Wld K mg ⟨(zfv),(zfu),(zfo),(zf4),(z3d),(z35),(zfn),(zf5),(zh3),(zh2),(z7m),(z8q),(zh4),(zh8),(zfs),(zfq),(z3e),(z3i),(z2t),(z29),(z66),(z5n),(z3j),(z31),(zx),(Nj "falling_groups" "falling_groups" (kaB kaD) (kay kaD) (kag kaD) .none z2e z2d z2j z2u zw z21),(z4b),(z47),(z8d),(z8i),(z3y),(z3s),(zbp),(zbz),(zfy),(zfz),(zdm),(zdk),(z44),(z3p),(z5a),(z5b),(z58),(z4v),(z2b),(z2o),(zdj),(zdi),(z4q),(z50),(z85),(z8m),(z6p),(z6k),(z4u),(z55),(z60),(z5t),(z5o),(z5k),(z6s),(z6c),(z4o),(z4r),(z6f),(z6n),(z6d),(z6h),(z8c),(z82),(z8x),(z7o),(z6w),(z6q),(z6t),(z6o),(z2x),(z2v),(z1z),(z1x),(z2a),(z22),(z5u),(z62),(z4n),(z59),(z3v),(z46),(z1b),(z1c),(zc3),(Nj "law" "law" (kaB s_law) (kay s_law) (kag s_law) .none zh5 zh9 zh7 zha zex zh6),(zk),(z19),(Nj "__init__" "Marks.__init__" (kaB kaZ) (kay kaZ) (kag kaZ) (.ref z3n) z63 z64 z5l z65 z2q z5y),(z38),(zg),(zs),(Nj "__init__" "Voucher.__init__" (kaB kaO) (kay kaO) (kag kaO) (.ref z1v) z3z z49 z4d z4a z1q z3r),(zn),(z1s),(Nj "__init__" "Off.__init__" (kaB kbf) (kay kbf) (kag kbf) (.ref z5r) z88 z7q z90 z81 z4h z87),(zf),(z1a),(Nj "__init__" "Share.__init__" (kaB kaY) (kay kaY) (kag kaY) (.ref z3k) z5i z5p z5q z5j z27 z5v),(za),(zu),(Nj "__init__" "Cheapest.__init__" (kaB kaJ) (kay kaJ) (kag kaJ) (.ref z1o) z3h z37 z30 z32 z1d z3b),(zd),(zy),(Nj "__init__" "Bundle.__init__" (kaB kaQ) (kay kaQ) (kag kaQ) (.ref z28) z56 z5f z4j z54 z1w z5d),(zb),(zv),(Nj "__init__" "Carriage.__init__" (kaB kaK) (kay kaK) (kag kaK) (.ref z1p) z2w z39 z3a z33 z1m z3g),(zq),(z1g),(Nj "__init__" "Line.__init__" (kaB ka5) (kay ka5) (kag ka5) (.ref z4f) z6u z6z z6v z6j z3o z6a),(zl),(zz),(Nj "__init__" "Basket.__init__" (kaB kaR) (kay kaR) (kag kaR) (.ref z2i) z4x z4t z4y z4z z1u z5e),(z2g),(ze),(z3q),(z43),(z3f),(z36),(zr),(z9z),(z9y),(z4p),(z57),(z6b),(z6e),(z3w),(z3u),(zm),(z83),(z7x),(zp),(z1f),(Nj "__init__" "Till.__init__" (kaB ka4) (kay ka4) (kag ka4) (.ref z4i) z6l z6i z6g z6y z3l z6r),(z45),(zc),(z52),(z53),(zo),(zj),(zi),(z1n),(z5w),(z4g),(z5m),(z5x)⟩:=⟨B,zij,zin,z8v,ziw,zj7,zdq,zjh,zi3,z7y,z7j,zbb,z7r,⟨(kbn z8h z8s z8n),(Binds.all (nL3 fun _ _ _=>rfl)),Nu X G z8u⟩,z9o,zev,z9l,zgt,zii,zhd,z9c,zas,zau,z79,zhp,za4,ze9,zde,zar,zbk,zb9,zdf,zac,zd6,zco,ze2,zea,zcj,zck,z8k,z69,z75,zby,zam,z95,z42,⟨(kbn zjp zjq zjn),(Binds.all (nL1 fun _=>rfl)),Nu X G zhx⟩,⟨⟨zhi,zhb,zhe,zhu⟩,Nu X G zik,⟨zhh,inX,itX,zhm⟩,zhq,zht,zhk,zhr⟩,zcz,zc9,zcp,zb0,zda,zcx,⟨zcn,zd3,(kbn zd4 zd5 zdg),(bd_mk (n:=7) rfl fun _ KX=>nL7 fun _ _ _ _ _ _ _=>BindsTo.of_defaults rfl (KX _ _ zt) rfl rfl rfl)⟩,(bd_mk (n:=6) rfl fun _ KX=>nL6 fun _ _ _ _ _ _=>BindsTo.of_defaults rfl (KX _ _ zt) rfl rfl rfl),(bd_mk (n:=5) rfl fun _ KX=>nL5 fun _ _ _ _ _=>BindsTo.of_defaults rfl (KX _ _ zt) rfl rfl rfl),(bd_mk (n:=4) rfl fun _ KX=>nL4 fun _ _ _ _=>BindsTo.of_defaults rfl (KX _ _ zt) rfl rfl rfl),(bd_mk (n:=3) rfl fun _ KX=>nL3 fun _ _ _=>BindsTo.of_defaults rfl (KX _ _ zt) rfl rfl rfl),(bd_mk (n:=2) rfl fun _ KX=>nL2 fun _ _=>BindsTo.of_defaults rfl (KX _ _ zt) rfl rfl rfl),(bd_mk (n:=1) rfl fun _ KX=>nL1 fun _=>BindsTo.of_defaults rfl (KX _ _ zt) rfl rfl rfl),⟨⟨zga,zfr,zfa,zfc⟩,Nu X G zgp,⟨zg3,inX,itX,zfw⟩,zgi,zgg,zg7,zgc⟩,⟨zao,zab,(kbn zah zaa za7),(bd_mk (n:=2) rfl fun _ KX=>nL2 fun _ _=>BindsTo.of_defaults rfl (KX _ _ z5c) rfl rfl rfl)⟩,(bd_mk (n:=1) rfl fun _ KX=>nL1 fun _=>BindsTo.of_defaults rfl (KX _ _ z5c) rfl rfl rfl),Nu X G zi2,⟨⟨ziz,zjl,zjg,zjd⟩,Nu X G zi2,⟨zje,inX,itX,z8p⟩,z7s,z8r,zjj,zj3⟩,zcs,zec,⟨zgd,zft,(kbn zgh zf7 zg2),(bd_mk (n:=3) rfl fun _ KX=>nL3 fun _ _ _=>BindsTo.of_defaults rfl (KX _ _ za2) rfl rfl rfl)⟩,(bd_mk (n:=2) rfl fun _ KX=>nL2 fun _ _=>BindsTo.of_defaults rfl (KX _ _ za2) rfl rfl rfl),Nu X G zfg,⟨⟨zhc,zho,zhf,zhg⟩,Nu X G zfg,⟨zhn,inX,itX,z3t⟩,z41,z40,zhj,zhl⟩,zb8,z9e,zc8,⟨zcr,zd0,(kbn zcg zdd zcw),(bd_mk (n:=4) rfl fun _ KX=>nL4 fun _ _ _ _=>BindsTo.of_defaults rfl (KX _ _ z3m) rfl rfl rfl)⟩,(bd_mk (n:=3) rfl fun _ KX=>nL3 fun _ _ _=>BindsTo.of_defaults rfl (KX _ _ z3m) rfl rfl rfl),(bd_mk (n:=2) rfl fun _ KX=>nL2 fun _ _=>BindsTo.of_defaults rfl (KX _ _ z3m) rfl rfl rfl),Nu X G za0,⟨⟨zeh,zet,ze7,zdw⟩,Nu X G za0,⟨zem,inX,itX,z1i⟩,z1h,z1j,ze1,zer⟩,z9k,z8y,⟨z9a,z9n,(kbn z97 z9x z9v),(bd_mk (n:=3) rfl fun _ KX=>nL3 fun _ _ _=>BindsTo.of_defaults rfl (KX _ _ z3x) rfl rfl rfl)⟩,(bd_mk (n:=2) rfl fun _ KX=>nL2 fun _ _=>BindsTo.of_defaults rfl (KX _ _ z3x) rfl rfl rfl),Nu X G zdl,⟨⟨zgz,zgx,zgk,zgv⟩,Nu X G zdl,⟨zgl,inX,itX,z26⟩,z23,z2r,zh1,zgn⟩,zbg,zaw,zb5,⟨zbq,zba,(kbn zbm zbd zbt),(bd_mk (n:=4) rfl fun _ KX=>nL4 fun _ _ _ _=>BindsTo.of_defaults rfl (KX _ _ z5s) rfl rfl rfl)⟩,(bd_mk (n:=3) rfl fun _ KX=>nL3 fun _ _ _=>BindsTo.of_defaults rfl (KX _ _ z5s) rfl rfl rfl),Nu X G za1,⟨⟨zel,zed,zen,zej⟩,Nu X G za1,⟨zeo,inX,itX,z1k⟩,z1e,z1l,ze6,zei⟩,z86,⟨z98,z9u,(kbn z9b z99 z92),(bd_mk (n:=2) rfl fun _ KX=>nL2 fun _ _=>BindsTo.of_defaults rfl (KX _ _ z4c) rfl rfl rfl)⟩,(bd_mk (n:=1) rfl fun _ KX=>nL1 fun _=>BindsTo.of_defaults rfl (KX _ _ z4c) rfl rfl rfl),⟨⟨zif,zi4,zig,zio⟩,Nu X G zj9,⟨zi8,inX,itX,ziq⟩,zis,zi0,zih,zhw⟩,zf0,zce,zek,zag,⟨zey,zeb,(kbn zes zeu zf2),(bd_mk (n:=5) rfl fun _ KX=>nL5 fun _ _ _ _ _=>BindsTo.of_defaults rfl (KX _ _ z8z) rfl rfl rfl)⟩,(bd_mk (n:=4) rfl fun _ KX=>nL4 fun _ _ _ _=>BindsTo.of_defaults rfl (KX _ _ z8z) rfl rfl rfl),⟨⟨zgm,zgj,zgu,zgr⟩,Nu X G zhs,⟨zh0,inX,itX,zgy⟩,zgs,zgo,zgq,zgw⟩,zav,z74,z9i,⟨zbu,zb7,(kbn zc0 zbw zbc),(bd_mk (n:=4) rfl fun _ KX=>nL4 fun _ _ _ _=>BindsTo.of_defaults rfl (KX _ _ z24) rfl rfl rfl)⟩,(bd_mk (n:=3) rfl fun _ KX=>nL3 fun _ _ _=>BindsTo.of_defaults rfl (KX _ _ z24) rfl rfl rfl),(bd_mk (n:=2) rfl fun _ KX=>nL2 fun _ _=>BindsTo.of_defaults rfl (KX _ _ z24) rfl rfl rfl),⟨⟨zdp,zdy,zeg,zdo⟩,Nu X G zfx,⟨zdz,inX,itX,zep⟩,ze5,zf1,zef,zdu⟩,z73,z7i,z61,z78,z9p,z7z,⟨⟨zj8,zji,zjf,zj5⟩,Nu X G zjo,⟨zj1,inX,itX,zj6⟩,zjm,zjc,zj4,zja⟩,zge,zd9,zf9,zfe,zai,zff,zae,zcl,z9f,⟨⟨zix,zid,zi6,zit⟩,Nu X G zjb,⟨zir,inX,itX,zi1⟩,zhy,zib,zil,zi7⟩,zcy,zcb,zc6,z9g,zd2,zew,⟨⟨zhz,zi9,zia,zhv⟩,Nu X G zj2,⟨ziu,inX,itX,zie⟩,zic,zi5,zim,ziv⟩,zal,z9j,zch,zdt,⟨zez,zdv,(kbn zds ze0 zdn),(bd_mk (n:=5) rfl fun _ KX=>nL5 fun _ _ _ _ _=>BindsTo.of_defaults rfl (KX _ _ z7p) rfl rfl rfl)⟩,(bd_mk (n:=4) rfl fun _ KX=>nL4 fun _ _ _ _=>BindsTo.of_defaults rfl (KX _ _ z7p) rfl rfl rfl),Nu X G zbh,⟨⟨zg1,zgb,zgf,zfb⟩,Nu X G zbh,⟨zg6,inX,itX,zg0⟩,zg5,zfi,zfk,zg4⟩,zaz,z7n,zan,z48,z93,z89,zb6,zaf,za8,zak,⟨z96,z9w,z94⟩,kaN z51 z1k z1l (kbg z51 z7s),kaN z2y z1k z1l (kbg z2y z41),kaN z1t z1k z1l (kbg z1t z1h),kaN z2c z1k z1l (kbg z2c z23),kaN z8a z8p z8r (kbg z8a z41),kaN z4k z8p z8r (kbg z4k z1h),kaN z6x z8p z8r (kbg z6x z23),kaN z4l z8p z8r (kbg z4l z1e),kaN z7v z3t z40 (kbg z7v z7s),kaN z34 z3t z40 (kbg z34 z1h),kaN z4s z3t z40 (kbg z4s z23),kaN z3c z3t z40 (kbg z3c z1e),kaN z4w z1i z1j (kbg z4w z7s),kaN z2z z1i z1j (kbg z2z z41),kaN z2m z1i z1j (kbg z2m z23),kaN z1r z1i z1j (kbg z1r z1e),kaN z6m z26 z2r (kbg z6m z7s),kaN z4m z26 z2r (kbg z4m z41),kaN z20 z26 z2r (kbg z20 z1h),kaN z25 z26 z2r (kbg z25 z1e),z7g,⟨_,zh,z2p,z2h,z2s,z2k,z2n,z2f,z2l,z7k,z7e,rfl,z7h,z7f,z7a,z76,z7d,z71,z7c⟩,Nu X G zfd,Nu X G zbo,Nu X G zct,Nu X G zbv,⟨zfl,zfp,zf8⟩,⟨zg8,zf3,zf6,zg9,zfm,zfj⟩,zfh,zca,z9r,zap,z5g,z5z,z5h,z4e,NF X G zVE⟩
 exact⟨_,zj,zo,z7l,W.ck_falling_groups,z77,fun s v=>.of_eq rfl,fun base hK _ hB=>kml ⟨W,hB,hK⟩⟩
end Vs
namespace PySem.W.Fast
def tw2533399868163668224:=0
def tw13777885984107654496:=0
def tw6250279146428263010:=0
def tw1759165794957368131:=0
def tw3955159470437218149:=0
def tw7849322415966047846:=0
def tw5236590534390395527:=0
def tw16860761319200599015:=0
def tw12459189477055142888:=0
def tw18098287628240516970:=0
def tw1091164842898551979:=0
def tw13992298607005499787:=0
def tw1275143981161571723:=0
def tw4102652784061590732:=0
def tw18312665003292471405:=0
def tw4292055435154239597:=0
def tw15734190998097792269:=0
def tw14104218010994585357:=0
def tw8169864254717165453:=0
def tw2786428189464522990:=0
def tw6456732788000659726:=0
def tw6303930138667881902:=0
def tw13045230815623819758:=0
def tw10850953064315418064:=0
def tw8419804772594285777:=0
def tw4953792435523317137:=0
def tw6455484811231333009:=0
def tw4918113040047442674:=0
def tw7698778867080475602:=0
def tw7079799128982029812:=0
def tw8948161464131080884:=0
def tw15052720979536482261:=0
def tw7088734022425219702:=0
def tw5436020788137179926:=0
def tw7732392145434191319:=0
def tw14278328433020474008:=0
def tw6239233573645787737:=0
def tw17342881601363557177:=0
def tw6837602799606809529:=0
def tw8393987990045878874:=0
def tw5117716519744400186:=0
def tw123824875161988251:=0
def tw153158037174245276:=0
def tw7002648486855714780:=0
def tw13728172056003632637:=0
def tw2477240922176416510:=0
def tw6606134965530127610:=0
def tw6051827491388520316:=0
def tw137811894577455517:=0
def tw230086780259856361:=0
def tw13065354607006398997:=0
def tw5497092634956910005:=0
def tw3516728206173968380:=0
def tw16137300364387042053:=0
def tw14975510965319425299:=0
def tw125614472053777543:=0
def tw2518382212260746485:=0
def tw10530566082180069614:=0
def tw17834807258752248968:=0
def tw9953398311721561884:=0
def tw11118380323314759407:=0
def tw3986866673527838132:=0
def tw7230558475475928875:=0
def tw2517735710822436005:=0
def tw2622530850481724413:=0
def tw293153081825486383:=0
def tw1849183402161792200:=0
def tw5726276886289203117:=0
def tw17817647072002242327:=0
def tw5372829237612401994:=0
def tw10037902780272248715:=0
def tw14931969814987815549:=0
def tw8884381031914446351:=0
def tw7862744350994495037:=0
def tw5818460996983542348:=0
def tw17185906387230796562:=0
def tw4918228733159303188:=0
def tw15086771747888762111:=0
def tw2642742189960023779:=0
def tw14507116651499986524:=0
def tw14998507722616193959:=0
def tw18140754773287410519:=0
def tw16978367650157339398:=0
def tw11762288844065840491:=0
def tw12056933750997651116:=0
def tw2648415390147104992:=0
def tw12684335325667110429:=0
def tw17491624540394930722:=0
def tw14763980178281266012:=0
def tw17005319129250540487:=0
def tw14668328913682087834:=0
def tw6008091379085914058:=0
def tw9498368383499356719:=0
def tw6356199463380853523:=0
def tw11262801583476395560:=0
def tw4138999286780081909:=0
def tw11280386769627294054:=0
def tw17678148557024055753:=0
def tw18175403469769447366:=0
def tw3274174361848900647:=0
def tw14686323143049959611:=0
def tw15152660312795534434:=0
def tw12531370193872412241:=0
def tw1167382041530740273:=0
def tw15689959139821481869:=0
def tw14556611834650621235:=0
def tw17122900777798847653:=0
def tw2132527989157333247:=0
def tw15792970423539419159:=0
def tw16808954577692296373:=0
def tw8135516988463942453:=0
def tw11598609721324183428:=0
def tw16227963184065126896:=0
def tw13568325905326254333:=0
def tw10728018734559538285:=0
def tw9760934531591082636:=0
def tw14095099095412903802:=0
def tw3660883877121970266:=0
def tw9120109285221505179:=0
def tw9480076374470735712:=0
def tw6061677244958530499:=0
def tw1784634726481771107:=0
def tw8898377961136025546:=0
def tw6261654761122497092:=0
def tw15243811150767828807:=0
def tw9852279650601070486:=0
def tw17334008301434750414:=0
def tw7707791839679566208:=0
def tw7801935176878998575:=0
def tw14561268358054927863:=0
def tw11074568551275044441:=0
def tw8269313048867046148:=0
def tw13584300585068313216:=0
def tw17414798771373555300:=0
def tw12870151599688782664:=0
def tw8661657836499302470:=0
def tw17908219745971387060:=0
def tw3959878644176672071:=0
def tw7719465880652323783:=0
def tw9201827487066999643:=0
def tw16843566921892266733:=0
def tw11075462767727267923:=0
def tw7142693658134527757:=0
def tw12724040485923320987:=0
def tw1513697821592079410:=0
def tw12298560882907454659:=0
def tw1193694472332091148:=0
def tw18045090280669371396:=0
def tw13779003432862952076:=0
def tw1377353625823247560:=0
def tw12045033381824592316:=0
def tw17684998294652731656:=0
def tw1864809748213846155:=0
def tw1359639182766215514:=0
def tw16664128873480645947:=0
def tw7793562469747532078:=0
def tw16938759222864035972:=0
def tw3409953805569603219:=0
def tw3736694098273931859:=0
def tw1493727590303779738:=0
def tw15706645329007709381:=0
def tw8531281408401039624:=0
def tw16887827264656268721:=0
def tw5586357508540474525:=0
def tw18195768056123959409:=0
def tw16887001000226730486:=0
def tw4558549224727419434:=0
def tw4684448250129784986:=0
def tw11645533863484029544:=0
def tw2052804266700856519:=0
def tw9381905808303280358:=0
def tw8392136129652206634:=0
def tw14656220120227606705:=0
def tw7142158202230835492:=0
def tw14855406749367607153:=0
def tw14808770540300455076:=0
def tw4313533286608628854:=0
def tw15094921162546397118:=0
def tw7953923982055386722:=0
def tw6109936590723634638:=0
def tw9308582048658386415:=0
def tw6215486383508432708:=0
def tw11002577888289738905:=0
def tw3680153775889222571:=0
def tw12768037775864597556:=0
def tw1190252221698542195:=0
def tw6018047089288206475:=0
def tw7550677965846746773:=0
def tw7811375838556721747:=0
def tw7516746766314137056:=0
def tw1495359250000022603:=0
def tw12481532948482406557:=0
def tw13165746121616175192:=0
def tw16770349673106303026:=0
def tw2731487263224199037:=0
def tw818155006635498591:=0
def tw877682331798300714:=0
def tw457786476835357679:=0
def tw2148106667809152796:=0
def tw18299817584388191051:=0
def tw16712759403791915172:=0
def tw14710900397926988156:=0
def tw1850985023345910625:=0
def tw2219308621971877236:=0
def tw17100956766867113183:=0
def tw1963801838767714370:=0
def tw16461293682579982534:=0
def tw5949079714273008536:=0
def tw9150321656121651926:=0
def tw11047786677193319841:=0
def tw13182660146578809616:=0
def tw4940794717856602652:=0
def tw15280090555452098912:=0
def tw14205030481851760776:=0
def tw6024438681814141112:=0
def tw2794578750506721705:=0
def tw18424421088307104720:=0
def tw4401152452241580642:=0
def tw15450462738846742547:=0
def tw5004091455404864927:=0
def tw14888648541035960377:=0
def tw15136109426656154595:=0
def tw12548821345795016105:=0
def tw9278877550798303399:=0
def tw17738928678407325709:=0
def tw7596988271337411402:=0
def tw8867253554276974767:=0
def tw17585736024657770026:=0
def tw7675331482077740511:=0
def tw249394525458781399:=0
def tw18237473936605138461:=0
def tw7200471022386029107:=0
def tw8429720827987550953:=0
def tw11829592698408160147:=0
def tw849011331325107727:=0
def tw16418112100085846666:=0
def tw8888620394294416890:=0
def tw6214837529303412764:=0
def tw16271586826840539429:=0
def tw10689662842637982263:=0
def tw11763836304135300150:=0
def tw12712671622735370981:=0
def tw1208472124374639615:=0
def tw17195941929359175806:=0
def tw5690230993620724952:=0
def tw9823347147879490413:=0
def tw1145664881754805537:=0
def tw3360999806096173420:=0
def tw7340336072750862769:=0
def tw3740962350830366564:=0
def tw16259892901748557949:=0
def tw5623063335847705432:=0
def tw6918833892155838407:=0
def tw6796001034455788950:=0
def tw1357363918752476265:=0
def tw17424789273386780116:=0
def tw16027260139856954006:=0
def tw13824636551198997437:=0
def tw15439793475551176504:=0
def tw730180297108131900:=0
def tw11677400069430921881:=0
def tw17402553736767160589:=0
def tw14231072684782306552:=0
def tw18252143830751234180:=0
def tw17152219138968356526:=0
def tw4326498001072886658:=0
def tw9800711409167539709:=0
def tw12197482724724958441:=0
def tw6905297248734427907:=0
def tw12060765749243666169:=0
def tw1955781789410135337:=0
def tw17365305024447303690:=0
def tw14786592742968833124:=0
def tw1521578362167436552:=0
def tw14427737719203527727:=0
def tw5101651353037641505:=0
def tw13916381506282813410:=0
def tw9891441323972836328:=0
end PySem.W.Fast
open PySem PySem.W PyProof.Rows
set_option maxRecDepth 100000 in
set_option maxHeartbeats 0 in
theorem PySem.Challenge.cw_voucherstack_k33_accounts_opened_holds : PySem.Challenge.rw_voucherstack_k33_accounts_opened.Holds := by
 w_on;o_law;k_head;(case hw=>w_witness2)
 k_fill
 refine L2.walkT_of (l:=PySem.Challenge.rw_voucherstack_k33_accounts_opened) (k:=13) (x:="_law_script") rfl rfl ⟨rfl,by decide,by decide⟩ (fun w h Y=>PySem.W.km_in_of Y) (fun w h Y=>PySem.W.km_tabs_of Y) ?F
 case F=>
  intro w mg fa h KX G hmg
  refine' Vs.all_mk KX G hmg ?JS ?JR ?Je ?JT ?JW ?JL ?JX ?JV ?Jf ?U9 ?Jy ?Jc ?afalling_groups ?lfalling_groups ?cfalling_groups ?kfalling_groups ?Ji ?JM ?Jh ?JO ?JU ?JP ?Jj ?Jq ?Jt ?Ja ?JQ ?Ju ?JH ?JF ?Jn ?Jw ?Jz ?JC ?Jr ?JB ?JG ?JJ ?JI ?JD ?JE ?Jg ?U8 ?Jb ?Jv ?Jp ?Jl ?U7 ?alaw ?llaw ?claw ?klaw ?aMarks ?imMarks ?isMarks ?iyMarks ?inX ?itX ?pgMarks ?hdMarks ?poMarks ?saMarks ?mkMarks ?kcMarks ?iaMarks ?nMarks_kind ?nMarks_needs ?nMarks_most ?nMarks_member ?nMarks_once ?nMarks_lone ?hMarks_init ?iMarks_init ?lMarks_init ?cMarks_init ?kMarks_init ?tMarks_init ?aVoucher ?imVoucher ?isVoucher ?iyVoucher ?pgVoucher ?hdVoucher ?poVoucher ?saVoucher ?mkVoucher ?kcVoucher ?iaVoucher ?hVoucher_init ?iVoucher_init ?lVoucher_init ?cVoucher_init ?kVoucher_init ?tVoucher_init ?aOff ?imOff ?isOff ?iyOff ?pgOff ?hdOff ?poOff ?saOff ?mkOff ?kcOff ?iaOff ?nOff_amount ?nOff_marks ?hOff_init ?iOff_init ?lOff_init ?cOff_init ?kOff_init ?tOff_init ?aShare ?imShare ?isShare ?iyShare ?pgShare ?hdShare ?poShare ?saShare ?mkShare ?kcShare ?iaShare ?nShare_share ?nShare_by_line ?nShare_marks ?hShare_init ?iShare_init ?lShare_init ?cShare_init ?kShare_init ?tShare_init ?aCheapest ?imCheapest ?isCheapest ?iyCheapest ?pgCheapest ?hdCheapest ?poCheapest ?saCheapest ?mkCheapest ?kcCheapest ?iaCheapest ?nCheapest_many ?nCheapest_marks ?hCheapest_init ?iCheapest_init ?lCheapest_init ?cCheapest_init ?kCheapest_init ?tCheapest_init ?aBundle ?imBundle ?isBundle ?iyBundle ?pgBundle ?hdBundle ?poBundle ?saBundle ?mkBundle ?kcBundle ?iaBundle ?nBundle_many ?nBundle_price ?nBundle_marks ?hBundle_init ?iBundle_init ?lBundle_init ?cBundle_init ?kBundle_init ?tBundle_init ?aCarriage ?imCarriage ?isCarriage ?iyCarriage ?pgCarriage ?hdCarriage ?poCarriage ?saCarriage ?mkCarriage ?kcCarriage ?iaCarriage ?nCarriage_marks ?hCarriage_init ?iCarriage_init ?lCarriage_init ?cCarriage_init ?kCarriage_init ?tCarriage_init ?aLine ?imLine ?isLine ?iyLine ?pgLine ?hdLine ?poLine ?saLine ?mkLine ?kcLine ?iaLine ?nLine_kind ?nLine_price ?nLine_many ?nLine_special ?hLine_init ?iLine_init ?lLine_init ?cLine_init ?kLine_init ?tLine_init ?aBasket ?imBasket ?isBasket ?iyBasket ?pgBasket ?hdBasket ?poBasket ?saBasket ?mkBasket ?kcBasket ?iaBasket ?nBasket_lines ?nBasket_carriage ?nBasket_member ?hBasket_init ?iBasket_init ?lBasket_init ?cBasket_init ?kBasket_init ?tBasket_init ?aStanding ?imStanding ?isStanding ?iyStanding ?pgStanding ?hdStanding ?poStanding ?saStanding ?mkStanding ?kcStanding ?iaStanding ?nStanding_owners ?nStanding_prices ?nStanding_carriage ?nStanding_marked ?Jm ?Jd ?aWay ?imWay ?isWay ?iyWay ?pgWay ?hdWay ?poWay ?saWay ?mkWay ?kcWay ?iaWay ?nWay_till ?nWay_basket ?nWay_hand ?nWay_used ?nWay_standing ?JN ?Js ?JA ?Jk ?aBill ?imBill ?isBill ?iyBill ?pgBill ?hdBill ?poBill ?saBill ?mkBill ?kcBill ?iaBill ?nBill_order ?nBill_steps ?nBill_prices ?nBill_carriage ?nBill_total ?JK ?aTill ?imTill ?isTill ?iyTill ?pgTill ?hdTill ?poTill ?saTill ?mkTill ?kcTill ?iaTill ?nTill_parents ?nTill_vouchers ?nTill_rules ?nTill_back ?hTill_init ?iTill_init ?lTill_init ?cTill_init ?kTill_init ?tTill_init ?aAccount ?imAccount ?isAccount ?iyAccount ?pgAccount ?hdAccount ?poAccount ?saAccount ?mkAccount ?kcAccount ?iaAccount ?nAccount_till ?nAccount_basket ?nAccount_hand ?nAccount_first_prices ?nAccount_order ?nAccount_fallen ?nAccount_many ?nAccount_paid ?nAccount_owed ?Jo ?rdVoucher_init ?gaVoucher_init ?fcVoucher_init ?qOff_Carriage ?qShare_Carriage ?qCheapest_Carriage ?qBundle_Carriage ?qShare_Off ?qCheapest_Off ?qBundle_Off ?qCarriage_Off ?qOff_Share ?qCheapest_Share ?qBundle_Share ?qCarriage_Share ?qOff_Cheapest ?qShare_Cheapest ?qBundle_Cheapest ?qCarriage_Cheapest ?qOff_Bundle ?qShare_Bundle ?qCheapest_Bundle ?qCarriage_Bundle ?qafalling_groups ?qbfalling_groups ?qcfalling_groups ?qdfalling_groups ?qefalling_groups ?qffalling_groups ?qgfalling_groups ?qhfalling_groups ?qifalling_groups ?qjfalling_groups ?qkfalling_groups ?qlfalling_groups ?qaeNotLet ?qaeTillError ?qaeNoPieces ?qaeLineError ?qwoNotLet ?qwtNotLet ?qwsNotLet ?qxaNotLet ?qxbNotLet ?qxcNotLet ?qxdNotLet ?qxeNotLet ?qxfNotLet ?qkpNotLet ?Jx ?qnNotLet_place ?qnNotLet_word ?qxmNotLet_TillError ?qkiNotLet_NoPieces ?qkiNotLet_LineError ?qkiNotLet_ValueError ?zVE ?z1 ?z2 ?z3 ?z4 ?z5 ?z6 ?z7 ?z8 ?z9 ?z10 ?z11 ?z12 ?z13 ?z14 ?z15 ?z16 ?z17 ?z18
  any_goals k_is
  exists JS,Vs.nL2 fun _ _=>rfl,0,0,0
  exists JR,Vs.nL3 fun _ _ _=>rfl,0,0,0
  exists Je,Vs.nL2 fun _ _=>rfl,0,0,0
  exists JT,Vs.nL4 fun _ _ _ _=>rfl,0,0,0
  exists JW,Vs.nL4 fun _ _ _ _=>rfl,0,0,0
  exists JL,Vs.nL4 fun _ _ _ _=>rfl,0,0,0
  exists JX,Vs.nL4 fun _ _ _ _=>rfl,0,0,0
  exists JV,Vs.nL4 fun _ _ _ _=>rfl,0,0,0
  exists Jf,Vs.nL4 fun _ _ _ _=>rfl,0,0,0
  exists U9,Vs.nL2 fun _ _=>rfl,0,0,0
  exists Jy,Vs.nL3 fun _ _ _=>rfl,0,0,0
  exists Jc,Vs.nL2 fun _ _=>rfl,0,0,0
  exists Ji,Vs.nL3 fun _ _ _=>rfl,0,0,0
  exists JM,Vs.nL2 fun _ _=>rfl,0,0,0
  exists Jh,Vs.nL2 fun _ _=>rfl,0,0,0
  exists JO,Vs.nL2 fun _ _=>rfl,0,0,0
  exists JU,Vs.nL4 fun _ _ _ _=>rfl,0,0,0
  exists JP,Vs.nL4 fun _ _ _ _=>rfl,0,0,0
  exists Jj,Vs.nL4 fun _ _ _ _=>rfl,0,0,0
  exists Jq,Vs.nL3 fun _ _ _=>rfl,0,0,0
  exists Jt,Vs.nL3 fun _ _ _=>rfl,0,0,0
  exists Ja,Vs.nL2 fun _ _=>rfl,0,0,0
  exists JQ,Vs.nL4 fun _ _ _ _=>rfl,0,0,0
  exists Ju,Vs.nL2 fun _ _=>rfl,0,0,0
  exists JH,Vs.nL4 fun _ _ _ _=>rfl,0,0,0
  exists JF,Vs.nL3 fun _ _ _=>rfl,0,0,0
  exists Jn,Vs.nL1 fun _=>rfl,0,0,0
  exists Jw,Vs.nL2 fun _ _=>rfl,0,0,0
  exists Jz,Vs.nL4 fun _ _ _ _=>rfl,0,0,0
  exists JC,Vs.nL4 fun _ _ _ _=>rfl,0,0,0
  exists Jr,Vs.nL4 fun _ _ _ _=>rfl,0,0,0
  exists JB,Vs.nL2 fun _ _=>rfl,0,0,0
  exists JG,Vs.nL1 fun _=>rfl,0,0,0
  exists JJ,Vs.nL4 fun _ _ _ _=>rfl,0,0,0
  exists JI,Vs.nL2 fun _ _=>rfl,0,0,0
  exists JD,Vs.nL4 fun _ _ _ _=>rfl,0,0,0
  exists JE,Vs.nL5 fun _ _ _ _ _=>rfl,0,0,0
  exists Jg,Vs.nL2 fun _ _=>rfl,0,0,0
  exists U8,Vs.nL2 fun _ _=>rfl,0,0,0
  exists Jb,Vs.nL6 fun _ _ _ _ _ _=>rfl,0,0,0
  exists Jv,Vs.nL4 fun _ _ _ _=>rfl,0,0,0
  exists Jp,Vs.nL2 fun _ _=>rfl,0,0,0
  exists Jl,Vs.nL4 fun _ _ _ _=>rfl,0,0,0
  exists U7,Vs.nL4 fun _ _ _ _=>rfl,0,0,0
  exists Jm,Vs.nL2 fun _ _=>rfl,0,0,0,0,0
  exists Jd,Vs.nL1 fun _=>rfl,0,0,0,0,0
  exists JN,Vs.nL4 fun _ _ _ _=>rfl,0,0,0,0,0
  exists Js,Vs.nL2 fun _ _=>rfl,0,0,0,0,0
  exists JA,Vs.nL2 fun _ _=>rfl,0,0,0,0,0
  exists Jk,Vs.nL1 fun _=>rfl,0,0,0,0,0
  exists JK,Vs.nL4 fun _ _ _ _=>rfl,0,0,0,0,0
  exists Jo,Vs.nL5 fun _ _ _ _ _=>rfl,0,0,0,0,0
  (try case qafalling_groups=>first|rfl|decide|k_is)
  (try case qbfalling_groups=>k_is)
  (try case qcfalling_groups=>first|rfl|decide|k_is)
  (try case qdfalling_groups=>first|rfl|decide|k_is)
  (try case qefalling_groups=>first|rfl|decide|k_is)
  (try case qffalling_groups=>first|rfl|decide|k_is)
  (try case qgfalling_groups=>first|rfl|decide|k_is)
  (try case qhfalling_groups=>first|rfl|decide|k_is)
  (try case qifalling_groups=>first|rfl|decide|k_is)
  (try case qjfalling_groups=>first|rfl|decide|k_is)
  (try case qkfalling_groups=>first|k_is|rfl|decide|decide +kernel)
  (try case qlfalling_groups=>decide)
  (try case qwoNotLet=>refine' L2.xw_mk ?_;any_goals k_is)
  (try case qwtNotLet=>first|(unfold L2.veL;k_exc;done)|first|k_is|(k_exc;done)|(kts_exm;done)|(kit_is;done)|rfl|decide +kernel)
  (try case qwsNotLet=>first|k_is|(k_exc;done)|(kts_exm;done)|(kit_is;done)|rfl|decide +kernel)
  (try case qxaNotLet=>first|k_is|(k_exc;done)|(kts_exm;done)|(kit_is;done)|rfl|decide +kernel)
  (try case qxbNotLet=>first|k_is|(k_exc;done)|(kts_exm;done)|(kit_is;done)|rfl|decide +kernel)
  (try case qxcNotLet=>first|k_is|(k_exc;done)|(kts_exm;done)|(kit_is;done)|rfl|decide +kernel)
  (try case qxdNotLet=>first|k_is|(k_exc;done)|(kts_exm;done)|(kit_is;done)|rfl|decide +kernel)
  (try case qxeNotLet=>first|k_is|(k_exc;done)|(kts_exm;done)|(kit_is;done)|rfl|decide +kernel)
  (try case qxfNotLet=>first|k_is|(k_exc;done)|(kts_exm;done)|(kit_is;done)|rfl|decide +kernel)
  (try case qkpNotLet=>first|k_is|(k_exc;done)|(kts_exm;done)|(kit_is;done)|rfl|decide +kernel)
  exists Jx,Vs.nL3 fun _ _ _=>rfl,0,0,0,0,0
  (try case qnNotLet_place=>first|k_is|(k_exc;done)|(kts_exm;done)|(kit_is;done)|rfl|decide +kernel)
  (try case qnNotLet_word=>first|k_is|(k_exc;done)|(kts_exm;done)|(kit_is;done)|rfl|decide +kernel)
  (try case qxmNotLet_TillError=>first|k_is|(k_exc;done)|(kts_exm;done)|(kit_is;done)|rfl|decide +kernel)
  (try case qkiNotLet_NoPieces=>first|k_is|(k_exc;done)|(kts_exm;done)|(kit_is;done)|rfl|decide +kernel)
  (try case qkiNotLet_LineError=>first|k_is|(k_exc;done)|(kts_exm;done)|(kit_is;done)|rfl|decide +kernel)
  (try case qkiNotLet_ValueError=>first|k_is|(k_exc;done)|(kts_exm;done)|(kit_is;done)|rfl|decide +kernel)
