import PyProof.Rows.All
import Wide.All
import OpenK.AllK
import Wide.FinOn
import Lean
import PyProof.EqAt
import PyProof.EqKinds
import PyProof.TupleCall
import PySem.Challenge.RW_voucherstack_k52_whole_none_is_cheaper
set_option Elab.async false
set_option linter.all false
set_option maxRecDepth 100000
open Array renaming getElem?_eq_some_iff → Mn, length_toList → Mt, size_zip → M1, getElem?_eq_getElem → EE
open Bool renaming false_ne_true → JV, and_eq_true → NR, false_eq_true → NS, false_and → MQ, eq_iff_iff → MR, and_false → MX, or_eq_true → EA, and_true → EC
open List renaming length_map → JM, range → JQ, replicate → JS, mem_of_getElem? → JT, map_append → JW, getElem?_eq_some_iff → JX, getElem?_map → JY, length_append → JZ, map_cons → J0, mem_cons_of_mem → J5, getD_eq_getElem?_getD → J8, mem_cons_self → Na, mem_map → Nb, mem_cons → Nd, map_map → Nf, sum_cons → Ng, size_toArray → Nh, length_take → Nl, flatten_cons → Nm, mem_filter → Np, length_cons → Nq, mem_append → Nr, append_assoc → Nt, lookup_cons → Nu, length_singleton → NA, take_length → NB, range_succ → NG, zipWith → NH, mem_append_right → NJ, nil_append → NL, map_congr_left → NM, sum_append → NO, lookup → NP, nodup_cons → NW, take_add_one → NY, mem_flatten → NZ, getElem?_eq_getElem → N1, mem_singleton → N3, mem_iff_getElem? → N4, append_nil → N6, getElem?_append_right → N7, length_set → N8, replicate_succ → N9, filter_append → Mb, map_set → Mc, of_mem_zip → Me, length → Mf, length_replicate → Mg, map_nil → Mh, foldl_cons → Mi, take_of_length_le → Mj, not_mem_nil → Ml, pairwise_iff_getElem → Mm, ext_getElem → Mo, filterMap_cons → Mp, any_cons → Mr, Pairwise → Ms, getElem?_append_left → Mv, nodup_range → Mx, getElem?_eq_none → My, getElem?_range → Mz, filter_cons → MA, sum_nil → MB, flatMap_cons → MC, mem_range → MD, getElem?_set_self → ME, getElem?_set_ne → MF, find?_cons → MI, cons_append → MK, getElem_map → ML, length_filter_le → MM, count_append → MP, length_drop → MU, all_cons → MV, reverse_cons → MW, all_eq_true → MY, map_take → MZ, length_nil → M5, flatten_append → M6, getElem_range → M7, pairwise_cons → M8, Perm → M9, length_zipWith → Ea, getElem?_zipWith → Eb, pairwise_lt_range → Ec, foldl_append → Ee, pairwise_map → Ef, filter_nil → Eh, replicate_succ' → Ei, mem_flatMap → Ej, getElem?_eq_none_iff → Ek, mem_append_left → Em, getElem_inj → En, getElem?_replicate → Ew, getElem_mem → Ey, map_drop → EB, nodup_nil → ED, count_cons → EF, zipIdx_cons → EI, singleton_append → EJ, nodup_append → EK, mem_of_mem_take → EL, getLastD_eq_getLast? → EM, set_cons_succ → EN, take_zero → EO, getElem?_take → ER, mem_replicate → ES, foldl_nil → EV, mem_or_eq_of_mem_set → EW, getElem?_take_of_lt → E1, getElem_cons_drop → E6, take_append_drop → E7, sublist_append_left → E8, filter_eq_nil_iff → E9, getLast?_eq_some_getLast → Da, drop_of_length_le → Dc, drop_eq_getElem_cons → Df, length_eq_zero_iff → Dg, count_cons_of_ne → Dh
open Nat renaming le_refl → JO, le_trans → JR, le_of_lt → Nc, lt_of_lt_of_le → Nj, ne_of_lt → Nk, zero_le → Nw, ne_of_gt → NN, lt_irrefl → NV, lt_of_le_of_lt → Ma, le_succ → Mq, not_lt → Mw, lt_succ_self → MG, min_self → MJ, add_mul → MN, one_mul → MO, le_of_eq → MT, mul_le_mul_right → Ed, min_eq_left → Eg
open Option renaming map_some → M0, isSome_iff_exists → Eu, getD_none → Ex
open PySem.F renaming plainAttrs_list → NI, slot_list_append → NT, type_list_append → NU, slot_list_count → ET, type_list_count → EU, slot_dict_setdefault → E2, plainAttrs_dict → E3, slot_dict_values → E4, attrBase_ValueError → E5, slot_list_extend → Dd, type_list_extend → De
open PySem.W renaming Frag → JN, findIn → JP, mroIn → JU, kitOne → J4, keepIn → J6, nsIn → J7, fnOf → J9, mg_of → Ni, mg_none_of → Nv, plainGet → Nx, typeIn → Ny, codeIn → Nz, hasDictIn → NC, isFn → ND, makesIn → NF, plainOver → NK, kia_one → NQ, emptyDict → N5, instObj → Md, callWith_K → Mu, specialIn → MH, lookIn → MS, kla_obj → M3, tabObj → M4, methodObj → El, plainGet_of → Eo, takerIn → Ep, Looks → Er, takesIn → Es, methodCall_KW → Et, subIn → Ez, exmOne → EG, excIn → EH, callWith_K0 → EY, cellsFrom_some → EZ
set_option hygiene false
local macro_rules|`(tactic|exists $a,$b)=>`(tactic|refine FunD.ok $a $b (by intro _ _ _ _ h;cases h;subst_vars;rfl) (fun cdv A outer s H vs Q E hr h=>?_))
local macro_rules|`(tactic|ac_rfl)=>`(tactic|exact⟨rfl,rfl,rfl,by decide +kernel,rfl,by decide +kernel,by decide +kernel⟩)
local macro_rules|`(tactic|exists $a:ident,$b,$c)=>`(tactic|have $a:ident:=$b (P:=P) (w:=w) $c)
local macro_rules|`(tactic|exists $a:ident,$b,$c,$_)=>`(tactic|have $a:ident:Room $b _:=($c).mono (by decide))
local macro_rules|`(tactic|exists $a:ident)=>`(tactic|try refine sN fun _ $a=>?_)
local macro_rules|`(tactic|exists $a,$b,$c:ident,$d:ident,$e:ident,$f)=>`(tactic|(generalize hg9:upd $a $b _=$c;obtain⟨$d:ident,$e:ident⟩:=kaT hg9 $f;clear hg9))
local macro_rules|`(tactic|ac_nf)=>`(tactic|(repeat (first|rw[kab,if_pos rfl]|rw[kab,if_neg (by decide +kernel)])))
local macro_rules|`(tactic|symm)=>`(tactic|try apply Y4)
local macro_rules|`(tactic|nofun)=>`(tactic|try first|apply Y6|apply Y4)
local macro_rules|`(tactic|exists 3)=>`(tactic|try first|apply Y8|apply Y6|apply Y4)
local macro_rules|`(tactic|exists 4)=>`(tactic|try first|apply Y10|apply Y6|apply Y4)
local macro_rules|`(tactic|exists $a:ident,$b,$_,$_,$_)=>`(tactic|(case $a:ident=>refine' Vs.dn_mk KX G ?_ ?_ ?_ ?_ (fun _ _ _ _ _ _=>$b);any_goals k_is))
local macro_rules|`(tactic|exists $a:ident,$b,$_,$_,$_,$_,$_)=>`(tactic|(case $a:ident=>refine' Vs.mt_mk ?_ ?_ ?_ ?_ ?_ (fun _ _ _ _ _ _=>$b);any_goals k_is))
namespace L2
open PySem PySem.Spec PyProof.Rows
noncomputable abbrev Key:=Sum Int Str
noncomputable def keyIs:Key→Value→Bool
 | .inl k,v=>Value.isInt k v
 | .inr x,v=>Value.isStrOf x v
noncomputable def keyH(w:World):Key→Int
 | .inl k=>hashInt k
 | .inr x=>hashStr w x
theorem ka0:∀{k:Key}{v:Value},keyIs k v=true→(∃i t,k=Sum.inl i∧v=Value.int i t)∨(∃x t,k=Sum.inr x∧v=Value.str x t)
 | .inl i,v,h=>by
  obtain⟨t,e⟩:=Value.isInt_shape (k:=i) (v:=v) h
  exact .inl ⟨i,t,rfl,e⟩
 | .inr x,v,h=>by
  obtain⟨t,e⟩:=Value.isStrOf_shape (x:=x) (v:=v) h
  exact .inr ⟨x,t,rfl,e⟩
def kj0(i:Int)(t:Tok):keyIs (.inl i) (.int i t)=true:=by simp[keyIs,Value.isInt]
def km3(a b:Int):decide ((Sum.inl a:Key)=Sum.inl b)=(a==b):=by
 by_cases e:a=b
 ·subst e;simp
 ·have h:¬(Sum.inl a:Key)=Sum.inl b:=fun q=>e (Sum.inl.inj q)
  rw[decide_eq_false h]
  exact(beq_eq_false_iff_ne.mpr e).symm
def km0(a b:Str):decide ((Sum.inr a:Key)=Sum.inr b)=decide (a=b):=by
 by_cases e:a=b
 ·subst e;simp
 ·have h:¬(Sum.inr a:Key)=Sum.inr b:=fun q=>e (Sum.inr.inj q)
  rw[decide_eq_false h,decide_eq_false e]
def km2(a:Int)(b:Str):decide ((Sum.inl a:Key)=Sum.inr b)=false:=decide_eq_false (fun q=>nomatch q)
def km1(a:Str)(b:Int):decide ((Sum.inr a:Key)=Sum.inl b)=false:=decide_eq_false (fun q=>nomatch q)
noncomputable def kdi(prog:Program)(w:World):PySem.KeyKind prog w Key where
 is:=keyIs
 hash:=keyH w
 inj:=fun v a b ha hb=>by
  rcases ka0 ha with⟨i,t,rfl,rfl⟩|⟨x,t,rfl,rfl⟩
  ·rcases ka0 hb with⟨j,u,rfl,e⟩|⟨y,u,rfl,e⟩
   ·injection e with e1 _;rw[e1]
   ·exact nomatch e
  ·rcases ka0 hb with⟨j,u,rfl,e⟩|⟨y,u,rfl,e⟩
   ·exact nomatch e
   ·injection e with e1 _;rw[e1]
 byValue:=fun k v h=>by
  rcases ka0 h with⟨i,t,rfl,rfl⟩|⟨x,t,rfl,rfl⟩ <;> rfl
 pyHash:=fun hv h=>by
  rcases ka0 hv with⟨i,t,rfl,rfl⟩|⟨x,t,rfl,rfl⟩
  ·exact wpAny_pyHash_int h
  ·exact wpAny_pyHash_str h
 eqBool:=fun hu hv h=>by
  rcases ka0 hu with⟨i,t,rfl,rfl⟩|⟨x,t,rfl,rfl⟩
  ·rcases ka0 hv with⟨j,u,rfl,rfl⟩|⟨y,u,rfl,rfl⟩
   ·rw[km3] at h;exact wpAny_eqBool_int h
   ·rw[km2] at h;exact SeqAt.EqAt.int_str i t y u _ _ _ _ h
  ·rcases ka0 hv with⟨j,u,rfl,rfl⟩|⟨y,u,rfl,rfl⟩
   ·rw[km1] at h;exact SeqAt.EqAt.str_int x t j u _ _ _ _ h
   ·rw[km0] at h;exact wpAny_eqBool_str h
 «strs» :=fun k x t v h=>by
  rcases ka0 h with⟨i,u,rfl,e⟩|⟨y,u,rfl,e⟩
  ·exact nomatch e
  ·injection e with e1 _
   subst e1
   cases v <;> rfl
def khs(prog:Program)(w:World)(i:Int)(t:Tok):(kdi prog w).is (.inl i) (.int i t)=true:=kj0 i t
end L2
namespace L2
open PySem PySem.Spec PyProof.Rows
inductive V where
 |non|bl (b:Bool)|int (i:Int)|str (x:Str)|byt (b:Array UInt8)|flt (b:UInt64)|ref (a:Addr)|ty (n:String)
 deriving DecidableEq
noncomputable def RelV:V→Value→Prop
 | .non,u=>u=Value.none
 | .bl b,u=>u=Value.bool b
 | .int i,u=>∃t,u=Value.int i t
 | .str x,u=>∃t,u=Value.str x t
 | .byt b,u=>∃t,u=Value.bytes b t
 | .flt b,u=>∃t,u=Value.float b t
 | .ref a,u=>u=Value.ref a
 | .ty n,u=>u=Value.type n
noncomputable abbrev Vals:List V→List Value→Prop:=Paired RelV
def Vals.length{xs:List V}{us:List Value}(r:Vals xs us):xs.length=us.length:=Paired.length r
theorem Vals.get:∀{xs:List V}{us:List Value}{i:Nat}{x:V},Vals xs us→xs[i]?=some x→∃u,us[i]?=some u∧RelV x u
 |_,_,_,_, .nil,e=>by simp at e
 |_,_,0,_, .cons r _,e=>by simp at e;subst e;exact⟨_,rfl,r⟩
 |_,_,i+1,x, .cons _ t,e=>by
  obtain⟨u,h1,h2⟩:=Vals.get (i:=i) (x:=x) t (by simpa using e)
  exact⟨u,by simpa using h1,h2⟩
theorem Vals.set{x:V}{u:Value}(r:RelV x u):∀{xs:List V}{us:List Value}(i:Nat),Vals xs us→Vals (xs.set i x) (us.set i u)
 |_,_,_, .nil=>.nil
 |_,_,0, .cons _ t=>.cons r t
 |_,_,i+1, .cons q t=>.cons q (Vals.set r i t)
theorem Vals.append:∀{xs ys:List V}{us ws:List Value},Vals xs us→Vals ys ws→Vals (xs++ys) (us++ws)
 |_,_,_,_, .nil,s=>s
 |_,_,_,_, .cons r t,s=>.cons r (Vals.append t s)
theorem Vals.take:∀{xs:List V}{us:List Value}(n:Nat),Vals xs us→Vals (xs.take n) (us.take n)
 |_,_,0,_=>.nil
 |_,_,_+1, .nil=>.nil
 |_,_,n+1, .cons r t=>.cons r (Vals.take n t)
theorem Vals.drop:∀{xs:List V}{us:List Value}(n:Nat),Vals xs us→Vals (xs.drop n) (us.drop n)
 |_,_,0,r=>r
 |_,_,_+1, .nil=>.nil
 |_,_,n+1, .cons _ t=>Vals.drop n t
def Vals.none_of:∀{xs:List V}{us:List Value}{i:Nat},Vals xs us→xs[i]?=none→us[i]?=none:=fun {xs us i} r e=>by
 have h1:=r.length
 have h2:xs.length≤i:=Ek.mp e
 exact Ek.mpr (by omega)
noncomputable def RelO:Option V→Option Value→Prop
 |some v,some u=>RelV v u
 |none,none=>True
 |_,_=>False
noncomputable def KV{κ:Type}:List (κ×V)→List (κ×Value)→Prop:=Paired fun(p: κ×V)(q: κ×Value)=>p.1=q.1∧RelV p.2 q.2
noncomputable def kV:Key→V
 | .inl i=>.int i
 | .inr x=>.str x
inductive HO where
 |lst (xs:List V)
 |tup (xs:List V)
 |dK (kvs:List (Key×V))|dT (kvs:List (List Key×V))
 |set (S:Int→Bool) (n:Nat)
 |ins (C dx:Addr) (fs:List (Str×V))
 |own (x:Addr)
 |xd (fs:List (Str×V))
 |met (f x:Addr)
 |rng (lo hi:Int)
 |frz (o:Obj) (u:HO)
 |tbl (ps:Array Value)
 |ext (φ:Heap→Prop)
noncomputable abbrev Hp:=Addr→Option HO
noncomputable def upd(H:Hp)(a:Addr)(o:HO):Hp:=fun b=>if b=a then some o else H b
def kad{H:Hp}{a:Addr}{o:HO}:upd H a o a=some o:=by unfold upd;rw[if_pos rfl]
def kaj{H:Hp}{a b:Addr}{o:HO}(h:b≠a):upd H a o b=H b:=by unfold upd;rw[if_neg h]
def klW{H:Hp}{a:Addr}{o u:HO}:upd (upd H a o) a u=upd H a u:=by
 funext b;unfold upd;split <;> rfl
def ne_of{H:Hp}{a b:Addr}{o u:HO}(h:H a=some o)(h':H b=some u)(d:o≠u):a≠b:=by
 intro e;subst e;rw[h] at h';exact d (Option.some.inj h')
def kag{H:Hp}{a b:Addr}{o:HO}(h:H a=some o)(h':H b=none):a≠b:=by
 intro e;subst e;rw[h] at h';cases h'
section
variable (P:Program) (w:World)
noncomputable def ObjOk(H:Hp)(h:Heap)(a:Addr):HO→Prop
 | .lst xs=>xs.length≤sizeLine∧∃(its:List Value)(n:Nat),Vals xs its∧h.get? a=some {cls:=.type "list",data:=.seq its.toArray n}
 | .tup xs=>xs.length≤sizeLine∧∃its:List Value,Vals xs its∧IsTup h a its.toArray
 | .dK kvs=>kvs.length≤sizeLine∧(a==sysModules)=false∧∃vs,KV kvs vs∧h.DictOf (kdi P w) a vs
 | .dT kvs=>kvs.length≤sizeLine∧(a==sysModules)=false∧∃xs:List (List Key×Addr×Value),
   Paired (fun(p:List Key×V)(q:List Key×Addr×Value)=>p.1=q.1∧H q.2.1=some (.tup (p.1.map kV))∧RelV p.2 q.2.2) kvs xs∧
   ∃o es ep,h.get? a=some o∧o.ExactDict∧o.data=.dict es ep∧es.toList=xs.map (entryOfKey (tupleKind (kdi P w)))∧(xs.map (·.1)).Nodup
 | .set S n=>h.SetOf (intKind P w) a S n
 | .ins C dx fs=>H dx=some (.own a)∧fs.length≤1000∧dx≠a∧h.get? a=some (Md C dx)∧
   ∃mA,h.Ns1 dx mA∧(∀f,RelO (fs.lookup f) (mA f))∧PySem.Within mA (fs.map (·.1))
 | .own _=>∃o,h.get? a=some o
 | .xd fs=>∃mA,h.Ns1 a mA∧∀f,RelO (fs.lookup f) (mA f)
 | .rng lo hi=>∃t u v,h.get? a=some {cls:=.type "range",data:=.fields #[.int lo t, .int hi u, .int 1 v]}
 | .frz o u=>h.get? a=some o∧ObjOk H h a u
 | .tbl ps=>h.get? a=some {cls:=.none,data:=.fields ps}
 | .met f x=>h.get? a=some (El (.ref f) (.ref x))
 | .ext φ=>φ h∧(∃o,h.get? a=some o)∧∀h1 h2:Heap,φ h1→(∀o,h1.get? a=some o→h2.get? a=some o)→φ h2
noncomputable def HOk(H:Hp)(h:Heap):Prop:=∀a o,H a=some o→ObjOk P w H h a o
end
section
variable {P:Program} {w:World} {H H':Hp} {h h':Heap} {a:Addr} {o:HO}
theorem ObjOk.lt(x:ObjOk P w H h a o):a<h.objs.size:=by
 cases o with
 |lst xs=>obtain⟨_,_,_,_,e⟩:=x;exact Heap.lt_size e
 |tup xs=>obtain⟨_,_,_,p⟩:=x;exact p.lt
 |dK kvs=>obtain⟨_,_,_,_,o,_,_,e,_⟩:=x;exact Heap.lt_size e
 |dT kvs=>obtain⟨_,_,_,_,o,_,_,e,_⟩:=x;exact Heap.lt_size e
 |set S n=>obtain⟨o,_,_,_,e,_⟩:=x;exact Heap.lt_size e
 |ins C dx fs=>obtain⟨_,_,_,e,_⟩:=x;exact Heap.lt_size e
 |own y=>obtain⟨_,e⟩:=x;exact Heap.lt_size e
 |xd fs=>obtain⟨_,⟨_,_,_,e,_⟩,_⟩:=x;exact Heap.lt_size e
 |rng lo hi=>obtain⟨_,_,_,e⟩:=x;exact Heap.lt_size e
 |frz ob u=>obtain⟨e,_⟩:=x;exact Heap.lt_size e
 |tbl ps=>exact Heap.lt_size (show h.get? a=some _ from x)
 |met f y=>exact Heap.lt_size (show h.get? a=some _ from x)
 |ext φ=>obtain⟨_,⟨_,e⟩,_⟩:=x;exact Heap.lt_size e
theorem Paired.mapP{α β:Type}{F G: α→β→Prop}:∀{l₁:List α}{l₂:List β},Paired F l₁ l₂→(∀a b,F a b→G a b)→Paired G l₁ l₂
 |_,_, .nil,_=>.nil
 |_,_, .cons r t,f=>.cons (f _ _ r) (Paired.mapP t f)
theorem ObjOk.stay(x:ObjOk P w H h a o)(k:∀b u,(b=a∨H b=some (.own a))→h.get? b=some u→h'.get? b=some u)
  (ho:∀b,H b=some (.own a)→H' b=some (.own a)) (ht:∀b xs,H b=some (.tup xs)→H' b=some (.tup xs)):ObjOk P w H' h' a o:=by
 induction o with
 |lst xs=>obtain⟨z,its,n,r,e⟩:=x;exact⟨z,its,n,r,k _ _ (.inl rfl) e⟩
 |tup xs=>obtain⟨z,its,r,ob,e,c⟩:=x;exact⟨z,its,r,ob,k _ _ (.inl rfl) e,c⟩
 |dK kvs=>obtain⟨z,y,vs,r,ob,es,ep,e,c⟩:=x;exact⟨z,y,vs,r,ob,es,ep,k _ _ (.inl rfl) e,c⟩
 |dT kvs=>
  obtain⟨z,y,xs,r,ob,es,ep,e,c⟩:=x
  exact⟨z,y,xs,Paired.mapP r fun p q z=>⟨z.1,ht _ _ z.2.1,z.2.2⟩,ob,es,ep,k _ _ (.inl rfl) e,c⟩
 |set S n=>obtain⟨ob,es,ep,t,e,c⟩:=x;exact⟨ob,es,ep,t,k _ _ (.inl rfl) e,c⟩
 |ins C dx fs=>
  obtain⟨d,z,ne,e,mA,⟨od,es,ep,e2,c⟩,r⟩:=x
  exact⟨ho _ d,z,ne,k _ _ (.inl rfl) e,mA,⟨od,es,ep,k _ _ (.inr d) e2,c⟩,r⟩
 |own y=>obtain⟨ob,e⟩:=x;exact⟨ob,k _ _ (.inl rfl) e⟩
 |xd fs=>obtain⟨mA,⟨od,es,ep,e,c⟩,r⟩:=x;exact⟨mA,⟨od,es,ep,k _ _ (.inl rfl) e,c⟩,r⟩
 |rng lo hi=>obtain⟨t,u,v,e⟩:=x;exact⟨t,u,v,k _ _ (.inl rfl) e⟩
 |frz ob u ih=>obtain⟨e,q⟩:=x;exact⟨k _ _ (.inl rfl) e,ih q⟩
 |tbl ps=>
  have e:h.get? a=some {cls:=.none,data:=.fields ps}:=x
  show h'.get? a=some {cls:=.none,data:=.fields ps}
  exact k a _ (.inl rfl) e
 |met f y=>
  have e:h.get? a=some (El (.ref f) (.ref y)):=x
  show h'.get? a=some (El (.ref f) (.ref y))
  exact k a _ (.inl rfl) e
 |ext φ=>obtain⟨p,⟨o,e⟩,st⟩:=x;exact⟨st _ _ p fun o q=>k _ _ (.inl rfl) q,⟨o,k _ _ (.inl rfl) e⟩,st⟩
theorem HOk.lt(x:HOk P w H h)(e:H a=some o):a<h.objs.size:=(x a o e).lt
theorem HOk.fresh(x:HOk P w H h)(e:h.objs.size≤a):H a=none:=by
 cases q:H a with
 |none=>rfl
 |some u=>exact absurd (Nj (x.lt q) e) (NV _)
theorem HOk.kept(x:HOk P w H h)(k:∀b u,h.get? b=some u→h'.get? b=some u):HOk P w H h':=fun a o e=>
 (x a o e).stay (fun b u _ q=>k b u q) (fun _ q=>q) fun _ _ q=>q
theorem HOk.laid(x:HOk P w H h)(k:∀b u,h.get? b=some u→h'.get? b=some u)(hp:h.objs.size≤a)(new:ObjOk P w (upd H a o) h' a o):HOk P w (upd H a o) h':=fun b u e=>by
 have hn:=x.fresh hp
 by_cases hb:b=a
 ·subst hb;rw[kad] at e;cases e;exact new
 ·rw[kaj hb] at e
  exact(x b u e).stay (fun c v _ q=>k c v q) (fun c q=>by rw[kaj (kag q hn)];exact q) fun c xs q=>by rw[kaj (kag q hn)];exact q
end
noncomputable def Rd(H:Hp)(a:Addr)(u:HO):Prop:=H a=some u∨∃o,H a=some (.frz o u)
def Rd.of{H:Hp}{a:Addr}{u:HO}(h:H a=some u):Rd H a u:=.inl h
def Rd.ok{P:Program}{w:World}{H:Hp}{h:Heap}{a:Addr}{u:HO}(r:Rd H a u)(x:HOk P w H h):ObjOk P w H h a u:=by
 rcases r with r|⟨o,r⟩
 ·exact x a u r
 ·obtain⟨_,q⟩:=x a _ r
  exact q
noncomputable def Mut:Option HO→Prop
 |some (.lst _)=>True
 |some (.dK _)=>True
 |some (.dT _)=>True
 |some (.set _ _)=>True
 |some (.ins _ _ _)=>True
 |some (.ext _)=>True
 |_=>False
section
variable {P:Program} {w:World} {H:Hp} {h h':Heap} {x e:Addr} {o':HO}
theorem HOk.write(ok:HOk P w H h)(mu:Mut (H x))(he:e=x∨H e=some (.own x))(k:∀b u,b≠e→h.get? b=some u→h'.get? b=some u)(heo:∃u,h'.get? e=some u)
  (new:ObjOk P w (upd H x o') h' x o'):HOk P w (upd H x o') h':=fun b u q=>by
 have nown:∀c y,H c=some (.own y)→c≠x:=fun c y r z=>by subst z;rw[r] at mu;exact mu
 have ntup:∀c xs,H c=some (.tup xs)→c≠x:=fun c xs r z=>by subst z;rw[r] at mu;exact mu
 by_cases hb:b=x
 ·subst hb;rw[kad] at q;cases q;exact new
 ·rw[kaj hb] at q
  by_cases hbe:b=e
  ·have q':H b=some (.own x):=by
    rcases he with z|z
    ·exact absurd (hbe.trans z) hb
    ·rw[hbe];exact z
   rw[q] at q';cases q'
   obtain⟨v,hv⟩:=heo
   exact⟨v,by rw[hbe];exact hv⟩
  ·refine(ok b u q).stay (fun c v hc r=>k c v ?_ r) (fun c r=>by rw[kaj (nown c b r)];exact r) fun c xs r=>by rw[kaj (ntup c xs r)];exact r
   rcases hc with rfl|hc
   ·exact hbe
   ·rintro rfl
    rcases he with z|z
    ·exact nown c b hc z
    ·rw[hc] at z;cases z;exact hb rfl
end
structure Un (fs ex:List Addr) (H H':Hp) (h h':Heap):Prop where
 keep:∀b o,h.get? b=some o→H b=none→b∉fs→b∉ex→h'.get? b=some o
 slot:∀b o,h.get? b=some o→H b=none→b∈fs→b∉ex→∃sl,h'.get? b=some {o with slots:=sl}
 free:∀b o,h.get? b=some o→H b=none→b∉ex→H' b=none
 there:∀b o,h.get? b=some o→b∉ex→∃o',h'.get? b=some o'
 tups:∀b xs,H b=some (.tup xs)→H' b=some (.tup xs)
 frzs:∀b o u,H b=some (.frz o u)→H' b=some (.frz o u)
 tbls:∀b ps,H b=some (.tbl ps)→∃more,H' b=some (.tbl (ps++more))
section
variable {fs fs' ex ex':List Addr} {H H1 H2:Hp} {h h1 h2 h':Heap} {a x e:Addr} {o:HO}
theorem Un.any(u:Un fs ex H H1 h h1){b:Addr}{ob:Obj}(q:h.get? b=some ob)(n:H b=none)(hx:b∉ex):∃sl,h1.get? b=some {ob with slots:=sl}:=by
 by_cases hb:b∈fs
 ·exact u.slot b ob q n hb hx
 ·exact⟨ob.slots,u.keep b ob q n hb hx⟩
theorem Un.trans(a:Un fs ex H H1 h h1)(b:Un fs ex H1 H2 h1 h2):Un fs ex H H2 h h2 where
 keep:=fun c ob q n hc hx=>b.keep c ob (a.keep c ob q n hc hx) (a.free c ob q n hx) hc hx
 slot:=fun c ob q n hc hx=>by
  obtain⟨sl,e1⟩:=a.slot c ob q n hc hx
  obtain⟨sl',e2⟩:=b.slot c _ e1 (a.free c ob q n hx) hc hx
  exact⟨sl',e2⟩
 free:=fun c ob q n hx=>by
  obtain⟨o',e1⟩:=a.there c ob q hx
  exact b.free c o' e1 (a.free c ob q n hx) hx
 there:=fun c ob q hx=>by
  obtain⟨o',e1⟩:=a.there c ob q hx
  exact b.there c o' e1 hx
 tups:=fun c xs q=>b.tups c xs (a.tups c xs q)
 frzs:=fun c ob xs q=>b.frzs c ob xs (a.frzs c ob xs q)
 tbls:=fun c ps q=>by
  obtain⟨m1,e1⟩:=a.tbls c ps q
  obtain⟨m2,e2⟩:=b.tbls c _ e1
  exact⟨m1++m2,by rw[e2,Array.append_assoc]⟩
theorem Un.kept(k:∀b u,h.get? b=some u→h'.get? b=some u):Un fs ex H H h h':=
 ⟨fun b ob q _ _ _=>k b ob q,fun b ob q _ _ _=>⟨ob.slots,k b ob q⟩,fun _ _ _ n _=>n,fun b ob q _=>⟨ob,k b ob q⟩,fun _ _ q=>q,fun _ _ _ q=>q,fun _ ps q=>⟨#[],by rw[q];simp⟩⟩
theorem Un.refl:Un fs ex H H h h:=Un.kept fun _ _ q=>q
theorem Un.laid(k:∀b u,h.get? b=some u→h'.get? b=some u)(hp:h.objs.size≤a)(hn:H a=none):Un fs ex H (upd H a o) h h' where
 keep:=fun b u q _ _ _=>k b u q
 slot:=fun b u q _ _ _=>⟨u.slots,k b u q⟩
 free:=fun b u q n _=>by rw[kaj (Nk (Nj (Heap.lt_size q) hp))];exact n
 there:=fun b u q _=>⟨u,k b u q⟩
 tups:=fun b xs q=>by rw[kaj (kag q hn)];exact q
 frzs:=fun b u xs q=>by rw[kaj (kag q hn)];exact q
 tbls:=fun b ps q=>⟨#[],by rw[kaj (kag q hn),q];simp⟩
theorem Un.write(mu:Mut (H x))(he:e=x∨H e=some (.own x))(k:∀b u,b≠e→h.get? b=some u→h'.get? b=some u)(heo:∃u,h'.get? e=some u):Un fs ex H (upd H x o) h h':=by
 have hx:∀b,H b=none→b≠x:=fun b n z=>by subst z;rw[n] at mu;exact mu
 have hb:∀b,H b=none→b≠e:=fun b n z=>by
  subst z
  rcases he with r|r
  ·exact hx b n r
  ·rw[n] at r;cases r
 have hm:∀b u,H b=some u→¬Mut (some u)→b≠x:=fun b u q nm z=>by subst z;rw[q] at mu;exact nm mu
 refine⟨fun b u q n _ _=>k b u (hb b n) q,fun b u q n _ _=>⟨u.slots,k b u (hb b n) q⟩,fun b u q n _=>by rw[kaj (hx b n)];exact n,fun b u q _=>?_,
  fun b xs q=>by rw[kaj (hm b _ q fun z=>z)];exact q,fun b u xs q=>by rw[kaj (hm b _ q fun z=>z)];exact q,fun b ps q=>⟨#[],by rw[kaj (hm b _ q fun z=>z),q];simp⟩⟩
 by_cases hbe:b=e
 ·subst hbe;exact heo
 ·exact⟨u,k b u hbe q⟩
theorem Un.mono(u:Un fs ex H H1 h h1)(hs:∀b∈fs,b∈fs')(hx:∀b∈ex,b∈ex'):Un fs' ex' H H1 h h1:=
 ⟨fun b ob q n hb he=>u.keep b ob q n (fun z=>hb (hs b z)) fun z=>he (hx b z),fun _ _ q n _ he=>u.any q n fun z=>he (hx _ z),fun b ob q n he=>u.free b ob q n fun z=>he (hx b z),fun b ob q he=>u.there b ob q fun z=>he (hx b z),u.tups,u.frzs,u.tbls⟩
end
noncomputable def trk(h:Heap)(H:Hp):List Addr:=(JQ h.objs.size).filter fun a=>(H a).isSome
noncomputable def hidT(h:Heap)(H:Hp):Heap:=PySem.W.hideAll h (trk h H)
def kj6(h:Heap)(H:Hp):(hidT h H).objs.size=h.objs.size:=PySem.W.hideAll_size _ _
def kk3{h:Heap}{H:Hp}{b:Addr}{o:Obj}(e:h.get? b=some o)(n:H b=none):(hidT h H).get? b=some o:=
 PySem.W.hideAll_get _ e fun hm=>by
  have q:(H b).isSome=true:=(Np.mp hm).2
  rw[n] at q;simp at q
theorem kmj{h:Heap}{H:Hp}{b:Addr}{o:Obj}(e:(hidT h H).get? b=some o):h.get? b=some o∧H b=none:=by
 have e':h.get? b=some o:=PySem.W.of_hideAll (trk h H) e
 refine⟨e',?_⟩
 cases q:H b with
 |none=>rfl
 |some x=>
  have hm:b∈trk h H:=Np.mpr ⟨MD.mpr (Heap.lt_size e'),by simp[q]⟩
  have z:(hidT h H).get? b=none:=PySem.W.hideAll_none (trk h H) hm
  rw[z] at e;cases e
noncomputable def kmE(g h:Heap)(L:Addr):List (Addr×Obj):=(JQ h.objs.size).filterMap fun a=>if a=L∨(g.get? a).isSome=true then none else(h.get? a).map fun o=>(a,o)
noncomputable def rest(g h:Heap)(L d:Addr):List (Addr×Obj):=(kmE g h L).filter fun p=>decide (p.1≠d)
end L2
namespace L2
open PySem PySem.Spec PyProof.Rows
structure Mod (K:JN) (mg:Str→Option Value) (base:Heap):Prop where
 kin:K.In base
 glob:base.Ns mainGlobals mg
 blt:∃mb,base.Ns builtinsNs mb∧∀x:Str,x≠"__name__"→mb x=bootBuiltins x
 nolimit:base.NoLimit
structure Cx where
 prog:Program
 w:World
 K:JN
 mg:Str→Option Value
 base:Heap
 A:Around
 N:List Str
 s₀:Shared
 H₀:Hp
 env:Env
 outer:List Env
 stack:List Env
 ex:List Addr
 fn:Str→Bool
 calm:Bool
 pn:List (Addr×Obj)
 xe:Value→Shared→Prop
noncomputable def frs(l:List Env):List Addr:=l.filterMap (·.frame)
noncomputable abbrev Cx.fs(X:Cx):List Addr:=frs X.outer
noncomputable def Vis(sc:Scope)(x:Str):Prop:=sc.names.lookup x=some .local∨sc.names.lookup x=some .cell∨sc.names.lookup x=some .free
noncomputable def Loc(sc:Scope)(x:Str):Prop:=sc.names.lookup x=some .local∨sc.names.lookup x=some .cell
noncomputable def Look(env:Env)(h:Heap)(m:Str→Option Value)(x:Str)(u:Value):Prop:=
 (env.kindOf x=some .local∧m x=some u)∨((env.kindOf x=some .cell∨env.kindOf x=some .free)∧∃c,env.cells.lookup x=some c∧h.IsCell c (some u))
structure Cx.Ok (X:Cx):Prop where
 mod:Mod X.K X.mg X.base
 kind:X.env.scope.kind=.function
 glob:X.env.globals=mainGlobals
 blt:X.env.builtins=builtinsNs
 above:X.s₀.heap.objs.size≤X.env.locals
 inj:∀x y c,X.env.cells.lookup x=some c→X.env.cells.lookup y=some c→x=y
 has:∀x,(X.env.kindOf x=some .cell∨X.env.kindOf x=some .free)→∃c,X.env.cells.lookup x=some c
 cab:∀x c,X.fn x=true→X.env.cells.lookup x=some c→X.s₀.heap.objs.size≤c
 hd:X.calm=true→X.A.handled=none
 frames:X.A.frames=some X.stack
 stk:X.stack=X.outer∨(X.stack=X.env::X.outer∧X.env.frame=some X.env.locals)
 exf:∀b∈X.ex,b≠X.env.locals∧∀x c,X.env.cells.lookup x=some c→c≠b
 bs:∀b o,X.base.get? b=some o→X.s₀.heap.get? b=some o∧X.H₀ b=none
 bsz:X.base.objs.size≤X.s₀.heap.objs.size
 noex:∀b o,X.base.get? b=some o→b∉X.ex
 exfs:∀b∈X.ex,b∉X.fs
 funs:X.s₀.heap.FunFrames X.base X.outer
 frf:∀b∈X.fs,X.H₀ b=none
structure Inv (X:Cx) (pins:List (Addr×Obj)) (σ:List (Option V)) (H:Hp) (s:Shared):Prop where
 ok:X.Ok
 os:s.os=X.s₀.os
 bare:AllBare s.gens
 base:Un X.fs X.ex X.H₀ H X.s₀.heap s.heap
 loc:∃m,s.heap.Ns X.env.locals m∧∀(i:Nat)(x:Str)(v:V),X.N[i]?=some x→σ[i]?=some (some v)→Vis X.env.scope x→∃u,RelV v u∧Look X.env s.heap m x u
 cell:∀x c,X.env.cells.lookup x=some c→∃v,s.heap.IsCell c v
 free:H X.env.locals=none
 freeC:∀x c,X.env.cells.lookup x=some c→H c=none
 pin:∀p∈X.pn++pins,s.heap.get? p.1=some p.2∧H p.1=none∧p.1≠X.env.locals∧p.1∉X.fs∧∀v,p.2.data≠.cell v
 hok:HOk X.prog X.w H s.heap
 len: σ.length=X.N.length
section
variable {X:Cx} {pins:List (Addr×Obj)} {σ:List (Option V)} {H H':Hp} {s:Shared} {h':Heap}
theorem Cx.Ok.nofr(ok:X.Ok){b:Addr}{o:Obj}(e:X.base.get? b=some o):b∉X.fs:=fun hb=>by
 have:=(ok.funs.mem hb).1
 rw[e] at this;cases this
theorem Inv.bs(I:Inv X pins σ H s):∀b o,X.base.get? b=some o→s.heap.get? b=some o∧H b=none:=fun b o e=>
 ⟨I.base.keep b o (I.ok.bs b o e).1 (I.ok.bs b o e).2 (I.ok.nofr e) (I.ok.noex b o e),I.base.free b o (I.ok.bs b o e).1 (I.ok.bs b o e).2 (I.ok.noex b o e)⟩
theorem Inv.bk(I:Inv X pins σ H s):∀b o,X.base.get? b=some o→s.heap.get? b=some o:=fun b o e=>(I.bs b o e).1
theorem Inv.mod(I:Inv X pins σ H s):Mod X.K X.mg X.base:=I.ok.mod
theorem Inv.kIn(I:Inv X pins σ H s):X.K.In s.heap:=I.ok.mod.kin.keeps I.bk
theorem Inv.nolimit(I:Inv X pins σ H s):s.heap.NoLimit:=I.ok.mod.nolimit.keeps I.bk
theorem Inv.fr(I:Inv X pins σ H s):∃m,Fr X.base X.env.locals s.heap m:=
 let⟨m,hn,_⟩:=I.loc
 ⟨m,hn,I.bk,JR I.ok.bsz I.ok.above⟩
theorem Inv.lt(I:Inv X pins σ H s):X.env.locals<s.heap.objs.size:=let⟨_,hn,_⟩:=I.loc;hn.lt
theorem Inv.sz(I:Inv X pins σ H s):X.s₀.heap.objs.size≤s.heap.objs.size:=JR I.ok.above (Nc I.lt)
theorem Inv.nofs(I:Inv X pins σ H s){a:Addr}(h:s.heap.objs.size≤a):a∉X.fs:=fun hb=>by
 obtain⟨_,o,ho,_⟩:=I.ok.funs.mem hb
 exact absurd (Nj (Heap.lt_size ho) (JR I.sz h)) (NV _)
theorem Inv.cne(I:Inv X pins σ H s):∀x c,X.env.cells.lookup x=some c→c≠X.env.locals:=fun x c e z=>by
 obtain⟨v,o,ho,hd⟩:=I.cell x c e
 obtain⟨m,⟨o',es,ep,ho',hd',_⟩,_⟩:=I.loc
 rw[z,ho'] at ho;cases ho;rw[hd'] at hd;cases hd
theorem Inv.funs(I:Inv X pins σ H s):s.heap.FunFrames X.base X.outer:=by
 have all:∀(l:List Env),(∀b∈frs l,b∈X.fs)→X.s₀.heap.FunFrames X.base l→s.heap.FunFrames X.base l:=by
  intro l
  induction l with
  |nil=>intro _ _;trivial
  |cons env r ih=>
   intro hs hl
   obtain⟨hk,⟨L,o,hf,hn,ho,hd⟩,hr⟩:=hl
   have hL:L∈X.fs:=hs L (by unfold frs;rw[Mp,hf];exact Na)
   obtain⟨sl,e⟩:=I.base.slot L o ho (I.ok.frf L hL) hL fun z=>I.ok.exfs L z hL
   exact⟨hk,⟨L,_,hf,hn,e,hd⟩,ih (fun b hb=>hs b (by unfold frs;rw[Mp,hf];exact J5 _ hb)) hr⟩
 exact all X.outer (fun _ hb=>hb) I.ok.funs
theorem Inv.stack(I:Inv X pins σ H s):s.heap.FunFrames X.base X.stack:=by
 rcases I.ok.stk with e|⟨e,hf⟩
 ·rw[e];exact I.funs
 ·rw[e]
  obtain⟨m,hn,_⟩:=I.loc
  refine .cons (by rw[I.ok.kind];decide) hf hn ?_ I.funs
  exact Heap.get?_none_of_le (JR I.ok.bsz I.ok.above)
theorem Inv.stkSub(I:Inv X pins σ H s):∀b∈frs X.stack,b∈X.env.locals::X.fs:=fun b hb=>by
 rcases I.ok.stk with e|⟨e,hf⟩
 ·rw[e] at hb;exact J5 _ hb
 ·rw[e] at hb
  unfold frs at hb
  rw[Mp,hf] at hb
  exact hb
theorem Inv.stkFree(I:Inv X pins σ H s):∀b∈frs X.stack,H b=none:=fun b hb=>by
 rcases Nd.mp (I.stkSub b hb) with e|hb
 ·rw[e];exact I.free
 ·obtain⟨_,o,ho,_⟩:=I.ok.funs.mem hb
  exact I.base.free b o ho (I.ok.frf b hb) fun z=>I.ok.exfs b z hb
theorem Inv.step{g':Array GenState}{t':Nat}{d':Drawn}{ch:List Addr}(I:Inv X pins σ H s)
  (hch:∀b∈ch,(b∈X.ex∨X.s₀.heap.objs.size≤b)∧b≠X.env.locals∧(∀x c,X.env.cells.lookup x=some c→c≠b)∧∀p∈X.pn++pins,p.1≠b)
  (keep:∀b o,b≠X.env.locals→b∉X.fs→b∉ch→s.heap.get? b=some o→H b=none→h'.get? b=some o)
  (slot:∀b o,b≠X.env.locals→b∈X.fs→b∉ch→s.heap.get? b=some o→H b=none→∃sl,h'.get? b=some {o with slots:=sl}) (free:∀b o,b∉ch→s.heap.get? b=some o→H b=none→H' b=none)
  (there:∀b o,b∉ch→s.heap.get? b=some o→∃o',h'.get? b=some o')
  (tups:∀b xs,H b=some (.tup xs)→H' b=some (.tup xs)) (frzs:∀b o u,H b=some (.frz o u)→H' b=some (.frz o u)) (tbls:∀b ps,H b=some (.tbl ps)→∃more,H' b=some (.tbl (ps++more)))
  (ns:∀m,s.heap.Ns X.env.locals m→h'.Ns X.env.locals m) (hok:HOk X.prog X.w H' h') (hg:AllBare g'):
  Inv X pins σ H' {s with heap:=h',gens:=g',drawn:=d',toks:=t'}:=by
 have neL:∀b o,X.s₀.heap.get? b=some o→b≠X.env.locals:=fun b o e=>Nk (Nj (Heap.lt_size e) I.ok.above)
 have neC:∀b o,X.s₀.heap.get? b=some o→b∉X.ex→b∉ch:=fun b o e hx hb=>by
  rcases(hch b hb).1 with z|z
  ·exact hx z
  ·exact absurd (Nj (Heap.lt_size e) z) (NV _)
 have cellK:∀x c,X.env.cells.lookup x=some c→∀v,s.heap.IsCell c v→h'.IsCell c v:=fun x c e v ⟨o,ho,hd⟩=>by
  have nch:c∉ch:=fun z=>(hch c z).2.2.1 x c e rfl
  by_cases hc:c∈X.fs
  ·obtain⟨sl,q⟩:=slot c o (I.cne x c e) hc nch ho (I.freeC x c e)
   exact⟨_,q,hd⟩
  ·exact⟨o,keep c o (I.cne x c e) hc nch ho (I.freeC x c e),hd⟩
 refine⟨I.ok,I.os,hg,⟨fun b o e n hb hx=>?_,fun b o e n hb hx=>?_,fun b o e n hx=>?_,fun b o e hx=>?_,fun b xs e=>tups b xs (I.base.tups b xs e),fun b o xs e=>frzs b o xs (I.base.frzs b o xs e),fun b ps e=>?_⟩,?_,fun x c e=>?_,?_,fun x c e=>?_,fun p hp=>?_,hok,I.len⟩
 ·exact keep b o (neL b o e) hb (neC b o e hx) (I.base.keep b o e n hb hx) (I.base.free b o e n hx)
 ·obtain⟨sl,e1⟩:=I.base.slot b o e n hb hx
  obtain⟨sl',e2⟩:=slot b _ (neL b o e) hb (neC b o e hx) e1 (I.base.free b o e n hx)
  exact⟨sl',e2⟩
 ·obtain⟨o',e1⟩:=I.base.there b o e hx
  exact free b o' (neC b o e hx) e1 (I.base.free b o e n hx)
 ·obtain⟨o',e1⟩:=I.base.there b o e hx
  exact there b o' (neC b o e hx) e1
 ·obtain⟨m1,e1⟩:=I.base.tbls b ps e
  obtain⟨m2,e2⟩:=tbls b _ e1
  exact⟨m1++m2,by rw[e2,Array.append_assoc]⟩
 ·obtain⟨m,hn,hl⟩:=I.loc
  refine⟨m,ns m hn,fun i x v e1 e2 e3=>?_⟩
  obtain⟨u,r,l⟩:=hl i x v e1 e2 e3
  refine⟨u,r,?_⟩
  rcases l with l|⟨k,c,e,z⟩
  ·exact .inl l
  ·exact .inr ⟨k,c,e,cellK x c e _ z⟩
 ·obtain⟨v,z⟩:=I.cell x c e
  exact⟨v,cellK x c e v z⟩
 ·obtain⟨m,⟨o,_,_,ho,_⟩,_⟩:=I.loc
  exact free _ o (fun z=>(hch _ z).2.1 rfl) ho I.free
 ·obtain⟨v,o,ho,hd⟩:=I.cell x c e
  exact free c o (fun z=>(hch c z).2.2.1 x c e rfl) ho (I.freeC x c e)
 ·obtain⟨e,n,ne,nf,d⟩:=I.pin p hp
  have nch:p.1∉ch:=fun z=>(hch p.1 z).2.2.2 p hp rfl
  exact⟨keep p.1 p.2 ne nf nch e n,free p.1 p.2 nch e n,ne,nf,d⟩
theorem Inv.un{t':Nat}(I:Inv X pins σ H s)(u:Un X.fs [] H H' s.heap h')(hok:HOk X.prog X.w H' h'):Inv X pins σ H' {s with heap:=h',toks:=t'}:=by
 obtain⟨m,⟨o,es,ep,ho,r⟩,_⟩:=id I.loc
 obtain⟨sl,hL⟩:=u.any ho I.free (by simp)
 exact I.step (g':=s.gens) (d':=s.drawn) (ch:=[]) (fun _ z=>nomatch z) (fun b o _ hb _ e n=>u.keep b o e n hb (by simp)) (fun b o _ hb _ e n=>u.slot b o e n hb (by simp)) (fun b o _ e n=>u.free b o e n (by simp)) (fun b o _ e=>u.there b o e (by simp)) u.tups u.frzs u.tbls (fun m' hm=>by
  obtain⟨o',es',ep',ho',r'⟩:=hm
  rw[ho] at ho';cases ho'
  exact⟨_,es',ep',hL,r'⟩) hok I.bare
theorem Inv.call{g':Array GenState}{t':Nat}{d':Drawn}{ch:List Addr}(I:Inv X pins σ H s)(u:Un (frs X.stack) ch H H' s.heap h')(hok:HOk X.prog X.w H' h')(hg:AllBare g')
  (hch:∀b∈ch,(b∈X.ex∨X.s₀.heap.objs.size≤b)∧b≠X.env.locals∧(∀x c,X.env.cells.lookup x=some c→c≠b)∧∀p∈X.pn++pins,p.1≠b):
  Inv X pins σ H' {s with heap:=h',gens:=g',drawn:=d',toks:=t'}:=by
 obtain⟨m,⟨o,es,ep,ho,r⟩,_⟩:=id I.loc
 obtain⟨sl,hL⟩:=u.any ho I.free fun z=>(hch _ z).2.1 rfl
 exact I.step (ch:=ch) hch (fun b o hL hb hc e n=>u.keep b o e n (fun z=>(Nd.mp (I.stkSub b z)).elim hL hb) hc) (fun b o _ _ hc e n=>u.any e n hc) (fun b o hc e n=>u.free b o e n hc) (fun b o hc e=>u.there b o e hc) u.tups u.frzs u.tbls (fun m' hm=>by
  obtain⟨o',es',ep',ho',r'⟩:=hm
  rw[ho] at ho';cases ho'
  exact⟨_,es',ep',hL,r'⟩) hok hg
theorem Inv.turned{t':Nat}{it:Addr}(I:Inv X pins σ H s)(k:∀b o,b≠it→s.heap.get? b=some o→h'.get? b=some o)(hn:H it=none)(hL:it≠X.env.locals)
  (h1:it∈X.ex∨X.s₀.heap.objs.size≤it) (h2:∀x c,X.env.cells.lookup x=some c→c≠it) (h3:∀p∈X.pn++pins,p.1≠it):Inv X pins σ H {s with heap:=h',toks:=t'}:=by
 have nit:∀b u,H b=some u→b≠it:=fun b u e z=>by rw[z,hn] at e;cases e
 refine I.step (g':=s.gens) (d':=s.drawn) (ch:=[it]) (fun b hb=>?_) (fun b o _ _ hc e _=>k b o (fun z=>hc (by simp[z])) e) (fun b o _ _ hc e _=>⟨o.slots,k b o (fun z=>hc (by simp[z])) e⟩) (fun _ _ _ _ n=>n)
  (fun b o hc e=>⟨o,k b o (fun z=>hc (by simp[z])) e⟩) (fun _ _ e=>e) (fun _ _ _ e=>e) (fun b ps e=>⟨#[],by rw[e];simp⟩) (fun m hm=>?_) (fun b u e=>?_) I.bare
 ·have e:b=it:=by simpa using hb
  subst e
  exact⟨h1,hL,h2,h3⟩
 ·obtain⟨o,es,ep,ho,r⟩:=hm
  exact⟨o,es,ep,k _ o (Ne.symm hL) ho,r⟩
 ·refine(I.hok b u e).stay (fun c v hc q=>k c v ?_ q) (fun _ q=>q) fun _ _ q=>q
  rcases hc with z|z
  ·rw[z];exact nit b u e
  ·exact nit c _ z
theorem Inv.tok(I:Inv X pins σ H s)(t:Nat):Inv X pins σ H {s with toks:=t}:=I.un (h':=s.heap) (t':=t) Un.refl I.hok
theorem Inv.kept{t':Nat}(I:Inv X pins σ H s)(k:∀b u,s.heap.get? b=some u→h'.get? b=some u):Inv X pins σ H {s with heap:=h',toks:=t'}:=I.un (Un.kept k) (I.hok.kept k)
theorem Inv.laid{a:Addr}{o:HO}{t':Nat}(I:Inv X pins σ H s)(k:∀b u,s.heap.get? b=some u→h'.get? b=some u)(hp:s.heap.objs.size≤a)(new:ObjOk X.prog X.w (upd H a o) h' a o):
  Inv X pins σ (upd H a o) {s with heap:=h',toks:=t'}:=I.un (Un.laid k hp (I.hok.fresh hp)) (I.hok.laid k hp new)
theorem Inv.write{x e:Addr}{o:HO}{t':Nat}(I:Inv X pins σ H s)(mu:Mut (H x))(he:e=x∨H e=some (.own x))(k:∀b u,b≠e→s.heap.get? b=some u→h'.get? b=some u)(heo:∃u,h'.get? e=some u)
  (new:ObjOk X.prog X.w (upd H x o) h' x o):Inv X pins σ (upd H x o) {s with heap:=h',toks:=t'}:=I.un (Un.write mu he k heo) (I.hok.write mu he k heo new)
theorem Inv.pins_of{pins':List (Addr×Obj)}(I:Inv X pins σ H s)(h:∀p∈pins',s.heap.get? p.1=some p.2∧H p.1=none∧p.1≠X.env.locals∧p.1∉X.fs∧∀v,p.2.data≠.cell v):Inv X pins' σ H s:=
 ⟨I.ok,I.os,I.bare,I.base,I.loc,I.cell,I.free,I.freeC,fun p hp=>(Nr.mp hp).elim (fun z=>I.pin p (Em _ z)) (h p),I.hok,I.len⟩
theorem kih{N:List Str}(hN:N.Nodup){i j:Nat}{x:Str}(a:N[i]?=some x)(b:N[j]?=some x):i=j:=by
 obtain⟨h1,e1⟩:=JX.mp a
 obtain⟨h2,e2⟩:=JX.mp b
 exact(En hN).mp (e1.trans e2.symm)
theorem ki7{M:Model}{A:Around}{E:Value→Shared→Prop}{i:Nat}{x:Str}{v:V}{u:Value}{Q:Unit→Shared→Prop}(I:Inv X pins σ H s)(hN:X.N.Nodup)(hi:X.N[i]?=some x)(hx:Loc X.env.scope x)(r:RelV v u)
  (h:∀s',Inv X pins (σ.set i (some v)) H s'→(∃a,Heap.SameBut a s.heap s'.heap∧(a=X.env.locals∨X.env.cells.lookup x=some a))→Q () s') (hf:X.fn x=true∨X.env.scope.names.lookup x=some .local:=by first|exact .inl rfl|exact .inr rfl|assumption):wpAny M A (storeName X.env x u) Q E s:=by
 obtain⟨m,hn,hl⟩:=id I.loc
 have hcls:(X.env.scope.kind== .class||(X.env.scope.kind== .module&&X.env.locals !=X.env.globals))=false:=by rw[I.ok.kind];rfl
 have hiσ:i< σ.length:=by rw[I.len];exact(JX.mp hi).1
 have cne:=I.cne
 have tracked:∀{a:Addr}{h':Heap},(∃o,s.heap.get? a=some o∧H a=none)→Heap.SameBut a s.heap h'→HOk X.prog X.w H h':=fun {a h'} ha hs b ob e=>by
  obtain⟨_,_,hfree⟩:=ha
  refine(I.hok b ob e).stay (fun c w' hc q=>(hs.2 c ?_).trans q) (fun _ q=>q) fun _ _ q=>q
  rintro rfl
  rcases hc with rfl|hc
  ·rw[hfree] at e;cases e
  ·rw[hfree] at hc;cases hc
 rcases hx with hk|hk
 ·refine wpAny_storeName_local hk hn (fun h' hn' hs=>?_) hcls
  obtain⟨oL,_,_,hoL,_⟩:=id hn
  refine h _ ⟨I.ok,I.os,I.bare,⟨fun b o e n hb hx=>?_,fun b o e n hb hx=>?_,I.base.free,fun b o e hx=>?_,I.base.tups,I.base.frzs,I.base.tbls⟩,⟨_,hn',fun j y v' e1 e2 e3=>?_⟩,fun y c e=>?_,I.free,I.freeC,fun p hp=>?_,tracked ⟨oL,hoL,I.free⟩ hs,by simpa using I.len⟩ ⟨_,hs, .inl rfl⟩
  ·exact(hs.2 b (Nk (Nj (Heap.lt_size e) I.ok.above))).trans (I.base.keep b o e n hb hx)
  ·obtain⟨sl,e1⟩:=I.base.slot b o e n hb hx
   exact⟨sl,(hs.2 b (Nk (Nj (Heap.lt_size e) I.ok.above))).trans e1⟩
  ·obtain⟨o',e1⟩:=I.base.there b o e hx
   exact⟨o',(hs.2 b (Nk (Nj (Heap.lt_size e) I.ok.above))).trans e1⟩
  ·by_cases hj:j=i
   ·subst hj
    rw[hi] at e1;cases e1
    rw[ME hiσ] at e2
    cases e2
    exact⟨u,r, .inl ⟨hk,by simp⟩⟩
   ·rw[MF (Ne.symm hj)] at e2
    obtain⟨u',r',q⟩:=hl j y v' e1 e2 e3
    refine⟨u',r',?_⟩
    rcases q with⟨k,e⟩|⟨k,c,e,z⟩
    ·refine .inl ⟨k,?_⟩
     have:y≠x:=fun e=>hj (kih hN e1 (e▸hi))
     simp[this,e]
    ·exact .inr ⟨k,c,e,z.sameBut hs (cne y c e)⟩
  ·obtain⟨w',z⟩:=I.cell y c e
   exact⟨w',z.sameBut hs (cne y c e)⟩
  ·obtain⟨e,n,ne,nf,d⟩:=I.pin p hp
   exact⟨(hs.2 p.1 ne).trans e,n,ne,nf,d⟩
 ·have hfn:X.fn x=true:=by
   rcases hf with z|z
   ·exact z
   ·rw[z] at hk;cases hk
  obtain⟨c,hc⟩:=I.ok.has x (.inl hk)
  obtain⟨w',z⟩:=I.cell x c hc
  refine wpAny_storeName_cell I.ok.kind hk hc z (fun h' hc' hs=>?_)
  obtain⟨oc,hoc,hocd⟩:=id z
  refine h {s with heap:=h'} ⟨I.ok,I.os,I.bare,⟨fun b o e n hb hx=>?_,fun b o e n hb hx=>?_,I.base.free,fun b o e hx=>?_,I.base.tups,I.base.frzs,I.base.tbls⟩,⟨m,hn.sameBut hs (Ne.symm (cne x c hc)),fun j y v' e1 e2 e3=>?_⟩,fun y c' e=>?_,I.free,I.freeC,fun p hp=>?_,tracked ⟨oc,hoc,I.freeC x c hc⟩ hs,by simpa using I.len⟩ ⟨c,hs, .inr hc⟩
  ·exact(hs.2 b (Nk (Nj (Heap.lt_size e) (I.ok.cab x c hfn hc)))).trans (I.base.keep b o e n hb hx)
  ·obtain⟨sl,e1⟩:=I.base.slot b o e n hb hx
   exact⟨sl,(hs.2 b (Nk (Nj (Heap.lt_size e) (I.ok.cab x c hfn hc)))).trans e1⟩
  ·obtain⟨o',e1⟩:=I.base.there b o e hx
   exact⟨o',(hs.2 b (Nk (Nj (Heap.lt_size e) (I.ok.cab x c hfn hc)))).trans e1⟩
  ·by_cases hj:j=i
   ·subst hj
    rw[hi] at e1;cases e1
    rw[ME hiσ] at e2
    cases e2
    exact⟨u,r, .inr ⟨.inl hk,c,hc,hc'⟩⟩
   ·rw[MF (Ne.symm hj)] at e2
    obtain⟨u',r',q⟩:=hl j y v' e1 e2 e3
    refine⟨u',r',?_⟩
    rcases q with q|⟨k,c',e,z'⟩
    ·exact .inl q
    ·refine .inr ⟨k,c',e,z'.sameBut hs ?_⟩
     rintro rfl
     exact hj (kih hN e1 (I.ok.inj _ _ _ e hc▸hi))
  ·by_cases hcc:c'=c
   ·subst hcc;exact⟨_,hc'⟩
   ·obtain⟨w2,z2⟩:=I.cell y c' e
    exact⟨w2,z2.sameBut hs hcc⟩
  ·obtain⟨e,n,ne,nf,d⟩:=I.pin p hp
   refine⟨(hs.2 p.1 ?_).trans e,n,ne,nf,d⟩
   intro q
   rw[q,hoc] at e
   have q':oc=p.2:=Option.some.inj e
   exact d w' (by rw[←q'];exact hocd)
theorem kdm{M:Model}{A:Around}{E:Value→Shared→Prop}{i:Nat}{x:Str}{v:V}{u:Value}{Q:Unit→Shared→Prop}(I:Inv X pins σ H s)(hN:X.N.Nodup)(hi:X.N[i]?=some x)(hx:Loc X.env.scope x)(r:RelV v u)
  (h:∀s',Inv X pins (σ.set i (some v)) H s'→Q () s') (hf:X.fn x=true∨X.env.scope.names.lookup x=some .local:=by first|exact .inl rfl|exact .inr rfl|assumption):wpAny M A (storeName X.env x u) Q E s:=
 ki7 I hN hi hx r (fun s' I' _=>h s' I') hf
theorem Inv.call'{s':Shared}{ch:List Addr}(I:Inv X pins σ H s)(ho:s'.os=s.os)(u:Un (frs X.stack) ch H H' s.heap s'.heap)(hok:HOk X.prog X.w H' s'.heap)(hg:AllBare s'.gens)
  (hch:∀b∈ch,(b∈X.ex∨X.s₀.heap.objs.size≤b)∧b≠X.env.locals∧(∀x c,X.env.cells.lookup x=some c→c≠b)∧∀p∈X.pn++pins,p.1≠b):Inv X pins σ H' s':=by
 obtain⟨h',g',d',t',o'⟩:=s'
 have e:o'=s.os:=ho
 subst e
 exact I.call (g':=g') (t':=t') (d':=d') u hok hg hch
end
noncomputable abbrev XK:=Value→Option Addr→Hp→Prop
noncomputable abbrev St:=List (Option V)
noncomputable abbrev VK:=V→Hp→Prop
noncomputable abbrev TE:=St→Hp→VK→Prop
noncomputable abbrev TT:=St→Hp→(Bool→Hp→Prop)→Prop
noncomputable abbrev TA:=St→Hp→(List V→Hp→Prop)→Prop
structure Ends where
 nx:St→Hp→Prop
 rt:VK
 bk:St→Hp→Prop:=fun _ _=>False
 ct:St→Hp→Prop:=fun _ _=>False
noncomputable abbrev TS:=Ends→St→Hp→Prop
noncomputable def EP(X:Cx)(pins:List (Addr×Obj))(σ:St)(Q:VK)(u:Value)(s':Shared):Prop:=∃v H',Inv X pins σ H' s'∧RelV v u∧Q v H'
noncomputable def TP(X:Cx)(pins:List (Addr×Obj))(σ:St)(Q:Bool→Hp→Prop)(b:Bool)(s':Shared):Prop:=∃H',Inv X pins σ H' s'∧Q b H'
noncomputable def AP(X:Cx)(pins:List (Addr×Obj))(σ:St)(Q:List V→Hp→Prop)(us:List Value)(s':Shared):Prop:=∃vs H',Inv X pins σ H' s'∧Vals vs us∧Q vs H'
noncomputable def SP(X:Cx)(pins:List (Addr×Obj))(D:Ends)(f:Flow)(s':Shared):Prop:=
 match f with
 | .next=>∃σ' H',Inv X pins σ' H' s'∧D.nx σ' H'
 | .brk=>∃σ' H',Inv X pins σ' H' s'∧D.bk σ' H'
 | .cont=>∃σ' H',Inv X pins σ' H' s'∧D.ct σ' H'
 | .ret u=>∃v σ' H',Inv X pins σ' H' s'∧RelV v u∧D.rt v H'
noncomputable def PE(X:Cx)(e:Expr)(t:TE):Prop:=
 ∀(pins:List (Addr×Obj))(s:Shared)(σ:St)(H:Hp)(Q:VK),Inv X pins σ H s→t σ H Q→wpAny (model X.prog X.w) X.A (eval e X.env) (EP X pins σ Q) X.xe s
noncomputable def PT(X:Cx)(e:Expr)(t:TT):Prop:=
 ∀(pins:List (Addr×Obj))(s:Shared)(σ:St)(H:Hp)(Q:Bool→Hp→Prop),Inv X pins σ H s→t σ H Q→wpAny (model X.prog X.w) X.A (isTrue e X.env (eval e X.env)) (TP X pins σ Q) X.xe s
noncomputable def PW(X:Cx)(e:Expr)(t:TT):Prop:=
 ∀(whole:Sem Value)(pins:List (Addr×Obj))(s:Shared)(σ:St)(H:Hp)(Q:Bool→Hp→Prop),Inv X pins σ H s→t σ H Q→wpAny (model X.prog X.w) X.A (isTrue e X.env whole) (TP X pins σ Q) X.xe s
def PW.pt{X:Cx}{e:Expr}{t:TT}(h:PW X e t):PT X e t:=h _
noncomputable def PA(X:Cx)(es:List Expr)(t:TA):Prop:=
 ∀(pos:Pos)(pins:List (Addr×Obj))(s:Shared)(σ:St)(H:Hp)(Q:List V→Hp→Prop),Inv X pins σ H s→t σ H Q→wpAny (model X.prog X.w) X.A (spliced (backTo pos (starEach es X.env))) (AP X pins σ Q) X.xe s
noncomputable def PS(X:Cx)(st:Stmt)(t:TS):Prop:=
 ∀(pins:List (Addr×Obj))(s:Shared)(σ:St)(H:Hp)(D:Ends),Inv X pins σ H s→t D σ H→wpAny (model X.prog X.w) X.A (exec st X.env) (SP X pins D) X.xe s
noncomputable def PSs(X:Cx)(st:List Stmt)(t:TS):Prop:=
 ∀(pins:List (Addr×Obj))(s:Shared)(σ:St)(H:Hp)(D:Ends),Inv X pins σ H s→t D σ H→wpAny (model X.prog X.w) X.A (execs st X.env) (SP X pins D) X.xe s
def thn{α:Type}{t:Sem α}{Q Q': α→Shared→Prop}{M:Model}{A:Around}{E:Value→Shared→Prop}{s:Shared}(h:wpAny M A t Q E s)(hQ:∀a s,Q a s→Q' a s):wpAny M A t Q' E s:=wpAny_mono h hQ fun _ _ x=>x
end L2
namespace L2
open PySem PySem.Spec PyProof.Rows
section
variable {X:Cx}
noncomputable def tVar(i:Nat):TE:=fun σ H Q=>∃v,σ[i]?=some (some v)∧Q v H
noncomputable def tC(v:V):TE:=fun _ H Q=>Q v H
theorem kmT{i:Nat}{x:Str}{pos:Pos}(hN:X.N[i]?=some x)(hv:Vis X.env.scope x)(hd:(x==("__debug__" :Str))=false:=by decide)(hcd:(x==("__classdict__" :Str))=false:=by decide):PE X (.Name x pos) (tVar i):=by
 intro pins s σ H Q I h
 obtain⟨v,e,h⟩:=h
 obtain⟨m,hn,hl⟩:=I.loc
 obtain⟨u,r,l⟩:=hl i x v hN e hv
 have fin:EP X pins σ Q u s:=⟨v,H,I,r,h⟩
 rcases l with⟨hk,hm⟩|⟨hk,c,hc,hcell⟩
 ·exact wpAny_Name (wpAny_loadName_local I.ok.kind hk hn hm fin) hd
 ·rcases hk with hk|hk
  ·exact wpAny_Name (wpAny_loadName_cell I.ok.kind hk hc hcell fin) hd
  ·exact wpAny_Name (wpAny_loadName_free I.ok.kind hk hc hcell fin hcd) hd
theorem kah{i j pos}:PE X (.Constant (.int i) j pos) (tC (.int i)):=fun _ _ _ H _ I h=>wpAny_Constant_int ⟨.int i,H,I.tok _,⟨_,rfl⟩,h⟩
theorem pe_bl{b j pos}:PE X (.Constant (.bool b) j pos) (tC (.bl b)):=fun _ _ _ H _ I h=>Constant_bool ⟨.bl b,H,I,rfl,h⟩
theorem ka3{j pos}:PE X (.Constant .none j pos) (tC .non):=fun _ _ _ H _ I h=>Constant_none ⟨.non,H,I,rfl,h⟩
theorem kbM{x j pos}:PE X (.Constant (.str x) j pos) (tC (.str x)):=fun _ _ _ H _ I h=>Calls.Constant_str ⟨.str x,H,I.tok _,⟨_,rfl⟩,h⟩
noncomputable def Gl(X:Cx)(x:Str):Prop:=X.env.kindOf x=some .globalImplicit
theorem kdj{E:Value→Shared→Prop}{pins:List (Addr×Obj)}{s:Shared}{σ:St}{H:Hp}{x:Str}{u:Value}{pos:Pos}{Q:Value→Shared→Prop}(I:Inv X pins σ H s)(hg:Gl X x)(hm:X.mg x=some u)(h:Q u s)
  (hd:(x==("__debug__" :Str))=false:=by decide):wpAny (model X.prog X.w) X.A (eval (.Name x pos) X.env) Q E s:=
 Calls.Name_function_global I.ok.kind hg (Calls.loadGlobal_global (by rw[I.ok.glob];exact I.mod.glob.keeps I.bk) hm h) hd
theorem kdB{E:Value→Shared→Prop}{pins:List (Addr×Obj)}{s:Shared}{σ:St}{H:Hp}{x:Str}{u:Value}{pos:Pos}{Q:Value→Shared→Prop}(I:Inv X pins σ H s)(hg:Gl X x)(hm:X.mg x=none)(hv:bootBuiltins x=some u)(h:Q u s)
  (hn:x≠"__name__":=by decide) (hd:(x==("__debug__" :Str))=false:=by decide):wpAny (model X.prog X.w) X.A (eval (.Name x pos) X.env) Q E s:=by
 obtain⟨mb,h1,h2⟩:=I.mod.blt
 exact Calls.Name_function_global I.ok.kind hg (Calls.loadGlobal_builtin (by rw[I.ok.glob];exact I.mod.glob.keeps I.bk) hm (by rw[I.ok.blt];exact h1.keeps I.bk) ((h2 x hn).trans hv) h) hd
theorem kby{x:Str}{v:V}{u:Value}{pos:Pos}(hg:Gl X x)(hm:X.mg x=some u)(r:RelV v u)(hd:(x==("__debug__" :Str))=false:=by decide):PE X (.Name x pos) (tC v):=
 fun _ _ _ H _ I h=>kdj I hg hm ⟨v,H,I,r,h⟩ hd
theorem kfS{x:Str}{v:V}{u:Value}{pos:Pos}(hg:Gl X x)(hm:X.mg x=none)(hv:bootBuiltins x=some u)(r:RelV v u)(hn:x≠"__name__":=by decide)(hd:(x==("__debug__" :Str))=false:=by decide):PE X (.Name x pos) (tC v):=
 fun _ _ _ H _ I h=>kdB I hg hm hv ⟨v,H,I,r,h⟩ hn hd
variable {a b:Expr} {ta tb:TE} {pos:Pos}
noncomputable def tB(t:TE):TT:=fun σ H Q=>t σ H fun x H1=>∃c,x=.bl c∧Q c H1
theorem kaO{e:Expr}{t:TE}(h:PE X e t)(he:∀whole,isTrue e X.env whole=(do let v ←whole;standAt e.pos;holding [v] (truthy v)):=by intro _;rfl):PT X e (tB t):=by
 intro pins s σ H Q I hw
 refine isTrue_plain (thn (h pins s σ H _ I hw) fun v s1 ⟨x,H1,I1,r1,q1⟩=>?_) (he _)
 obtain⟨d,rfl,q⟩:=q1
 cases r1
 exact wpAny_truthy_bool ⟨H1,I1,q⟩
variable {tA tB':TT} {rest:List Expr}
noncomputable def tAnd(t u:TT):TT:=fun σ H Q=>t σ H fun c H1=>if c=true then u σ H1 Q else Q false H1
noncomputable def tOr(t u:TT):TT:=fun σ H Q=>t σ H fun c H1=>if c=true then Q true H1 else u σ H1 Q
noncomputable def tNot(t:TT):TT:=fun σ H Q=>t σ H fun c H1=>Q (!c) H1
theorem kaV(ha:PT X a tA):PW X (.BoolOp .And [a] pos) tA:=by
 intro wh pins s σ H Q I h
 refine isTrue_and (thn (ha pins s σ H Q I h) fun c s1 e=>?_)
 cases c with
 |true=>exact isTrue_and_nil e
 |false=>exact e
theorem kfn(ha:PT X a tA):PW X (.BoolOp .Or [a] pos) tA:=by
 intro wh pins s σ H Q I h
 refine isTrue_or (thn (ha pins s σ H Q I h) fun c s1 e=>?_)
 cases c with
 |false=>exact isTrue_or_nil e
 |true=>exact e
theorem ka7(ha:PT X a tA)(hb:PW X (.BoolOp .And (b::rest) pos) tB'):PW X (.BoolOp .And (a::b::rest) pos) (tAnd tA tB'):=by
 intro wh pins s σ H Q I h
 refine isTrue_and (thn (ha pins s σ H _ I h) fun c s1 ⟨H1,I1,q1⟩=>?_)
 cases c with
 |true=>exact hb wh pins s1 σ H1 Q I1 q1
 |false=>exact⟨H1,I1,q1⟩
theorem pw_or(ha:PT X a tA)(hb:PW X (.BoolOp .Or (b::rest) pos) tB'):PW X (.BoolOp .Or (a::b::rest) pos) (tOr tA tB'):=by
 intro wh pins s σ H Q I h
 refine isTrue_or (thn (ha pins s σ H _ I h) fun c s1 ⟨H1,I1,q1⟩=>?_)
 cases c with
 |true=>exact⟨H1,I1,q1⟩
 |false=>exact hb wh pins s1 σ H1 Q I1 q1
theorem kd0(ha:PT X a tA):PT X (.UnaryOp .Not a pos) (tNot tA):=by
 intro pins s σ H Q I h
 exact isTrue_not (ha pins s σ H (fun c H1=>Q (!c) H1) I h)
noncomputable def tAndV(ta tb:TE):TE:=fun σ H Q=>ta σ H fun x H1=>∃c,x=.bl c∧if c=true then tb σ H1 Q else Q (.bl false) H1
noncomputable def tOrV(ta tb:TE):TE:=fun σ H Q=>ta σ H fun x H1=>∃c,x=.bl c∧if c=true then Q (.bl true) H1 else tb σ H1 Q
noncomputable def tNotV(ta:TE):TE:=fun σ H Q=>ta σ H fun x H1=>∃c,x=.bl c∧Q (.bl (!c)) H1
theorem klA{op}{t:TE}(h:PE X a t):PE X (.BoolOp op [a] pos) t:=fun pins s σ H Q I hw=>BoolOp_one (h pins s σ H Q I hw)
theorem kmW(ha:PE X a ta)(hb:PE X (.BoolOp .And (b::rest) pos) tb):PE X (.BoolOp .And (a::b::rest) pos) (tAndV ta tb):=by
 intro pins s σ H Q I h
 refine BoolOp_and (thn (ha pins s σ H _ I h) fun v s1 ⟨x,H1,I1,r1,q1⟩=>?_)
 obtain⟨c,rfl,q1⟩:=q1
 cases r1
 refine wpAny_truthy_bool ?_
 cases c with
 |true=>exact hb pins s1 σ H1 Q I1 q1
 |false=>exact⟨.bl false,H1,I1,rfl,q1⟩
theorem pe_or(ha:PE X a ta)(hb:PE X (.BoolOp .Or (b::rest) pos) tb):PE X (.BoolOp .Or (a::b::rest) pos) (tOrV ta tb):=by
 intro pins s σ H Q I h
 refine BoolOp_or (thn (ha pins s σ H _ I h) fun v s1 ⟨x,H1,I1,r1,q1⟩=>?_)
 obtain⟨c,rfl,q1⟩:=q1
 cases r1
 refine wpAny_truthy_bool ?_
 cases c with
 |false=>exact hb pins s1 σ H1 Q I1 q1
 |true=>exact⟨.bl true,H1,I1,rfl,q1⟩
theorem kmU(ha:PE X a ta):PE X (.UnaryOp .Not a pos) (tNotV ta):=by
 intro pins s σ H Q I h
 refine UnaryOp_ (thn (ha pins s σ H _ I h) fun v s1 ⟨x,H1,I1,r1,q1⟩=>?_)
 obtain⟨c,rfl,q1⟩:=q1
 cases r1
 exact not_of (wpAny_truthy_bool ⟨.bl (!c),H1,I1,rfl,q1⟩)
noncomputable def tIf(t:TT)(ta tb:TE):TE:=fun σ H Q=>t σ H fun c H1=>if c=true then ta σ H1 Q else tb σ H1 Q
theorem ken{c:Expr}(hc:PT X c tA)(ha:PE X a ta)(hb:PE X b tb):PE X (.IfExp c a b pos) (tIf tA ta tb):=by
 intro pins s σ H Q I h
 refine wpAny_IfExp (thn (hc pins s σ H _ I h) fun d s1 ⟨H1,I1,q1⟩=>?_)
 cases d with
 |true=>exact ha pins s1 σ H1 Q I1 q1
 |false=>exact hb pins s1 σ H1 Q I1 q1
end
end L2
namespace L2
open PySem PySem.Spec PyProof.Rows
noncomputable def SqL(K:JN)(H:Hp)(a:Addr)(xs:List V):Prop:=
 Rd H a (.lst xs)∨
  ∃(o:Obj)(its:Array Value)(n:Nat),K.lookup a=some o∧o.cls=.type "list"∧o.dict=none∧o.data=.seq its n∧its.size≤sizeLine∧Vals xs its.toList
noncomputable def SqT(K:JN)(H:Hp)(a:Addr)(xs:List V):Prop:=
 Rd H a (.tup xs)∨
  ∃(o:Obj)(its:Array Value)(n:Nat),K.lookup a=some o∧o.cls=.type "tuple"∧o.data=.seq its n∧its.size≤sizeLine∧Vals xs its.toList
noncomputable def absV:Value→Option V
 | .none=>some .non
 | .bool b=>some (.bl b)
 | .int i _=>some (.int i)
 | .str x _=>some (.str x)
 | .bytes b _=>some (.byt b)
 | .float b _=>some (.flt b)
 | .ref a=>some (.ref a)
 | .type n=>some (.ty n)
 |_=>none
theorem RelV.abs{x:V}{u:Value}(r:RelV x u):absV u=some x:=by
 cases x with
 |non=>cases r;rfl
 |bl _=>cases r;rfl
 |int _=>obtain⟨t,rfl⟩:=r;rfl
 |str _=>obtain⟨t,rfl⟩:=r;rfl
 |byt _=>obtain⟨t,rfl⟩:=r;rfl
 |flt _=>obtain⟨t,rfl⟩:=r;rfl
 |ref _=>cases r;rfl
 |ty _=>cases r;rfl
def RelV.inj{x y:V}{u:Value}(r:RelV x u)(q:RelV y u):x=y:=Option.some.inj (r.abs.symm.trans q.abs)
theorem Vals.inj:∀{xs ys:List V}{us:List Value},Vals xs us→Vals ys us→xs=ys
 |_,_,_, .nil, .nil=>rfl
 |_,_,_, .cons r t, .cons r' t'=>by rw[r.inj r',Vals.inj t t']
section
variable {X:Cx} {pins:List (Addr×Obj)} {σ:St} {H:Hp} {s:Shared} {a:Addr} {xs ys:List V}
theorem SqL.of{K:JN}(h:H a=some (.lst xs)):SqL K H a xs:=.inl (.inl h)
theorem SqT.of{K:JN}(h:H a=some (.tup xs)):SqT K H a xs:=.inl (.inl h)
theorem Inv.list(I:Inv X pins σ H s)(h:SqL X.K H a xs):∃its:List Value,Vals xs its∧PlainL s.heap a its.toArray∧xs.length≤sizeLine:=by
 rcases h with h|⟨o,its,n,hk,hc,hd,hs,hz,r⟩
 ·obtain⟨z,its,n,r,e⟩:=h.ok I.hok
  exact⟨its,r,⟨_,n,e,rfl,rfl,rfl⟩,z⟩
 ·refine⟨its.toList,r,⟨o,n,I.kIn a o hk,hc,hd,by simpa using hs⟩,?_⟩
  have e:=r.length
  simp only[Mt] at e
  omega
theorem Inv.tuple(I:Inv X pins σ H s)(h:SqT X.K H a xs):∃its:List Value,Vals xs its∧IsTup s.heap a its.toArray∧xs.length≤sizeLine:=by
 rcases h with h|⟨o,its,n,hk,hc,hs,hz,r⟩
 ·obtain⟨z,its,r,p⟩:=h.ok I.hok
  exact⟨its,r,p,z⟩
 ·refine⟨its.toList,r,⟨o,I.kIn a o hk,hc,n,by simpa using hs⟩,?_⟩
  have e:=r.length
  simp only[Mt] at e
  omega
theorem Inv.list_inj(I:Inv X pins σ H s)(h:SqL X.K H a xs)(h':SqL X.K H a ys):xs=ys:=by
 obtain⟨its,r,⟨o,n,e,_,_,d⟩,_⟩:=I.list h
 obtain⟨its',r',⟨o',n',e',_,_,d'⟩,_⟩:=I.list h'
 rw[e] at e';cases e'
 rw[d] at d'
 injection d' with d1 _
 have:its=its':=by simpa using congrArg Array.toList d1
 subst this
 exact r.inj r'
end
noncomputable abbrev Cx.wish(X:Cx)(E:Value→Shared→Prop):Cx:={X with xe:=E}
noncomputable abbrev Cx.nox(X:Cx):Cx:=X.wish fun _ _=>False
def Cx.Ok.wish{X:Cx}(ok:X.Ok)(E:Value→Shared→Prop):(X.wish E).Ok:=
 ⟨ok.mod,ok.kind,ok.glob,ok.blt,ok.above,ok.inj,ok.has,ok.cab,ok.hd,ok.frames,ok.stk,ok.exf,ok.bs,ok.bsz,ok.noex,ok.exfs,ok.funs,ok.frf⟩
def Cx.Ok.unwish{X:Cx}{E:Value→Shared→Prop}(ok:(X.wish E).Ok):X.Ok:=
 ⟨ok.mod,ok.kind,ok.glob,ok.blt,ok.above,ok.inj,ok.has,ok.cab,ok.hd,ok.frames,ok.stk,ok.exf,ok.bs,ok.bsz,ok.noex,ok.exfs,ok.funs,ok.frf⟩
section
variable {X:Cx} {pins:List (Addr×Obj)} {σ:St} {H:Hp} {s:Shared} {E:Value→Shared→Prop}
theorem Inv.wish(I:Inv X pins σ H s)(E:Value→Shared→Prop):Inv (X.wish E) pins σ H s:=⟨I.ok.wish E,I.os,I.bare,I.base,I.loc,I.cell,I.free,I.freeC,I.pin,I.hok,I.len⟩
theorem Inv.unwish(I:Inv (X.wish E) pins σ H s):Inv X pins σ H s:=⟨I.ok.unwish,I.os,I.bare,I.base,I.loc,I.cell,I.free,I.freeC,I.pin,I.hok,I.len⟩
theorem SP.unwish{D:Ends}{f:Flow}{s':Shared}(h:SP (X.wish E) pins D f s'):SP X pins D f s':=by
 cases f with
 |next=>obtain⟨σ',H',I,q⟩:=h;exact⟨σ',H',I.unwish,q⟩
 |brk=>obtain⟨σ',H',I,q⟩:=h;exact⟨σ',H',I.unwish,q⟩
 |cont=>obtain⟨σ',H',I,q⟩:=h;exact⟨σ',H',I.unwish,q⟩
 |ret u=>obtain⟨v,σ',H',I,r,q⟩:=h;exact⟨v,σ',H',I.unwish,r,q⟩
theorem PE.nox{e:Expr}{t:TE}(h:PE X.nox e t):PE X e t:=fun pins s σ H Q I hw=>
 wpAny_mono (h pins s σ H Q (I.wish _) hw) (fun _ _ ⟨v,H',I',r,q⟩=>⟨v,H',I'.unwish,r,q⟩) fun _ _ z=>False.elim z
theorem PT.nox{e:Expr}{t:TT}(h:PT X.nox e t):PT X e t:=fun pins s σ H Q I hw=>
 wpAny_mono (h pins s σ H Q (I.wish _) hw) (fun _ _ ⟨H',I',q⟩=>⟨H',I'.unwish,q⟩) fun _ _ z=>False.elim z
theorem PSs.nox{st:List Stmt}{t:TS}(h:PSs X.nox st t):PSs X st t:=fun pins s σ H D I hw=>
 wpAny_mono (h pins s σ H D (I.wish _) hw) (fun _ _ q=>q.unwish) fun _ _ z=>False.elim z
end
section
variable {X:Cx} {st:Stmt} {rest:List Stmt} {t u:TS} {e:Expr} {te:TE} {pos:Pos}
noncomputable def tNext:TS:=fun D σ H=>D.nx σ H
noncomputable def tSeq(t u:TS):TS:=fun D σ H=>t {D with nx:=u D} σ H
theorem kaq:PSs X [] tNext:=fun _ _ σ H _ I h=>wpAny_execs_nil ⟨σ,H,I,h⟩
theorem kac(h1:PS X st t)(h2:PSs X rest u):PSs X (st::rest) (tSeq t u):=by
 intro pins s σ H D I h
 refine wpAny_execs_cons (thn (h1 pins s σ H {D with nx:=u D} I h) fun f s1 q=>?_)
 cases f with
 |next=>
  obtain⟨σ',H',I',q⟩:=q
  exact h2 pins s1 σ' H' D I' q
 |ret v=>exact q
 |brk=>exact q
 |cont=>exact q
theorem kaf(h1:PS X st t):PSs X [st] t:=by
 intro pins s σ H D I h
 refine wpAny_execs_cons (thn (h1 pins s σ H D I h) fun f s1 q=>?_)
 cases f with
 |next=>exact wpAny_execs_nil q
 |ret v=>exact q
 |brk=>exact q
 |cont=>exact q
theorem Inv.quiet{pins:List (Addr×Obj)}{σ:St}{H:Hp}{s:Shared}(I:Inv X pins σ H s):interactive X.env=false:=by simp[interactive,I.ok.kind]
noncomputable def tDrop(te:TE):TS:=fun D σ H=>te σ H fun _ H1=>D.nx σ H1
theorem kaP(he:PE X e te)(hs:swapsWith e none pos.line X.env=pure false:=by rfl):PS X (.Expr e pos) (tDrop te):=by
 intro pins s σ H D I h
 exact wpAny_Expr_any (thn (he pins s σ H _ I h) fun v s1 ⟨x,H1,I1,r1,q1⟩=>⟨σ,H1,I1,q1⟩) I.quiet hs
noncomputable def tRet(te:TE):TS:=fun D σ H=>te σ H D.rt
theorem kap(he:PE X e te):PS X (.Return (some e) pos) (tRet te):=by
 intro pins s σ H D I h
 exact wpAny_Return_some (thn (he pins s σ H _ I h) fun v s1 ⟨x,H1,I1,r1,q1⟩=>⟨x,σ,H1,I1,r1,q1⟩)
noncomputable def tIfS(c:TT)(t u:TS):TS:=fun D σ H=>c σ H fun b H1=>if b=true then t D σ H1 else u D σ H1
theorem ps_if{c:Expr}{a b:List Stmt}{tc:TT}(hc:PT X c tc)(ha:PSs X a t)(hb:PSs X b u):PS X (.If c a b pos) (tIfS tc t u):=by
 intro pins s σ H D I h
 refine wpAny_If (thn (hc pins s σ H _ I h) fun d s1 ⟨H1,I1,q1⟩=>?_)
 cases d with
 |true=>exact ha pins s1 σ H1 D I1 q1
 |false=>exact hb pins s1 σ H1 D I1 q1
end
noncomputable abbrev TG:=V→St→Hp→(St→Hp→Prop)→Prop
noncomputable abbrev TGs:=List V→St→Hp→(St→Hp→Prop)→Prop
noncomputable def PG(X:Cx)(target:Expr)(t:TG):Prop:=
 ∀(pins:List (Addr×Obj))(s:Shared)(σ:St)(H:Hp)(v:V)(u:Value)(Q:St→Hp→Prop),Inv X pins σ H s→RelV v u→t v σ H Q→
  wpAny (model X.prog X.w) X.A (assign target X.env u) (fun _ s'=>∃σ' H',Inv X pins σ' H' s'∧Q σ' H') X.xe s
noncomputable def PGs(X:Cx)(ts:List Expr)(t:TGs):Prop:=
 ∀(pins:List (Addr×Obj))(s:Shared)(σ:St)(H:Hp)(vs:List V)(us:List Value)(Q:St→Hp→Prop),Inv X pins σ H s→Vals vs us→t vs σ H Q→
  wpAny (model X.prog X.w) X.A (assignInOrder ((assignEach ts X.env).map (·.2)) us) (fun _ s'=>∃σ' H',Inv X pins σ' H' s'∧Q σ' H') X.xe s
noncomputable abbrev TSet:=V→V→V→Hp→(Hp→Prop)→Prop
noncomputable def PSet(X:Cx)(t:TSet):Prop:=
 ∀(pins:List (Addr×Obj))(s:Shared)(σ:St)(H:Hp)(o i v:V)(ov iv u:Value)(Q:Hp→Prop),Inv X pins σ H s→RelV o ov→RelV i iv→RelV v u→t o i v H Q→
  wpAny (model X.prog X.w) X.A (setItem ov iv u) (fun _ s'=>∃H',Inv X pins σ H' s'∧Q H') X.xe s
noncomputable abbrev TIp:=V→V→Hp→VK→Prop
noncomputable def PIp(X:Cx)(op:Operator)(t:TIp):Prop:=
 ∀(pins:List (Addr×Obj))(s:Shared)(σ:St)(H:Hp)(x y:V)(v u:Value)(Q:VK),Inv X pins σ H s→RelV x v→RelV y u→t x y H Q→
  wpAny (model X.prog X.w) X.A (inplaceOp op v u) (EP X pins σ Q) X.xe s
section
variable {X:Cx} {pos:Pos}
noncomputable def gName(i:Nat):TG:=fun v σ H Q=>Q (σ.set i (some v)) H
theorem kme{i:Nat}{x:Str}(hN:X.N.Nodup)(hi:X.N[i]?=some x)(hx:Loc X.env.scope x)(hf:X.fn x=true∨X.env.scope.names.lookup x=some .local:=by first|exact .inl rfl|exact .inr rfl|assumption):PG X (.Name x pos) (gName i):=by
 intro pins s σ H v u Q I r h
 exact wpAny_assign_Name (kdm I hN hi hx r (fun s' I'=>⟨_,H,I',h⟩) hf)
noncomputable def gNil:TGs:=fun vs σ H Q=>vs=[]∧Q σ H
noncomputable def gCons(t:TG)(u:TGs):TGs:=fun vs σ H Q=>∃v r,vs=v::r∧t v σ H fun σ' H'=>u r σ' H' Q
theorem kbh:PGs X [] gNil:=by
 intro pins s σ H vs us Q I r h
 obtain⟨e,h⟩:=h
 subst e
 cases r
 exact assignInOrder_nil ⟨σ,H,I,h⟩
theorem kax{e:Expr}{es:List Expr}{t:TG}{u:TGs}(h1:PG X e t)(h2:PGs X es u)
  (hs:(assignEach (e::es) X.env).map (·.2)=assign e X.env::(assignEach es X.env).map (·.2):=by rfl):PGs X (e::es) (gCons t u):=by
 intro pins s σ H vs us Q I r h
 obtain⟨v,vr,e1,h⟩:=h
 subst e1
 cases r with
 |cons r rr=>
  rw[hs]
  refine assignInOrder_cons (thn (h1 pins s σ H _ _ _ I r h) fun _ s1 ⟨σ1,H1,I1,q1⟩=>?_)
  exact h2 pins s1 σ1 H1 _ _ Q I1 rr q1
noncomputable def gTup(K:JN)(n:Nat)(t:TGs):TG:=fun v σ H Q=>∃a xs,v=.ref a∧SqT K H a xs∧xs.length=n∧t xs σ H Q
theorem kmS{es:List Expr}{k:Nat}{t:TGs}{n:Nat}(hc:X.calm=true)(h:PGs X es t)
  (hn:(assignEach es X.env).length=n:=by rfl) (hst:(assignEach es X.env).findIdx? (·.1)=none:=by rfl):PG X (.Tuple es k pos) (gTup X.K n t):=by
 intro pins s σ H v u Q I r hw
 obtain⟨a,xs,e1,hq,hl,hw⟩:=hw
 subst e1
 cases r
 obtain⟨its,rv,ht,hz⟩:=I.tuple hq
 refine assign_Tuple_tuple (I.ok.hd hc) ht (by simp[hn,←hl,rv.length]) hst fun h' hx=>?_
 have I1:Inv X pins σ H {s with heap:=h'}:=I.kept (t':=s.toks) fun b o e=>hx b o (Nk (Heap.lt_size e)) e
 exact h pins _ σ H xs _ Q I1 (by simpa using rv) hw
noncomputable def gSub(to ti:TE)(t:TSet):TG:=fun v σ H Q=>to σ H fun o H1=>ti σ H1 fun i H2=>t o i v H2 fun H3=>Q σ H3
theorem kfo{o i:Expr}{to ti:TE}{t:TSet}(ho:PE X o to)(hi:PE X i ti)(hs:PSet X t)
  (ha:∀v,assign (.Subscript o i pos) X.env v=(do
   let ov ←holding [v] (eval o X.env)
   let iv ←holding [v,ov] (eval i X.env)
   standAt pos
   holding [v,ov,iv] (setItem ov iv v)
   release [v,ov,iv] []):=by intro _;rfl):PG X (.Subscript o i pos) (gSub to ti t):=by
 intro pins s σ H v u Q I r h
 rw[ha]
 refine wpAny_bind (wpAny_holding (thn (ho pins s σ H _ I h) fun ov s1 ⟨x,H1,I1,r1,q1⟩=>?_))
 refine wpAny_bind (wpAny_holding (thn (hi pins s1 σ H1 _ I1 q1) fun iv s2 ⟨y,H2,I2,r2,q2⟩=>?_))
 refine wpAny_bind (wpAny_standAt (wpAny_bind (wpAny_holding (thn (hs pins s2 σ H2 x y v ov iv u _ I2 r1 r2 r q2) fun _ s3 ⟨H3,I3,q3⟩=>?_))))
 exact wpAny_release ⟨σ,H3,I3,q3⟩
noncomputable def tAsg(te:TE)(g:TG):TS:=fun D σ H=>te σ H fun x H1=>g x σ H1 D.nx
theorem kdr{tg e:Expr}{te:TE}{g:TG}(he:PE X e te)(hg:PG X tg g)(hs:swapsWithSole [tg] e pos.line X.env=pure false:=by rfl)(hw:swappedStores [tg] e X.env=pure none:=by rfl)
  (h1:(assignEach [tg] X.env).map (·.2)=[assign tg X.env]:=by rfl):PS X (.Assign [tg] e pos) (tAsg te g):=by
 intro pins s σ H D I h
 refine wpAny_Assign_stores (thn (he pins s σ H _ I h) fun v s1 ⟨x,H1,I1,r1,q1⟩=>?_) hs hw
 rw[h1]
 exact thn (hg pins s1 σ H1 x v _ I1 r1 q1) fun _ s2 q=>q
theorem kmQ{i:Nat}{x:Str}{e:Expr}{te:TE}{pos':Pos}(hN:X.N.Nodup)(hi:X.N[i]?=some x)(hx:Loc X.env.scope x)(he:PE X e te)(hs:swapsWith e (some (.Name x pos')) pos.line X.env=pure false:=by rfl)(hf:X.fn x=true∨X.env.scope.names.lookup x=some .local:=by first|exact .inl rfl|exact .inr rfl|assumption):
  PS X (.Assign [.Name x pos'] e pos) (tAsg te (gName i)):=by
 intro pins s σ H D I h
 refine wpAny_Assign_Name (thn (he pins s σ H _ I h) fun v s1 ⟨y,H1,I1,r1,q1⟩=>?_) hs
 exact kdm I1 hN hi hx r1 (fun s2 I2=>⟨_,H1,I2,q1⟩) hf
noncomputable def tAug(i:Nat)(te:TE)(ti:TIp):TS:=fun D σ H=>∃x,σ[i]?=some (some x)∧te σ H fun y H1=>ti x y H1 fun z H2=>D.nx (σ.set i (some z)) H2
theorem kly{i:Nat}{x:Str}{e:Expr}{te:TE}{op:Operator}{ti:TIp}{pos':Pos}(hN:X.N.Nodup)(hi:X.N[i]?=some x)(hx:Loc X.env.scope x)(he:PE X e te)(ho:PIp X op ti)(hf:X.fn x=true∨X.env.scope.names.lookup x=some .local:=by first|exact .inl rfl|exact .inr rfl|assumption):
  PS X (.AugAssign (.Name x pos') op e pos) (tAug i te ti):=by
 intro pins s σ H D I h
 obtain⟨v,e1,h⟩:=h
 obtain⟨m,hn,hl⟩:=I.loc
 have vis:Vis X.env.scope x:=by rcases hx with k|k;exact .inl k;exact .inr (.inl k)
 obtain⟨u,r,l⟩:=hl i x v hi e1 vis
 refine wpAny_AugAssign_Name ?_
 have go:wpAny (model X.prog X.w) X.A (eval e X.env) (fun w s₂=>wpAny (model X.prog X.w) X.A (inplaceOp op u w) (fun r s₃=>wpAny (model X.prog X.w) X.A (storeName X.env x r) (fun _=>SP X pins D .next) X.xe s₃) X.xe s₂) X.xe s:=by
  refine thn (he pins s σ H _ I h) fun w s1 ⟨y,H1,I1,r1,q1⟩=>?_
  refine thn (ho pins s1 σ H1 v y u w _ I1 r r1 q1) fun z s2 ⟨zv,H2,I2,r2,q2⟩=>?_
  exact kdm I2 hN hi hx r2 (fun s3 I3=>⟨_,H2,I3,q2⟩) hf
 rcases l with⟨hk,hm⟩|⟨hk,c,hc,hcell⟩
 ·exact wpAny_loadName_local I.ok.kind hk hn hm go
 ·rcases hk with hk|hk
  ·exact wpAny_loadName_cell I.ok.kind hk hc hcell go
  ·rcases hx with k|k
   ·have:X.env.scope.names.lookup x=some .free:=hk
    rw[k] at this;cases this
   ·have:X.env.scope.names.lookup x=some .free:=hk
    rw[k] at this;cases this
noncomputable def tAugS(to ti te:TE)(tget:V→V→Hp→VK→Prop)(tip:TIp)(tset:TSet):TS:=fun D σ H=>to σ H fun o H1=>ti σ H1 fun i H2=>tget o i H2 fun x H3=>te σ H3 fun y H4=>tip x y H4 fun z H5=>tset o i z H5 fun H6=>D.nx σ H6
noncomputable def PGet(X:Cx)(t:V→V→Hp→VK→Prop):Prop:=
 ∀(pins:List (Addr×Obj))(s:Shared)(σ:St)(H:Hp)(o i:V)(ov iv:Value)(Q:VK),Inv X pins σ H s→RelV o ov→RelV i iv→t o i H Q→
  wpAny (model X.prog X.w) X.A (getItem ov iv) (EP X pins σ Q) X.xe s
theorem kma{o i e:Expr}{to ti te:TE}{tget:V→V→Hp→VK→Prop}{tip:TIp}{tset:TSet}{op:Operator}{tpos:Pos}(ho:PE X o to)(hi:PE X i ti)(hg:PGet X tget)(he:PE X e te)(hp:PIp X op tip)(hs:PSet X tset)
  (ha:∀ov iv new,augStore i ov iv new=(do holding [new,ov,iv] (setItem ov iv new);release [new,ov,iv] [];pure .next):=by intros;rfl):PS X (.AugAssign (.Subscript o i tpos) op e pos) (tAugS to ti te tget tip tset):=by
 intro pins s σ H D I h
 refine wpAny_AugAssign_SubscriptAny (thn (ho pins s σ H _ I h) fun ov s1 ⟨x1,H1,I1,r1,q1⟩=>?_) ha
 refine thn (hi pins s1 σ H1 _ I1 q1) fun iv s2 ⟨x2,H2,I2,r2,q2⟩=>?_
 refine thn (hg pins s2 σ H2 x1 x2 ov iv _ I2 r1 r2 q2) fun old s3 ⟨x3,H3,I3,r3,q3⟩=>?_
 refine thn (he pins s3 σ H3 _ I3 q3) fun v s4 ⟨x4,H4,I4,r4,q4⟩=>?_
 refine thn (hp pins s4 σ H4 x3 x4 old v _ I4 r3 r4 q4) fun new s5 ⟨x5,H5,I5,r5,q5⟩=>?_
 exact thn (hs pins s5 σ H5 x1 x2 x5 ov iv new _ I5 r1 r2 r5 q5) fun _ s6 ⟨H6,I6,q6⟩=>⟨σ,H6,I6,q6⟩
noncomputable def ipI(f:Int→Int→Int):TIp:=fun x y H Q=>∃i j,x=.int i∧y=.int j∧Q (.int (f i j)) H
theorem klJ:PIp X .Add (ipI fun i j=>i+j):=by
 intro pins s σ H x y v u Q I r1 r2 h
 obtain⟨i,j,e1,e2,q⟩:=h
 subst e1;subst e2
 obtain⟨t,rfl⟩:=r1
 obtain⟨t',rfl⟩:=r2
 exact iadd_int ⟨.int _,H,I.tok _,⟨_,rfl⟩,q⟩
theorem km5:PIp X .Sub (ipI fun i j=>i-j):=by
 intro pins s σ H x y v u Q I r1 r2 h
 obtain⟨i,j,e1,e2,q⟩:=h
 subst e1;subst e2
 obtain⟨t,rfl⟩:=r1
 obtain⟨t',rfl⟩:=r2
 exact isub_int ⟨.int _,H,I.tok _,⟨_,rfl⟩,q⟩
end
section
variable {X:Cx} {pos:Pos}
noncomputable def klo(c:TT)(tb:TS):TS:=fun D σ H=>∃W:Nat→St→Hp→Prop,(∃m,W m σ H)∧∀m σ H,W m σ H→
 c σ H fun b H1=>if b=true then ∃N:St→Hp→Prop,(∀σ' H',N σ' H'→∃m',m'<m∧W m' σ' H')∧tb {D with nx:=N,ct:=N,bk:=D.nx} σ H1 else D.nx σ H1
theorem kkG{c:Expr}{body:List Stmt}{tc:TT}{tb:TS}(hp:PassesOwn (model X.prog X.w) X.A X.env X.xe)(hc:PT X c tc)(hb:PSs X body tb):PS X (.While c body [] pos) (klo tc tb):=by
 intro pins s σ H D I h
 obtain⟨W,⟨m0,w0⟩,turn⟩:=h
 refine wpAny_While (codeAny_whileLoop (fun n s'=>∃σ' H',Inv X pins σ' H' s'∧W n σ' H') ?_ m0 ⟨σ,H,I,w0⟩)
 rintro n s1 ⟨σ1,H1,I1,w1⟩
 refine wpAny_passesOwn hp (thn (hc pins s1 σ1 H1 _ I1 (turn n σ1 H1 w1)) fun b s2 ⟨H2,I2,q2⟩=>?_)
 cases b with
 | true=>
  obtain⟨N,hN,q2⟩:=q2
  rw[if_pos rfl]
  refine wpAny_passesOwn hp (thn (hb pins s2 σ1 H2 _ I2 q2) fun f s3 q3=>?_)
  cases f with
  |next=>
   obtain⟨σ3,H3,I3,n3⟩:=q3
   obtain⟨m',hm,w3⟩:=hN σ3 H3 n3
   exact⟨m',hm,σ3,H3,I3,w3⟩
  |cont=>
   obtain⟨σ3,H3,I3,n3⟩:=q3
   obtain⟨m',hm,w3⟩:=hN σ3 H3 n3
   exact⟨m',hm,σ3,H3,I3,w3⟩
  |brk=>exact q3
  |ret v=>exact q3
 |false=>
  rw[if_neg JV]
  exact wpAny_execs_nil ⟨σ1,H2,I2,q2⟩
end
structure It where
 go:Nat→Hp→Prop
 yld:Nat→Hp→V→Hp→Prop
 stop:Nat→Hp→Prop
noncomputable def FpOk(X:Cx)(pins:List (Addr×Obj))(H:Hp)(b:Addr):Prop:=
 H b=none∧b≠X.env.locals∧b∉X.fs∧(b∈X.ex∨X.s₀.heap.objs.size≤b)∧(∀x c,X.env.cells.lookup x=some c→c≠b)∧∀p∈X.pn++pins,p.1≠b
def Inv.fpOk{X:Cx}{pins:List (Addr×Obj)}{σ:St}{H H':Hp}{s:Shared}{b:Addr}(I:Inv X pins σ H s)(hb:s.heap.objs.size≤b)(hn:H' b=none):FpOk X pins H' b:=by
 refine⟨hn,NN (Nj I.lt hb),I.nofs hb, .inr (JR I.sz hb),fun x c e z=>?_,fun p hp z=>?_⟩
 ·obtain⟨v,q⟩:=I.cell x c e
  exact absurd (Nj q.lt (by rw[z];exact hb)) (NV _)
 ·exact absurd (Nj (Heap.lt_size (I.pin p hp).1) (by rw[z];exact hb)) (NV _)
structure Turn (P:Program) (w:World) (K:JN) (tg:Expr) (J:It) (fp:List Addr) (it:Addr) (tn:Nat→Heap→Prop):Prop where
 mem:it∈fp
 obj:∀i h,tn i h→∀b∈fp,∃o,h.get? b=some o∧∀v,o.data≠.cell v
 keep:∀i h h',tn i h→(∀b∈fp,∀o,h.get? b=some o→h'.get? b=some o)→tn i h'
 item:∀(X:Cx),X.prog=P→X.w=w→X.K=K→X.calm=true→∀(i:Nat)(pins:List (Addr×Obj))(s:Shared)(σ:St)(H:Hp)(E:Value→Shared→Prop),Inv X pins σ H s→(∀b∈fp,FpOk X pins H b)→tn i s.heap→J.go i H→
  wpAny (model P w) X.A (pyNext (.ref it)) (fun r s1=>∃u,r=some u∧
   wpAny (model P w) X.A (letOwnedTupleGo tg (.ref it) u) (fun _ s2=>∃x H',Inv X pins σ H' s2∧RelV x u∧J.yld i H x H'∧tn (i+1) s2.heap∧∀b∈fp,H' b=none) E s1) E s
 done:∀(X:Cx),X.prog=P→X.w=w→X.K=K→X.calm=true→∀(i:Nat)(pins:List (Addr×Obj))(s:Shared)(σ:St)(H:Hp)(E:Value→Shared→Prop),Inv X pins σ H s→(∀b∈fp,FpOk X pins H b)→tn i s.heap→J.stop i H→
  wpAny (model P w) X.A (pyNext (.ref it)) (fun r s1=>r=none∧Inv X pins σ H s1) E s
 self:∀(A:Around)(i:Nat)(s:Shared)(Q:Value→Shared→Prop)(E:Value→Shared→Prop),tn i s.heap→Q (.ref it) s→wpAny (model P w) A (pyIter (.ref it)) Q E s
noncomputable abbrev TI:=St→Hp→(It→Hp→Prop)→Prop
noncomputable def PIE(X:Cx)(pins:List (Addr×Obj))(σ:St)(tg:Expr)(R:It→Hp→Prop)(itv:Value)(s2:Shared):Prop:=
 ∃(it:Addr)(fp:List Addr)(tn:Nat→Heap→Prop)(J:It)(H':Hp),itv=.ref it∧Inv X pins σ H' s2∧Turn X.prog X.w X.K tg J fp it tn∧tn 0 s2.heap∧(∀b∈fp,FpOk X pins H' b)∧R J H'
noncomputable def PI(X:Cx)(tg iter:Expr)(wi:TI):Prop:=
 ∀(pins:List (Addr×Obj))(s:Shared)(σ:St)(H:Hp)(R:It→Hp→Prop),Inv X pins σ H s→wi σ H R→
  wpAny (model X.prog X.w) X.A (eval iter X.env) (fun v s1=>wpAny (model X.prog X.w) X.A (pyIter v) (PIE X pins σ tg R) X.xe s1) X.xe s
theorem go_of{M:Model}{A:Around}{E:Value→Shared→Prop}{s:Shared}{tg:Expr}{it:Addr}{u:Value}{o:Obj}{n:String}{vs:Array Value}{Q:Unit→Shared→Prop}(ho:s.heap.get? it=some o)(hc:o.cls=.type n)(hd:o.data=.fields vs)
    (hn:["enumerate","zip","dict_itemiterator","dict_reverseitemiterator","odict_iterator","itertools.zip_longest","itertools.pairwise"].contains n=false) (hQ:Q () s):wpAny M A (letOwnedTupleGo tg (.ref it) u) Q E s:=by
  unfold letOwnedTupleGo
  cases tg <;> first
    |exact wpAny_pure hQ
    |(cases u <;> first
        |exact wpAny_pure hQ
        | (refine wpAny_bind (wpAny_load ho ?_)
           rw[hc,hd]
           show wpAny M A (if(["enumerate","zip","dict_itemiterator","dict_reverseitemiterator","odict_iterator","itertools.zip_longest","itertools.pairwise"].contains n&&vs[0]? ==some (rawInt _))=true then _ else _) Q E s
           rw[if_neg (by intro h;rw[hn,MQ] at h;cases h)]
           exact wpAny_pure hQ))
noncomputable def Itl(K:JN)(a:Addr):It:=
 ⟨fun i H=>∃xs x,SqL K H a xs∧xs[i]?=some x,fun i H x H'=>H'=H∧∀xs,SqL K H a xs→xs[i]?=some x,fun i H=>∃xs,SqL K H a xs∧xs.length≤i⟩
noncomputable def Itr(lo:Int)(n:Nat):It:=⟨fun i _=>i<n,fun i H x H'=>H'=H∧x=.int (lo+i),fun i _=>n≤i⟩
theorem ki0{P:Program}{w:World}{K:JN}{tg:Expr}(a it:Addr):Turn P w K tg (Itl K a) [it] it (fun i h=>h.IsListIter it a i) where
 mem:=by simp
 obj:=fun i h st b hb=>by
  have e:b=it:=by simpa using hb
  subst e
  obtain⟨o,e,c,d⟩:=st
  exact⟨o,e,fun v z=>by rw[d] at z;cases z⟩
 keep:=fun i h h' st k=>st.at fun o e=>k it (by simp) o e
 item:=by
  intro X hP hw hK hc i pins s σ H E I hf st hg
  subst hP hw hK
  obtain⟨xs,x,hq,hx⟩:=hg
  obtain⟨its,rv,p,hz⟩:=I.list hq
  obtain⟨u,hu,ru⟩:=rv.get hx
  obtain⟨f0,f1,f2,f3,f4,f5⟩:=hf it (by simp)
  refine wpAny_pyNext_list_item st p.isList (x:=u) (by simpa using hu) fun h' st' sb=>?_
  have I1:Inv X pins σ H {s with heap:=h'}:=I.turned (t':=s.toks) (fun b o hb e=>(sb.2 b hb).trans e) f0 f1 f3 f4 f5
  obtain⟨o,e,c,d⟩:=id st'
  exact⟨u,rfl,go_of (s:={s with heap:=h'}) e c d (by decide) ⟨x,H,I1,ru,⟨rfl,fun ys hy=>by rw[I.list_inj hy hq];exact hx⟩,st',fun b hb=>(hf b hb).1⟩⟩
 done:=by
  intro X hP hw hK hc i pins s σ H E I hf st hg
  subst hP hw hK
  obtain⟨xs,hq,hx⟩:=hg
  obtain⟨its,rv,p,hz⟩:=I.list hq
  obtain⟨f0,f1,f2,f3,f4,f5⟩:=hf it (by simp)
  have hl:=rv.length
  exact wpAny_pyNext_list_end (I.ok.hd hc) st p.isList (by simp;omega) fun h' eb=>⟨rfl,I.turned (t':=s.toks) (fun b o hb e=>eb b o hb e) f0 f1 f3 f4 f5⟩
 self:=fun _ _ _ _ _ st h=>wpAny_pyIter_listiter st h
theorem kiE{P:Program}{w:World}{K:JN}{tg:Expr}(it:Addr)(lo:Int)(n:Nat):Turn P w K tg (Itr lo n) [it] it (fun i h=>IsRangeIter h it (lo+(i:Nat)*1) ((n:Int)-(i:Nat)) 1) where
 mem:=by simp
 obj:=fun i h st b hb=>by
  have e:b=it:=by simpa using hb
  subst e
  exact⟨_,st,fun v z=>by
   have z':Data.fields _=Data.cell v:=z
   cases z'⟩
 keep:=fun i h h' st k=>k it (by simp) _ st
 item:=by
  intro X hP hw hK hc i pins s σ H E I hf st hg
  subst hP hw hK
  obtain⟨f0,f1,f2,f3,f4,f5⟩:=hf it (by simp)
  have W:=Walks.range (prog:=X.prog) (w:=X.w) (I.ok.hd hc) it lo 1 n
  refine W.item i s _ _ hg st fun v h' tk hv st' kk=>?_
  obtain⟨t,rfl⟩:=hv
  have I1:Inv X pins σ H {s with heap:=h',toks:=tk}:=I.turned (fun b o hb e=>kk b o (by simpa using hb) e) f0 f1 f3 f4 f5
  refine⟨_,rfl,go_of (s:={s with heap:=h',toks:=tk}) (n:="range_iterator") st' rfl rfl (by decide) ⟨.int (lo+i),H,I1,⟨t,?_⟩,⟨rfl,rfl⟩,st',fun b hb=>(hf b hb).1⟩⟩
  rw[Int.mul_one]
 done:=by
  intro X hP hw hK hc i pins s σ H E I hf st hg
  subst hP hw hK
  obtain⟨f0,f1,f2,f3,f4,f5⟩:=hf it (by simp)
  exact wpAny_pyNext_range_end (I.ok.hd hc) st (by have:n≤i:=hg;omega) fun h' eb=>⟨rfl,I.turned (t':=s.toks) (fun b o hb e=>eb b o hb e) f0 f1 f3 f4 f5⟩
 self:=fun _ _ _ _ _ st h=>wpAny_pyIter_rangeiter st h
end L2
namespace L2
open PySem PySem.Spec PyProof.Rows
section
variable {X:Cx} {tg:Expr}
noncomputable def iList(K:JN)(tl:TE):TI:=fun σ H R=>tl σ H fun x H1=>∃a,x=.ref a∧(∃xs,SqL K H1 a xs)∧R (Itl K a) H1
theorem kmd{l:Expr}{tl:TE}(hl:PE X l tl):PI X tg l (iList X.K tl):=by
 intro pins s σ H R I h
 refine thn (hl pins s σ H _ I h) fun v s1 ⟨x,H1,I1,r1,q1⟩=>?_
 obtain⟨a,e,⟨xs,hq⟩,q⟩:=q1
 subst e
 cases r1
 obtain⟨its,rv,p,hz⟩:=I1.list hq
 refine wpAny_pyIter_list p.isList ?_
 refine⟨s1.heap.objs.size,[s1.heap.objs.size],_,_,H1,rfl,I1.kept (t':=s1.toks) fun b o e=>Heap.get?_push_of_some _ e,ki0 a _,⟨_,Heap.get?_push_size _ rfl,rfl,rfl⟩,fun b hb=>?_,q⟩
 have e:b=s1.heap.objs.size:=by simpa using hb
 subst e
 exact I1.fpOk (JO _) (I1.hok.fresh (JO _))
theorem kkF{pins:List (Addr×Obj)}{σ:St}{H:Hp}{s:Shared}{R:It→Hp→Prop}{E:Value→Shared→Prop}{lo hi:Int}{t u v:Tok}{tk:Nat}(I:Inv X pins σ H s)(h1: -(2 ^ 62)≤lo)(h2:lo<2 ^ 62)(h3: -(2 ^ 62)≤hi)(h4:hi<2 ^ 62)
  (q:R (Itr lo (hi-lo).toNat) H):wpAny (model X.prog X.w) X.A (pyIter (.ref s.heap.objs.size)) (PIE X pins σ tg R) E {s with heap:=s.heap.push {cls:=.type "range",data:=.fields #[.int lo t, .int hi u, .int 1 v]},toks:=tk}:=by
 refine wpAny_pyIter_range (IsRange.new ..) (small_one h1 h2 h3 h4) ?_
 have I1:Inv X pins σ H {s with heap:=s.heap.push {cls:=.type "range",data:=.fields #[.int lo t, .int hi u, .int 1 v]},toks:=tk}:=I.kept fun b o e=>Heap.get?_push_of_some _ e
 refine⟨(s.heap.push {cls:=.type "range",data:=.fields #[.int lo t, .int hi u, .int 1 v]}).objs.size,[(s.heap.push {cls:=.type "range",data:=.fields #[.int lo t, .int hi u, .int 1 v]}).objs.size],_,_,H,rfl,
  I1.kept (t':=tk) fun b o e=>Heap.get?_push_of_some _ e,kiE _ lo (hi-lo).toNat,?_,fun b hb=>?_,q⟩
 ·have e1:lo+((0:Nat):Int)*1=lo:=by simp
  have e2:(((hi-lo).toNat:Nat):Int)-((0:Nat):Int)=Builtin.Range.rangeSize lo hi 1:=by rw[rangeSize_one];split <;> omega
  show IsRangeIter _ _ (lo+((0:Nat):Int)*1) ((((hi-lo).toNat:Nat):Int)-((0:Nat):Int)) 1
  rw[e1,e2]
  exact Heap.get?_push_size _ rfl
 ·have e:b=(s.heap.push {cls:=.type "range",data:=.fields #[.int lo t, .int hi u, .int 1 v]}).objs.size:=by simpa using hb
  subst e
  exact I1.fpOk (JO _) (I1.hok.fresh (JO _))
noncomputable def iRng1(ta:TA):TI:=fun σ H R=>ta σ H fun vs H1=>∃j:Int,vs=[.int j]∧-(2 ^ 62)≤j∧j<2 ^ 62∧R (Itr 0 j.toNat) H1
theorem kdt{a:Expr}{ta:TA}{p pos:Pos}(hg:Gl X "range")(hm:X.mg "range"=none)(ha:PA X [a] ta)(hs:starEach [a] X.env=[(false,eval a X.env)]:=by rfl):PI X tg (.Call (.Name "range" p) [a] [] pos) (iRng1 ta):=by
 intro pins s σ H R I h
 refine Call_ (kdB I hg hm boot_range (PyProof.Rows.callWith_type1 (thn (ha pos pins s σ H _ I h) fun us s1 ⟨vs,H1,I1,r1,q1⟩=>?_) hs rfl))
 obtain⟨j,e,q1,q2,q⟩:=q1
 subst e
 cases r1 with
 |cons r rr=>
  cases rr
  obtain⟨t,rfl⟩:=r
  exact call_range_1 (kkF I1 (by omega) (by omega) q1 q2 (by simpa using q))
noncomputable def tFor(wi:TI)(g:TG)(tb:TS):TS:=fun D σ H=>wi σ H fun J H1=>∃W:Nat→Nat→St→Hp→Prop,(∃m,W 0 m σ H1)∧∀i m σ H,W i m σ H→
 (J.stop i H∧D.nx σ H)∨(J.go i H∧∃N:St→Hp→Prop,(∀σ' H',N σ' H'→∃m',m'<m∧W (i+1) m' σ' H')∧∀x H',J.yld i H x H'→g x σ H' fun σ2 H2=>tb {D with nx:=N,ct:=N,bk:=D.nx} σ2 H2)
noncomputable def kib(fp:List Addr)(h:Heap):List (Addr×Obj):=fp.filterMap fun b=>(h.get? b).map fun o=>(b,o)
theorem kc4{fp:List Addr}{h:Heap}{b:Addr}{o:Obj}(hb:b∈fp)(e:h.get? b=some o):(b,o)∈kib fp h:=List.mem_filterMap.mpr ⟨b,hb,by rw[e];rfl⟩
theorem kjP{fp:List Addr}{h:Heap}{p:Addr×Obj}(hp:p∈kib fp h):p.1∈fp∧h.get? p.1=some p.2:=by
 obtain⟨b,hb,e⟩:=List.mem_filterMap.mp hp
 cases q:h.get? b with
 |none=>rw[q] at e;cases e
 |some o=>
  rw[q] at e
  have e':(b,o)=p:=Option.some.inj e
  subst e'
  exact⟨hb,q⟩
theorem Inv.pinned{pins:List (Addr×Obj)}{σ:St}{H:Hp}{s:Shared}{fp:List Addr}(I:Inv X pins σ H s)(hf:∀b∈fp,FpOk X pins H b)(ho:∀b∈fp,∃o,s.heap.get? b=some o∧∀v,o.data≠.cell v):Inv X (pins++kib fp s.heap) σ H s:=
 I.pins_of fun p hp=>(Nr.mp hp).elim (fun z=>I.pin p (NJ _ z)) fun z=>by
  obtain⟨hb,e⟩:=kjP z
  obtain⟨f0,f1,f2,_⟩:=hf p.1 hb
  obtain⟨o,e',d⟩:=ho p.1 hb
  rw[e] at e';cases e'
  exact⟨e,f0,f1,f2,d⟩
theorem Inv.unpinned{pins pl:List (Addr×Obj)}{σ:St}{H:Hp}{s:Shared}(I:Inv X (pins++pl) σ H s):Inv X pins σ H s:=I.pins_of fun p hp=>I.pin p (NJ _ (Em _ hp))
theorem kbm{iter:Expr}{body:List Stmt}{wi:TI}{g:TG}{tb:TS}{pos:Pos}(hp:PassesOwn (model X.prog X.w) X.A X.env X.xe)(hc:X.calm=true)(hi:PI X tg iter wi)(hg:PG X tg g)(hb:PSs X body tb)
  (hs:∀x,foldedSetIterable iter X.env x=pure x:=by intro _;rfl):PS X (.For tg iter body [] pos) (tFor wi g tb):=by
 intro pins s σ H D I h
 refine wpAny_For (thn (hi pins s σ H _ I h) fun v s1 h1=>thn h1 fun itv s2 h2=>?_) hs
 obtain⟨it,fp,tn,J,H2,e,I2,T,st2,f2,W,⟨m0,w0⟩,turn⟩:=h2
 subst e
 have stat:∀{H':Hp},(∀b∈fp,H' b=none)→∀b∈fp,FpOk X pins H' b:=fun hn b hb=>⟨hn b hb,(f2 b hb).2⟩
 refine codeAny_forLoop_any (fun n s'=>∃i σ' H',Inv X pins σ' H' s'∧tn i s'.heap∧(∀b∈fp,H' b=none)∧W i n σ' H') ?_ m0 ⟨0,σ,H2,I2,st2,fun b hb=>(f2 b hb).1,w0⟩
 rintro n s3 ⟨i,σ3,H3,I3,st3,fr3,w3⟩
 rcases turn i n σ3 H3 w3 with⟨stop,qn⟩|⟨go,N,hN,step⟩
 ·refine wpAny_passesOwn hp (thn (T.done X rfl rfl rfl hc i pins s3 σ3 H3 X.xe I3 (stat fr3) st3 stop) fun r s4 ⟨hr,I4⟩=>?_)
  subst hr
  exact wpAny_execs_nil ⟨σ3,H3,I4,qn⟩
 ·refine wpAny_passesOwn hp (thn (T.item X rfl rfl rfl hc i pins s3 σ3 H3 X.xe I3 (stat fr3) st3 go) fun r s4 ⟨u,hr,h4⟩=>?_)
  subst hr
  refine wpAny_passesOwn hp (thn h4 fun _ s5 ⟨x,H5,I5,r5,y5,st5,fr5⟩=>?_)
  have I5':=I5.pinned (stat fr5) (T.obj _ _ st5)
  refine wpAny_passesOwn hp (thn (hg _ s5 σ3 H5 x u _ I5' r5 (step x H5 y5)) fun _ s6 ⟨σ6,H6,I6,q6⟩=>?_)
  refine wpAny_passesOwn hp (thn (hb _ s6 σ6 H6 _ I6 q6) fun f s7 q7=>?_)
  have again:∀{σ7:St}{H7:Hp},Inv X (pins++kib fp s5.heap) σ7 H7 s7→N σ7 H7→∃m,m<n∧∃i σ' H',Inv X pins σ' H' s7∧tn i s7.heap∧(∀b∈fp,H' b=none)∧W i m σ' H':=fun {σ7 H7} I7 n7=>by
   obtain⟨m',hm,w7⟩:=hN σ7 H7 n7
   refine⟨m',hm,i+1,σ7,H7,I7.unpinned,T.keep _ _ _ st5 fun b hb o e=>(I7.pin (b,o) (NJ _ (NJ _ (kc4 hb e)))).1,fun b hb=>?_,w7⟩
   obtain⟨o,e,d⟩:=T.obj _ _ st5 b hb
   exact(I7.pin (b,o) (NJ _ (NJ _ (kc4 hb e)))).2.1
  cases f with
  |next=>obtain⟨σ7,H7,I7,n7⟩:=q7;exact again I7 n7
  |cont=>obtain⟨σ7,H7,I7,n7⟩:=q7;exact again I7 n7
  |brk=>obtain⟨σ7,H7,I7,q7⟩:=q7;exact⟨σ7,H7,I7.unpinned,q7⟩
  |ret v=>obtain⟨x7,σ7,H7,I7,r7,q7⟩:=q7;exact⟨x7,σ7,H7,I7.unpinned,r7,q7⟩
end
theorem kbd{K:JN}{a:Addr}{xs:List V}{g:TG}{tb:TS}{D:Ends}{σ:St}{H:Hp}(Pv:Nat→St→Hp→Prop)(h0:Pv 0 σ H)(hl:∀i σ H,i≤xs.length→Pv i σ H→SqL K H a xs)
  (hs:∀i x σ H,xs[i]?=some x→Pv i σ H→g x σ H fun σ2 H2=>tb {D with nx:=Pv (i+1),ct:=Pv (i+1),bk:=D.nx} σ2 H2) (hd:∀σ H,Pv xs.length σ H→D.nx σ H):
  ∃W:Nat→Nat→St→Hp→Prop,(∃m,W 0 m σ H)∧∀i m σ H,W i m σ H→
   ((Itl K a).stop i H∧D.nx σ H)∨((Itl K a).go i H∧∃N:St→Hp→Prop,(∀σ' H',N σ' H'→∃m',m'<m∧W (i+1) m' σ' H')∧∀x H',(Itl K a).yld i H x H'→g x σ H' fun σ2 H2=>tb {D with nx:=N,ct:=N,bk:=D.nx} σ2 H2):=by
 refine⟨fun i m σ H=>m=xs.length-i∧i≤xs.length∧Pv i σ H,⟨xs.length,by simp,Nw _,h0⟩,?_⟩
 rintro i m σ H ⟨rfl,hi,p⟩
 have q:=hl i σ H hi p
 by_cases hlt:i<xs.length
 ·refine .inr ⟨⟨xs,xs[i],q,by simp[hlt]⟩,Pv (i+1),fun σ' H' p'=>⟨xs.length-(i+1),by omega,rfl,hlt,p'⟩,fun x H' y=>?_⟩
  obtain⟨e,y⟩:=y
  subst e
  exact hs i x σ _ (y xs q) p
 ·have e:i=xs.length:=by omega
  subst e
  exact .inl ⟨⟨xs,q,JO _⟩,hd σ H p⟩
theorem keU{lo:Int}{n:Nat}{g:TG}{tb:TS}{D:Ends}{σ:St}{H:Hp}(Pv:Nat→St→Hp→Prop)(h0:Pv 0 σ H)
  (hs:∀i σ H,i<n→Pv i σ H→g (.int (lo+i)) σ H fun σ2 H2=>tb {D with nx:=Pv (i+1),ct:=Pv (i+1),bk:=D.nx} σ2 H2) (hd:∀σ H,Pv n σ H→D.nx σ H):
  ∃W:Nat→Nat→St→Hp→Prop,(∃m,W 0 m σ H)∧∀i m σ H,W i m σ H→
   ((Itr lo n).stop i H∧D.nx σ H)∨((Itr lo n).go i H∧∃N:St→Hp→Prop,(∀σ' H',N σ' H'→∃m',m'<m∧W (i+1) m' σ' H')∧∀x H',(Itr lo n).yld i H x H'→g x σ H' fun σ2 H2=>tb {D with nx:=N,ct:=N,bk:=D.nx} σ2 H2):=by
 refine⟨fun i m σ H=>m=n-i∧i≤n∧Pv i σ H,⟨n,by simp,Nw _,h0⟩,?_⟩
 rintro i m σ H ⟨rfl,hi,p⟩
 by_cases hlt:i<n
 ·refine .inr ⟨hlt,Pv (i+1),fun σ' H' p'=>⟨n-(i+1),by omega,rfl,hlt,p'⟩,fun x H' y=>?_⟩
  obtain⟨e,y⟩:=y
  subst e y
  exact hs i σ _ hlt p
 ·have e:i=n:=by omega
  subst e
  exact .inl ⟨JO _,hd σ H p⟩
theorem kky{c:TT}{tb:TS}{D:Ends}{σ:St}{H:Hp}(Pv:St→Hp→Prop)(μ:St→Hp→Nat)(h0:Pv σ H)
  (hs:∀σ H,Pv σ H→c σ H fun b H1=>if b=true then tb {D with nx:=fun σ' H'=>Pv σ' H'∧μ σ' H'< μ σ H,ct:=fun σ' H'=>Pv σ' H'∧μ σ' H'< μ σ H,bk:=D.nx} σ H1 else D.nx σ H1)
  (mono:∀σ H Q Q',(∀b H1,Q b H1→Q' b H1)→c σ H Q→c σ H Q'):klo c tb D σ H:=by
 refine⟨fun m σ H=>m= μ σ H∧Pv σ H,⟨_,rfl,h0⟩,?_⟩
 rintro m σ H ⟨rfl,p⟩
 refine mono σ H _ _ (fun b H1 q=>?_) (hs σ H p)
 cases b with
 |true=>exact⟨_,fun σ' H' ⟨p',l⟩=>⟨_,l,rfl,p'⟩,q⟩
 |false=>exact q
end L2
namespace L2
open PySem PySem.Spec PyProof.Rows
noncomputable abbrev R2:=V→V→Hp→VK→Prop
noncomputable def OpR(X:Cx)(f:Value→Value→Sem Value)(r:R2):Prop:=
 ∀(pins:List (Addr×Obj))(s:Shared)(σ:St)(H:Hp)(x y:V)(v u:Value)(Q:VK),Inv X pins σ H s→RelV x v→RelV y u→r x y H Q→
  wpAny (model X.prog X.w) X.A (f v u) (EP X pins σ Q) X.xe s
noncomputable def UnR(X:Cx)(f:Value→Sem Value)(r:V→Hp→VK→Prop):Prop:=
 ∀(pins:List (Addr×Obj))(s:Shared)(σ:St)(H:Hp)(x:V)(v:Value)(Q:VK),Inv X pins σ H s→RelV x v→r x H Q→
  wpAny (model X.prog X.w) X.A (f v) (EP X pins σ Q) X.xe s
noncomputable def CallR(X:Cx)(f:Value)(r:List V→Hp→VK→Prop):Prop:=
 ∀(pins:List (Addr×Obj))(s:Shared)(σ:St)(H:Hp)(xs:List V)(us:List Value)(Q:VK),Inv X pins σ H s→Vals xs us→r xs H Q→
  wpAny (model X.prog X.w) X.A (call f us) (EP X pins σ Q) X.xe s
noncomputable def tOp(r:R2)(ta tb:TE):TE:=fun σ H Q=>ta σ H fun x H1=>tb σ H1 fun y H2=>r x y H2 Q
noncomputable def tUn(r:V→Hp→VK→Prop)(ta:TE):TE:=fun σ H Q=>ta σ H fun x H1=>r x H1 Q
noncomputable def rI(C:Int→Int→Prop)(g:Int→Int→V):R2:=fun x y H Q=>∃i j,x=.int i∧y=.int j∧C i j∧Q (g i j) H
noncomputable def rI0(g:Int→Int→V):R2:=fun x y H Q=>∃i j,x=.int i∧y=.int j∧Q (g i j) H
noncomputable def rU(g:Int→V):V→Hp→VK→Prop:=fun x H Q=>∃i,x=.int i∧Q (g i) H
section
variable {X:Cx} {a b c:Expr} {ta tb tc:TE} {pos:Pos}
theorem binT(ha:PE X a ta)(hb:PE X b tb){pins:List (Addr×Obj)}{s:Shared}{σ:St}{H:Hp}{R:V→V→Hp→Prop}(I:Inv X pins σ H s)
  (h:ta σ H fun x H1=>tb σ H1 fun y H2=>R x y H2) {Q:Value→Shared→Prop} {f:Value→Value→Sem Value}
  (hf:∀v u s2 x y H2,Inv X pins σ H2 s2→RelV x v→RelV y u→R x y H2→wpAny (model X.prog X.w) X.A (f v u) Q X.xe s2):
  wpAny (model X.prog X.w) X.A (eval a X.env) (fun v s₁=>wpAny (model X.prog X.w) X.A (eval b X.env) (fun u s₂=>wpAny (model X.prog X.w) X.A (f v u) Q X.xe s₂) X.xe s₁) X.xe s:=by
 refine thn (ha pins s σ H _ I h) fun v s1 ⟨x,H1,I1,r1,q1⟩=>?_
 refine thn (hb pins s1 σ H1 _ I1 q1) fun u s2 ⟨y,H2,I2,r2,q2⟩=>?_
 exact hf v u s2 x y H2 I2 r1 r2 q2
theorem pe_op{op:Operator}{r:R2}(ho:OpR X (binaryOp op) r)(ha:PE X a ta)(hb:PE X b tb):PE X (.BinOp a op b pos) (tOp r ta tb):=by
 intro pins s σ H Q I h
 exact wpAny_BinOp (binT ha hb I h fun v u s2 x y H2 I2 rx ry q=>ho pins s2 σ H2 x y v u Q I2 rx ry q)
theorem pe_un{op:UnaryOp}{r:V→Hp→VK→Prop}(ho:UnR X (unaryOp op) r)(ha:PE X a ta):PE X (.UnaryOp op a pos) (tUn r ta):=by
 intro pins s σ H Q I h
 exact UnaryOp_ (thn (ha pins s σ H _ I h) fun v s1 ⟨x,H1,I1,r1,q1⟩=>ho pins s1 σ H1 x v Q I1 r1 q1)
theorem opI{f:Value→Value→Sem Value}{C:Int→Int→Prop}{g:Int→Int→Int}
  (rule:∀(i j:Int)(t u:Tok)(s:Shared)(Q:Value→Shared→Prop)(E:Value→Shared→Prop),C i j→Q (.int (g i j) s.toks) {s with toks:=s.toks+1}→wpAny (model X.prog X.w) X.A (f (.int i t) (.int j u)) Q E s):
  OpR X f (rI C fun i j=>.int (g i j)):=by
 intro pins s σ H x y v u Q I rx ry h
 obtain⟨i,j,rfl,rfl,hc,q⟩:=h
 obtain⟨t,rfl⟩:=rx
 obtain⟨t',rfl⟩:=ry
 exact rule i j t t' s _ _ hc ⟨.int (g i j),H,I.tok _,⟨_,rfl⟩,q⟩
theorem opI0{f:Value→Value→Sem Value}{g:Int→Int→Int}
  (rule:∀(i j:Int)(t u:Tok)(s:Shared)(Q:Value→Shared→Prop)(E:Value→Shared→Prop),Q (.int (g i j) s.toks) {s with toks:=s.toks+1}→wpAny (model X.prog X.w) X.A (f (.int i t) (.int j u)) Q E s):
  OpR X f (rI0 fun i j=>.int (g i j)):=by
 intro pins s σ H x y v u Q I rx ry h
 obtain⟨i,j,rfl,rfl,q⟩:=h
 obtain⟨t,rfl⟩:=rx
 obtain⟨t',rfl⟩:=ry
 exact rule i j t t' s _ _ ⟨.int (g i j),H,I.tok _,⟨_,rfl⟩,q⟩
theorem opB0{f:Value→Value→Sem Value}{g:Int→Int→Bool}
  (rule:∀(i j:Int)(t u:Tok)(s:Shared)(Q:Value→Shared→Prop)(E:Value→Shared→Prop),Q (.bool (g i j)) s→wpAny (model X.prog X.w) X.A (f (.int i t) (.int j u)) Q E s):
  OpR X f (rI0 fun i j=>.bl (g i j)):=by
 intro pins s σ H x y v u Q I rx ry h
 obtain⟨i,j,rfl,rfl,q⟩:=h
 obtain⟨t,rfl⟩:=rx
 obtain⟨t',rfl⟩:=ry
 exact rule i j t t' s _ _ ⟨.bl (g i j),H,I,rfl,q⟩
noncomputable def CDiv(i j:Int):Prop:=0<j∧j<1073741824
noncomputable def CMul(i j:Int):Prop:=(-(2 ^ 64)<i∧i<2 ^ 64)∨(-(2 ^ 64)<j∧j<2 ^ 64)
theorem CMul.ok{i j:Int}(h:CMul i j):IntMulOk i j:=by
 rcases h with⟨h1,h2⟩|⟨h1,h2⟩
 ·exact .of_left (intBits_le_64 h1 h2)
 ·exact .of_right (intBits_le_64 h1 h2)
theorem kcR:OpR X (binaryOp .Add) (rI0 fun i j=>.int (i+j)):=opI0 fun _ _ _ _ _ _ _ q=>add_int q
theorem kd1:OpR X (binaryOp .Sub) (rI0 fun i j=>.int (i-j)):=opI0 fun _ _ _ _ _ _ _ q=>sub_int q
theorem kcQ:OpR X (binaryOp .Mult) (rI CMul fun i j=>.int (i*j)):=opI fun _ _ _ _ _ _ _ hc q=>mul_int q hc.ok
theorem kaz:OpR X (binaryOp .FloorDiv) (rI CDiv fun i j=>.int (i/j)):=opI fun i j _ _ _ _ _ hc q=>by
 have h1:(0:Int)<j:=hc.1
 have h2:j<1073741824:=hc.2
 exact floordiv_int (by omega) (by rw[Int.fdiv_eq_ediv_of_nonneg i (by omega)];exact q) (.inl (PyProof.noPylong_small (by omega)))
theorem kaA:OpR X (binaryOp .Mod) (rI (fun _ j=>0<j) fun i j=>.int (i%j)):=opI fun i j _ _ _ _ _ hc q=>by
 have h1:(0:Int)<j:=hc
 exact mod_int' (by omega) (by rw[Int.fmod_eq_emod_of_nonneg i (by omega)];exact q)
theorem unI{f:Value→Sem Value}{g:Int→Int}
  (rule:∀(i:Int)(t:Tok)(s:Shared)(Q:Value→Shared→Prop)(E:Value→Shared→Prop),Q (.int (g i) s.toks) {s with toks:=s.toks+1}→wpAny (model X.prog X.w) X.A (f (.int i t)) Q E s):
  UnR X f (rU fun i=>.int (g i)):=by
 intro pins s σ H x v Q I rx h
 obtain⟨i,rfl,q⟩:=h
 obtain⟨t,rfl⟩:=rx
 exact rule i t s _ _ ⟨.int (g i),H,I.tok _,⟨_,rfl⟩,q⟩
theorem khN:UnR X (unaryOp .USub) (rU fun i=>.int (-i)):=unI fun _ _ _ _ _ q=>neg_int q
end
noncomputable def scal:V→V→Bool
 | .non, .non=>true| .non, .int _=>true| .int _, .non=>true| .non, .bl _=>true| .bl _, .non=>true| .non, .str _=>true| .str _, .non=>true
 | .int _, .int _=>true| .bl _, .bl _=>true| .str _, .str _=>true| .byt _, .byt _=>true
 | .int _, .str _=>true| .str _, .int _=>true| .bl _, .str _=>true| .str _, .bl _=>true
 |_,_=>false
noncomputable def rEq:R2:=fun x y H Q=>scal x y=true∧Q (.bl (decide (x=y))) H
def kmz{i j:Int}:decide (V.int i=V.int j)=(i==j):=by
 rw[MR]
 simp
def knb{i j:Bool}:decide (V.bl i=V.bl j)=(i==j):=by
 rw[MR]
 simp
def kmy{i j:Str}:decide (V.str i=V.str j)=(i==j):=by
 rw[MR]
 simp
def kmA{i j:Array UInt8}:decide (V.byt i=V.byt j)=(i.toList==j.toList):=by
 rw[MR]
 cases i
 cases j
 simp
section
variable {X:Cx} {a b c:Expr} {ta tb tc:TE} {pos:Pos}
theorem kbE{pins:List (Addr×Obj)}{σ:St}{H:Hp}{s:Shared}{Q:VK}{k k':Bool}(I:Inv X pins σ H s)(q:Q (.bl k) H)(e:k=k'):EP X pins σ Q (.bool k') s:=by
 subst e
 exact⟨.bl k,H,I,rfl,q⟩
theorem op_eq:OpR X (compareOp .Eq) rEq:=by
 intro pins s σ H x y v u Q I rx ry h
 obtain⟨hs,q⟩:=h
 cases x with
 |non=>
  cases rx
  cases y with
  |non=>cases ry;exact PySem.EqNone.eq_none_none (kbE I q (by simp))
  |bl j=>cases ry;exact PySem.EqNone.eq_none_bool (kbE I q (by simp))
  |int j=>obtain⟨t',rfl⟩:=ry;exact PySem.EqNone.eq_none_int (kbE I q (by simp))
  |str j=>obtain⟨t',rfl⟩:=ry;exact PySem.EqNone.eq_none_str (kbE I q (by simp))
  |_=>exact absurd (show false=true from hs) JV
 |bl i=>
  cases rx
  cases y with
  |non=>cases ry;exact PySem.EqNone.eq_bool_none (kbE I q (by simp))
  |bl j=>cases ry;exact eq_bool (kbE I q knb)
  |str j=>obtain⟨t',rfl⟩:=ry;exact PySem.EqMixed.eq_bool_str (kbE I q (by simp))
  |_=>exact absurd (show false=true from hs) JV
 |int i=>
  obtain⟨t,rfl⟩:=rx
  cases y with
  |non=>cases ry;exact PySem.EqNone.eq_int_none (kbE I q (by simp))
  |int j=>obtain⟨t',rfl⟩:=ry;exact eq_int (kbE I q kmz)
  |str j=>obtain⟨t',rfl⟩:=ry;exact PySem.EqMixed.eq_int_str (kbE I q (by simp))
  |_=>exact absurd (show false=true from hs) JV
 |str i=>
  obtain⟨t,rfl⟩:=rx
  cases y with
  |non=>cases ry;exact PySem.EqNone.eq_str_none (kbE I q (by simp))
  |bl j=>cases ry;exact PySem.EqMixed.eq_str_bool (kbE I q (by simp))
  |int j=>obtain⟨t',rfl⟩:=ry;exact PySem.EqMixed.eq_str_int (kbE I q (by simp))
  |str j=>obtain⟨t',rfl⟩:=ry;exact eq_str (kbE I q kmy)
  |_=>exact absurd (show false=true from hs) JV
 |byt i=>
  obtain⟨t,rfl⟩:=rx
  cases y with
  |byt j=>obtain⟨t',rfl⟩:=ry;exact PySem.W.eq_bytes (kbE I q kmA)
  |_=>exact absurd (show false=true from hs) JV
 |_=>cases y <;> exact absurd (show false=true from hs) JV
theorem op_lt:OpR X (compareOp .Lt) (rI0 fun i j=>.bl (decide (i<j))):=opB0 fun _ _ _ _ _ _ _ q=>lt_int q
theorem op_gt:OpR X (compareOp .Gt) (rI0 fun i j=>.bl (decide (j<i))):=opB0 fun _ _ _ _ _ _ _ q=>gt_int q
theorem kfs:OpR X (compareOp .Is) (fun x y H Q=>y=.non∧Q (.bl (decide (x=.non))) H):=by
 intro pins s σ H x y v u Q I rx ry h
 obtain⟨rfl,q⟩:=h
 cases ry
 refine is_none_gen (kbE I q ?_)
 cases x <;> first
  |(cases rx;rfl)
  |(obtain⟨t,rfl⟩:=rx;rfl)
theorem kdh:OpR X (compareOp .IsNot) (fun x y H Q=>y=.non∧Q (.bl (!decide (x=.non))) H):=by
 intro pins s σ H x y v u Q I rx ry h
 obtain⟨rfl,q⟩:=h
 cases ry
 refine isnot_none_gen (kbE I q ?_)
 cases x <;> first
  |(cases rx;rfl)
  |(obtain⟨t,rfl⟩:=rx;rfl)
theorem OpR.or{f:Value→Value→Sem Value}{r r':R2}(h:OpR X f r)(h':OpR X f r'):OpR X f (fun x y H Q=>r x y H Q∨r' x y H Q):=by
 intro pins s σ H x y v u Q I rx ry q
 rcases q with q|q
 ·exact h pins s σ H x y v u Q I rx ry q
 ·exact h' pins s σ H x y v u Q I rx ry q
theorem kat(b:Expr){op:CmpOp}(h:op≠.In:=by decide)(h2:op≠.NotIn:=by decide):behindInMarks op b=false:=by
 have e1:(op==CmpOp.In)=false:=by cases op <;> first|rfl|exact absurd rfl h
 have e2:(op==CmpOp.NotIn)=false:=by cases op <;> first|rfl|exact absurd rfl h2
 cases b <;> simp[behindInMarks,e1,e2]
theorem kdg{op:CmpOp}{r:R2}(ho:OpR X (compareOp op) r)(ha:PE X a ta)(hb:PE X b tb)(hm:behindInMarks op b=false):PE X (.Compare a [op] [b] pos) (tOp r ta tb):=by
 intro pins s σ H Q I h
 exact wpAny_Compare1 (binT ha hb I h fun v u s2 x y H2 I2 rx ry q=>ho pins s2 σ H2 x y v u Q I2 rx ry q) hm
noncomputable def tTest(t:TE):TT:=fun σ H Q=>t σ H fun x H'=>∃k,x=.bl k∧Q k H'
theorem kan{op:CmpOp}{r:R2}(ho:OpR X (compareOp op) r)(ha:PE X a ta)(hb:PE X b tb)(hm:behindInMarks op b=false):PT X (.Compare a [op] [b] pos) (tTest (tOp r ta tb)):=by
 intro pins s σ H Q I h
 refine wpAny_isTrue_Compare1 (thn (ha pins s σ H _ I h) fun v s1 ⟨x,H1,I1,r1,q1⟩=>thn (hb pins s1 σ H1 _ I1 q1) fun u s2 ⟨y,H2,I2,r2,q2⟩=>
  thn (ho pins s2 σ H2 x y v u _ I2 r1 r2 q2) fun c s3 ⟨z,H3,I3,r3,k,e,q3⟩=>?_) hm
 subst e
 cases r3
 exact wpAny_truthy_bool ⟨H3,I3,q3⟩
theorem kgI:(sizeLine:Nat)<2 ^ 63:=by rw[sizeLine_eq];decide
theorem vals1{x:V}{us:List Value}(r:Vals [x] us):∃u,us=[u]∧RelV x u:=by
 cases r with
 |cons r1 r2=>cases r2;exact⟨_,rfl,r1⟩
theorem vals2{x y:V}{us:List Value}(r:Vals [x,y] us):∃u w',us=[u,w']∧RelV x u∧RelV y w':=by
 cases r with
 |cons r1 r2=>
  cases r2 with
  |cons r3 r4=>cases r4;exact⟨_,_,rfl,r1,r3⟩
theorem ke0(hc:X.calm=true):CallR X (.builtin "max") (fun xs H Q=>∃i j,xs=[.int i, .int j]∧Q (.int (if j > i then j else i)) H):=by
 intro pins s σ H xs us Q I r h
 obtain⟨i,j,rfl,q⟩:=h
 obtain⟨u,w',rfl,⟨t,rfl⟩,⟨t',rfl⟩⟩:=vals2 r
 refine max_two_ints (I.ok.hd hc) fun h' tk k=>⟨_,H,I.kept k,?_,q⟩
 by_cases hj:j > i
 ·rw[if_pos hj,if_pos hj];exact⟨_,rfl⟩
 ·rw[if_neg hj,if_neg hj];exact⟨_,rfl⟩
theorem kb5(hc:X.calm=true):CallR X (.builtin "min") (fun xs H Q=>∃i j,xs=[.int i, .int j]∧Q (.int (if j<i then j else i)) H):=by
 intro pins s σ H xs us Q I r h
 obtain⟨i,j,rfl,q⟩:=h
 obtain⟨u,w',rfl,⟨t,rfl⟩,⟨t',rfl⟩⟩:=vals2 r
 refine min_two_ints (I.ok.hd hc) fun h' tk k=>⟨_,H,I.kept k,?_,q⟩
 by_cases hj:j<i
 ·rw[if_pos hj,if_pos hj];exact⟨_,rfl⟩
 ·rw[if_neg hj,if_neg hj];exact⟨_,rfl⟩
end
end L2
namespace L2
open PySem PySem.Spec PyProof.Rows
structure ObjM (h:Heap) (x dx C:Addr) (mA:Str→Option Value):Prop where
 obj:h.get? x=some (Md C dx)
 ns:h.Ns1 dx mA
 ne:dx≠x
def kgE{h:Heap}{dx:Addr}{mA:Str→Option Value}(n:h.Ns1 dx mA):∃od,h.get? dx=some od∧∀name,MS name od=some (mA name):=by
 obtain⟨o,es,ep,ho,hd,hk,_,hm⟩:=n
 refine⟨o,ho,fun name=>?_⟩
 have e:=hm name
 unfold nsFind findBy at e
 rw[←Array.find?_toList] at e
 unfold MS
 rw[hd]
 dsimp only
 split
 ·rename_i y q
  rw[q] at e
  exact congrArg some e
 ·rename_i q
  rw[q] at e
  have a:es.toList.any (·.refKey)=false:=by
   rw[List.any_eq_false]
   intro y hy
   obtain⟨z,t,hkey⟩:=hk y (Array.mem_toList_iff.mp hy)
   simp[DictEntry.refKey,hkey]
  have a':¬es.toList.any (·.refKey)=true:=by rw[a];exact JV
  rw[if_neg a']
  exact congrArg some e
def ObjM.look{h:Heap}{x dx C:Addr}{mA:Str→Option Value}(I:ObjM h x dx C mA):∃od,PySem.W.InstAt h x (Md C dx) C (some od)∧∀name,MS name od=some (mA name):=
 let⟨od,ho,hl⟩:=kgE I.ns
 ⟨od,⟨I.obj,rfl,rfl,ho⟩,hl⟩
section
variable {prog:Program} {w:World} {A:Around} {E:Value→Shared→Prop} {s:Shared} {K:JN} {x dx C f:Addr} {mA:Str→Option Value} {name:Str} {v:Value}
theorem get_map{expr:Bool}{Q:Value→Shared→Prop}(X:K.In s.heap)(I:ObjM s.heap x dx C mA)(hg:Nx K C name=true)(hh:NC K C=true)
  (ha:JP K (.ref C) name=some none) (hv:mA name=some v) (hv':PySem.W.handedIn v=true) (h:Q v {s with toks:=s.toks+1}):
  wpAny (model prog w) A (getAttr (.ref x) name expr) Q E s:=by
 obtain⟨od,J,hl⟩:=I.look
 exact PySem.W.get_value X J (Eo hg).1 (PySem.W.findObj_own hh ha rfl (by rw[hl,hv])) hv' h
theorem kk6{pl:Sem Bool}{Q:Value×List Value→Shared→Prop}(X:K.In s.heap)(I:ObjM s.heap x dx C mA)(hg:Nx K C name=true)
  (hf:JP K (.ref C) name=some (some (.ref f))) (ht:ND K (.ref f)=true) (hv:mA name=none) (h:Q (.ref f,[.ref x]) s):
  wpAny (model prog w) A (getMethod (.ref x) name pl) Q E s:=by
 obtain⟨od,J,hl⟩:=I.look
 exact PySem.W.method_fn X J (Eo hg).1 (Eo hg).2 hf (beq_iff_eq.mp ht) (by show(MS name od).map (·.isSome)=some false;rw[hl,hv];rfl) h
theorem kl2{ns:List Str}{Q:Unit→Shared→Prop}(X:K.In s.heap)(I:ObjM s.heap x dx C mA)
  (hs:JP K (.ref C) "__setattr__"=some (some (.builtin "object.__setattr__"))) (hp:NK K C=true) (ht:Ep K C name=some none) (hh:NC K C=true)
  (hw:PySem.Within mA ns) (hsz:ns.length≤sizeLine)
  (h:∀h',ObjM h' x dx C (fun y=>if y=name then some v else mA y)→Heap.SameBut dx s.heap h'→Q () {s with heap:=h',toks:=s.toks+2}):
  wpAny (model prog w) A (setAttr (.ref x) name v) Q E s:=by
 obtain⟨od,J,hl⟩:=I.look
 refine PySem.W.set_plain X J hs (PySem.W.osa_open (s:={s with toks:=s.toks+1}) (r:=none) X J hp ht fun b=>?_)
 obtain⟨cd,hc,hd'⟩:=PySem.W.any_some hh
 have hx:s.heap.get? x=some ⟨.ref C,some dx, .plain,#[]⟩:=I.obj
 refine wpAny_bind (wpAny_pure (wpAny_bind (wpAny_bind (wpAny_loadPart hx (wpAny_bind (Er.here (s:={s with toks:=s.toks+1}) (PySem.W.looks_clsIn X hc) ?_))))))
 rw[hd']
 refine wpAny_pure (a:=some dx) (wpAny_bind (wpAny_pure (wpAny_bind ?_)))
 refine wpAny_nsSet1 (s:={s with toks:=s.toks+1}) I.ns fun h' hn2 hs2=>?_
 obtain⟨oD,esD,epD,hoD,hdD,hcD⟩:=hn2.count (PySem.Within.cons name v hw)
 refine wpAny_bind (wpAny_lookBehind hoD (by rw[hdD];exact pastItsLine_dict (JR hcD (by rw[Nq];omega))) ?_)
 exact wpAny_pure (h _ ⟨(hs2.2 _ (Ne.symm I.ne)).trans I.obj,hn2,I.ne⟩ hs2)
theorem kkW{R:Result→Shared→Prop}{vs:List Value}{kw:List (Str×Value)}(X:K.In s.heap)(hm:NF K C=true)
  (hi:JP K (.ref C) "__init__"=some (some (.ref f))) (hf:Ny K (.ref f)=some (.type "function"))
  (h:codeAny (model prog w) (A.under (.builtin "type.__call__" ⟨.ref C::vs,kw⟩)) (.call (.ref f) ⟨.ref (s.heap.objs.size+1)::vs,kw⟩) (PySem.W.InitBack (s.heap.objs.size+1) R)
   {s with heap:=(s.heap.push N5).push (Md C s.heap.objs.size)}):
  codeAny (model prog w) A (.call (.ref C) ⟨vs,kw⟩) R s:=by
 obtain⟨hh,g,d,t,os⟩:=s
 exact PySem.W.make_core (PySem.W.makes_of X hm) (PySem.W.looks_findIn X hi) (fun self=>PySem.W.bind_fn X self hf) (.inl rfl) h
end
noncomputable def putF(f:Str)(v:V):List (Str×V)→List (Str×V)
 |[]=>[(f,v)]
 |(g,x)::r=>if g=f then(g,v)::r else(g,x)::putF f v r
theorem kab(f g:Str)(v:V):∀fs:List (Str×V),(putF f v fs).lookup g=if g=f then some v else fs.lookup g
 | []=>by
  show NP g [(f,v)]=_
  by_cases h:g=f
  ·have hb:(g==f)=true:=beq_iff_eq.mpr h
   simp only[NP,hb,if_pos h]
  ·have hb:(g==f)=false:=beq_eq_false_iff_ne.mpr h
   simp only[NP,hb,if_neg h]
 | (k,x)::r=>by
  have ih:=kab f g v r
  rw[show putF f v ((k,x)::r)=(if k=f then(k,v)::r else(k,x)::putF f v r) from rfl]
  by_cases hk:k=f
  ·rw[if_pos hk]
   by_cases h:g=k
   ·have hb:(g==k)=true:=beq_iff_eq.mpr h
    simp only[NP,hb,if_pos (h.trans hk)]
   ·have hb:(g==k)=false:=beq_eq_false_iff_ne.mpr h
    simp only[NP,hb,if_neg (fun e:g=f=>h (e.trans hk.symm))]
  ·rw[if_neg hk]
   by_cases h:g=k
   ·have hb:(g==k)=true:=beq_iff_eq.mpr h
    simp only[NP,hb,if_neg (fun e:g=f=>hk (h.symm.trans e))]
   ·have hb:(g==k)=false:=beq_eq_false_iff_ne.mpr h
    simp only[NP,hb]
    exact ih
theorem kcW(f:Str)(v:V):∀fs:List (Str×V),f∈(putF f v fs).map (·.1)∧∀g,g∈fs.map (·.1)→g∈(putF f v fs).map (·.1)
 |[]=>⟨by simp[putF],fun g h=>by simp at h⟩
 | (k,x)::r=>by
  obtain⟨i1,i2⟩:=kcW f v r
  rw[show putF f v ((k,x)::r)=(if k=f then(k,v)::r else(k,x)::putF f v r) from rfl]
  by_cases hk:k=f
  ·rw[if_pos hk]
   subst hk
   exact⟨by simp,fun g h=>by simpa using h⟩
  ·rw[if_neg hk]
   refine⟨?_,fun g h=>?_⟩
   ·rw[J0]
    exact J5 _ i1
   ·rw[J0] at h⊢
    rcases Nd.mp h with e|e
    ·exact Nd.mpr (.inl e)
    ·exact J5 _ (i2 g e)
theorem keQ(f:Str)(v:V):∀fs:List (Str×V),(putF f v fs).length≤fs.length+1
 |[]=>by simp[putF]
 |(k,x)::r=>by
  have ih:=keQ f v r
  rw[show putF f v ((k,x)::r)=(if k=f then(k,v)::r else(k,x)::putF f v r) from rfl]
  by_cases hk:k=f
  ·rw[if_pos hk,Nq,Nq];omega
  ·rw[if_neg hk,Nq,Nq];omega
theorem RelO.some_of{v:V}{o:Option Value}(r:RelO (some v) o):∃u,o=some u∧RelV v u:=by
 cases o with
 |none=>exact(show False from r).elim
 |some u=>exact⟨u,rfl,r⟩
theorem RelO.none_of{o:Option Value}(r:RelO none o):o=none:=by
 cases o with
 |none=>rfl
 |some u=>exact(show False from r).elim
theorem kj7{v:V}{u:Value}(r:RelV v u):PySem.W.handedIn u=true:=by
 cases v with
 |non=>cases(show u=Value.none from r);rfl
 |bl b=>cases(show u=Value.bool b from r);rfl
 |int i=>obtain⟨t,e⟩:=(show ∃t,u=Value.int i t from r);cases e;rfl
 |str x=>obtain⟨t,e⟩:=(show ∃t,u=Value.str x t from r);cases e;rfl
 |byt b=>obtain⟨t,e⟩:=(show ∃t,u=Value.bytes b t from r);cases e;rfl
 |flt b=>obtain⟨t,e⟩:=(show ∃t,u=Value.float b t from r);cases e;rfl
 |ref a=>cases(show u=Value.ref a from r);rfl
 |ty n=>cases(show u=Value.type n from r);rfl
section
variable {P:Program} {w:World} {H H':Hp} {h h':Heap} {a C dx:Addr} {fs fs':List (Str×V)}
theorem kf2(hok:HOk P w H h)(e:H a=some (.ins C dx fs)):∃mA,ObjM h a dx C mA∧(∀f,RelO (fs.lookup f) (mA f))∧PySem.Within mA (fs.map (·.1))∧fs.length≤1000∧H dx=some (.own a):=by
 obtain⟨d,z,ne,ob,mA,n,r,q⟩:=(show ObjOk P w H h a (.ins C dx fs) from hok a _ e)
 exact⟨mA,⟨ob,n,ne⟩,r,q,z,d⟩
end
structure Cls (K:JN) (C:Addr):Prop where
 pg:Nx K C Str.empty=true
 hd:NC K C=true
 po:NK K C=true
 sa:JP K (.ref C) "__setattr__"=some (some (.builtin "object.__setattr__"))
def Cls.get{K:JN}{C:Addr}(c:Cls K C)(f:Str):Nx K C f=true:=c.pg
noncomputable def NoAttr(K:JN)(C:Addr)(f:Str):Prop:=JP K (.ref C) f=some none
def NoAttr.taker{K:JN}{C:Addr}{f:Str}(n:NoAttr K C f):Ep K C f=some none:=by
 unfold Ep
 rw[show JP K (.ref C) f=some none from n]
 rfl
structure Meth (K:JN) (C:Addr) (m:Str) (f:Addr):Prop where
 at_:JP K (.ref C) m=some (some (.ref f))
 fn:ND K (.ref f)=true
 kp:J6 K (.ref f)=true
section
variable {X:Cx} {pins:List (Addr×Obj)} {σ:St} {H:Hp} {s:Shared} {a C dx:Addr} {fs:List (Str×V)} {f:Str} {v:V} {A:Around} {E:Value→Shared→Prop}
theorem kfA{b:Bool}{Q:Value→Shared→Prop}(I:Inv X pins σ H s)(e:H a=some (.ins C dx fs))(c:Cls X.K C)(n:NoAttr X.K C f)(l:fs.lookup f=some v)
  (h:∀u s',Inv X pins σ H s'→RelV v u→Q u s'):wpAny (model X.prog X.w) A (getAttr (.ref a) f b) Q E s:=by
 obtain⟨mA,O,r,_,_,_⟩:=kf2 I.hok e
 obtain⟨u,hu,ru⟩:=RelO.some_of (v:=v) (o:=mA f) (by rw[←l];exact r f)
 exact get_map I.kIn O (c.get f) c.hd n hu (kj7 ru) (h u _ (I.tok _) ru)
theorem kfz{m:Str}{g:Addr}{pl:Sem Bool}{Q:Value×List Value→Shared→Prop}(I:Inv X pins σ H s)(e:H a=some (.ins C dx fs))(c:Cls X.K C)(k:Meth X.K C m g)(l:fs.lookup m=none)
  (h:Q (.ref g,[.ref a]) s):wpAny (model X.prog X.w) A (getMethod (.ref a) m pl) Q E s:=by
 obtain⟨mA,O,r,_,_,_⟩:=kf2 I.hok e
 have hn:mA m=none:=RelO.none_of (by rw[←l];exact r m)
 exact kk6 I.kIn O (c.get m) k.at_ k.fn hn h
theorem kiG{y:V}{u:Value}{Q:Unit→Shared→Prop}(I:Inv X pins σ H s)(e:H a=some (.ins C dx fs))(c:Cls X.K C)(n:NoAttr X.K C f)(hl:fs.length<1000)(ry:RelV y u)
  (h:∀s',Inv X pins σ (upd H a (.ins C dx (putF f y fs))) s'→Q () s'):wpAny (model X.prog X.w) A (setAttr (.ref a) f u) Q E s:=by
 obtain⟨mA,O,r,wi,_,ho⟩:=kf2 I.hok e
 have hz:(fs.map (·.1)).length≤sizeLine:=by rw[JM,sizeLine_eq];omega
 refine kl2 I.kIn O c.sa c.po n.taker c.hd wi hz fun h' O' sb=>h _ ?_
 have hd:∃o,h'.get? dx=some o:=let⟨o,_,_,e',_⟩:=O'.ns;⟨o,e'⟩
 refine I.write (x:=a) (e:=dx) (by rw[e];exact True.intro) (.inr ho) (fun b q hb z=>(sb.2 b hb).trans z) hd ?_
 refine⟨by rw[kaj O.ne];exact ho,?_,O.ne,O'.obj,_,O'.ns,fun g=>?_,fun g hg=>?_⟩
 ·have:=keQ f y fs;omega
 ·show RelO ((putF f y fs).lookup g) (if g=f then some u else mA g)
  rw[kab]
  by_cases q:g=f
  ·rw[if_pos q,if_pos q];exact ry
  ·rw[if_neg q,if_neg q];exact r g
 ·by_cases q:g=f
  ·rw[q];exact(kcW f y fs).1
  ·refine(kcW f y fs).2 g (wi g fun z=>hg ?_)
   show(if g=f then some u else mA g)=none
   rw[if_neg q];exact z
theorem Inv.made(I:Inv X pins σ H s):Inv X pins σ (upd (upd H s.heap.objs.size (.own (s.heap.objs.size+1))) (s.heap.objs.size+1) (.ins C s.heap.objs.size []))
  {s with heap:=(s.heap.push N5).push (Md C s.heap.objs.size)}:=by
 have e1:(s.heap.push N5).get? s.heap.objs.size=some N5:=Heap.get?_push_size s.heap rfl
 have e2:((s.heap.push N5).push (Md C s.heap.objs.size)).get? (s.heap.objs.size+1)=some (Md C s.heap.objs.size):=by
  have:=Heap.get?_push_size (s.heap.push N5) (o:=Md C s.heap.objs.size) rfl
  rwa [Heap.size_push] at this
 have e3:(s.heap.push N5).Ns s.heap.objs.size (fun _=>none):=⟨N5,#[],_,e1,rfl,(fun e he=>absurd he (by simp)),fun _=>rfl⟩
 have I1:=I.laid (a:=s.heap.objs.size) (o:=.own (s.heap.objs.size+1)) (h':=s.heap.push N5) (t':=s.toks) (fun b u q=>Heap.get?_push_of_some _ q) (JO _) ⟨_,e1⟩
 refine I1.laid (a:=s.heap.objs.size+1) (o:=.ins C s.heap.objs.size []) (t':=s.toks) (fun b u q=>Heap.get?_push_of_some _ q) (MT (Heap.size_push _ _)) ?_
 have ne:s.heap.objs.size≠s.heap.objs.size+1:=Nk (MG _)
 refine⟨by rw[kaj ne,kad],Nw _,ne,e2,fun _=>none,(Heap.Ns1.of_empty e3).at fun o q=>Heap.get?_push_of_some _ q,fun _=>True.intro,fun y hy=>absurd rfl hy⟩
theorem kkp{prog:Program}{w:World}{env:Env}{e:Expr}{f:Str}{pos:Pos}{s:Shared}{Q:Value→Shared→Prop}(hb:attributeBase e f env (eval e env)=eval e env)
  (h:wpAny (model prog w) A (eval e env) (fun o s₁=>wpAny (model prog w) A (getAttr o f true) Q E s₁) E s):wpAny (model prog w) A (eval (.Attribute e f pos) env) Q E s:=
 Attribute_any_ h (by rw[arm_eval_Attribute,hb])
end
noncomputable def tFld(K:JN)(ta:TE)(f:Str):TE:=fun σ H Q=>ta σ H fun x H1=>∃a C dx fs v,x=.ref a∧H1 a=some (.ins C dx fs)∧Cls K C∧NoAttr K C f∧fs.lookup f=some v∧Q v H1
noncomputable def sFld(K:JN)(ta tv:TE)(f:Str):TS:=fun D σ H=>tv σ H fun y H1=>ta σ H1 fun x H2=>∃a C dx fs,x=.ref a∧H2 a=some (.ins C dx fs)∧Cls K C∧NoAttr K C f∧fs.length<1000∧
 D.nx σ (upd H2 a (.ins C dx (putF f y fs)))
section
variable {X:Cx} {o e value:Expr} {f:Str} {pos pos' tpos:Pos} {ta tv:TE}
theorem kmV(he:PE X e ta)(hb:attributeBase e f X.env (eval e X.env)=eval e X.env):PE X (.Attribute e f pos) (tFld X.K ta f):=by
 intro pins s σ H Q I h
 refine kkp hb (thn (he pins s σ H _ I h) fun u s1 ⟨x,H1,I1,rx,a,C,dx,fs,v,ex,ea,c,n,l,q⟩=>?_)
 subst ex
 obtain rfl:u=Value.ref a:=rx
 exact kfA I1 ea c n l fun u' s2 I2 ru=>⟨v,H1,I2,ru,q⟩
theorem kaD(ha:PE X o ta)(hv:PE X value tv)(hs:swapsWith value (some (.Attribute o f pos')) pos.line X.env=pure false):PS X (.Assign [.Attribute o f pos'] value pos) (sFld X.K ta tv f):=by
 intro pins s σ H D I h
 refine plainObj_wpAny_Assign_Attribute (thn (hv pins s σ H _ I h) fun u s1 ⟨y,H1,I1,ry,q⟩=>thn (ha pins s1 σ H1 _ I1 q) fun ov s2 ⟨x,H2,I2,rx,a,C,dx,fs,ex,ea,c,n,l,q2⟩=>?_) hs
 subst ex
 obtain rfl:ov=Value.ref a:=rx
 exact kiG I2 ea c n l ry fun s3 I3=>⟨σ,_,I3,q2⟩
end
section
variable {X:Cx} {pins:List (Addr×Obj)} {σ:St} {H:Hp} {s:Shared} {A:Around} {E:Value→Shared→Prop} {Q:Value→Shared→Prop} {c:Value} {b:Bool}
inductive TyOf (K:JN) (H:Hp):V→Value→Prop where
 |non:TyOf K H .non (.type "NoneType")
 |bl (x:Bool):TyOf K H (.bl x) (.type "bool")
 |int (i:Int):TyOf K H (.int i) (.type "int")
 |str (x:Str):TyOf K H (.str x) (.type "str")
 |flt (x:UInt64):TyOf K H (.flt x) (.type "float")
 |lst {a:Addr} {xs:List V} (e:H a=some (.lst xs)):TyOf K H (.ref a) (.type "list")
 |frz {a:Addr} {o:Obj} {xs:List V} (e:H a=some (.frz o (.lst xs))):TyOf K H (.ref a) (.type "list")
 |tup {a:Addr} {xs:List V} (e:H a=some (.tup xs)):TyOf K H (.ref a) (.type "tuple")
 |dK {a:Addr} {kvs:List (Key×V)} (e:H a=some (.dK kvs)):TyOf K H (.ref a) (.type "dict")
 |dT {a:Addr} {kvs:List (List Key×V)} (e:H a=some (.dT kvs)):TyOf K H (.ref a) (.type "dict")
 | ins {a C dx:Addr} {fs:List (Str×V)} (e:H a=some (.ins C dx fs)) (cl:Cls K C) (ha:JP K (.ref C) "__class__"=some (some (.builtin "object.__class__")))
   (hn:MH K (.builtin "object.__class__") "__get__"=some (some (.builtin "getset_descriptor.__get__"))) (htk:Es K (.builtin "object.__class__")=some true)
   (hm:JU K C (.type "object")=some true):TyOf K H (.ref a) (.ref C)
theorem kj2{x:V}{u t:Value}(I:Inv X pins σ H s)(rx:RelV x u)(ty:TyOf X.K H x t)(e:J4 X.K t c=some b)(h:∀tk,Q (.bool b) {s with toks:=tk}):
  wpAny (model X.prog X.w) A (call (.builtin "isinstance") [u,c]) Q E s:=by
 cases ty with
 |non=>cases(show u=Value.none from rx);exact NQ PySem.W.kitx_none I.kIn True.intro e (fun z=>nomatch z) h
 |bl y=>cases(show u=Value.bool y from rx);exact NQ PySem.W.kitx_bool I.kIn True.intro e (fun z=>nomatch z) h
 |int i=>obtain⟨t,q⟩:=(show ∃t,u=Value.int i t from rx);cases q;exact NQ PySem.W.kitx_int I.kIn True.intro e (fun z=>nomatch z) h
 |str y=>obtain⟨t,q⟩:=(show ∃t,u=Value.str y t from rx);cases q;exact NQ PySem.W.kitx_str I.kIn True.intro e (fun z=>nomatch z) h
 |flt y=>obtain⟨t,q⟩:=(show ∃t,u=Value.float y t from rx);cases q;exact NQ PySem.W.kitx_float I.kIn True.intro e (fun z=>nomatch z) h
 | @lst a xs ea=>
  cases(show u=Value.ref a from rx)
  obtain⟨_,_,n,_,h1⟩:=(show ObjOk X.prog X.w H s.heap a (.lst xs) from I.hok a _ ea)
  exact NQ PySem.W.kitx_list I.kIn ⟨_,h1,rfl⟩ e (fun z=>nomatch z) h
 | @frz a ob xs ea=>
  cases(show u=Value.ref a from rx)
  obtain⟨_,_,_,n,_,h1⟩:=(show ObjOk X.prog X.w H s.heap a (.frz ob (.lst xs)) from I.hok a _ ea)
  exact NQ PySem.W.kitx_list I.kIn ⟨_,h1,rfl⟩ e (fun z=>nomatch z) h
 | @tup a xs ea=>
  cases(show u=Value.ref a from rx)
  obtain⟨_,_,_,p⟩:=(show ObjOk X.prog X.w H s.heap a (.tup xs) from I.hok a _ ea)
  obtain⟨o,h1,h2,_⟩:=p
  exact NQ PySem.W.kitx_tuple I.kIn ⟨o,h1,h2⟩ e (fun z=>nomatch z) h
 | @dK a kvs ea=>
  cases(show u=Value.ref a from rx)
  obtain⟨_,_,vs,_,p⟩:=(show ObjOk X.prog X.w H s.heap a (.dK kvs) from I.hok a _ ea)
  obtain⟨o,es,ep,h1,h2,_⟩:=p
  exact NQ PySem.W.kitx_dict I.kIn ⟨o,h1,h2.1⟩ e (fun z=>nomatch z) h
 | @dT a kvs ea=>
  cases(show u=Value.ref a from rx)
  obtain⟨_,_,xs,_,o,es,ep,h1,h2,_⟩:=(show ObjOk X.prog X.w H s.heap a (.dT kvs) from I.hok a _ ea)
  exact NQ PySem.W.kitx_dict I.kIn ⟨o,h1,h2.1⟩ e (fun z=>nomatch z) h
 | @ins a C dx fs ea cl ha hn htk hm=>
  cases(show u=Value.ref a from rx)
  obtain⟨mA,O,_⟩:=kf2 I.hok ea
  obtain⟨od,J,_⟩:=O.look
  exact NQ (PySem.W.kitx_own (cl.get _) cl.hd ha hn htk hm) I.kIn J e (fun z=>nomatch z) h
end
end L2
namespace L2
open PySem PySem.Spec PyProof.Rows
structure Room (k:Nat) (A:Around):Prop where
 hd:A.handled=none
 dp:A.depth+3*k+5<recursionLimit
 un:A.units+16*k+200<cLine
def Room.mono{j k:Nat}{A:Around}(r:Room k A)(h:j≤k):Room j A:=⟨r.hd,by have:=r.dp;omega,by have:=r.un;omega⟩
def Room.deeper{k:Nat}{A:Around}(r:Room (k+1) A)(env:Env):Room k (A.deeper env):=
 ⟨r.hd,by have:=r.dp;show A.depth+1+3*k+5<_;omega,by have:=r.un;show A.units+3+16*k+200<_;omega⟩
def Room.in1{k:Nat}{A:Around}(r:Room (k+1) A):Room k A.in1:=
 ⟨r.hd,by have:=r.dp;show A.depth+3*k+5<_;omega,by have:=r.un;show A.units+1+16*k+200<_;omega⟩
def kiQ{A:Around}{C:Addr}{us:List Value}{kw:List (Str×Value)}:(A.under (.builtin "type.__call__" ⟨.ref C::us,kw⟩)).depth=A.depth+1:=by
 first|rfl|simp[Around.under,Code.weight,Code.isCreation,Code.isGuard,Code.isCaller,Code.frames,Code.isFrame,guardIds]
def kiP{A:Around}{C:Addr}{us:List Value}{kw:List (Str×Value)}:(A.under (.builtin "type.__call__" ⟨.ref C::us,kw⟩)).units=A.units+1:=by
 first|rfl|simp[Around.under,Code.cUnits,Code.frames,Code.isFrame]
def Room.make{k:Nat}{A:Around}(r:Room (k+1) A)(C:Addr)(us:List Value)(kw:List (Str×Value)):Room k (A.under (.builtin "type.__call__" ⟨.ref C::us,kw⟩)):=
 ⟨r.hd,by have:=r.dp;rw[kiQ];omega,by have:=r.un;rw[kiP];omega⟩
def Room.depth{k:Nat}{A:Around}(r:Room k A):A.depth<recursionLimit:=by have:=r.dp;omega
def Room.units{k:Nat}{A:Around}(r:Room k A):A.units+64<cLine:=by have:=r.un;omega
def Room.units0{k:Nat}{A:Around}(r:Room k A):A.units<cLine:=by have:=r.un;omega
noncomputable def tNil:TA:=fun _ H Q=>Q [] H
noncomputable def tCons(ta:TE)(tr:TA):TA:=fun σ H Q=>ta σ H fun x H1=>tr σ H1 fun xs H2=>Q (x::xs) H2
section
variable {X:Cx} {e:Expr} {es:List Expr} {te:TE} {t:TA} {pos:Pos}
theorem kae:PA X [] tNil:=fun _ _ _ _ H Q I h=>Calls.spliced_nil ⟨[],H,I, .nil,h⟩
theorem kaa(ha:PE X e te)(hr:PA X es t)(hs:starEach (e::es) X.env=(false,eval e X.env)::starEach es X.env:=by rfl):PA X (e::es) (tCons te t):=by
 intro pos pins s σ H Q I h
 rw[hs]
 show wpAny _ _ (spliced ((false,eval e X.env)::backTo pos (starEach es X.env))) _ _ s
 refine Calls.spliced_cons (thn (ha pins s σ H _ I h) fun u s1 ⟨x,H1,I1,r1,q1⟩=>?_)
 exact thn (hr pos pins s1 σ H1 _ I1 q1) fun us s2 ⟨xs,H2,I2,r2,q2⟩=>⟨x::xs,H2,I2, .cons r1 r2,q2⟩
noncomputable def tTup(t:TA):TE:=fun σ H Q=>t σ H fun xs H1=>xs.length≤sizeLine∧∀p,H1 p=none→Q (.ref p) (upd H1 p (.tup xs))
noncomputable def tLst(t:TA):TE:=fun σ H Q=>t σ H fun xs H1=>xs.length≤sizeLine∧∀p,H1 p=none→Q (.ref p) (upd H1 p (.lst xs))
theorem kcm{x1}(h:PA X es t):PE X (.Tuple es x1 pos) (tTup t):=by
 intro pins s σ H Q I hq
 refine wpAny_Tuple_spliced (thn (h pos pins s σ H _ I hq) fun us s1 ⟨xs,H1,I1,r,z,q⟩=>⟨by rw[←r.length];exact z,?_⟩)
 have hf:H1 s1.heap.objs.size=none:=I1.hok.fresh (JO _)
 refine⟨.ref s1.heap.objs.size,upd H1 s1.heap.objs.size (.tup xs),I1.laid (t':=s1.toks) (fun b u e=>Heap.get?_push_of_some _ e) (JO _) ?_,rfl,q _ hf⟩
 exact⟨z,us,r,⟨_,Heap.get?_push_size _ rfl,rfl,_,rfl⟩⟩
theorem kaW(h:PA X es t):PE X (.List es pos) (tLst t):=by
 intro pins s σ H Q I hq
 refine wpAny_List_spliced (thn (h pos pins s σ H _ I hq) fun us s1 ⟨xs,H1,I1,r,z,q⟩=>⟨by rw[←r.length];exact z,?_⟩)
 have hf:H1 s1.heap.objs.size=none:=I1.hok.fresh (JO _)
 refine⟨.ref s1.heap.objs.size,upd H1 s1.heap.objs.size (.lst xs),I1.laid (t':=s1.toks) (fun b u e=>Heap.get?_push_of_some _ e) (JO _) ?_,rfl,q _ hf⟩
 exact⟨z,us,0,r,Heap.get?_push_size _ rfl⟩
end
noncomputable abbrev Sp:=List V→Hp→VK→XK→Prop
noncomputable abbrev CXT:=List Env→Hp→Shared→XK→Value→Shared→Prop
structure Env0 (P:Program) (w:World) (K:JN) (mg:Str→Option Value) (base:Heap) (A:Around) (outer:List Env) (s:Shared) (H:Hp):Prop where
 frames:A.frames=some outer
 mod:Mod K mg base
 bs:∀b o,base.get? b=some o→s.heap.get? b=some o∧H b=none
 bsz:base.objs.size≤s.heap.objs.size
 funs:s.heap.FunFrames base outer
 frf:∀b∈frs outer,H b=none
 hok:HOk P w H s.heap
 bare:AllBare s.gens
noncomputable def CE(outer:List Env)(P:Program)(w:World)(H:Hp)(s:Shared)(Q:VK)(u:Value)(s':Shared):Prop:=
 ∃v H',s'.os=s.os∧AllBare s'.gens∧Un (frs outer) [] H H' s.heap s'.heap∧HOk P w H' s'.heap∧RelV v u∧Q v H'
noncomputable def CR(CX:CXT)(outer:List Env)(P:Program)(w:World)(H:Hp)(s:Shared)(Q:VK)(E:XK)(r:Result)(s':Shared):Prop:=
 match r with
 | .ok (.ret u)=>CE outer P w H s Q u s'
 | .ok _=>False
 | .error e=>CX outer H s E e s'
structure FnOk (P:Program) (w:World) (K:JN) (mg:Str→Option Value) (base:Heap) (CX:CXT) (k:Nat) (f:Addr) (fd:FuncData) (ps:List Str) (sp:Sp):Prop where
 len:∀vs H Q E,sp vs H Q E→vs.length=ps.length
 run:∀(A:Around)(outer:List Env)(s:Shared)(H:Hp)(args:Args)(us:List Value)(vs:List V)(Q:VK)(E:XK),Room k A→Env0 P w K mg base A outer s H→BindsTo s fd args (ps.zip us)→Vals vs us→sp vs H Q E→
  codeAny (model P w) A (.call (.ref f) args) (CR CX outer P w H s Q E) s
theorem FnOk.mono{P:Program}{w:World}{K:JN}{mg:Str→Option Value}{base:Heap}{CX:CXT}{j k:Nat}{f:Addr}{fd:FuncData}{ps:List Str}{sp:Sp}(F:FnOk P w K mg base CX j f fd ps sp)(h:j≤k):
  FnOk P w K mg base CX k f fd ps sp:=⟨F.len,fun A outer s H args us vs Q E hr=>F.run A outer s H args us vs Q E (hr.mono h)⟩
theorem FnOk.imp{P:Program}{w:World}{K:JN}{mg:Str→Option Value}{base:Heap}{CX:CXT}{k:Nat}{f:Addr}{fd:FuncData}{ps:List Str}{sp sp':Sp}(F:FnOk P w K mg base CX k f fd ps sp)
  (h:∀vs H Q E,sp' vs H Q E→sp vs H Q E):FnOk P w K mg base CX k f fd ps sp':=
 ⟨fun vs H Q E q=>F.len vs H Q E (h _ _ _ _ q),fun A outer s H args us vs Q E hr he hb hv hs=>F.run A outer s H args us vs Q E hr he hb hv (h _ _ _ _ hs)⟩
theorem Env0.make{P:Program}{w:World}{K:JN}{mg:Str→Option Value}{base:Heap}{A:Around}{outer:List Env}{s:Shared}{H:Hp}(e:Env0 P w K mg base A outer s H)(C:Addr)(us:List Value)(kw:List (Str×Value)):
  Env0 P w K mg base (A.under (.builtin "type.__call__" ⟨.ref C::us,kw⟩)) outer s H:=⟨by first|exact e.frames|(simpa[Around.under,Code.envs,Code.isFrame,pushEnvs] using e.frames),e.mod,e.bs,e.bsz,e.funs,e.frf,e.hok,e.bare⟩
theorem Env0.in1{P:Program}{w:World}{K:JN}{mg:Str→Option Value}{base:Heap}{A:Around}{outer:List Env}{s:Shared}{H:Hp}(e:Env0 P w K mg base A outer s H):
  Env0 P w K mg base A.in1 outer s H:=⟨e.frames,e.mod,e.bs,e.bsz,e.funs,e.frf,e.hok,e.bare⟩
section
variable {X:Cx} {pins:List (Addr×Obj)} {σ:St} {H:Hp} {s s':Shared}
theorem Inv.env0(I:Inv X pins σ H s):Env0 X.prog X.w X.K X.mg X.base X.A X.stack s H:=
 ⟨I.ok.frames,I.ok.mod,I.bs,JR I.ok.bsz I.sz,I.stack,I.stkFree,I.hok,I.bare⟩
theorem Inv.after{Q:VK}{u:Value}(I:Inv X pins σ H s)(h:CE X.stack X.prog X.w H s Q u s'):EP X pins σ Q u s':=by
 obtain⟨v,H',os,bare,un,hok,r,q⟩:=h
 obtain⟨hh,g,d,t,os'⟩:=s'
 obtain rfl:os'=s.os:=os
 exact⟨v,H',I.call (h':=hh) (g':=g) (d':=d) (t':=t) (ch:=[]) un hok bare (fun b z=>absurd z (by simp)),r,q⟩
end
noncomputable def tCall(sp:Sp)(dvs:List V)(E:XK)(t:TA):TE:=fun σ H Q=>t σ H fun vs H1=>sp (vs++dvs) H1 Q E
noncomputable def tMeth(C:Addr)(m:Str)(sp:Sp)(dvs:List V)(E:XK)(ta:TE)(t:TA):TE:=fun σ H Q=>ta σ H fun x H1=>∃a dx fs,x=.ref a∧H1 a=some (.ins C dx fs)∧fs.lookup m=none∧
 t σ H1 fun vs H2=>sp (x::(vs++dvs)) H2 Q E
noncomputable def tMake(C:Addr)(sp:Sp)(dvs:List V)(E:XK)(t:TA):TE:=fun σ H Q=>t σ H fun vs H1=>∀x dx,H1 x=none→H1 dx=none→dx≠x→
 sp (.ref x::(vs++dvs)) (upd (upd H1 dx (.own x)) x (.ins C dx [])) (fun v H2=>v=.non∧Q (.ref x) H2) E
noncomputable def Binds(K:JN)(fd:FuncData)(ps:List Str)(ds:List Value):Prop:=
 ∀(s:Shared)(us:List Value),K.In s.heap→(us++ds).length=ps.length→BindsTo s fd ⟨us,[]⟩ (ps.zip (us++ds))
def Binds.all{K:JN}{fd:FuncData}{ps:List Str}(h:∀us:List Value,us.length=ps.length→bindArgs fd ⟨us,[]⟩=pure (ps.zip us)):Binds K fd ps []:=fun s us _ hl=>by
 rw[N6] at hl⊢
 exact .of_eq (h us hl)
noncomputable def kc0(CX:CXT)(X:Cx)(E:XK):Prop:=∀(pins:List (Addr×Obj))(σ:St)(H:Hp)(s:Shared)(e:Value)(s':Shared),Inv X pins σ H s→CX X.stack H s E e s'→X.xe e s'
section
variable {X:Cx} {CX:CXT} {k:Nat} {f C:Addr} {fd:FuncData} {ps:List Str} {sp:Sp} {dvs:List V} {ds:List Value} {E:XK} {x m:Str} {p pos apos:Pos} {e o:Expr} {es:List Expr} {ta:TE} {t:TA}
theorem kh7{pins:List (Addr×Obj)}{σ:St}{H:Hp}{s:Shared}{Q:VK}{us:List Value}{vs:List V}(F:FnOk X.prog X.w X.K X.mg X.base CX k f fd ps sp)(hr:Room k X.A)(hb:Binds X.K fd ps ds)(hd:Vals dvs ds)(hx:kc0 CX X E)
  (I:Inv X pins σ H s) (r:Vals vs us) (h:sp (vs++dvs) H Q E):wpAny (model X.prog X.w) X.A (call (.ref f) us) (EP X pins σ Q) X.xe s:=by
 have r2:Vals (vs++dvs) (us++ds):=r.append hd
 have hl:(us++ds).length=ps.length:=by rw[←r2.length];exact F.len _ _ _ _ h
 refine wpAny_call (codeAny_mono (F.run X.A X.stack s H ⟨us,[]⟩ (us++ds) (vs++dvs) Q E hr I.env0 (hb s us I.kIn hl) r2 h) fun r s' hq=>?_)
 cases r with
 |error e=>exact hx pins σ H s e s' I hq
 |ok fl=>
  cases fl with
  |ret u=>exact I.after hq
  |next=>exact False.elim hq
  |brk=>exact False.elim hq
  |cont=>exact False.elim hq
theorem kjL(F:FnOk X.prog X.w X.K X.mg X.base CX k f fd ps sp)(hr:Room k X.A)(hg:Gl X x)(hm:X.mg x=some (.ref f))(hk:J6 X.K (.ref f)=true)(hb:Binds X.K fd ps ds)(hd:Vals dvs ds)(hx:kc0 CX X E)
  (ha:PA X (e::es) t) (hdb:(x==("__debug__" :Str))=false:=by decide) (he:starEach (e::es) X.env=(false,eval e X.env)::starEach es X.env:=by rfl) (hpl:(backTo pos (starEach es X.env)).any (·.1)=false:=by rfl):
  PE X (.Call (.Name x p) (e::es) [] pos) (tCall sp dvs E t):=by
 intro pins s σ H Q I h
 refine wpAny_Call_Name_kw (kdj I hg hm ?_ hdb)
 refine Mu (h₀:=X.base) I.ok.mod.kin hk (thn (ha pos pins s σ H _ I h) fun us s1 ⟨vs,H1,I1,r,q⟩=>⟨I1.kIn,?_⟩) he hpl
 exact kh7 F hr hb hd hx I1 r q
theorem kcN{pl:Sem Bool}(he:PE X o ta)(c:Cls X.K C)(hm:Meth X.K C m f)(F:FnOk X.prog X.w X.K X.mg X.base CX k f fd ps sp)(hr:Room k X.A)(hb:Binds X.K fd ps ds)(hd:Vals dvs ds)(hx:kc0 CX X E)(ha:PA X (e::es) t)
  (hst:starEach (e::es) X.env=(false,eval e X.env)::starEach es X.env:=by rfl) (hpl:(backTo pos (starEach es X.env)).any (·.1)=false:=by rfl)
  (ht:eval (.Call (.Attribute o m apos) (e::es) [] pos) X.env=(do
   let ov ←eval o X.env
   standAt apos.atName
   let(f,first) ←holding [ov] (getMethod ov m pl)
   callWith pos f first (backTo pos (starEach (e::es) X.env)) (backToKw pos (keywordEach [] X.env))):=by rfl):
  PE X (.Call (.Attribute o m apos) (e::es) [] pos) (tMeth C m sp dvs E ta t):=by
 intro pins s σ H Q I h
 refine Et (pl:=pl) (thn (he pins s σ H _ I h) fun u s1 ⟨x,H1,I1,rx,a,dx,fs,ex,ea,l,q⟩=>?_) ht
 subst ex
 obtain rfl:u=Value.ref a:=rx
 refine kfz I1 ea c hm l ?_
 refine Mu (first:=[.ref a]) (h₀:=X.base) I.ok.mod.kin hm.kp (thn (ha pos pins s1 σ H1 _ I1 q) fun us s2 ⟨vs,H2,I2,r,q2⟩=>⟨I2.kIn,?_⟩) hst hpl
 exact kh7 (us:=.ref a::us) (vs:=.ref a::vs) F hr hb hd hx I2 (.cons rfl r) q2
theorem kcv{pl:Sem Bool}(he:PE X o ta)(c:Cls X.K C)(hm:Meth X.K C m f)(F:FnOk X.prog X.w X.K X.mg X.base CX k f fd ps sp)(hr:Room k X.A)(hb:Binds X.K fd ps ds)(hd:Vals dvs ds)(hx:kc0 CX X E)
  (ht:eval (.Call (.Attribute o m apos) [] [] pos) X.env=(do
   let ov ←eval o X.env
   standAt apos.atName
   let(f,first) ←holding [ov] (getMethod ov m pl)
   callWith pos f first (backTo pos (starEach [] X.env)) (backToKw pos (keywordEach [] X.env))):=by rfl):
  PE X (.Call (.Attribute o m apos) [] [] pos) (tMeth C m sp dvs E ta tNil):=by
 intro pins s σ H Q I h
 refine Et (pl:=pl) (thn (he pins s σ H _ I h) fun u s1 ⟨x,H1,I1,rx,a,dx,fs,ex,ea,l,q⟩=>?_) ht
 subst ex
 obtain rfl:u=Value.ref a:=rx
 refine kfz I1 ea c hm l ?_
 exact EY (first:=[.ref a]) I1.kIn hm.kp (kh7 (us:=[.ref a]) (vs:=[.ref a]) F hr hb hd hx I1 (.cons rfl .nil) q)
structure Mk (K:JN) (C f:Addr):Prop where
 makes:NF K C=true
 init:JP K (.ref C) "__init__"=some (some (.ref f))
 fn:ND K (.ref f)=true
 kp:J6 K (.ref C)=true
theorem kh6{pins:List (Addr×Obj)}{σ:St}{H:Hp}{s:Shared}{Q:VK}{us:List Value}{vs:List V}(M:Mk X.K C f)(F:FnOk X.prog X.w X.K X.mg X.base CX k f fd ps sp)(hr:Room (k+1) X.A)(hb:Binds X.K fd ps ds)(hd:Vals dvs ds)
  (hx:kc0 CX X E) (I:Inv X pins σ H s) (r:Vals vs us)
  (h:∀x dx,H x=none→H dx=none→dx≠x→sp (.ref x::(vs++dvs)) (upd (upd H dx (.own x)) x (.ins C dx [])) (fun v H2=>v=.non∧Q (.ref x) H2) E):
  wpAny (model X.prog X.w) X.A (call (.ref C) us) (EP X pins σ Q) X.xe s:=by
 have hq:=h (s.heap.objs.size+1) s.heap.objs.size (I.hok.fresh (Mq _)) (I.hok.fresh (JO _)) (Nk (MG _))
 have I2:=Inv.made (C:=C) I
 have r2:Vals (V.ref (s.heap.objs.size+1)::(vs++dvs)) (Value.ref (s.heap.objs.size+1)::(us++ds)):=.cons rfl (r.append hd)
 have hl:(Value.ref (s.heap.objs.size+1)::us++ds).length=ps.length:=by
  have e:=r2.length
  rw[F.len _ _ _ _ hq] at e
  exact e.symm
 refine wpAny_call (kkW (f:=f) I.kIn M.makes M.init (beq_iff_eq.mp M.fn) (codeAny_mono (F.run _ X.stack _ _ ⟨Value.ref (s.heap.objs.size+1)::us,[]⟩ (Value.ref (s.heap.objs.size+1)::(us++ds)) _ _ E (hr.make C us [])
  (I2.env0.make C us []) (hb _ (Value.ref (s.heap.objs.size+1)::us) I2.kIn hl) r2 hq) fun r s' hq'=>?_))
 cases r with
 |error e=>exact hx pins σ _ _ e s' I2 hq'
 | ok fl=>
  cases fl with
  |ret u=>
   obtain⟨v,H',I3,rv,ev,q3⟩:=I2.after hq'
   subst ev
   exact⟨rv,⟨V.ref (s.heap.objs.size+1),H',I3,rfl,q3⟩⟩
  |next=>exact False.elim hq'
  |brk=>exact False.elim hq'
  |cont=>exact False.elim hq'
theorem ka8(M:Mk X.K C f)(F:FnOk X.prog X.w X.K X.mg X.base CX k f fd ps sp)(hr:Room (k+1) X.A)(hg:Gl X x)(hm:X.mg x=some (.ref C))(hb:Binds X.K fd ps ds)(hd:Vals dvs ds)(hx:kc0 CX X E)
  (ha:PA X (e::es) t) (hdb:(x==("__debug__" :Str))=false:=by decide) (he:starEach (e::es) X.env=(false,eval e X.env)::starEach es X.env:=by rfl) (hpl:(backTo pos (starEach es X.env)).any (·.1)=false:=by rfl):
  PE X (.Call (.Name x p) (e::es) [] pos) (tMake C sp dvs E t):=by
 intro pins s σ H Q I h
 refine wpAny_Call_Name_kw (kdj I hg hm ?_ hdb)
 refine Mu (h₀:=X.base) I.ok.mod.kin M.kp (thn (ha pos pins s σ H _ I h) fun us s1 ⟨vs,H1,I1,r,q⟩=>⟨I1.kIn,?_⟩) he hpl
 exact kh6 M F hr hb hd hx I1 r q
theorem kkJ(M:Mk X.K C f)(F:FnOk X.prog X.w X.K X.mg X.base CX k f fd ps sp)(hr:Room (k+1) X.A)(hg:Gl X x)(hm:X.mg x=some (.ref C))(hb:Binds X.K fd ps ds)(hd:Vals dvs ds)(hx:kc0 CX X E)
  (hdb:(x==("__debug__" :Str))=false:=by decide):PE X (.Call (.Name x p) [] [] pos) (tMake C sp dvs E tNil):=by
 intro pins s σ H Q I h
 refine wpAny_Call_Name_kw (kdj I hg hm ?_ hdb)
 exact EY I.kIn M.kp (kh6 (us:=[]) M F hr hb hd hx I .nil h)
end
section
variable {X:Cx} {CX:CXT} {k:Nat} {f C:Addr} {fd:FuncData} {ps ks:List Str} {sp:Sp} {E:XK} {x m:Str} {p pos apos kpos:Pos} {e o:Expr} {es:List Expr} {kws:List Keyword} {te ta:TE} {t tk:TA} {nm:Option Str}
variable {g:List Value→List Value→List Value} {gV:List V→List V→List V}
end
structure kar (N P:List Str) (sc:Scope):Prop where
 kind:sc.kind=.function
 co:sc.isCoroutine=false
 gen:sc.isGenerator=false
 nd:N.Nodup
 pre:N.take P.length=P
 par:∀x∈P,sc.names.lookup x=some .local∨sc.names.lookup x=some .cell
 nofree:∀y∈sc.names,y.2≠.free
theorem kgV{kindOf:Str→Option NameKind}{x:Str}:∀{binds:List (Str×Value)}{m:Str→Option Value},(∀v,(x,v)∉binds)→bindL kindOf binds m x=m x
 |[],_,_=>rfl
 | (n,v)::r,m,h=>by
  unfold bindL
  rw[kgV fun w hw=>h w (J5 _ hw)]
  split
  ·have:x≠n:=by rintro rfl;exact h v Na
   simp[this]
  ·rfl
theorem kgX{kindOf:Str→Option NameKind}{x:Str}:∀{binds:List (Str×Value)}{m:Str→Option Value},(∀v,(x,v)∉binds)→bindC kindOf binds m x=m x
 |[],_,_=>rfl
 | (n,v)::r,m,h=>by
  unfold bindC
  rw[kgX fun w hw=>h w (J5 _ hw)]
  split
  ·rfl
  ·have:x≠n:=by rintro rfl;exact h v Na
   simp[this]
theorem kgW{kindOf:Str→Option NameKind}{x:Str}{v:Value}:∀{P:List Str}{vs:List Value}{i:Nat}{m:Str→Option Value},P.Nodup→P[i]?=some x→vs[i]?=some v→kindOf x=some .local→
  bindL kindOf (P.zip vs) m x=some v
 |[],_,_,_,_,h,_,_=>by simp at h
 |_::_,[],_,_,_,_,h,_=>by simp at h
 |p::P,w::vs,0,m,nd,h1,h2,hk=>by
  simp at h1 h2;subst h1;subst h2
  show bindL kindOf ((p,w)::P.zip vs) m p=_
  unfold bindL
  rw[kgV fun v hv=>(NW.mp nd).1 (Me hv).1,if_pos hk]
  simp
 |p::P,w::vs,i+1,m,nd,h1,h2,hk=>by
  show bindL kindOf ((p,w)::P.zip vs) m x=_
  unfold bindL
  exact kgW (i:=i) (NW.mp nd).2 (by simpa using h1) (by simpa using h2) hk
theorem kgY{kindOf:Str→Option NameKind}{x:Str}{v:Value}:∀{P:List Str}{vs:List Value}{i:Nat}{m:Str→Option Value},P.Nodup→P[i]?=some x→vs[i]?=some v→kindOf x≠some .local→
  bindC kindOf (P.zip vs) m x=some v
 |[],_,_,_,_,h,_,_=>by simp at h
 |_::_,[],_,_,_,_,h,_=>by simp at h
 |p::P,w::vs,0,m,nd,h1,h2,hk=>by
  simp at h1 h2;subst h1;subst h2
  show bindC kindOf ((p,w)::P.zip vs) m p=_
  unfold bindC
  rw[kgX fun v hv=>(NW.mp nd).1 (Me hv).1,if_neg hk]
  simp
 |p::P,w::vs,i+1,m,nd,h1,h2,hk=>by
  show bindC kindOf ((p,w)::P.zip vs) m x=_
  unfold bindC
  exact kgY (i:=i) (NW.mp nd).2 (by simpa using h1) (by simpa using h2) hk
noncomputable def start(N:List Str)(vs:List V):St:=vs.map some++JS (N.length-vs.length) none
noncomputable def cxOf(CX:CXT)(P:Program)(w:World)(K:JN)(mg:Str→Option Value)(base:Heap)(N:List Str)(qual:Str)(scope:Scope)(f:Addr)(cd:Value)(A:Around)(outer:List Env)(s:Shared)(H:Hp)(E:XK):Cx where
 prog:=P
 w:=w
 K:=K
 mg:=mg
 base:=base
 A:=A.deeper (envOfC qual scope s.heap.objs.size f cd)
 N:=N
 s₀:=s
 H₀:=H
 env:=envOfC qual scope s.heap.objs.size f cd
 outer:=outer
 stack:=envOfC qual scope s.heap.objs.size f cd::outer
 ex:=[]
 calm:=true
 fn:=fun _=>true
 pn:=[]
 xe:=fun e s'=>wpAny (model P w) (A.deeper (envOfC qual scope s.heap.objs.size f cd)) (leaving (envOfC qual scope s.heap.objs.size f cd) e) (fun _ s''=>CX outer H s E e s'') (fun e' s''=>CX outer H s E e' s'') s'
def ker{sc:Scope}{n:Nat}{x:Str}(h:sc.names.lookup x=some .cell):∃c,(cellsFrom n sc.names []).lookup x=some c:=by
 have q:=EZ sc.names n [] (.inl h)
 exact Eu.mp q
theorem kj4{CX:CXT}{P:Program}{w:World}{K:JN}{mg:Str→Option Value}{base:Heap}{N ps:List Str}{qual:Str}{scope:Scope}{f:Addr}{cd:Value}{A:Around}{outer:List Env}{s s1:Shared}{H:Hp}{E:XK}{us:List Value}{vs:List V}
  (S:kar N ps scope) (hd:A.handled=none) (e0:Env0 P w K mg base A outer s H) (hl:vs.length=ps.length) (r:Vals vs us)
  (x:InCallC s s.heap.objs.size (bindL (envOfC qual scope s.heap.objs.size f cd).kindOf (ps.zip us) fun _=>none) (cellsFrom (s.heap.objs.size+1) scope.names []) (bindC (envOfC qual scope s.heap.objs.size f cd).kindOf (ps.zip us) fun _=>none) s1):
  Inv (cxOf CX P w K mg base N qual scope f cd A outer s H E) [] (start N vs) H s1:=by
 have hpl:ps.length≤N.length:=by have:=congrArg Mf S.pre;rw[Nl] at this;omega
 obtain⟨h1,tk,rfl,hk⟩:=x.done
 have noA:∀b:Addr,b∉(cxOf CX P w K mg base N qual scope f cd A outer s H E).ex:=fun b z=>absurd (show b∈([]:List Addr) from z) (by simp)
 refine⟨⟨e0.mod,S.kind,rfl,rfl,JO _,fun y z c h1 h2=>?_,fun y hy=>?_,fun y c _ h=>?_,fun _=>hd,Around.frames_deeper e0.frames, .inr ⟨rfl,rfl⟩,fun b z=>absurd z (noA b),e0.bs,e0.bsz,fun b _ _=>noA b,fun b z=>absurd z (noA b),e0.funs,e0.frf⟩,
  rfl,e0.bare,Un.kept hk,⟨_,x.toInCall.ns,fun i y v h1 h2 h3=>?_⟩,fun y c h=>⟨_,x.cell y c h⟩,e0.hok.fresh (JO _),fun y c h=>?_,fun p hp=>absurd (show p∈([]:List (Addr×Obj)) from hp) (by simp),e0.hok.kept hk,?_⟩
 ·exact name_of_addr x.apart (PySem.mem_of_lookup h1) (PySem.mem_of_lookup h2)
 ·have hy:scope.names.lookup y=some .cell∨scope.names.lookup y=some .free:=hy
  rcases hy with hy|hy
  ·exact ker hy
  ·exact absurd rfl (S.nofree _ (PySem.mem_of_lookup hy))
 ·exact Nc (x.above y c (PySem.mem_of_lookup h))
 ·have hi:i<vs.length:=by
   unfold start at h2
   by_cases hi:i<vs.length
   ·exact hi
   ·rw[N7 (by simpa using hi)] at h2
    rw[Ew] at h2
    split at h2 <;> cases h2
  have ha:vs[i]?=some v:=by
   unfold start at h2
   rw[Mv (by simpa using hi),JY] at h2
   cases e:vs[i]? with
   |none=>rw[e] at h2;cases h2
   |some a=>rw[e] at h2;cases h2;rfl
  obtain⟨u,hu,rv⟩:=r.get ha
  have hp:ps[i]?=some y:=by
   rw[←S.pre,E1 (by omega)];exact h1
  have ndP:ps.Nodup:=by rw[←S.pre];exact S.nd.sublist (List.take_sublist _ _)
  refine⟨u,rv,?_⟩
  rcases S.par y (JT hp) with k|k
  ·exact .inl ⟨k,kgW ndP hp hu k⟩
  ·obtain⟨c,e⟩:=ker (n:=s.heap.objs.size+1) k
   refine .inr ⟨.inl k,c,e,?_⟩
   have q:=x.cell y c e
   rw[kgY ndP hp hu (by show scope.names.lookup y≠_;rw[k];decide)] at q
   exact q
 ·exact e0.hok.fresh (Nc (x.above y c (PySem.mem_of_lookup h)))
 ·unfold start
  show _=N.length
  rw[JZ,JM,Mg]
  omega
theorem fn_of{CX:CXT}{P:Program}{w:World}{K:JN}{mg:Str→Option Value}{base:Heap}{k:Nat}{f:Addr}{name qual:Str}{params:Arguments}{body:List Stmt}{scope:Scope}{dV kV doc pm cdv ct oc:Value}{an od:Option Addr}
  {osl:Array (Option Value)} {N ps:List Str} {sp:Sp} (lk:K.lookup f=some ⟨oc,od, .func (J9 name qual params body scope dV kV doc pm an cdv ct),osl⟩) (hcd:Nz K cdv qual=true) (S:kar N ps scope)
  (len:∀vs H Q E,sp vs H Q E→vs.length=ps.length)
  (hbody:∀(A:Around)(outer:List Env)(s:Shared)(H:Hp)(vs:List V)(Q:VK)(E:XK),Room k (A.deeper (envOfC qual scope s.heap.objs.size f cdv))→sp vs H Q E→
   ∃t,PSs (cxOf CX P w K mg base N qual scope f cdv A outer s H E) body t∧t {nx:=fun _ H'=>Q .non H',rt:=Q} (start N vs) H):
  FnOk P w K mg base CX (k+1) f (J9 name qual params body scope dV kV doc pm an cdv ct) ps sp:=by
 refine⟨len,fun A outer s H args us vs Q E hr e0 hb r hsp=>?_⟩
 have hl:=len _ _ _ _ hsp
 have KX:K.In s.heap:=e0.mod.kin.keeps fun b o e=>(e0.bs b o e).1
 have lim:s.heap.NoLimit:=e0.mod.nolimit.keeps fun b o e=>(e0.bs b o e).1
 have hkind:∀y∈ps.zip us,scope.names.lookup y.1=some .local∨(scope.names.lookup y.1=some .cell∧((cellsFrom (s.heap.objs.size+1) scope.names []).lookup y.1).isSome=true):=fun⟨n,v⟩ hy=>by
  rcases S.par n (Me hy).1 with q|q
  ·exact .inl q
  ·exact .inr ⟨q,EZ _ _ _ (.inl q)⟩
 refine codeAny_call_function hr.depth (KX _ _ lk) rfl S.co S.gen rfl (PySem.W.codeRec_of KX hcd) (hb _ _ _ _ ?_)
 refine wpAny_newFunctionEnv_cells S.kind hkind fun env he s1 x=>?_
 subst he
 refine⟨lim.keeps x.toInCall.keep,codeAny_func ?_⟩
 obtain⟨t,ht,hq⟩:=hbody A outer s H vs Q E (hr.deeper _) hsp
 have I:Inv (cxOf CX P w K mg base N qual scope f cdv A outer s H E) [] (start N vs) H s1:=kj4 S hr.hd e0 hl r x
 refine wpAny_mono (ht [] s1 (start N vs) H _ I hq) (fun fl s' hs=>?_) fun e s' hs=>hs
 have fin:∀{σ':St}{H':Hp}{v:V}{u:Value},Inv (cxOf CX P w K mg base N qual scope f cdv A outer s H E) [] σ' H' s'→RelV v u→Q v H'→CE outer P w H s Q u s':=
  fun {σ' H' v u} J rv q=>⟨v,H',J.os,J.bare,J.base,J.hok,rv,q⟩
 cases fl with
 |ret u=>
  obtain⟨v,σ',H',J,rv,q⟩:=hs
  exact fin J rv q
 |next=>
  obtain⟨σ',H',J,q⟩:=hs
  exact fin (v:=V.non) (u:=Value.none) J rfl q
 |brk=>
  obtain⟨_,_,_,q⟩:=hs
  exact False.elim q
 |cont=>
  obtain⟨_,_,_,q⟩:=hs
  exact False.elim q
end L2
namespace L2
open PySem PySem.Spec PyProof.Rows
section
variable {X:Cx} {x:Str} {p pos:Pos} {e:Expr} {es:List Expr} {t:TA} {id T:String} {r:List V→Hp→VK→Prop}
noncomputable def tCB(r:List V→Hp→VK→Prop)(t:TA):TE:=fun σ H Q=>t σ H fun vs H1=>r vs H1 Q
theorem kao(hc:CallR X (.builtin id) r)(hg:Gl X x)(hm:X.mg x=none)(hv:bootBuiltins x=some (.builtin id))(ha:PA X (e::es) t)(hn:x≠"__name__":=by decide)(hdb:(x==("__debug__" :Str))=false:=by decide)
  (he:starEach (e::es) X.env=(false,eval e X.env)::starEach es X.env:=by rfl) (hpl:(backTo pos (starEach es X.env)).any (·.1)=false:=by rfl):PE X (.Call (.Name x p) (e::es) [] pos) (tCB r t):=by
 intro pins s σ H Q I h
 refine wpAny_Call_Name_kw (kdB I hg hm hv ?_ hn hdb)
 exact PyProof.Rows.callWith_builtin1 (thn (ha pos pins s σ H _ I h) fun us s1 ⟨vs,H1,I1,r1,q1⟩=>hc pins s1 σ H1 vs us Q I1 r1 q1) he hpl
theorem kaJ(hc:CallR X (.type T) r)(hg:Gl X x)(hm:X.mg x=none)(hv:bootBuiltins x=some (.type T))(ha:PA X (e::es) t)(hn:x≠"__name__":=by decide)(hdb:(x==("__debug__" :Str))=false:=by decide)
  (he:starEach (e::es) X.env=(false,eval e X.env)::starEach es X.env:=by rfl) (hpl:(backTo pos (starEach es X.env)).any (·.1)=false:=by rfl):PE X (.Call (.Name x p) (e::es) [] pos) (tCB r t):=by
 intro pins s σ H Q I h
 refine wpAny_Call_Name_kw (kdB I hg hm hv ?_ hn hdb)
 exact PyProof.Rows.callWith_type1 (thn (ha pos pins s σ H _ I h) fun us s1 ⟨vs,H1,I1,r1,q1⟩=>hc pins s1 σ H1 vs us Q I1 r1 q1) he hpl
end
end L2
namespace HT
open PySem PyProof.Rows
section
open PySem.SeqAt
open PySem.AutoSeq1 (wpAny_loadPart')
open PySem.MeetsSeq PySem.MeetsSeq2 PySem.MeetsSeq3
end
section
variable {prog:Program} {w:World} {A:Around} {E:Value→Shared→Prop} {s:Shared}
noncomputable def sIx(n d:Nat):Option Int→Nat
 |none=>d
 |some v=>if v<0 then(v+(n:Int)).toNat else min v.toNat n
theorem sIx_nat(n d k:Nat):sIx n d (some (k:Int))=min k n:=by
 show(if(k:Int)<0 then((k:Int)+(n:Int)).toNat else min (k:Int).toNat n)=min k n
 rw[if_neg (by omega),Int.toNat_natCast]
end
end HT
namespace L2
open PySem PySem.Spec PyProof.Rows
noncomputable abbrev TO:=St→Hp→(Option Int→Hp→Prop)→Prop
noncomputable def PO(X:Cx)(e:Option Expr)(t:TO):Prop:=
 ∀(pins:List (Addr×Obj))(s:Shared)(σ:St)(H:Hp)(Q:Option Int→Hp→Prop),Inv X pins σ H s→t σ H Q→
  wpAny (model X.prog X.w) X.A (evalPart e X.env) (fun u s'=>∃o H',Inv X pins σ H' s'∧IsPart u o∧Q o H') X.xe s
noncomputable def kl0:TO:=fun _ H Q=>Q none H
noncomputable def tPart(t:TE):TO:=fun σ H Q=>t σ H fun x H1=>∃i,x=.int i∧Q (some i) H1
theorem intsAre_of{ns:List Int}:∀{us:List Value},Vals (ns.map V.int) us→IntsAre us ns:=by
 induction ns with
 |nil=>intro us r;rw[Mh] at r;cases r;exact .nil
 | cons n ns ih=>
  intro us r
  rw[J0] at r
  cases r with
  |cons r1 r2=>
   obtain⟨t,e⟩:=r1
   subst e
   exact .cons n t (ih r2)
section
variable {X:Cx} {e:Expr} {te:TE} {lo hi:Option Expr} {tl th:TO} {pos p2:Pos}
theorem kmc:PO X none kl0:=by
 intro pins s σ H Q I h
 rw[evalPart_none]
 exact wpAny_pure ⟨none,H,I, .none,h⟩
theorem khn(h:PE X e te):PO X (some e) (tPart te):=by
 intro pins s σ H Q I hw
 rw[evalPart_some]
 refine thn (h pins s σ H _ I hw) fun u s1 ⟨x,H1,I1,r1,q1⟩=>?_
 obtain⟨i,rfl,q⟩:=q1
 obtain⟨t,rfl⟩:=r1
 exact⟨some i,H1,I1, .int i t,q⟩
noncomputable def SlR(X:Cx)(r:V→Option Int→Option Int→Hp→VK→Prop):Prop:=
 ∀(pins:List (Addr×Obj))(s:Shared)(σ:St)(H:Hp)(x:V)(v vl vu:Value)(lo hi:Option Int)(sl:Addr)(Q:VK),Inv X pins σ H s→RelV x v→s.heap.IsSliceOf sl vl vu .none→IsPart vl lo→IsPart vu hi→r x lo hi H Q→
  ∃T id,typeLookup (.type T) "__getitem__"=pure (some (.builtin id))∧s.TypeIs v T∧wpAny (model X.prog X.w) X.A (getItem v (.ref sl)) (EP X pins σ Q) X.xe s
theorem SlR.or{r r':V→Option Int→Option Int→Hp→VK→Prop}(h:SlR X r)(h':SlR X r'):SlR X (fun x lo hi H Q=>r x lo hi H Q∨r' x lo hi H Q):=by
 intro pins s σ H x v vl vu lo hi sl Q I rx hs pl pu q
 rcases q with q|q
 ·exact h pins s σ H x v vl vu lo hi sl Q I rx hs pl pu q
 ·exact h' pins s σ H x v vl vu lo hi sl Q I rx hs pl pu q
noncomputable def tSl(r:V→Option Int→Option Int→Hp→VK→Prop)(te:TE)(tl th:TO):TE:=fun σ H Q=>te σ H fun x H1=>tl σ H1 fun l H2=>th σ H2 fun u H3=>r x l u H3 Q
theorem kic{r:V→Option Int→Option Int→Hp→VK→Prop}(hr:SlR X r)(he:PE X e te)(hl:PO X lo tl)(hu:PO X hi th):PE X (.Subscript e (.Slice lo hi none p2) pos) (tSl r te tl th):=by
 intro pins s σ H Q I h
 refine Subscript_ (thn (he pins s σ H _ I h) fun v s1 ⟨x,H1,I1,r1,q1⟩=>?_)
 refine wpAny_Slice (thn (hl pins s1 σ H1 _ I1 q1) fun vl s2 ⟨l,H2,I2,pl,q2⟩=>thn (hu pins s2 σ H2 _ I2 q2) fun vu s3 ⟨u,H3,I3,pu,q3⟩=>?_)
 rw[evalPart_none]
 refine wpAny_pure ?_
 have I4:Inv X pins σ H3 {s3 with heap:=s3.heap.push {cls:=.type "slice",data:=.fields #[vl,vu, .none]}}:=I3.kept (t':=s3.toks) fun b ob q=>Heap.get?_push_of_some _ q
 obtain⟨T,id,hT,ht,hg⟩:=hr pins {s3 with heap:=s3.heap.push {cls:=.type "slice",data:=.fields #[vl,vu, .none]}} σ H3 x v vl vu l u s3.heap.objs.size Q I4 r1 (Heap.IsSliceOf.new ..) pl pu q3
 show wpAny (model X.prog X.w) X.A (subscriptTail e (.Slice lo hi none p2) v (.ref s3.heap.objs.size)) (EP X pins σ Q) X.xe {s3 with heap:=s3.heap.push {cls:=.type "slice",data:=.fields #[vl,vu, .none]}}
 exact tail_any (ops:=[.ref s3.heap.objs.size,v]) ht hT hg (by with_unfolding_all rfl)
noncomputable def cutV(xs:List V)(lo hi:Option Int):List V:=(xs.drop (HT.sIx xs.length 0 lo)).take (HT.sIx xs.length xs.length hi-HT.sIx xs.length 0 lo)
theorem khB(xs:List V)(lo hi:Option Int):(cutV xs lo hi).length≤xs.length:=by
 unfold cutV
 rw[Nl,MU]
 omega
end
end L2
namespace L2
open PySem PySem.Spec PyProof.Rows
noncomputable def ixN(n:Nat)(i:Int):Option Nat:=if 0≤i then(if i<n then some i.toNat else none) else if -(n:Int)≤i then some (i+n).toNat else none
noncomputable def atI{α:Type}(xs:List α)(i:Int):Option α:=(ixN xs.length i).bind fun j=>xs[j]?
def kj1{n:Nat}{i:Int}{j:Nat}(h:ixN n i=some j):seqIndex? i n=some j∧j<n∧-(n:Int)≤i∧i<n:=by
 unfold ixN at h
 by_cases h0:0≤i
 ·rw[if_pos h0] at h
  by_cases h1:i<n
  ·rw[if_pos h1] at h
   have e:i.toNat=j:=Option.some.inj h
   exact⟨by rw[seqIndex_of h0 h1,e],by omega,by omega,h1⟩
  ·rw[if_neg h1] at h;cases h
 ·rw[if_neg h0] at h
  by_cases h1: -(n:Int)≤i
  ·rw[if_pos h1] at h
   have e:(i+n).toNat=j:=Option.some.inj h
   exact⟨by rw[seqIndex_neg (by omega) h1,e],by omega,h1,by omega⟩
  ·rw[if_neg h1] at h;cases h
theorem khI{α:Type}{xs:List α}{i:Int}{v: α}(h:atI xs i=some v):∃j,seqIndex? i xs.length=some j∧xs[j]?=some v∧j<xs.length∧-(xs.length:Int)≤i∧i<xs.length:=by
 unfold atI at h
 cases e:ixN xs.length i with
 |none=>rw[e] at h;cases h
 |some j=>
  rw[e] at h
  obtain⟨h1,h2,h3,h4⟩:=kj1 e
  exact⟨j,h1,h,h2,h3,h4⟩
def kaX{α:Type}{xs:List α}{j:Nat}{v: α}(h:xs[j]?=some v):atI xs (j:Int)=some v:=by
 have hj:j<xs.length:=(JX.mp h).1
 have e:ixN xs.length (j:Int)=some j:=by
  unfold ixN
  rw[if_pos (by omega),if_pos (by omega)];simp
 unfold atI;rw[e];exact h
noncomputable def kmF(b:Expr):Prop:=∀o i,subscripted b false o i=operate [o,i] (getItem o i)
noncomputable def IxR(X:Cx)(r:R2):Prop:=
 ∀(value slice:Expr)(pins:List (Addr×Obj))(s:Shared)(σ:St)(H:Hp)(x y:V)(v u:Value)(Q:VK),Inv X pins σ H s→RelV x v→RelV y u→r x y H Q→
  subscripted slice false v u=operate [v,u] (getItem v u)→wpAny (model X.prog X.w) X.A (subscriptTail value slice v u) (EP X pins σ Q) X.xe s
noncomputable def MtR(X:Cx)(id:String)(r:V→List V→Hp→VK→Prop):Prop:=
 ∀(pins:List (Addr×Obj))(s:Shared)(σ:St)(H:Hp)(x:V)(xs:List V)(v:Value)(us:List Value)(Q:VK),Inv X pins σ H s→RelV x v→Vals xs us→r x xs H Q→
  wpAny (model X.prog X.w) X.A (call (.builtin id) (v::us)) (EP X pins σ Q) X.xe s
section
variable {X:Cx} {a b:Expr} {ta tb:TE} {pos:Pos}
theorem IxR.or{r r':R2}(h:IxR X r)(h':IxR X r'):IxR X (fun x y H Q=>r x y H Q∨r' x y H Q):=by
 intro value slice pins s σ H x y v u Q I rx ry q hs
 rcases q with q|q
 ·exact h value slice pins s σ H x y v u Q I rx ry q hs
 ·exact h' value slice pins s σ H x y v u Q I rx ry q hs
theorem MtR.or{id:String}{r r':V→List V→Hp→VK→Prop}(h:MtR X id r)(h':MtR X id r'):MtR X id (fun x xs H Q=>r x xs H Q∨r' x xs H Q):=by
 intro pins s σ H x xs v us Q I rx rs q
 rcases q with q|q
 ·exact h pins s σ H x xs v us Q I rx rs q
 ·exact h' pins s σ H x xs v us Q I rx rs q
theorem pe_ix{r:R2}(hr:IxR X r)(ha:PE X a ta)(hb:PE X b tb)(hs:kmF b):PE X (.Subscript a b pos) (tOp r ta tb):=by
 intro pins s σ H Q I h
 exact Subscript_ (binT ha hb I h fun v u s2 x y H2 I2 rx ry q=>hr a b pins s2 σ H2 x y v u Q I2 rx ry q (hs _ _))
noncomputable def rIxL(K:JN):R2:=fun x y H Q=>∃p xs i v,x=.ref p∧y=.int i∧SqL K H p xs∧atI xs i=some v∧Q v H
noncomputable def rIxT(K:JN):R2:=fun x y H Q=>∃p xs i v,x=.ref p∧y=.int i∧SqT K H p xs∧atI xs i=some v∧Q v H
theorem kaQ:IxR X (rIxL X.K):=by
 intro value slice pins s σ H x y v u Q I rx ry h hs
 obtain⟨p,xs,i,z,rfl,rfl,hq,he,q⟩:=h
 cases rx
 obtain⟨t,rfl⟩:=ry
 obtain⟨its,r,pl,hz⟩:=I.list hq
 obtain⟨j,h1,h2,h3,h4,h5⟩:=khI he
 obtain⟨w,ew,rw'⟩:=r.get h2
 have hl:=r.length
 have hn:=kgI
 have fin:EP X pins σ Q w s:=⟨z,H,I,rw',q⟩
 by_cases h0:0≤i
 ·have hj:i.toNat=j:=by
   rw[seqIndex_of h0 h5] at h1
   exact Option.some.inj h1
  exact item_listR pl.isList h0 (by omega) (by rw[hj];simpa using ew) fin hs
 ·have hj:(i+(its.toArray.size:Int)).toNat=j:=by
   rw[seqIndex_neg (by omega) h4] at h1
   rw[Nh,←hl]
   exact Option.some.inj h1
  exact subscriptTail_builtinR (x:=w) pl.isList.typeIs slot_list_getitem.lookup
   (wpAny_getItem_list_neg (Q:=fun r s'=>r=w∧EP X pins σ Q r s') pl.isList (by omega) (by rw[Nh] <;> omega) (by omega) (by rw[hj];simpa using ew) ⟨rfl,fin⟩) hs
theorem kip:IxR X (rIxT X.K):=by
 intro value slice pins s σ H x y v u Q I rx ry h hs
 obtain⟨p,xs,i,z,rfl,rfl,hq,he,q⟩:=h
 cases rx
 obtain⟨t,rfl⟩:=ry
 obtain⟨its,r,pl,hz⟩:=I.tuple hq
 obtain⟨j,h1,h2,h3,h4,h5⟩:=khI he
 obtain⟨w,ew,rw'⟩:=r.get h2
 have hl:=r.length
 have hn:=kgI
 have fin:EP X pins σ Q w s:=⟨z,H,I,rw',q⟩
 exact subscriptTail_builtinR (x:=w) pl.typeIs slot_tuple_getitem.lookup
  (getItem_tuple (j:=j) (Q:=fun r s'=>r=w∧EP X pins σ Q r s') pl (by omega) (by omega) (by rw[Nh,←hl];exact h1) (by simpa using ew) ⟨rfl,fin⟩) hs
theorem kiO(its:List Value)(n j:Nat)(u:Value):Obj.mapSeq (·.setIfInBounds j u) {cls:=.type "list",data:=.seq its.toArray n}= {cls:=.type "list",data:=.seq (its.set j u).toArray n}:=by
 simp[Obj.mapSeq]
theorem Inv.lst{pins:List (Addr×Obj)}{σ:St}{H:Hp}{s:Shared}{p:Addr}{xs:List V}(I:Inv X pins σ H s)(h:H p=some (.lst xs)):
  ∃(its:List Value)(n:Nat),Vals xs its∧s.heap.get? p=some {cls:=.type "list",data:=.seq its.toArray n}∧xs.length≤sizeLine:=by
 obtain⟨z,its,n,r,e⟩:=I.hok p _ h
 exact⟨its,n,r,e,z⟩
theorem Inv.lstUpd{pins:List (Addr×Obj)}{σ:St}{H:Hp}{s:Shared}{p:Addr}{xs ys:List V}{its its':List Value}{n n':Nat}{f:Obj→Obj}(I:Inv X pins σ H s)(h:H p=some (.lst xs))
  (ho:s.heap.get? p=some {cls:=.type "list",data:=.seq its.toArray n}) (hf:f {cls:=.type "list",data:=.seq its.toArray n}= {cls:=.type "list",data:=.seq its'.toArray n'}) (r:Vals ys its') (hz:ys.length≤sizeLine) (t:Nat):
  Inv X pins σ (upd H p (.lst ys)) {s with heap:=s.heap.update p f,toks:=t}:=by
 have e:(s.heap.update p f).get? p=some {cls:=.type "list",data:=.seq its'.toArray n'}:=by
  rw[Heap.get?_update_self f ho (by rw[hf] <;> rfl),hf]
 refine I.write (x:=p) (e:=p) (by rw[h];trivial) (.inl rfl) (fun b u hb q=>(Heap.get?_update_other _ _ (Ne.symm hb)).trans q) ⟨_,e⟩ ?_
 exact⟨hz,its',n',r,e⟩
noncomputable def rSetL:V→V→V→Hp→(Hp→Prop)→Prop:=fun o i v H Q=>∃p xs k j,o=.ref p∧i=.int k∧H p=some (.lst xs)∧ixN xs.length k=some j∧Q (upd H p (.lst (xs.set j v)))
theorem set_list:PSet X rSetL:=by
 intro pins s σ H o i v ov iv u Q I ro ri rv h
 obtain⟨p,xs,k,j,rfl,rfl,hp,hj,q⟩:=h
 cases ro
 obtain⟨t,rfl⟩:=ri
 obtain⟨its,n,r,ho,hz⟩:=I.lst hp
 obtain⟨h1,h2,h3,h4⟩:=kj1 hj
 have hl:=r.length
 have hn:=kgI
 have I':Inv X pins σ (upd H p (.lst (xs.set j v))) {s with heap:=s.heap.update p (Obj.mapSeq (·.setIfInBounds j u))}:=
  I.lstUpd hp ho (kiO its n j u) (r.set rv j) (by rw[N8];exact hz) s.toks
 by_cases h0:0≤k
 ·have hk:k.toNat=j:=by
   rw[seqIndex_of h0 h4] at h1
   exact Option.some.inj h1
  exact PySem.W.ki_setAt ho h0 (by omega) (by rw[Nh,←hl];exact h4) (by rw[hk];exact⟨_,I',q⟩)
 ·have hk:(k+(its.toArray.size:Int)).toNat=j:=by
   rw[seqIndex_neg (by omega) h3] at h1
   rw[Nh,←hl]
   exact Option.some.inj h1
  exact PySem.W.ki_setBack ho (by omega) (by rw[Nh,←hl];exact h3) (by omega) (by rw[hk];exact⟨_,I',q⟩)
theorem kgi(lo hi:Option Int)(n:Nat):(sliceBounds lo hi none n).1=((HT.sIx n 0 lo:Nat):Int)∧(sliceBounds lo hi none n).2.1=((HT.sIx n n hi:Nat):Int)∧(sliceBounds lo hi none n).2.2=1:=by
 refine⟨?_,?_,rfl⟩
 ·cases lo with
  |none=>simp[sliceBounds,HT.sIx]
  |some i=>
   simp only[sliceBounds,HT.sIx,Ex,show(1:Int) > 0 by decide,if_true]
   by_cases h:i<0
   ·simp only[h,if_true] <;> omega
   ·simp only[h,if_false] <;> omega
 ·cases hi with
  |none=>simp[sliceBounds,HT.sIx]
  |some i=>
   simp only[sliceBounds,HT.sIx,Ex,show(1:Int) > 0 by decide,if_true]
   by_cases h:i<0
   ·simp only[h,if_true] <;> omega
   ·simp only[h,if_false] <;> omega
theorem kfI(its:List Value)(lo hi:Option Int):slicePick its.toArray lo hi none=((its.drop (HT.sIx its.length 0 lo)).take (HT.sIx its.length its.length hi-HT.sIx its.length 0 lo)).toArray:=by
 obtain⟨h1,h2,h3⟩:=kgi lo hi its.toArray.size
 unfold slicePick
 rw[h1,h2,h3]
 simp only[sliceRange_one,pick_run,Nh] <;> rfl
noncomputable def rSlL(K:JN):V→Option Int→Option Int→Hp→VK→Prop:=fun x lo hi H Q=>∃a xs,x=.ref a∧SqL K H a xs∧∀p,H p=none→Q (.ref p) (upd H p (.lst (cutV xs lo hi)))
theorem kjt:SlR X (rSlL X.K):=by
 intro pins s σ H x v vl vu lo hi sl Q I rx hs pl pu h
 obtain⟨a,xs,rfl,hx,q⟩:=h
 cases rx
 obtain⟨its,r,ht,hz⟩:=I.list hx
 have hlen:=r.length
 refine⟨"list",_,slot_list_getitem.lookup,ht.isList.typeIs,?_⟩
 refine wpAny_getItem_list_slice ht.isList hs pl pu .none (by simp) ?_ (by rw[Nh] <;> omega)
 rw[kfI,←hlen]
 refine⟨.ref s.heap.objs.size,_,I.laid (t':=s.toks) (o:=.lst (cutV xs lo hi)) (fun b ob q=>Heap.get?_push_of_some _ q) (JO _) ?_,rfl,q _ (I.hok.fresh (JO _))⟩
 exact⟨JR (khB xs lo hi) hz,_,0,(r.drop (HT.sIx xs.length 0 lo)).take (HT.sIx xs.length xs.length hi-HT.sIx xs.length 0 lo),Heap.get?_push_size _ rfl⟩
noncomputable def flatV:V→Bool
 | .non=>true
 | .bl _=>true
 | .int _=>true
 | .str _=>true
 |_=>false
noncomputable def eqV:V→V→Bool
 | .non, .non=>true
 | .bl a, .bl b=>a==b
 | .bl a, .int b=>(if a then 1 else 0)==b
 | .int a, .bl b=>a==(if b then 1 else 0)
 | .int a, .int b=>a==b
 | .str a, .str b=>a==b
 |_,_=>false
theorem klM{A:Around}{s:Shared}{y x:V}{u v:Value}(ry:RelV y u)(rx:RelV x v)(fy:flatV y=true)(fx:flatV x=true):SeqAt.EqAt A s u v (eqV y x):=by
 cases y with
 |non=>
  cases ry
  cases x with
  |non=>cases rx;exact SeqAt.EqAt.same _
  |bl b=>cases rx;exact SeqAt.EqAt.none_bool b
  |int b=>obtain⟨t,rfl⟩:=rx;exact SeqAt.EqAt.none_int b t
  |str b=>obtain⟨t,rfl⟩:=rx;exact SeqAt.EqAt.none_str b t
  |_=>exact absurd (show false=true from fx) JV
 |bl a=>
  cases ry
  cases x with
  |non=>cases rx;exact SeqAt.EqAt.bool_none a
  |bl b=>cases rx;exact SeqAt.EqAt.bool_bool a b
  |int b=>obtain⟨t,rfl⟩:=rx;exact SeqAt.EqAt.bool_int a b t
  |str b=>obtain⟨t,rfl⟩:=rx;exact SeqAt.EqAt.bool_str a b t
  |_=>exact absurd (show false=true from fx) JV
 |int a=>
  obtain⟨t',rfl⟩:=ry
  cases x with
  |non=>cases rx;exact SeqAt.EqAt.int_none a t'
  |bl b=>cases rx;exact SeqAt.EqAt.int_bool a t' b
  |int b=>obtain⟨t,rfl⟩:=rx;exact SeqAt.EqAt.int_int a t' b t
  |str b=>obtain⟨t,rfl⟩:=rx;exact SeqAt.EqAt.int_str a t' b t
  |_=>exact absurd (show false=true from fx) JV
 |str a=>
  obtain⟨t',rfl⟩:=ry
  cases x with
  |non=>cases rx;exact SeqAt.EqAt.str_none a t'
  |bl b=>cases rx;exact SeqAt.EqAt.str_bool a t' b
  |int b=>obtain⟨t,rfl⟩:=rx;exact SeqAt.EqAt.str_int a t' b t
  |str b=>obtain⟨t,rfl⟩:=rx;exact SeqAt.EqAt.str_str a t' b t
  |_=>exact absurd (show false=true from fx) JV
 |_=>exact absurd (show false=true from fy) JV
noncomputable def eqU(x:V)(u:Value):Bool:=match u with
 | .none=>eqV .non x
 | .bool b=>eqV (.bl b) x
 | .int i _=>eqV (.int i) x
 | .str z _=>eqV (.str z) x
 |_=>false
theorem klL{x y:V}{u:Value}(r:RelV y u)(f:flatV y=true):eqU x u=eqV y x:=by
 cases y with
 |non=>cases r;rfl
 |bl b=>cases r;rfl
 |int i=>obtain⟨t,rfl⟩:=r;rfl
 |str z=>obtain⟨t,rfl⟩:=r;rfl
 |_=>exact absurd (show false=true from f) JV
theorem ke3{x:V}:∀{xs:List V}{us:List Value},Vals xs us→xs.all flatV=true→us.any (eqU x)=xs.any fun y=>eqV y x
 |_,_, .nil,_=>rfl
 |y::xs,u::us, .cons r t,f=>by
  rw[MV,NR] at f
  rw[Mr,Mr,klL r f.1,ke3 t f.2]
theorem kdz{A:Around}{s:Shared}{x:V}{v:Value}(rx:RelV x v)(fx:flatV x=true):∀{xs:List V}{us:List Value},Vals xs us→xs.all flatV=true→∀u∈us,SeqAt.EqAt A s u v (eqU x u)
 |_,_, .nil,_=>fun u hu=>by cases hu
 |y::xs,u::us, .cons r t,f=>fun u' hu=>by
  rw[MV,NR] at f
  rcases Nd.mp hu with rfl|hu
  ·rw[klL r f.1];exact klM r rx f.1 fx
  ·exact kdz rx fx t f.2 u' hu
noncomputable def inV(x:V)(xs:List V):Bool:=xs.any fun y=>eqV y x
noncomputable def rIn(K:JN)(neg:Bool):R2:=fun x y H Q=>∃p xs,y=.ref p∧(SqL K H p xs∨SqT K H p xs)∧flatV x=true∧xs.all flatV=true∧Q (.bl (if neg then !inV x xs else inV x xs)) H
theorem kcn:OpR X (compareOp .In) (rIn X.K false):=by
 intro pins s σ H x y v u Q I rx ry h
 obtain⟨p,xs,rfl,hq,fx,fs,q⟩:=h
 cases ry
 rcases hq with hq|hq
 ·obtain⟨its,r,pl,hz⟩:=I.list hq
  refine SeqAt.in_listAt (eqU x) pl.isList (fun w hw=>kdz rx fx r fs w (by simpa using hw)) ⟨.bl _,H,I,rfl,?_⟩
  rw[show its.toArray.any (eqU x)=its.any (eqU x) by simp,ke3 r fs]
  exact q
 ·obtain⟨its,r,pl,hz⟩:=I.tuple hq
  refine SeqAt.in_tupleAt (eqU x) pl (fun w hw=>kdz rx fx r fs w (by simpa using hw)) ⟨.bl _,H,I,rfl,?_⟩
  rw[show its.toArray.any (eqU x)=its.any (eqU x) by simp,ke3 r fs]
  exact q
theorem kgv:OpR X (compareOp .NotIn) (rIn X.K true):=by
 intro pins s σ H x y v u Q I rx ry h
 obtain⟨p,xs,rfl,hq,fx,fs,q⟩:=h
 cases ry
 rcases hq with hq|hq
 ·obtain⟨its,r,pl,hz⟩:=I.list hq
  refine SeqAt.notIn_listAt (eqU x) pl.isList (fun w hw=>kdz rx fx r fs w (by simpa using hw)) ⟨.bl _,H,I,rfl,?_⟩
  rw[show its.toArray.any (eqU x)=its.any (eqU x) by simp,ke3 r fs]
  exact q
 ·obtain⟨its,r,pl,hz⟩:=I.tuple hq
  refine SeqAt.notIn_tupleAt (eqU x) pl (fun w hw=>kdz rx fx r fs w (by simpa using hw)) ⟨.bl _,H,I,rfl,?_⟩
  rw[show its.toArray.any (eqU x)=its.any (eqU x) by simp,ke3 r fs]
  exact q
theorem kau:CallR X (.builtin "len") (fun xs H Q=>∃p ys,xs=[.ref p]∧(SqL X.K H p ys∨SqT X.K H p ys)∧Q (.int ys.length) H):=by
 intro pins s σ H xs us Q I r h
 obtain⟨p,ys,rfl,hq,q⟩:=h
 obtain⟨u,rfl,rx⟩:=vals1 r
 cases rx
 have hn:=kgI
 rcases hq with hq|hq
 ·obtain⟨its,r',pl,hz⟩:=I.list hq
  have hlen:=r'.length
  exact Calls.call_len_list pl.isList (by simp only[Nh] <;> omega) ⟨.int ys.length,H,I.tok _,⟨s.toks+1,by rw[Nh,hlen]⟩,q⟩
 ·obtain⟨its,r',pl,hz⟩:=I.tuple hq
  have hlen:=r'.length
  exact len_tuple pl (by simp only[Nh] <;> omega) ⟨.int ys.length,H,I.tok _,⟨s.toks+1,by rw[Nh,hlen]⟩,q⟩
theorem CallR.or{f:Value}{r r':List V→Hp→VK→Prop}(h:CallR X f r)(h':CallR X f r'):CallR X f (fun xs H Q=>r xs H Q∨r' xs H Q):=by
 intro pins s σ H xs us Q I rs q
 rcases q with q|q
 ·exact h pins s σ H xs us Q I rs q
 ·exact h' pins s σ H xs us Q I rs q
theorem kaB:CallR X (.type "list") (fun xs H Q=>∃p ys,xs=[.ref p]∧(SqL X.K H p ys∨SqT X.K H p ys)∧∀l,H l=none→Q (.ref l) (upd H l (.lst ys))):=by
 intro pins s σ H xs us Q I r h
 obtain⟨p,ys,rfl,hq,q⟩:=h
 obtain⟨u,rfl,rx⟩:=vals1 r
 cases rx
 have fin:∀(its:List Value),Vals ys its→ys.length≤sizeLine→∀(h':Heap)(c':Nat),(∀b o',s.heap.get? b=some o'→h'.get? b=some o')→
   h'.get? s.heap.objs.size=some {cls:=.type "list",dict:=none,data:=.seq its.toArray c',slots:=#[]}→EP X pins σ Q (.ref s.heap.objs.size) {s with heap:=h'}:=fun its r' hz h' c' kp e=>
  ⟨.ref s.heap.objs.size,_,I.laid (t':=s.toks) kp (JO _) (show ObjOk X.prog X.w _ h' _ (.lst ys) from⟨hz,its,c',r',e⟩),rfl,q _ (I.hok.fresh (JO _))⟩
 rcases hq with hq|hq
 ·obtain⟨its,r',pl,hz⟩:=I.list hq
  have hlen:=r'.length
  obtain⟨o,ho,hc,n,hd⟩:=pl.isList
  exact call_list_seq p (.inl rfl) ho hc hd (fun h' c' kp e=>fin its r' hz h' c' kp e) (by simp only[Nh] <;> omega)
 ·obtain⟨its,r',pl,hz⟩:=I.tuple hq
  have hlen:=r'.length
  obtain⟨o,ho,hc,n,hd⟩:=pl
  exact call_list_seq p (.inr rfl) ho hc hd (fun h' c' kp e=>fin its r' hz h' c' kp e) (by simp only[Nh] <;> omega)
noncomputable def tyV(K:JN)(T:String)(x:V)(H:Hp):Prop:=match x with
 | .str _=>T="str"
 | .int _=>T="int"
 | .ref p=>(T="list"∧∃xs,SqL K H p xs)∨(T="tuple"∧∃o,K.lookup p=some o∧o.cls=.type "tuple"∧o.dict=none)∨
   (T="dict"∧((∃kvs,H p=some (.dK kvs))∨∃kvs,H p=some (.dT kvs)))∨(T="set"∧∃S n,H p=some (.set S n))
 |_=>False
theorem kln{pins:List (Addr×Obj)}{σ:St}{H:Hp}{s:Shared}{T:String}{x:V}{v:Value}(I:Inv X pins σ H s)(r:RelV x v)(ty:tyV X.K T x H):
  s.TypeIs v T∧∀a,v=.ref a→∃ob,s.heap.get? a=some ob∧ob.dict=none:=by
 cases x with
 |str z=>
  obtain⟨t,rfl⟩:=r
  cases(show T="str" from ty)
  exact⟨typeIs_str s z t,fun _ e=>nomatch e⟩
 |int i=>
  obtain⟨t,rfl⟩:=r
  cases(show T="int" from ty)
  exact⟨typeIs_int s i t,fun _ e=>nomatch e⟩
 | ref p=>
  cases r
  rcases ty with⟨rfl,xs,hq⟩|⟨rfl,o,hk,hc,hd⟩|⟨rfl,hk⟩|⟨rfl,S,n,hk⟩
  ·obtain⟨its,_,pl,_⟩:=I.list hq
   refine⟨pl.isList.typeIs,fun a e=>?_⟩
   cases e
   obtain⟨o,n,e,c,hd,_⟩:=pl
   exact⟨o,e,hd⟩
  ·refine⟨⟨o,I.kIn p o hk,hc⟩,fun a e=>?_⟩
   cases e
   exact⟨o,I.kIn _ o hk,hd⟩
  ·have z:∃o,s.heap.get? p=some o∧o.ExactDict:=by
    rcases hk with⟨kvs,hk⟩|⟨kvs,hk⟩
    ·obtain⟨_,_,_,_,o,_,_,e,ex,_⟩:=I.hok p _ hk
     exact⟨o,e,ex⟩
    ·obtain⟨_,_,_,_,o,_,_,e,ex,_⟩:=I.hok p _ hk
     exact⟨o,e,ex⟩
   obtain⟨o,e,ex⟩:=z
   refine⟨⟨o,e,ex.1⟩,fun a e2=>?_⟩
   cases e2
   exact⟨o,e,ex.2.1⟩
  ·obtain⟨o,_,_,_,e,ex,_⟩:=I.hok p _ hk
   refine⟨⟨o,e,ex.1⟩,fun a e2=>?_⟩
   cases e2
   exact⟨o,e,ex.2.1⟩
 |_=>exact False.elim ty
noncomputable def tBM(K:JN)(T:String)(r:V→List V→Hp→VK→Prop)(to:TE)(t:TA):TE:=fun σ H Q=>to σ H fun x H1=>tyV K T x H1∧t σ H1 fun xs H2=>r x xs H2 Q
variable {o e:Expr} {es:List Expr} {to:TE} {t:TA} {name:Str} {apos cpos:Pos} {T id:String} {r:V→List V→Hp→VK→Prop}
theorem pe_bm(pa:PlainAttrs T)(slot:Slot T name id)(hty:typeOf (.builtin id)=pure (.type "method_descriptor"))(hm:MtR X id r)(ho:PE X o to)(ha:PA X (e::es) t)
  (hbase:attributeBase o name X.env (eval o X.env)=eval o X.env:=by rfl)
  (hfew:((backTo cpos (starEach (e::es) X.env)).all (fun x=>!x.1)&&(backToKw cpos (keywordEach [] X.env)).all (fun x=>x.1.isSome)
   &&decide ((e::es).length+([]:List Keyword).length+(if([]:List Keyword).isEmpty then 0 else 1)<30))=true:=by rfl)
  (hline:(apos.endLine==cpos.line)=true:=by rfl) (hs:starEach (e::es) X.env=(false,eval e X.env)::starEach es X.env:=by rfl) (hplain:(backTo cpos (starEach es X.env)).any (·.1)=false:=by rfl):
  PE X (.Call (.Attribute o name apos) (e::es) [] cpos) (tBM X.K T r to t):=by
 intro pins s σ H Q I h
 refine wpAny_Call_method_late hbase hfew hline rfl (thn (ho pins s σ H _ I h) fun v s1 ⟨x,H1,I1,r1,ty,q1⟩=>?_)
 obtain⟨h1,h2⟩:=kln I1 r1 ty
 refine⟨T,id,pa,slot,hty,h1,h2,?_⟩
 have hA:=ha cpos pins s1 σ H1 _ I1 q1
 rw[hs] at hA⊢
 refine Calls.callWith_builtin (by show(false||(backTo cpos (starEach es X.env)).any (·.1))=false;rw[hplain] <;> rfl) (Calls.evalArgs_plain ?_)
 exact thn hA fun us s2 ⟨vs,H2,I2,r2,q2⟩=>hm pins s2 σ H2 x vs v us Q I2 r1 r2 q2
end
end L2
namespace L2
open PySem PySem.Spec PyProof.Rows
noncomputable def MtM(X:Cx)(id:String)(r:V→List V→Hp→VK→Prop):Prop:=
 ∀(pins:List (Addr×Obj))(s:Shared)(σ:St)(H:Hp)(x:V)(xs:List V)(v:Value)(us:List Value)(Q:VK),Inv X pins σ H s→RelV x v→Vals xs us→r x xs H Q→
  wpAny (model X.prog X.w) X.A (call (.builtin id) (v::us)) (EP X pins σ Q) X.xe s
theorem Vals.one:∀{x:V}{us:List Value},Vals [x] us→∃u,us=[u]∧RelV x u
 |_,_, .cons r .nil=>⟨_,rfl,r⟩
theorem Vals.two:∀{x y:V}{us:List Value},Vals [x,y] us→∃u v,us=[u,v]∧RelV x u∧RelV y v
 |_,_,_, .cons r (.cons q .nil)=>⟨_,_,rfl,r,q⟩
theorem Vals.zero:∀{us:List Value},Vals [] us→us=[]
 |_, .nil=>rfl
theorem Vals.dropLast{xs:List V}{us:List Value}(h:Vals xs us):Vals xs.dropLast us.dropLast:=by
 induction h with
 |nil=>exact .nil
 |cons r t ih=>
  cases t with
  |nil=>exact .nil
  |cons q t'=>exact .cons r ih
theorem Vals.reverse{xs:List V}{us:List Value}(h:Vals xs us):Vals xs.reverse us.reverse:=by
 induction h with
 |nil=>exact .nil
 |cons r t ih=>rw[MW,MW];exact Vals.append ih (.cons r .nil)
theorem Vals.rep{xs:List V}{us:List Value}(h:Vals xs us):∀k:Nat,Vals (JS k xs).flatten (JS k us).flatten
 |0=>.nil
 |k+1=>by
  rw[N9,N9,Nm,Nm]
  exact Vals.append h (Vals.rep h k)
theorem foldl_rep(its:List Value):∀(k:Nat)(acc:List Value),
  List.foldl (fun x1 x2=>x1++x2) acc.toArray (JS k its.toArray)=(acc++(JS k its).flatten).toArray
 |0,acc=>by simp
 | k+1,acc=>by
  have e:acc.toArray++its.toArray=(acc++its).toArray:=by simp
  have e2:(acc++its)++(JS k its).flatten=acc++(JS (k+1) its).flatten:=by
   rw[N9,Nm,Nt]
  rw[←e2,←foldl_rep its k (acc++its),←e,N9,Mi]
section
variable {X:Cx} {pins:List (Addr×Obj)} {σ:St} {H:Hp} {s:Shared} {l b:Addr} {xs ys zs:List V}
theorem Inv.lset{its its':List Value}{n:Nat}{f:Array Value→Array Value}{t':Nat}(I:Inv X pins σ H s)(hH:H l=some (.lst xs))
  (e:s.heap.get? l=some {cls:=.type "list",data:=.seq its.toArray n}) (hf:f its.toArray=its'.toArray) (hv:Vals ys its') (hz:ys.length≤sizeLine):
  Inv X pins σ (upd H l (.lst ys)) {s with heap:=s.heap.update l (Obj.mapSeq f),toks:=t'}:=by
 have q:=PySem.IsL.update e f
 rw[hf] at q
 refine I.write (x:=l) (e:=l) (by rw[hH];exact trivial) (.inl rfl) (fun b' u hb hu=>(Heap.get?_update_other s.heap (Obj.mapSeq f) (Ne.symm hb)).trans hu) ⟨_,q⟩ ?_
 exact⟨hz,its',_,hv,q⟩
theorem Inv.lnew{its:List Value}{t':Nat}(I:Inv X pins σ H s)(hv:Vals ys its)(hz:ys.length≤sizeLine):
  Inv X pins σ (upd H s.heap.objs.size (.lst ys)) {s with heap:=s.heap.push {cls:=.type "list",data:=.seq its.toArray},toks:=t'}:=
 I.laid (fun _ _ q=>Heap.get?_push_of_some _ q) (JO _) ⟨hz,its,0,hv,Heap.get?_push_size _ rfl⟩
theorem Inv.fresh(I:Inv X pins σ H s):H s.heap.objs.size=none:=I.hok.fresh (JO _)
theorem Inv.lstM(I:Inv X pins σ H s)(hH:H l=some (.lst xs)):xs.length≤sizeLine∧∃(its:List Value)(n:Nat),Vals xs its∧xs.length=its.length∧s.heap.get? l=some {cls:=.type "list",data:=.seq its.toArray n}:=by
 obtain⟨z,its,n,r,e⟩:=I.hok l _ hH
 exact⟨z,its,n,r,r.length,e⟩
theorem kig{n:Nat}(h:n≤sizeLine):Builtin.List.listTooLong n=false:=by
 unfold Builtin.List.listTooLong
 exact decide_eq_false (by omega)
end
section
variable {X:Cx}
noncomputable def kl9:V→List V→Hp→VK→Prop:=fun x vs H Q=>∃l xs y,x=.ref l∧vs=[y]∧H l=some (.lst xs)∧xs.length<sizeLine∧Q .non (upd H l (.lst (xs++[y])))
theorem ka1:MtM X "list.append" kl9:=by
 intro pins s σ H x vs v us Q I rx rv h
 obtain⟨l,xs,y,rfl,rfl,hH,hz,q⟩:=h
 cases rx
 obtain⟨u,rfl,ru⟩:=rv.one
 obtain⟨z,its,n,r,hl,e⟩:=I.lstM hH
 refine call_meets F.slot_list_append ⟨_,e,rfl⟩ F.entry_list_append (F.args_list_append_2 _ _) (PySem.list_append l its.toArray n u (by rw[Nh];omega)) ⟨e,?_⟩
 refine⟨.non,_,I.lset (its':=its++[u]) hH e (by simp) (r.append (.cons ru .nil)) ?_,rfl,q⟩
 rw[JZ,NA]
 omega
noncomputable def kl8:V→List V→Hp→VK→Prop:=fun x vs H Q=>∃l b xs zs,x=.ref l∧vs=[.ref b]∧H l=some (.lst xs)∧H b=some (.lst zs)∧xs.length+zs.length≤sizeLine∧Q .non (upd H l (.lst (xs++zs)))
theorem kgA:MtM X "list.extend" kl8:=by
 intro pins s σ H x vs v us Q I rx rv h
 obtain⟨l,b,xs,zs,rfl,rfl,hH,hB,hz,q⟩:=h
 cases rx
 obtain⟨u,rfl,ru⟩:=rv.one
 cases ru
 obtain⟨z,its,n,r,hl,e⟩:=I.lstM hH
 obtain⟨z2,its2,n2,r2,hl2,e2⟩:=I.lstM hB
 have hsz:its.toArray.size+its2.toArray.size≤sizeLine:=by rw[Nh,Nh];omega
 have hlong:¬(!its.toArray.isEmpty&&Builtin.List.listTooLong (its.toArray.size+its2.toArray.size))=true:=by
  rw[kig hsz,MX]
  exact JV
 refine call_meets F.slot_list_extend ⟨_,e,rfl⟩ F.entry_list_extend (F.args_list_extend_2 _ _)
  (AutoSeq1.list_extend_list_list_0 l its.toArray n b its2.toArray n2 hlong (by rw[Nh];omega) (by omega)) ⟨e,e2,?_⟩
 refine⟨.non,_,I.lset (its':=its++its2) hH e (by simp) (r.append r2) ?_,rfl,q⟩
 rw[JZ]
 omega
noncomputable def rCat:R2:=fun x y H Q=>∃l b xs zs,x=.ref l∧y=.ref b∧H l=some (.lst xs)∧H b=some (.lst zs)∧xs.length+zs.length≤sizeLine∧∀p,H p=none→Q (.ref p) (upd H p (.lst (xs++zs)))
theorem klE:OpR X (binaryOp .Add) rCat:=by
 intro pins s σ H x y v u Q I rx ry h
 obtain⟨l,b,xs,zs,rfl,rfl,hH,hB,hz,q⟩:=h
 cases rx
 cases ry
 obtain⟨z,its,n,r,hl,e⟩:=I.lstM hH
 obtain⟨z2,its2,n2,r2,hl2,e2⟩:=I.lstM hB
 refine PySem.P.add_list e e2 ?_ (by rw[Nh,Nh];omega)
 have ea:its.toArray++its2.toArray=(its++its2).toArray:=by simp
 rw[ea]
 exact⟨.ref _,_,I.lnew (t':=s.toks) (r.append r2) (by rw[JZ];omega),rfl,q _ I.fresh⟩
noncomputable def rRep:R2:=fun x y H Q=>∃l k xs,x=.ref l∧y=.int k∧H l=some (.lst xs)∧-(2 ^ 63)≤k∧k<2 ^ 63∧xs.length*k.toNat≤sizeLine∧
 ∀p,H p=none→Q (.ref p) (upd H p (.lst (JS k.toNat xs).flatten))
theorem len_rep{α:Type}(xs:List α)(k:Nat):(JS k xs).flatten.length=k*xs.length:=by
 induction k with
 |zero=>simp
 |succ k ih=>rw[N9,Nm,JZ,ih,Nat.succ_mul,Nat.add_comm]
theorem klD:OpR X (binaryOp .Mult) rRep:=by
 intro pins s σ H x y v u Q I rx ry h
 obtain⟨l,k,xs,rfl,rfl,hH,h1,h2,hz,q⟩:=h
 cases rx
 obtain⟨t,rfl⟩:=ry
 obtain⟨z,its,n,r,hl,e⟩:=I.lstM hH
 have hlen:its.toArray.size*k.toNat≤sizeLine:=by rw[Nh,←hl];exact hz
 have hcap:¬its.toArray.size*k.toNat > (2 ^ 63-1)/8:=by
  have:(sizeLine:Nat)≤(2 ^ 63-1)/8:=by decide
  omega
 have hfit:¬(!Builtin.List.listFitsIndex k)=true:=by
  rw[fitsIndex_both h1 h2]
  exact JV
 have hlong:¬Builtin.List.listTooLong (its.toArray.size*k.toNat)=true:=by
  rw[kig hlen]
  exact JV
 have hnew:List.foldl (fun x1 x2=>x1++x2) #[] (JS (if its.toArray.isEmpty=true then 0 else k.toNat) its.toArray)=(JS k.toNat its).flatten.toArray:=by
  have f0:∀m:Nat,List.foldl (fun x1 x2=>x1++x2) #[] (JS m its.toArray)=(JS m its).flatten.toArray:=fun m=>by
   have:=foldl_rep its m []
   rw[NL] at this
   exact this
  rw[f0]
  cases its with
  |nil=>simp
  |cons a r'=>rw[if_neg (by simp)]
 refine wpAny_binaryOp_repeat_ref (T:="list") (U:="int") (by decide) ⟨_,e,rfl⟩ (fun s'=>typeIs_int s' k t) noFill_list_mul F.fills_int_mul F.slot_int_rmul repeat_list F.slot_int_index.lookup
  (call_meets F.slot_int_rmul (typeIs_int s k t) F.entry_int_rmul (F.args_int_rmul_2 _ _) (int___rmul___int_list k t l its.toArray n)
   ⟨e,rfl,⟨_,e,rfl⟩,call_meets F.slot_list_mul ⟨_,e,rfl⟩ F.entry_list_mul (F.args_list_mul_2 _ _) (AutoListH.list___mul___list_int_3 l its.toArray n k t hfit hcap hlong) ⟨e,?_⟩⟩)
 rw[hnew]
 exact⟨.ref _,_,I.lnew (t':=s.toks) (r.rep k.toNat) (by rw[len_rep,Nat.mul_comm];exact hz),rfl,q _ I.fresh⟩
end
section
variable {prog:Program} {w:World} {A:Around} {E:Value→Shared→Prop} {s:Shared}
set_option maxRecDepth 100000 in
end
section
variable {X:Cx}
end
end L2
namespace Att
open PySem PySem.W PySem.Calls PyProof.Rows
theorem keT{P:Params}{h:Heap}:∀(ns:List Int)(vs:List Value),WellAll P h vs (ns.map WData.int)→IntsAre vs ns:=by
 intro ns
 induction ns with
 |nil=>
  intro vs w
  rw[Mh] at w
  cases w
  exact .nil
 | cons n ns ih=>
  intro vs w
  rw[J0] at w
  cases w with
  |cons a b=>
   cases a
   exact .cons _ _ (ih _ b)
theorem kjv{l:OpenLaw}{n:Nat}(hn:l.most=some n){P:Params}{h:Heap}{args:List WData}{vals:List Value}
  (hpre:l.row.toRowW.claim.pre args=true) (hwl:WellAll P h vals args):
  ∃a vs ns,vals=[Value.ref a]∧args=[WData.list (ns.map WData.int)]∧h.get? a=some {cls:=.type "list",data:=.seq vs.toArray}∧IntsAre vs ns∧ns.length≤n:=by
 have hsh:WShape.hasAll [] args [.list .int]=true:=(pre_splitW hpre).1
 have hc:l.pre.holds [] {args:=args}=true:=(pre_splitW hpre).2
 obtain⟨d,r,rfl,h1,h2⟩:=hasAllW_cons hsh
 obtain rfl:=hasAllW_nil h2
 obtain⟨xs,rfl,h3⟩:=hasW_list h1
 obtain⟨ns,rfl⟩:=items_int h3
 have hlen:ns.length≤n:=by
  unfold OpenLaw.pre at hc
  have h4:(WTm.not (.lt (.lit (.int (n:Int))) (.len (.arg 0)))).holds [] {args:=[.list (ns.map .int)]}=true:=by
   have h4:=(holds_andW hc).1
   rw[hn] at h4
   exact h4
  have h5:=condW_of h4 (w_not (w_lt w_lit (w_len_list (w_arg rfl))))
  rw[JM] at h5
  refine Nat.le_of_not_lt fun q=>?_
  have q':(n:Int)<((ns.length:Nat):Int):=by omega
  first
   |(rw[decide_eq_true q'] at h5;exact absurd h5 (by decide))
   |(simp at h5;omega)
 cases hwl with
 |cons w1 w2=>
  cases w2
  cases w1 with
  |list ho hall=>exact⟨_,_,ns,rfl,rfl,ho,keT ns _ hall,hlen⟩
def kjI(l:OpenLaw)(args:List WData):l.row.toRowW.claim.post args (.bool true) args=true:=
 postW_of (r:=l.row.toRowW) (X:=(true==true))
  (show WShape.has [] (.bool true) .bool=true by first|rfl|decide|simp[WShape.has,WShape.arms,WShape.armsAll])
  (show(WTm.eq .res (.lit (.bool true))).value [] {args:=args,res:=some (.bool true),after:=args}=some (.bool (true==true)) from w_eq_bool (w_res rfl) w_lit) rfl
theorem attach_call{l:OpenLaw}{n:Nat}{q:Program}{loose:List Str}{XP:(Str→Option Value)→Heap→Prop}{YP:World→Heap→Prop}{d:DefRec}
  (hn:l.most=some n) (hdf:d.params.defaults=[])
  (call:∀(w:World)(s₀ s₁:Shared)(mg mb:Str→Option Value)(fa:Addr)(o:Obj)(pm cd doc:Value)(a:Addr)(vs:List Value)(ns:List Int),
   Ground q loose [] XP w s₀ mg mb s₁.heap→YP w s₁.heap→
   s₁.heap.get? fa=some o→o.data=.func (docDef d.name d.params d.body d.scope pm cd doc)→s₁.heap.CodeRec cd d.name→mg d.name=some (.ref fa)→
   s₁.heap.get? a=some {cls:=.type "list",data:=.seq vs.toArray}→IntsAre vs ns→ns.length≤n→s₁.gens= #[]→
   codeAny (model l.prog w) callerA (.call (.ref fa) ⟨[.ref a],[]⟩) (fun r s'=>r=.ok (.ret (.bool true))∧OldK s₁.heap s'.heap∧s'.os=s₁.os∧AllBare s'.gens) s₁):
  WalkO q loose XP YP l.row.toRowW d [] (fun f vs=>PySem.call f vs):=by
 intro w s₀ s₁ mg mb G Y fa o pm cd doc dV kV ho hd hcd hD hmg hg args vals as hpre hlay hrd hwl hlo
 obtain rfl:dV=.none:=Dflts.none hD hdf
 obtain rfl:kV=.none:=Dflts.noKw hD
 obtain⟨a,vs,ns,rfl,rfl,hobj,hints,hlen⟩:=kjv hn hpre hwl
 refine enter_call (codeAny_mono (call w s₀ s₁ mg mb fa o pm cd doc a vs ns G Y ho (fd_plain hd) hcd hmg hobj hints hlen hg) fun r s' hq=>?_)
 obtain⟨rfl,h2,h3,h4⟩:=hq
 exact⟨.inl ⟨.bool true, .bool true,[],rfl,fun _=>rfl, .bool true,kjI l _,fun _=>⟨Ms.nil,fun _ hm=>(nomatch hm)⟩⟩,h2,h3,h4⟩
section
variable {prog:Program} {w:World} {A:Around} {E:Value→Shared→Prop} {s:Shared} {K:Frag}
end
end Att
namespace L2
open PySem PySem.Spec PyProof.Rows
theorem kf7:∀{vs:List Value}{ns:List Int},IntsAre vs ns→Vals (ns.map V.int) vs
 |_,_, .nil=>.nil
 |_,_, .cons n t h=>.cons ⟨t,rfl⟩ (kf7 h)
end L2
namespace L2
open PySem PySem.Spec PyProof.Rows
end L2
namespace L2
open PySem PySem.Spec PyProof.Rows
noncomputable def inClass(s:Stmt)(j:Nat):Stmt:=match s with
 | .ClassDef _ _ _ body _ _ _ _ _ _ _=>body.getD j (.Pass ⟨0,0,0,0⟩)
 |_=>.Pass ⟨0,0,0,0⟩
noncomputable def kaE(s:Stmt):Arguments:=match s with
 | .FunctionDef _ a _ _ _ _ _ _ _ _=>a
 |_=>{posonlyargs:=[],args:=[],vararg:=none,kwonlyargs:=[],kw_defaults:=[],kwarg:=none,defaults:=[]}
noncomputable def kaC(s:Stmt):List Stmt:=match s with
 | .FunctionDef _ _ b _ _ _ _ _ _ _=>b
 |_=>[]
noncomputable def kai(s:Stmt):Scope:=match s with
 | .FunctionDef _ _ _ _ _ _ sc _ _ _=>sc
 |_=>{kind:=.function,names:=[],isGenerator:=false,isCoroutine:=false}
noncomputable abbrev CX0:CXT:=fun _ _ _ _ _ _=>False
noncomputable abbrev E0:XK:=fun _ _ _=>False
def pass0{X:Cx}:kc0 CX0 X E0:=fun _ _ _ _ _ _ _ h=>h.elim
structure Fun (K:JN) (x qual:Str) (st:Stmt) (f:Addr) (fd:FuncData):Prop where
 ex:∃(oc:Value)(od:Option Addr)(kV doc pm:Value)(an:Option Addr)(cdv ct:Value)(osl:Array (Option Value)),
  fd=J9 x qual (kaE st) (kaC st) (kai st) .none kV doc pm an cdv ct∧K.lookup f=some ⟨oc,od, .func fd,osl⟩∧Nz K cdv qual=true
 kp:J6 K (.ref f)=true
section
variable {P:Program} {w:World} {K:JN} {mg:Str→Option Value} {base:Heap}
theorem Fun.ok{x qual:Str}{st:Stmt}{f:Addr}{fd:FuncData}{N ps:List Str}{k:Nat}{sp:Sp}(F:Fun K x qual st f fd)(S:kar N ps (kai st))(len:∀vs H Q E,sp vs H Q E→vs.length=ps.length)
  (hbody:∀(cdv:Value)(A:Around)(outer:List Env)(s:Shared)(H:Hp)(vs:List V)(Q:VK)(E:XK),Room k (A.deeper (envOfC qual (kai st) s.heap.objs.size f cdv))→sp vs H Q E→
   ∃t,PSs (cxOf CX0 P w K mg base N qual (kai st) f cdv A outer s H E).nox (kaC st) t∧t {nx:=fun _ H'=>Q .non H',rt:=Q} (start N vs) H):FnOk P w K mg base CX0 (k+1) f fd ps sp:=by
 obtain⟨oc,od,kV,doc,pm,an,cdv,ct,osl,rfl,lk,hcd⟩:=F.ex
 refine fn_of lk hcd S len fun A outer s H vs Q E hr hsp=>?_
 obtain⟨t,h,q⟩:=hbody cdv A outer s H vs Q E hr hsp
 exact⟨t,h.nox,q⟩
theorem Fun.binds{x qual:Str}{st:Stmt}{f:Addr}{fd:FuncData}{ps:List Str}(F:Fun K x qual st f fd)
  (h:∀(kV doc pm:Value)(an:Option Addr)(cdv ct:Value)(us:List Value),us.length=ps.length→bindArgs (J9 x qual (kaE st) (kaC st) (kai st) .none kV doc pm an cdv ct) ⟨us,[]⟩=pure (ps.zip us)):Binds K fd ps []:=by
 obtain⟨oc,od,kV,doc,pm,an,cdv,ct,osl,rfl,lk,hcd⟩:=F.ex
 exact .all (h kV doc pm an cdv ct)
end
def kaw{n:Nat}(h:n≤1000):n<sizeLine:=Ma h (by decide)
section
variable {X:Cx}
theorem pv(i:Nat){x:Str}{pos:Pos}(hN:X.N[i]?=some x:=by rfl)(hv:Vis X.env.scope x:=by first|exact Or.inl rfl|exact Or.inr (Or.inl rfl)|exact Or.inr (Or.inr rfl))(hd:(x==("__debug__" :Str))=false:=by decide)
  (hcd:(x==("__classdict__" :Str))=false:=by decide):PE X (.Name x pos) (tVar i):=kmT hN hv hd hcd
end
def iteF{A B:Prop}(h:B):if false=true then A else B:=by
 rw[if_neg JV]
 exact h
def iteT{A B:Prop}(h:A):if true=true then A else B:=by
 rw[if_pos rfl]
 exact h
def ite2{c A B:Prop} [Decidable c] (h1:c→A) (h2:¬c→B):if c then A else B:=by
 by_cases h:c
 ·rw[if_pos h]
  exact h1 h
 ·rw[if_neg h]
  exact h2 h
end L2
set_option maxHeartbeats 4000000
namespace L3
end L3
namespace L2
open PySem PySem.Spec PyProof.Rows
section
variable {X:Cx}
theorem log2_small{n:Nat}(h:n<2 ^ 200):n.log2<9000:=by
 by_cases h0:n=0
 ·subst h0
  decide
 ·have h1:n.log2<200:=(Nat.log2_lt h0).mpr h
  omega
noncomputable def CDivB(_ j:Int):Prop:=0<j∧j<2 ^ 199
theorem kif:OpR X (binaryOp .FloorDiv) (rI CDivB fun i j=>.int (i/j)):=opI fun i j _ _ _ _ _ hc q=>by
 have h1:(0:Int)<j:=hc.1
 have h2:j<2 ^ 199:=hc.2
 have h3:j.natAbs<2 ^ 200:=by omega
 exact floordiv_int (by omega) (by rw[Int.fdiv_eq_ediv_of_nonneg i (by omega)];exact q) (.inl (PyProof.noPylong_of_log2 (log2_small h3)))
theorem kcC(hc:X.calm=true):CallR X (.builtin "sum") (fun xs H Q=>∃(p:Addr)(ns:List Int),xs=[.ref p]∧SqL X.K H p (ns.map V.int)∧Q (.int ns.sum) H):=by
 intro pins s σ H xs us Q I r h
 obtain⟨p,ns,rfl,hq,q⟩:=h
 obtain⟨u,rfl,rx⟩:=vals1 r
 cases rx
 obtain⟨its,r',pl,hz⟩:=I.list hq
 have hi:IntsAre its ns:=intsAre_of r'
 have ha:=hi.allInts
 obtain⟨zs,hx⟩:=ha.items
 have hl:=pl.isList
 rw[hx] at hl
 refine sum_intListG (I.ok.hd hc) hl fun h' tk t' hk=>⟨.int ns.sum,H,I.kept hk,⟨t',?_⟩,q⟩
 have e2:preSum (numAt zs) zs.size=(numsOf (intItems zs).toList).sum:=by
  rw[nums_intItems,preSum_eq,Mj (by simp)]
 have e3:numsOf its.toArray.toList=ns:=hi.numsOf
 rw[e2,←hx,e3]
noncomputable def eqVs:List V→List V→Bool
 |[],[]=>true
 |x::xs,y::ys=>eqV x y&&eqVs xs ys
 |_,_=>false
theorem kiw:∀{xs ys:List V},xs.length≠ys.length→eqVs xs ys=false
 |[],[],h=>absurd rfl h
 |[],_::_,_=>rfl
 |_::_,[],_=>rfl
 |x::xs,y::ys,h=>by
  show(eqV x y&&eqVs xs ys)=false
  rw[kiw (fun e=>h (by simp[e])),MX]
theorem kfm:∀(xs ys:List V),xs.length=ys.length→(JQ xs.length).all (fun j=>eqV (xs.getD j .non) (ys.getD j .non))=eqVs xs ys
 |[],[],_=>rfl
 |[],_::_,h=>by simp at h
 |_::_,[],h=>by simp at h
 |x::xs,y::ys,h=>by
  have ih:=kfm xs ys (by simpa using h)
  show(JQ (xs.length+1)).all _=(eqV x y&&eqVs xs ys)
  rw[List.range_succ_eq_map,MV,List.all_map]
  show(eqV x y&&_)=_
  rw[←ih]
  rfl
theorem kix:∀{x:V},flatV x=true→eqV x x=true
 | .non,_=>rfl
 | .bl b,_=>by simp[eqV]
 | .int i,_=>by simp[eqV]
 | .str z,_=>by simp[eqV]
theorem kgR:∀{xs:List V},xs.all flatV=true→eqVs xs xs=true
 |[],_=>rfl
 |x::xs,h=>by
  rw[MV,NR] at h
  show(eqV x x&&eqVs xs xs)=true
  rw[kix h.1,kgR h.2]
  rfl
noncomputable def rEqL(K:JN)(neg:Bool):R2:=fun x y H Q=>∃a b xs ys,x=.ref a∧y=.ref b∧SqL K H a xs∧SqL K H b ys∧xs.all flatV=true∧ys.all flatV=true∧Q (.bl (if neg then !eqVs xs ys else eqVs xs ys)) H
theorem kke{xs:List V}(h:xs.all flatV=true){j:Nat}(hj:j<xs.length):flatV xs[j]=true:=by
 rw[MY] at h
 exact h _ (Ey hj)
theorem kmw{A:Around}{s:Shared}{xs ys:List V}{us ws:List Value}(r:Vals xs us)(q:Vals ys ws)(fx:xs.all flatV=true)(fy:ys.all flatV=true):
  ∀j (h1:j<us.toArray.size) (h2:j<ws.toArray.size),SeqAt.EqAt A s us.toArray[j] ws.toArray[j] (eqV (xs.getD j .non) (ys.getD j .non)):=by
 intro j h1 h2
 have l1:=r.length
 have l2:=q.length
 have h1':j<us.length:=by simpa using h1
 have h2':j<ws.length:=by simpa using h2
 have k1:j<xs.length:=by omega
 have k2:j<ys.length:=by omega
 obtain⟨u,e1,r1⟩:=r.get (i:=j) (x:=xs[j]) (by simp[k1])
 obtain⟨w,e2,r2⟩:=q.get (i:=j) (x:=ys[j]) (by simp[k2])
 have g1:us.toArray[j]=u:=by
  have:=JX.mp e1
  obtain⟨_,e⟩:=this
  simpa using e
 have g2:ws.toArray[j]=w:=by
  have:=JX.mp e2
  obtain⟨_,e⟩:=this
  simpa using e
 have d1:xs.getD j .non=xs[j]:=by simp[k1]
 have d2:ys.getD j .non=ys[j]:=by simp[k2]
 rw[g1,g2,d1,d2]
 exact klM r1 r2 (kke fx k1) (kke fy k2)
theorem kmY(hu:X.A.units<cLine):OpR X (compareOp .NotEq) (rEqL X.K true):=by
 intro pins s σ H x y v u Q I rx ry h
 obtain⟨a,b,xs,ys,rfl,rfl,hx,hy,fx,fy,q⟩:=h
 cases rx
 cases ry
 obtain⟨us,r1,p1,z1⟩:=I.list hx
 obtain⟨ws,r2,p2,z2⟩:=I.list hy
 have l1:=r1.length
 have l2:=r2.length
 show wpAny _ _ (richCompare .NotEq (.ref a) (.ref b)) _ _ s
 by_cases hl:xs.length=ys.length
 ·refine SeqAt.RcNeAt.lists p1.isList p2.isList (by simp;omega) hu (kmw r1 r2 fx fy) _ _ _ _ ⟨.bl (!eqVs xs ys),H,I,?_,q⟩
  have e:us.toArray.size=xs.length:=by simp[l1]
  rw[e,kfm xs ys hl]
  rfl
 ·refine SeqAt.RcNeAt.lists_lengths p1.isList p2.isList (by simp;omega) hu _ _ _ _ ⟨.bl (!eqVs xs ys),H,I,?_,q⟩
  rw[kiw hl]
  rfl
noncomputable def cV:V→Value
 | .ty n=>.type n
 | .ref a=>.ref a
 |_=>.none
theorem kaM:CallR X (.builtin "isinstance") (fun xs H Q=>∃x c t b,xs=[x,c]∧((∃n,c=.ty n)∨∃a,c=.ref a)∧TyOf X.K H x t∧J4 X.K t (cV c)=some b∧Q (.bl b) H):=by
 intro pins s σ H xs us Q I r h
 obtain⟨x,c,t,b,rfl,hc,ty,e,q⟩:=h
 obtain⟨u,w',rfl,r1,r2⟩:=vals2 r
 have ew:w'=cV c:=by
  rcases hc with⟨n,rfl⟩|⟨a,rfl⟩
  ·exact r2
  ·exact r2
 subst ew
 exact kj2 I r1 ty e fun tk=>⟨.bl b,H,I.tok tk,rfl,q⟩
theorem b_isi:bootBuiltins "isinstance"=some (.builtin "isinstance"):=by decide +kernel
theorem b_int:bootBuiltins "int"=some (.type "int"):=by decide +kernel
theorem kne:bootBuiltins "bool"=some (.type "bool"):=by decide +kernel
theorem kbt:bootBuiltins "list"=some (.type "list"):=by decide +kernel
theorem b_sum:bootBuiltins "sum"=some (.builtin "sum"):=by decide +kernel
theorem b_min:bootBuiltins "min"=some (.builtin "min"):=by decide +kernel
theorem b_max:bootBuiltins "max"=some (.builtin "max"):=by decide +kernel
theorem b_len:bootBuiltins "len"=some (.builtin "len"):=by decide +kernel
theorem kb9(K:JN)(t:Value):J4 K t t=some true:=by
 unfold J4
 rw[if_pos (by simp)]
theorem kgJ(K:JN):J4 K (.type "int") (.type "bool")=some false:=by
 have e:(Value.type "int" ==Value.type "bool")=false:=by decide +kernel
 unfold J4 PySem.W.kitCls Ez
 rw[e,if_neg JV]
 show(if PySem.W.kitMeta "bool"=true then _ else _)=_
 rw[if_pos (by decide +kernel)]
 show(fastBuiltinMro "int").map (·.contains (Value.type "bool"))=some false
 decide +kernel
noncomputable def tCut(t:TS):TS:=fun D σ H=>∃P:St→Hp→Prop,t {D with nx:=P} σ H∧∀σ' H',P σ' H'→D.nx σ' H'
theorem kbX{st:Stmt}{t:TS}(h:PS X st t):PS X st (tCut t):=by
 intro pins s σ H D I hw
 obtain⟨P,h1,h2⟩:=hw
 refine thn (h pins s σ H {D with nx:=P} I h1) fun f s' q=>?_
 cases f with
 |next=>
  obtain⟨σ',H',I',q'⟩:=q
  exact⟨σ',H',I',h2 σ' H' q'⟩
 |brk=>exact q
 |cont=>exact q
 |ret u=>exact q
noncomputable def tCutE(t:TE):TE:=fun σ H Q=>∃P:V→Hp→Prop,t σ H P∧∀v H',P v H'→Q v H'
theorem klB{e:Expr}{t:TE}(h:PE X e t):PE X e (tCutE t):=by
 intro pins s σ H Q I hw
 obtain⟨P,h1,h2⟩:=hw
 exact thn (h pins s σ H P I h1) fun u s' ⟨v,H',I',r,q⟩=>⟨v,H',I',r,h2 v H' q⟩
noncomputable def Its(lo st:Int)(n:Nat):It:=⟨fun i _=>i<n,fun i H x H'=>H'=H∧x=.int (lo+i*st),fun i _=>n≤i⟩
theorem kiZ{P:Program}{w:World}{K:JN}{tg:Expr}(it:Addr)(lo st:Int)(n:Nat):Turn P w K tg (Its lo st n) [it] it (fun i h=>IsRangeIter h it (lo+(i:Nat)*st) ((n:Int)-(i:Nat)) st) where
 mem:=by simp
 obj:=fun i h st b hb=>by
  have e:b=it:=by simpa using hb
  subst e
  exact⟨_,st,fun v z=>by
   have z':Data.fields _=Data.cell v:=z
   cases z'⟩
 keep:=fun i h h' st k=>k it (by simp) _ st
 item:=by
  intro X hP hw hK hc i pins s σ H E I hf st' hg
  subst hP hw hK
  obtain⟨f0,f1,f2,f3,f4,f5⟩:=hf it (by simp)
  have W:=Walks.range (prog:=X.prog) (w:=X.w) (I.ok.hd hc) it lo st n
  refine W.item i s _ _ hg st' fun v h' tk hv st'' kk=>?_
  obtain⟨t,rfl⟩:=hv
  have I1:Inv X pins σ H {s with heap:=h',toks:=tk}:=I.turned (fun b o hb e=>kk b o (by simpa using hb) e) f0 f1 f3 f4 f5
  exact⟨_,rfl,go_of (s:={s with heap:=h',toks:=tk}) (n:="range_iterator") st'' rfl rfl (by decide) ⟨.int (lo+i*st),H,I1,⟨t,rfl⟩,⟨rfl,rfl⟩,st'',fun b hb=>(hf b hb).1⟩⟩
 done:=by
  intro X hP hw hK hc i pins s σ H E I hf st hg
  subst hP hw hK
  obtain⟨f0,f1,f2,f3,f4,f5⟩:=hf it (by simp)
  exact wpAny_pyNext_range_end (I.ok.hd hc) st (by have:n≤i:=hg;omega) fun h' eb=>⟨rfl,I.turned (t':=s.toks) (fun b o hb e=>eb b o hb e) f0 f1 f3 f4 f5⟩
 self:=fun _ _ _ _ _ st h=>wpAny_pyIter_rangeiter st h
theorem kgj{a b c:Int}(hc:0<c)(ha: -(2 ^ 31)≤a∧a<2 ^ 31)(hb: -(2 ^ 31)≤b∧b<2 ^ 31):0≤Builtin.Range.rangeSize a b c∧Builtin.Range.rangeSize a b c<2 ^ 33:=by
 unfold Builtin.Range.rangeSize
 rw[if_pos hc]
 split
 ·have h1:0≤(b-a-1)/c:=Int.ediv_nonneg (by omega) (by omega)
  have h2:(b-a-1)/c≤b-a-1:=Int.ediv_le_self _ (by omega)
  omega
 ·omega
theorem kiF{a b c:Int}(hc:0<c)(hc2:c<2 ^ 30)(ha: -(2 ^ 31)≤a∧a<2 ^ 31)(hb: -(2 ^ 31)≤b∧b<2 ^ 31):Builtin.Range.small a b c=true:=by
 have h:=kgj hc ha hb
 unfold Builtin.Range.small
 generalize Builtin.Range.rangeSize a b c=n at h
 simp only[Builtin.Range.rangeFitsLong,NR,EA,decide_eq_true_eq,beq_iff_eq,show c > 0 from hc,if_true]
 omega
end
def klf(ns:List Int)(lo hi:Option Int):∃ms:List Int,cutV (ns.map V.int) lo hi=ms.map V.int∧ms.length≤ns.length:=by
 refine⟨(ns.drop (HT.sIx ns.length 0 lo)).take (HT.sIx ns.length ns.length hi-HT.sIx ns.length 0 lo),?_,?_⟩
 ·unfold cutV
  rw[JM,←EB,←MZ]
 ·rw[Nl,MU]
  omega
end L2
namespace L2
open PySem PySem.Spec PyProof.Rows
def Inv.adopt{X:Cx}{pins:List (Addr×Obj)}{σ:St}{H:Hp}{s:Shared}{a:Addr}{o:HO}(I:Inv X pins σ H s)(f:FpOk X pins H a)(h0:X.s₀.heap.objs.size≤a)(new:ObjOk X.prog X.w (upd H a o) s.heap a o):Inv X pins σ (upd H a o) s:=by
 obtain⟨hn,hL,_,_,hC,hp⟩:=f
 have nt:∀b u,H b=some u→b≠a:=fun b u e=>kag e hn
 refine⟨I.ok,I.os,I.bare,⟨I.base.keep,I.base.slot,fun b ob e n hx=>?_,I.base.there,fun b xs e=>?_,fun b ob u e=>?_,fun b ps e=>?_⟩,I.loc,I.cell,?_,fun x c e=>?_,fun p hp'=>?_,fun b u e=>?_,I.len⟩
 ·rw[kaj (Nk (Nj (Heap.lt_size e) h0))]
  exact I.base.free b ob e n hx
 ·have q:=I.base.tups b xs e
  rw[kaj (nt _ _ q)]
  exact q
 ·have q:=I.base.frzs b ob u e
  rw[kaj (nt _ _ q)]
  exact q
 ·obtain⟨m,q⟩:=I.base.tbls b ps e
  exact⟨m,by rw[kaj (nt _ _ q)];exact q⟩
 ·rw[kaj (Ne.symm hL)]
  exact I.free
 ·rw[kaj (hC x c e)]
  exact I.freeC x c e
 ·obtain⟨e,n,r⟩:=I.pin p hp'
  exact⟨e,by rw[kaj (hp p hp')];exact n,r⟩
 ·by_cases hb:b=a
  ·subst hb
   rw[kad] at e
   cases e
   exact new
  ·rw[kaj hb] at e
   exact(I.hok b u e).stay (fun c v _ q=>q) (fun c q=>by rw[kaj (nt _ _ q)];exact q) fun c xs q=>by rw[kaj (nt _ _ q)];exact q
noncomputable def capσ(cap:List (Option Nat))(σ:St):St:=cap.map fun o=>match o with
 |some i=>(σ[i]?).getD none
 |none=>none
noncomputable def closL(cells:List (Str×Addr))(names:List (Str×NameKind)):List (Str×Addr)→List (Str×Addr):=fun acc=>names.foldl (fun acc p=>if p.2== .free then(p.1,(cells.lookup p.1).getD 0)::acc else acc) acc
theorem keV{α β:Type}{f: α→β→Sem (ForInStep β)}{g: β→α→β}:∀(l:List α)(b: β),(∀x∈l,∀b,f x b=pure (.yield (g b x)))→forIn l b f=pure (l.foldl g b)
 |[],b,_=>by rw[List.forIn_nil];rfl
 |x::l,b,h=>by
  rw[List.forIn_cons,h x Na]
  show forIn l (g b x) f=_
  rw[keV l (g b x) fun y hy=>h y (J5 _ hy)]
  rfl
def kf5{scope:Scope}{env:Env}(h:∀x∈scope.names,x.2=.free→∃c,env.cells.lookup x.1=some c):closureFor scope env=pure (closL env.cells scope.names []):=by
 unfold closureFor
 dsimp only
 rw[keV (g:=fun acc p=>if p.2== .free then(p.1,(env.cells.lookup p.1).getD 0)::acc else acc) scope.names [] fun x hx b=>?_]
 ·rfl
 ·obtain⟨n,k⟩:=x
  by_cases hk:k=.free
  ·subst hk
   obtain⟨c,ec⟩:=h _ hx rfl
   have ec':env.cells.lookup n=some c:=ec
   have e1:cellOf env n=pure c:=by unfold cellOf;rw[ec']
   simp only[beq_self_eq_true,if_true,e1,ec',Option.getD_some]
   rfl
  ·have:(k==NameKind.free)=false:=by simpa using hk
   simp only[this,NS,if_false]
def kfB(cells:List (Str×Addr))(p:Str×NameKind)(r:List (Str×NameKind))(acc:List (Str×Addr)):closL cells (p::r) acc=closL cells r (if p.2== .free then(p.1,(cells.lookup p.1).getD 0)::acc else acc):=rfl
theorem keq{cells:List (Str×Addr)}{x:Str}{c:Addr}:∀(names:List (Str×NameKind))(acc:List (Str×Addr)),(closL cells names acc).lookup x=some c→(((x,NameKind.free)∈names∧c=(cells.lookup x).getD 0)∨acc.lookup x=some c)
 |[],acc,h=>.inr h
 | (n,k)::r,acc,h=>by
  rw[kfB] at h
  rcases keq r _ h with⟨h1,h2⟩|h1
  ·exact .inl ⟨J5 _ h1,h2⟩
  ·by_cases hk:k=.free
   ·subst hk
    simp only[beq_self_eq_true,if_true] at h1
    rw[Nu] at h1
    by_cases hx:x=n
    ·subst hx
     simp only[beq_self_eq_true] at h1
     exact .inl ⟨Na,(Option.some.inj h1).symm⟩
    ·have hb:(x==n)=false:=beq_eq_false_iff_ne.mpr hx
     rw[hb] at h1
     exact .inr h1
   ·have:(k==NameKind.free)=false:=by simpa using hk
    simp only[this,NS,if_false] at h1
    exact .inr h1
theorem kcZ{cells:List (Str×Addr)}{x:Str}:∀(names:List (Str×NameKind))(acc:List (Str×Addr)),((x,NameKind.free)∈names∨∃c,acc.lookup x=some c)→∃c,(closL cells names acc).lookup x=some c
 |[],acc,h=>by
  rcases h with h|h
  ·cases h
  ·exact h
 | (n,k)::r,acc,h=>by
  rw[kfB]
  refine kcZ r _ ?_
  by_cases hm:(x,NameKind.free)∈r
  ·exact .inl hm
  ·refine .inr ?_
   rcases h with h|⟨c,h⟩
   ·rcases Nd.mp h with e|h
    ·cases e
     simp[Nu]
    ·exact absurd h hm
   ·split
    ·rw[Nu]
     by_cases hx:x=n
     ·subst hx
      simp
     ·have hb:(x==n)=false:=beq_eq_false_iff_ne.mpr hx
      rw[hb]
      exact⟨c,h⟩
    ·exact⟨c,h⟩
theorem kcA:∀(names:List (Str×NameKind))(n:Nat)(acc acc':List (Str×Addr)),cellsFrom n names (acc++acc')=cellsFrom n names acc++acc'
 |[],_,_,_=>rfl
 |(m,k)::r,n,acc,acc'=>by
  unfold cellsFrom
  split
  ·exact kcA r (n+1) ((m,n)::acc) acc'
  ·exact kcA r n acc acc'
def kb4(names:List (Str×NameKind))(n:Nat)(acc:List (Str×Addr))(x:Str):(cellsFrom n names acc).lookup x=((cellsFrom n names []).lookup x).or (acc.lookup x):=by
 rw[←List.lookup_append,←kcA,NL]
theorem kcz{x:Str}:∀(names:List (Str×NameKind))(n:Nat)(acc:List (Str×Addr)),(x,NameKind.cell)∉names→(cellsFrom n names acc).lookup x=acc.lookup x
 |[],_,_,_=>rfl
 | (m,k)::r,n,acc,h=>by
  unfold cellsFrom
  by_cases hk:k=.cell
  ·subst hk
   simp only[beq_self_eq_true,if_true]
   rw[kcz r _ _ fun z=>h (J5 _ z),Nu]
   have hx:x≠m:=fun e=>h (by rw[e];exact Na)
   have hb:(x==m)=false:=beq_eq_false_iff_ne.mpr hx
   rw[hb]
  ·have:(k==NameKind.cell)=false:=by simpa using hk
   simp only[this,NS,if_false]
   exact kcz r _ _ fun z=>h (J5 _ z)
noncomputable def relN(names ns:List (Str×NameKind)):List (Str×NameKind):=names.map fun(n,k)=>if(k== .free&&ns.lookup n==some .cell) then(n, .cell) else(n,k)
def kdq{scope:Scope}{env:Env}(hk:env.scope.kind=.function):(relabel scope env).names=relN scope.names env.scope.names:=by
 unfold relabel relN
 have e:(ScopeKind.function==ScopeKind.function)=true:=by decide
 simp only[hk,e,EC]
 rfl
theorem kdf{ns:List (Str×NameKind)}{x:Str}:∀(names:List (Str×NameKind)),(relN names ns).lookup x=(names.lookup x).map fun k=>if(k== .free&&ns.lookup x==some .cell) then .cell else k
 |[]=>rfl
 | (n,k)::r=>by
  have ih:=kdf (ns:=ns) (x:=x) r
  show NP x ((if(k== .free&&ns.lookup n==some .cell)=true then(n,NameKind.cell) else(n,k))::relN r ns)=_
  by_cases hx:x=n
  ·subst hx
   by_cases hc:(k== .free&&ns.lookup x==some .cell)=true
   ·rw[if_pos hc]
    simp only[Nu,beq_self_eq_true,M0]
    rw[if_pos hc]
   ·rw[if_neg hc]
    simp only[Nu,beq_self_eq_true,M0]
    rw[if_neg hc]
  ·have hb:(x==n)=false:=beq_eq_false_iff_ne.mpr hx
   by_cases hc:(k== .free&&ns.lookup n==some .cell)=true
   ·rw[if_pos hc]
    simp only[Nu,hb]
    exact ih
   ·rw[if_neg hc]
    simp only[Nu,hb]
    exact ih
theorem kl7{names ns:List (Str×NameKind)}{x:Str}(h:(relN names ns).lookup x=some .cell∨(relN names ns).lookup x=some .free):names.lookup x=some .cell∨names.lookup x=some .free:=by
 rw[kdf] at h
 cases e:names.lookup x with
 |none=>rw[e] at h;simp at h
 |some k=>
  rw[e] at h
  cases k <;> simp_all
def kjC{names ns:List (Str×NameKind)}{x:Str}(h:names.lookup x=some .free):(relN names ns).lookup x=some .cell∨(relN names ns).lookup x=some .free:=by
 rw[kdf,h]
 by_cases hc:ns.lookup x==some .cell
 ·left;simp[hc]
 ·right;simp[hc]
structure CompScope (X:Cx) (scope:Scope) (N:List Str) (cap:List (Option Nat)):Prop where
 kind:scope.kind=.function
 names:∀x∈scope.names,x.2=.local→scope.names.lookup x.1=some .local
 free:∀x∈scope.names,x.2=.free→X.env.scope.names.lookup x.1=some .cell∨X.env.scope.names.lookup x.1=some .free
 nd:N.Nodup
 len:cap.length=N.length
 cap:∀(j i:Nat)(x:Str),cap[j]?=some (some i)→N[j]?=some x→X.N[i]?=some x∧scope.names.lookup x=some .free∧(x,NameKind.cell)∉scope.names
noncomputable def kd4(X:Cx)(scope:Scope)(C:Addr):List (Str×Addr):=cellsFrom (C+1) scope.names (closL X.env.cells scope.names [])
noncomputable def cxC(X:Cx)(scope:Scope)(N:List Str)(fp:List Addr)(s:Shared)(H:Hp)(C:Addr):Cx:=
 {X with N:=N,s₀:=s,H₀:=H,env:=compEnvC scope (kd4 X scope C) C X.env,outer:=X.stack,ex:=fp,fn:=fun x=>scope.names.lookup x==some .cell,pn:=[],xe:=fun _ _=>False}
theorem kfZ{M:Model}{A:Around}{E:Value→Shared→Prop}{s:Shared}{scope:Scope}{globals:Addr}{cl:List (Str×Addr)}{qual:Str}{func:Option Addr}{code:Value}{outer:Env}{builtins:Addr}{Q:Env→Shared→Prop}
  (hQ:Q (newEnv scope s.heap.objs.size globals (cellsFrom (s.heap.objs.size+1) scope.names cl) qual func code (some outer) builtins) {s with heap:=pushCells (s.heap.push {cls:=.type "dict",data:=.dict #[]}) scope.names}):
  wpAny M A (newFunctionEnv scope globals cl [] qual func code (some outer) builtins) Q E s:=by
 simp only[newFunctionEnv,Option.isSome_some,if_true]
 refine wpAny_bind (wpAny_alloc ?_)
 refine wpAny_bind (wpAny_layCells _ (fun name kind cells=>by cases hkc:kind==NameKind.cell <;> simp[hkc]) _ _ _ _ ?_)
 rw[show({s with heap:=s.heap.push {cls:=.type "dict",data:=.dict #[]}}:Shared).heap.objs.size=s.heap.objs.size+1 from Heap.size_push ..]
 exact wpAny_bind (wpAny_pure (wpAny_pure hQ))
section
variable {X:Cx} {scope:Scope} {N:List Str} {cap:List (Option Nat)} {pins:List (Addr×Obj)} {σ:St} {H:Hp} {s:Shared}
theorem ki8(I:Inv X pins σ H s){b:Addr}(hb:b∈frs X.stack):b<s.heap.objs.size:=by
 obtain⟨_,o,ho,_⟩:=I.stack.mem hb
 exact Heap.lt_size ho
theorem kcY(S:CompScope X scope N cap)(I:Inv X pins σ H s):closureFor scope X.env=pure (closL X.env.cells scope.names []):=
 kf5 fun x hx hf=>I.ok.has x.1 (S.free x hx hf)
theorem kb6{C:Addr}{x:Str}{c:Addr}(S:CompScope X scope N cap)(I:Inv X pins σ H s)(h:(kd4 X scope C).lookup x=some c):(cellsFrom (C+1) scope.names []).lookup x=some c∨X.env.cells.lookup x=some c:=by
 unfold kd4 at h
 rw[kb4] at h
 cases e:(cellsFrom (C+1) scope.names []).lookup x with
 |some c'=>
  rw[e] at h
  exact .inl h
 | none=>
  rw[e] at h
  have h':(closL X.env.cells scope.names []).lookup x=some c:=h
  rcases keq _ _ h' with⟨h1,h2⟩|h1
  ·obtain⟨c',ec⟩:=I.ok.has x (S.free _ h1 rfl)
   rw[ec] at h2
   rw[h2]
   exact .inr ec
  ·cases h1
theorem kk2{fp:List Addr}{C D:Addr}{o:Obj}{s4:Shared}{m:Str→Option Value}(S:CompScope X scope N cap)(I:Inv X pins σ H s)(f:∀b∈fp,FpOk X pins H b)(hfp:∀b∈fp,b<s.heap.objs.size)
  (hk:∀b u,s.heap.get? b=some u→s4.heap.get? b=some u) (hns:s4.heap.Ns C m) (hC:s.heap.objs.size≤C) (hD:s.heap.objs.size≤D) (hDC:D≠C) (eD:s4.heap.get? D=some o) (hcell:∀v,o.data≠.cell v)
  (hnew:CellsOk s4.heap (C+1) (cellsFrom (C+1) scope.names [])) (hos:s4.os=s.os) (hg:s4.gens=s.gens):Inv (cxC X scope N fp s H C) [(D,o)] (capσ cap σ) H s4:=by
 have stkne:∀b∈fp,b∉frs X.stack:=fun b hb hz=>by
  obtain⟨_,h1,h2,_⟩:=f b hb
  rcases Nd.mp (I.stkSub b hz) with e|e
  ·exact h1 e
  ·exact h2 e
 have nw:∀{x:Str}{c:Addr},(cellsFrom (C+1) scope.names []).lookup x=some c→s4.heap.IsCell c none∧Nat.lt C c:=fun {x c} h=>hnew.empty x c (PySem.mem_of_lookup h)
 have od:∀{x:Str}{c:Addr},X.env.cells.lookup x=some c→c<s.heap.objs.size:=fun {x c} h=>let⟨_,q⟩:=I.cell x c h;q.lt
 refine⟨⟨I.ok.mod,S.kind,I.ok.glob,I.ok.blt,hC,fun x y c h1 h2=>?_,fun x h=>?_,fun x c h1 h2=>?_,I.ok.hd,I.ok.frames, .inl rfl,fun b hb=>⟨?_,fun x c e=>?_⟩,I.bs,JR I.ok.bsz I.sz,fun b ob e hb=>?_,stkne,I.stack,I.stkFree⟩,
  hos,by rw[hg];exact I.bare,Un.kept hk,⟨m,hns,fun j x v e1 e2 e3=>?_⟩,fun x c e=>?_,I.hok.fresh hC,fun x c e=>?_,fun p hp=>?_,I.hok.kept hk,?_⟩
 ·rcases kb6 S I h1 with q1|q1 <;> rcases kb6 S I h2 with q2|q2
  ·exact name_of_addr hnew.apart (PySem.mem_of_lookup q1) (PySem.mem_of_lookup q2)
  ·exact absurd (Ma hC (nw q1).2) (Nat.not_lt_of_lt (od q2))
  ·exact absurd (Ma hC (nw q2).2) (Nat.not_lt_of_lt (od q1))
  ·exact I.ok.inj x y c q1 q2
 ·have h':(relabel scope X.env).names.lookup x=some .cell∨(relabel scope X.env).names.lookup x=some .free:=h
  rw[kdq I.ok.kind] at h'
  show ∃c,(cellsFrom (C+1) scope.names (closL X.env.cells scope.names [])).lookup x=some c
  rw[kb4]
  rcases kl7 h' with q|q
  ·obtain⟨c,e⟩:=ker (n:=C+1) q
   exact⟨c,by rw[e];rfl⟩
  ·obtain⟨c,e⟩:=kcZ (cells:=X.env.cells) scope.names [] (.inl (PySem.mem_of_lookup q))
   cases e2:(cellsFrom (C+1) scope.names []).lookup x with
   |some c'=>exact⟨c',rfl⟩
   |none=>exact⟨c,e⟩
 ·have h1':(scope.names.lookup x==some .cell)=true:=h1
  have q:scope.names.lookup x=some .cell:=by simpa using h1'
  obtain⟨c',e⟩:=ker (n:=C+1) q
  have h2':(cellsFrom (C+1) scope.names (closL X.env.cells scope.names [])).lookup x=some c:=h2
  rw[kb4,e] at h2'
  have h3:c'=c:=Option.some.inj h2'
  rw[←h3]
  exact Nc (Ma hC (nw e).2)
 ·exact Nk (Nj (hfp b hb) hC)
 ·rcases kb6 S I e with q|q
  ·exact NN (Nat.lt_trans (Nj (hfp b hb) hC) (nw q).2)
  ·exact(f b hb).2.2.2.2.1 x c q
 ·obtain⟨_,_,_,h4,_⟩:=f b hb
  rcases h4 with h4|h4
  ·exact I.ok.noex b ob e h4
  ·exact absurd (Nj (Heap.lt_size e) (JR I.ok.bsz h4)) (NV _)
 ·
  have e2':(cap.map fun o=>match o with|some i=>(σ[i]?).getD none|none=>none)[j]?=some (some v):=e2
  rw[JY] at e2'
  cases ec:cap[j]? with
  |none=>rw[ec] at e2';cases e2'
  | some oi=>
   rw[ec] at e2'
   cases oi with
   |none=>cases e2'
   | some i=>
    have e4:(σ[i]?).getD none=some v:=Option.some.inj e2'
    have e5: σ[i]?=some (some v):=by
     cases q: σ[i]? with
     |none=>rw[q] at e4;cases e4
     |some w=>rw[q] at e4;exact congrArg some e4
    obtain⟨h1,hf,hnc⟩:=S.cap j i x ec e1
    have hm:=PySem.mem_of_lookup hf
    have h2:=S.free _ hm rfl
    obtain⟨mo,_,hl⟩:=I.loc
    obtain⟨u,ru,lk⟩:=hl i x v h1 e5 (.inr h2)
    have h3:(relabel scope X.env).names.lookup x=some .cell∨(relabel scope X.env).names.lookup x=some .free:=by
     rw[kdq I.ok.kind]
     exact kjC hf
    refine⟨u,ru, .inr ⟨h3,?_⟩⟩
    rcases lk with⟨k1,_⟩|⟨_,c,ec',z⟩
    ·have k1':X.env.scope.names.lookup x=some .local:=k1
     rcases h2 with h2|h2 <;> rw[h2] at k1' <;> cases k1'
    ·obtain⟨c',ec2⟩:=kcZ (cells:=X.env.cells) scope.names [] (.inl hm)
     have ec3:(kd4 X scope C).lookup x=some c':=by
      unfold kd4
      rw[kcz _ _ _ hnc]
      exact ec2
     rcases keq _ _ ec2 with⟨_,q2⟩|q2
     ·rw[ec'] at q2
      have q3:c'=c:=q2
      subst q3
      obtain⟨oc,ho,hd⟩:=z
      exact⟨c',ec3,oc,hk _ _ ho,hd⟩
     ·cases q2
 ·rcases kb6 S I e with q|q
  ·exact⟨none,(nw q).1⟩
  ·obtain⟨v,oc,ho,hd⟩:=I.cell x c q
   exact⟨v,oc,hk _ _ ho,hd⟩
 ·rcases kb6 S I e with q|q
  ·exact I.hok.fresh (JR hC (Nc (nw q).2))
  ·exact I.freeC x c q
 ·have e:p=(D,o):=by simpa[cxC] using hp
  subst e
  exact⟨eD,I.hok.fresh hD,hDC,fun hz=>absurd (ki8 I hz) (Mw.mpr hD),hcell⟩
 ·show(cap.map _).length=N.length
  rw[JM,S.len]
theorem comp_back{fp:List Addr}{C:Addr}{σ':St}{H':Hp}{s':Shared}(I:Inv X pins σ H s)(f:∀b∈fp,FpOk X pins H b)(J:Inv (cxC X scope N fp s H C) [] σ' H' s'):Inv X pins σ H' s':=
 I.call' (ch:=fp) J.os J.base J.hok J.bare fun b hb=>let⟨_,h1,_,h3,h4,h5⟩:=f b hb;⟨h3,h1,h4,h5⟩
end
noncomputable def PIf(X:Cx)(ifs:List Expr)(t:TT):Prop:=∀(pins:List (Addr×Obj))(s:Shared)(σ:St)(H:Hp)(Q:Bool→Hp→Prop),Inv X pins σ H s→t σ H Q→
 wpAny (model X.prog X.w) X.A (forIn ifs true fun c r=>if r=true then do let ok ←isTrue c X.env (eval c X.env);pure (ForInStep.yield ok) else pure (ForInStep.yield r)) (TP X pins σ Q) X.xe s
noncomputable def tYes:TT:=fun _ H Q=>Q true H
def kjK{X:Cx}:PIf X [] tYes:=fun _ _ _ H _ I h=>wpAny_tests_nil ⟨H,I,h⟩
def kjJ{X:Cx}{c:Expr}{t:TT}(h:PT X c t):PIf X [c] t:=fun pins s σ H Q I hw=>wpAny_tests_one (h pins s σ H Q I hw)
theorem kgU{prog:Program}{w:World}{A:Around}{R:Result→Shared→Prop}{s:Shared}{elt target iter:Expr}{ifs:List Expr}{scope:Scope}{pos:Pos}{it acc:Value}{env:Env}(I:Nat→Shared→Prop)
  (turn:∀n s,I n s→wpAny (model prog w) A (pyNext it) (fun r s₁=>match r with
   |none=>R (.ok .next) s₁
   | some v=>wpAny (model prog w) A (letOwnedTupleGo target it v) (fun _ s₁'=>wpAny (model prog w) A (assign target env v) (fun _ s₂=>
     wpAny (model prog w) A (forIn ifs true fun c r=>if r=true then do let ok ←isTrue c env (eval c env);pure (ForInStep.yield ok) else pure (ForInStep.yield r)) (fun ok s₂'=>
      if ok=true then wpAny (model prog w) A (eval elt env) (fun x s₃=>
       wpAny (model prog w) A (call (.builtin "list.append") [acc,x]) (fun _ s₄=>∃m,m<n∧I m s₄) (fun _ _=>False) s₃) (fun _ _=>False) s₂'
      else ∃m,m<n∧I m s₂') (fun _ _=>False) s₂) (fun _ _=>False) s₁') (fun _ _=>False) s₁) (fun _ _=>False) s)
  (n:Nat) (h:I n s):codeAny (model prog w) A (.compLoop (.ListComp elt [⟨target,iter,ifs,0⟩] scope pos) 0 it acc env) R s:=by
 refine codeAny_loop rfl I (fun n s hI=>?_) n h
 show wpAny _ _ ((compTurn (.ListComp elt [⟨target,iter,ifs,0⟩] scope pos) 0 it acc env).onRaise (fun x=>do noteFrame x env;theTreesLotGoes x)) _ _ s
 refine wpAny_noted ?_
 rw[compTurn_list]
 refine wpAny_bind (wpAny_standAt (wpAny_bind (wpAny_mono (turn n s hI) (fun r s₁ h₁=>?_) fun _ _ h'=>h'.elim)))
 cases r with
 |none=>exact wpAny_pure h₁
 | some v=>
  refine wpAny_bind (wpAny_mono h₁ (fun _ s₁' h₁'=>?_) fun _ _ h'=>h'.elim)
  refine wpAny_bind (wpAny_mono h₁' (fun _ s₂ h₂=>wpAny_bind (wpAny_mono h₂ (fun ok s₂' h₂'=>?_) fun _ _ h'=>h'.elim)) fun _ _ h'=>h'.elim)
  cases ok with
  |false=>exact wpAny_pure ⟨rfl,h₂'⟩
  |true=>
   exact wpAny_bind (wpAny_bind (wpAny_mono h₂' (fun x s₃ h₃=>wpAny_bind (wpAny_mono h₃ (fun _ s₄ h₄=>wpAny_pure (wpAny_pure ⟨rfl,h₄⟩)) fun _ _ h'=>h'.elim)) fun _ _ h'=>h'.elim))
noncomputable def kmK(wi:TI)(cap:List (Option Nat))(g:TG)(tt:TT)(te:TE):TE:=fun σ H Q=>wi σ H fun J H1=>∃W:Nat→Nat→St→List V→Hp→Prop,(∃m,W 0 m (capσ cap σ) [] H1)∧∀i m σ' ys H',W i m σ' ys H'→
 (J.stop i H'∧∀D,H' D=none→Q (.ref D) (upd H' D (.lst ys)))∨(J.go i H'∧ys.length<sizeLine∧∃(N:St→V→Hp→Prop)(N0:St→Hp→Prop),(∀σ2 y H4,N σ2 y H4→∃m',m'<m∧W (i+1) m' σ2 (ys++[y]) H4)∧(∀σ2 H4,N0 σ2 H4→∃m',m'<m∧W (i+1) m' σ2 ys H4)∧
  ∀x H2,J.yld i H' x H2→g x σ' H2 fun σ2 H3=>tt σ2 H3 fun b H4=>if b=true then te σ2 H4 (N σ2) else N0 σ2 H4)
noncomputable def tComp(wi:TI)(cap:List (Option Nat))(g:TG)(te:TE):TE:=fun σ H Q=>wi σ H fun J H1=>∃W:Nat→Nat→St→List V→Hp→Prop,(∃m,W 0 m (capσ cap σ) [] H1)∧∀i m σ' ys H',W i m σ' ys H'→
 (J.stop i H'∧∀D,H' D=none→Q (.ref D) (upd H' D (.lst ys)))∨(J.go i H'∧ys.length<sizeLine∧∃N:St→V→Hp→Prop,(∀σ2 y H4,N σ2 y H4→∃m',m'<m∧W (i+1) m' σ2 (ys++[y]) H4)∧
  ∀x H2,J.yld i H' x H2→g x σ' H2 fun σ2 H3=>te σ2 H3 (N σ2))
section
variable {X:Cx} {scope:Scope} {N:List Str} {cap:List (Option Nat)} {pins:List (Addr×Obj)} {σ:St} {H2:Hp} {s2:Shared} {tg elt iter:Expr} {ifs:List Expr} {pos:Pos} {g:TG} {tt:TT} {te:TE}
theorem kdV{fp:List Addr}{it:Addr}{tn:Nat→Heap→Prop}{J:It}{Q:VK}{RR:Value→Addr→Result→Shared→Prop}{E:Value→Shared→Prop}(S:CompScope X scope N cap)(hc:X.calm=true)
  (hg:∀fp s H C,PG (cxC X scope N fp s H C) tg g) (ht:∀fp s H C,PIf (cxC X scope N fp s H C) ifs tt) (he:∀fp s H C,PE (cxC X scope N fp s H C) elt te)
  (I2:Inv X pins σ H2 s2) (T:Turn X.prog X.w X.K tg J fp it tn) (st2:tn 0 s2.heap) (f2:∀b∈fp,FpOk X pins H2 b)
  (W:Nat→Nat→St→List V→Hp→Prop) {m0:Nat} (w0:W 0 m0 (capσ cap σ) [] H2)
  (turn:∀i m σ' ys H',W i m σ' ys H'→(J.stop i H'∧∀D,H' D=none→Q (.ref D) (upd H' D (.lst ys)))∨(J.go i H'∧ys.length<sizeLine∧∃(N:St→V→Hp→Prop)(N0:St→Hp→Prop),(∀σ2 y H4,N σ2 y H4→∃m',m'<m∧W (i+1) m' σ2 (ys++[y]) H4)∧(∀σ2 H4,N0 σ2 H4→∃m',m'<m∧W (i+1) m' σ2 ys H4)∧
   ∀x H2,J.yld i H' x H2→g x σ' H2 fun σ2 H3=>tt σ2 H3 fun b H4=>if b=true then te σ2 H4 (N σ2) else N0 σ2 H4))
  (hRR:∀(D C:Addr)(H':Hp)(s':Shared)(m:Str→Option Value),Inv X pins σ H' s'→FpOk X pins H' C→C≠D→s'.heap.Ns C m→Q (.ref D) H'→RR (.ref D) C (.ok .next) s'):
  wpAny (model X.prog X.w) X.A (newList []) (fun acc s₃=>wpAny (model X.prog X.w) X.A (newFunctionEnv scope X.env.globals (closL X.env.cells scope.names []) [] X.env.qual none .none (some X.env)) (fun cenv s₄=>
   codeAny (model X.prog X.w) X.A (.compStart (.ListComp elt [⟨tg,iter,ifs,0⟩] scope pos) 0 (.ref it) acc {cenv with scope:=relabel scope X.env}) (RR acc cenv.locals) s₄) E s₃) E s2:=by
 refine wpAny_newObj_type (kfZ ?_)
 dsimp only
 generalize hP:s2.heap.push {cls:=.type "list",dict:=none,data:=.seq ([]:List Value).toArray}=P
 have hnew:CellsOk (pushCells (P.push {cls:=.type "dict",data:=.dict #[]}) scope.names) (P.objs.size+1) (cellsFrom (P.objs.size+1) scope.names []):=by
  have q:=cellsFrom_ok scope.names (P.push {cls:=.type "dict",data:=.dict #[]}) (P.objs.size+1) [] ⟨fun _ _ hm=>(nomatch hm),Ms.nil⟩ (by rw[Heap.size_push];exact JO _)
  rwa [Heap.size_push] at q
 have hns₁:(pushCells (P.push {cls:=.type "dict",data:=.dict #[]}) scope.names).Ns P.objs.size (fun _=>none):=(Heap.Ns.new P (.type "dict")).keeps (pushCells_keeps _ _)
 have keep₁:∀b o,P.get? b=some o→(pushCells (P.push {cls:=.type "dict",data:=.dict #[]}) scope.names).get? b=some o:=fun b o e=>pushCells_keeps _ _ b o (Heap.get?_push_of_some _ e)
 generalize pushCells (P.push {cls:=.type "dict",data:=.dict #[]}) scope.names=h₁ at hnew hns₁ keep₁⊢
 have hC:P.objs.size=s2.heap.objs.size+1:=by rw[←hP,Heap.size_push]
 have hDC:s2.heap.objs.size≠P.objs.size:=by rw[hC];exact Nk (MG _)
 have hCle:s2.heap.objs.size≤P.objs.size:=by rw[hC];exact Mq _
 have hDle:s2.heap.objs.size≤s2.heap.objs.size:=JO _
 have old:∀b o,s2.heap.get? b=some o→h₁.get? b=some o:=fun b o e=>keep₁ b o (hP▸Heap.get?_push_of_some _ e)
 have hacc:h₁.get? s2.heap.objs.size=some {cls:=.type "list",data:=.seq ([]:List Value).toArray}:=keep₁ _ _ (hP▸Heap.get?_push_size _ rfl)
 have hfp:∀b∈fp,b<s2.heap.objs.size:=fun b hb=>let⟨_,e,_⟩:=T.obj 0 _ st2 b hb;Heap.lt_size e
 generalize hDd:s2.heap.objs.size=D at hacc hDC hDle⊢
 rw[hDd] at hCle hC
 generalize P.objs.size=C at hnew hns₁ hC hDC hCle⊢
 have dne:∀b∈fp,D≠b:=fun b hb=>NN (hDd▸hfp b hb)
 have cne:∀b∈fp,b≠C:=fun b hb=>Nk (Nj (hDd▸hfp b hb) hCle)
 have stkne:∀b∈fp,b∉frs X.stack:=fun b hb hz=>by
  obtain⟨_,h1,h2,_⟩:=f2 b hb
  rcases Nd.mp (I2.stkSub b hz) with e|e
  ·exact h1 e
  ·exact h2 e
 have dfs:D∉frs X.stack:=fun hz=>absurd (ki8 I2 hz) (by rw[hDd];exact NV _)
 have dcell:∀x c,(kd4 X scope C).lookup x=some c→c≠D:=fun x c e z=>by
  rcases kb6 S I2 e with e|e
  ·have q:Nat.lt C c:=(hnew.empty x c (PySem.mem_of_lookup e)).2
   rw[z] at q
   exact absurd (Ma hCle q) (NV _)
  ·obtain⟨v,q⟩:=I2.cell x c e
   have:=q.lt
   rw[z,hDd] at this
   exact absurd this (NV _)
 have bcell:∀b∈fp,∀x c,(kd4 X scope C).lookup x=some c→c≠b:=fun b hb x c e=>by
  rcases kb6 S I2 e with e|e
  ·have q:Nat.lt C c:=(hnew.empty x c (PySem.mem_of_lookup e)).2
   exact NN (Nat.lt_trans (Nj (hDd▸hfp b hb) hCle) q)
  ·exact(f2 b hb).2.2.2.2.1 x c e
 have stat:∀{o:Obj}{H':Hp},(∀b∈fp,H' b=none)→∀b∈fp,FpOk (cxC X scope N fp s2 H2 C) [(D,o)] H' b:=fun {o H'} hn b hb=>
  ⟨hn b hb,cne b hb,stkne b hb, .inl hb,bcell b hb,fun p hp=>by
   have e:p=(D,o):=by simpa[cxC] using hp
   subst e
   exact dne b hb⟩
 have loop:∀s₃:Shared,s₃= {s2 with heap:=h₁}→
   codeAny (model X.prog X.w) X.A (.compLoop (.ListComp elt [⟨tg,iter,ifs,0⟩] scope pos) 0 (.ref it) (.ref D) (compEnvC scope (kd4 X scope C) C X.env)) (RR (.ref D) C) s₃:=by
  rintro s₃ rfl
  have I3:Inv (cxC X scope N fp s2 H2 C) [(D,_)] (capσ cap σ) H2 {s2 with heap:=h₁}:=
   kk2 S I2 f2 hfp old hns₁ (by rw[hDd];exact hCle) (by rw[hDd];exact JO _) hDC hacc (fun v z=>by cases z) hnew rfl rfl
  refine kgU (fun n s'=>∃i σ' ys H' its k,Inv (cxC X scope N fp s2 H2 C) [] σ' H' s'∧tn i s'.heap∧(∀b∈fp,H' b=none)∧H' D=none∧s'.heap.get? D=some {cls:=.type "list",data:=.seq (its:List Value).toArray k}∧Vals ys its∧ys.length≤sizeLine∧W i n σ' ys H') ?_ m0
   ⟨0,_,[],H2,[],_,I3.pins_of (fun p hp=>nomatch hp),T.keep _ _ _ st2 (fun b hb o e=>old b o e),fun b hb=>(f2 b hb).1,I2.hok.fresh (by rw[hDd];exact JO _),hacc, .nil,Nw _,w0⟩
  rintro n s3 ⟨i,σ3,ys,H3,its,k,J3,st3,fr3,hD3,e3,r3,z3,w3⟩
  have J3':Inv (cxC X scope N fp s2 H2 C) [(D,{cls:=.type "list",data:=.seq its.toArray k})] σ3 H3 s3:=J3.pins_of fun p hp=>by
   have e:p=(D,{cls:=.type "list",data:=.seq its.toArray k}):=by simpa using hp
   subst e
   exact⟨e3,hD3,hDC,dfs,fun v z=>by cases z⟩
  rcases turn i n σ3 ys H3 w3 with⟨stop,qn⟩|⟨go,hlt,N',N0',hN,hN0,step⟩
  ·refine thn (T.done (cxC X scope N fp s2 H2 C) rfl rfl rfl hc i _ s3 σ3 H3 (fun _ _=>False) J3' (stat fr3) st3 stop) fun r s4 ⟨hr,I4⟩=>?_
   subst hr
   have e4:=(I4.pin (D,{cls:=.type "list",data:=.seq its.toArray k}) (by simp[cxC])).1
   have B:Inv X pins σ H3 s4:=comp_back I2 f2 (I4.pins_of fun p hp=>nomatch hp)
   obtain⟨m,hm,_⟩:=I4.loc
   have fD:FpOk X pins H3 D:=I2.fpOk (by rw[hDd];exact JO _) hD3
   have B':Inv X pins σ (upd H3 D (.lst ys)) s4:=B.adopt fD (by rw[←hDd];exact I2.sz) ⟨z3,its,k,r3,e4⟩
   refine hRR D C _ s4 m B' (I2.fpOk (by rw[hDd];exact hCle) ?_) hDC.symm hm (qn D hD3)
   rw[kaj hDC.symm]
   exact I4.free
  ·refine thn (T.item (cxC X scope N fp s2 H2 C) rfl rfl rfl hc i _ s3 σ3 H3 (fun _ _=>False) J3' (stat fr3) st3 go) fun r s4 ⟨u,hr,h4⟩=>?_
   subst hr
   refine thn h4 fun _ s5 ⟨x,H5,I5,r5,y5,st5,fr5⟩=>?_
   have I5':=I5.pinned (stat fr5) (T.obj _ _ st5)
   refine thn (hg fp s2 H2 C _ s5 σ3 H5 x u _ I5' r5 (step x H5 y5)) fun _ s6 ⟨σ6,H6,I6,q6⟩=>?_
   refine thn (ht fp s2 H2 C _ s6 σ6 H6 _ I6 q6) fun ok s6' ⟨H6',I6',q6'⟩=>?_
   cases ok with
   | false=>
    have q6':N0' σ6 H6':=by simpa using q6'
    obtain⟨m',hm',w7⟩:=hN0 σ6 H6' q6'
    have p7:=I6'.pin (D,{cls:=.type "list",data:=.seq its.toArray k}) (by simp[cxC])
    have e7:s6'.heap.get? D=some {cls:=.type "list",data:=.seq its.toArray k}:=p7.1
    have pf:∀b∈fp,∀o,s5.heap.get? b=some o→s6'.heap.get? b=some o∧H6' b=none:=fun b hb o e=>
     let z:=I6'.pin (b,o) (NJ _ (NJ _ (kc4 hb e)))
     ⟨z.1,z.2.1⟩
    refine⟨m',hm',i+1,σ6,ys,H6',its,_,I6'.pins_of (fun p hp=>nomatch hp),T.keep _ _ _ st5 (fun b hb o e=>(pf b hb o e).1),fun b hb=>?_,p7.2.1,e7,r3,z3,w7⟩
    obtain⟨o,e,_⟩:=T.obj _ _ st5 b hb
    exact(pf b hb o e).2
   |true=>
   have q6':te σ6 H6' (N' σ6):=by simpa using q6'
   refine thn (he fp s2 H2 C _ s6' σ6 H6' _ I6' q6') fun v s7 ⟨y,H7,I7,r7,q7⟩=>?_
   obtain⟨m',hm',w7⟩:=hN σ6 y H7 q7
   have p7:=I7.pin (D,{cls:=.type "list",data:=.seq its.toArray k}) (by simp[cxC])
   have e7:s7.heap.get? D=some {cls:=.type "list",data:=.seq its.toArray k}:=p7.1
   have hl7:=r3.length
   refine call_meets F.slot_list_append ⟨_,e7,rfl⟩ F.entry_list_append (F.args_list_append_2 _ _) (PySem.list_append D its.toArray k v (by rw[Nh];omega)) ⟨e7,?_⟩
   have q8:=PySem.IsL.update e7 (·.push v)
   have ex8:its.toArray.push v=(its++[v]).toArray:=by simp
   rw[ex8] at q8
   have pf:∀b∈fp,∀o,s5.heap.get? b=some o→s7.heap.get? b=some o∧H7 b=none:=fun b hb o e=>
    let z:=I7.pin (b,o) (NJ _ (NJ _ (kc4 hb e)))
    ⟨z.1,z.2.1⟩
   have I7':Inv (cxC X scope N fp s2 H2 C) [] σ6 H7 s7:=I7.pins_of fun p hp=>nomatch hp
   refine⟨m',hm',i+1,σ6,ys++[y],H7,its++[v],_,I7'.turned (it:=D) (fun b o hb e=>(Heap.get?_update_other _ _ (Ne.symm hb)).trans e) p7.2.1 hDC (.inr (by show s2.heap.objs.size≤D;rw[hDd];exact JO _)) dcell (fun p hp=>nomatch hp),
    T.keep _ _ _ st5 (fun b hb o e=>(Heap.get?_update_other _ _ (dne b hb)).trans (pf b hb o e).1),fun b hb=>?_,p7.2.1,q8,r3.append (.cons r7 .nil),by rw[JZ,NA];omega,w7⟩
   obtain⟨o,e,_⟩:=T.obj _ _ st5 b hb
   exact(pf b hb o e).2
 have st1:tn 0 h₁:=T.keep _ _ _ st2 (fun b hb o e=>old b o e)
 exact codeAny_compStart_list (loop _ rfl) (T.self X.A 0 _ _ _ st1 (loop _ rfl))
theorem kid{wi:TI}(S:CompScope X scope N cap)(hc:X.calm=true)(hi:PI X tg iter wi)(hg:∀fp s H C,PG (cxC X scope N fp s H C) tg g)(ht:∀fp s H C,PIf (cxC X scope N fp s H C) ifs tt)(he:∀fp s H C,PE (cxC X scope N fp s H C) elt te)
  (hs:∀x,foldedSetIterable iter X.env x=pure x:=by intro _;rfl):PE X (.ListComp elt [⟨tg,iter,ifs,0⟩] scope pos) (kmK wi cap g tt te):=by
 intro pins s σ H Q I h
 rw[eval_ListComp]
 refine wpAny_comprehension_free (use:=none) rfl hs (kcY S I) S.kind S.names (thn (hi pins s σ H _ I h) fun v s1 h1=>thn h1 fun itv s2 h2=>?_)
 obtain⟨it,fp,tn,J,H2,e,I2,T,st2,f2,W,⟨m0,w0⟩,turn⟩:=h2
 subst e
 refine kdV (RR:=fun acc C=>compPost (model X.prog X.w) X.A X.xe none (EP X pins σ Q) acc C) S hc hg ht he I2 T st2 f2 W w0 turn fun D C H' s' m B fC hCD hm q=>?_
 obtain⟨c0,c1,c2,c3,c4,c5⟩:=fC
 exact⟨m,hm,fun h' hs'=>⟨.ref D,H',B.turned (t':=s'.toks) (fun b o hb e=>(hs'.2 b hb).trans e) c0 c1 c3 c4 c5,rfl,q⟩⟩
theorem kgT{J:It}{Q:VK}{W:Nat→Nat→St→List V→Hp→Prop}(h:∀i m σ' ys H',W i m σ' ys H'→(J.stop i H'∧∀D,H' D=none→Q (.ref D) (upd H' D (.lst ys)))∨(J.go i H'∧ys.length<sizeLine∧∃N:St→V→Hp→Prop,(∀σ2 y H4,N σ2 y H4→∃m',m'<m∧W (i+1) m' σ2 (ys++[y]) H4)∧
   ∀x H2,J.yld i H' x H2→g x σ' H2 fun σ2 H3=>te σ2 H3 (N σ2))):∀i m σ' ys H',W i m σ' ys H'→(J.stop i H'∧∀D,H' D=none→Q (.ref D) (upd H' D (.lst ys)))∨(J.go i H'∧ys.length<sizeLine∧∃(N:St→V→Hp→Prop)(N0:St→Hp→Prop),(∀σ2 y H4,N σ2 y H4→∃m',m'<m∧W (i+1) m' σ2 (ys++[y]) H4)∧(∀σ2 H4,N0 σ2 H4→∃m',m'<m∧W (i+1) m' σ2 ys H4)∧
   ∀x H2,J.yld i H' x H2→g x σ' H2 fun σ2 H3=>tYes σ2 H3 fun b H4=>if b=true then te σ2 H4 (N σ2) else N0 σ2 H4):=by
 intro i m σ' ys H' w
 rcases h i m σ' ys H' w with h|⟨go,hl,N,hN,st⟩
 ·exact .inl h
 ·refine .inr ⟨go,hl,N,fun _ _=>False,hN,(fun _ _ z=>z.elim),fun x H2 y=>?_⟩
  have e:(fun(σ2:St)(H3:Hp)=>tYes σ2 H3 fun b H4=>if b=true then te σ2 H4 (N σ2) else False)=fun σ2 H3=>te σ2 H3 (N σ2):=by
   funext σ2 H3
   show(if true=true then te σ2 H3 (N σ2) else False)=te σ2 H3 (N σ2)
   rw[if_pos rfl]
  rw[e]
  exact st x H2 y
theorem kbY{wi:TI}(S:CompScope X scope N cap)(hc:X.calm=true)(hi:PI X tg iter wi)(hg:∀fp s H C,PG (cxC X scope N fp s H C) tg g)(he:∀fp s H C,PE (cxC X scope N fp s H C) elt te)
  (hs:∀x,foldedSetIterable iter X.env x=pure x:=by intro _;rfl):PE X (.ListComp elt [⟨tg,iter,[],0⟩] scope pos) (tComp wi cap g te):=by
 intro pins s σ H Q I h
 rw[eval_ListComp]
 refine wpAny_comprehension_free (use:=none) rfl hs (kcY S I) S.kind S.names (thn (hi pins s σ H _ I h) fun v s1 h1=>thn h1 fun itv s2 h2=>?_)
 obtain⟨it,fp,tn,J,H2,e,I2,T,st2,f2,W,⟨m0,w0⟩,turn⟩:=h2
 subst e
 refine kdV (RR:=fun acc C=>compPost (model X.prog X.w) X.A X.xe none (EP X pins σ Q) acc C) S hc hg (fun _ _ _ _=>kjK) he I2 T st2 f2 W w0 (kgT turn) fun D C H' s' m B fC hCD hm q=>?_
 obtain⟨c0,c1,c2,c3,c4,c5⟩:=fC
 exact⟨m,hm,fun h' hs'=>⟨.ref D,H',B.turned (t':=s'.toks) (fun b o hb e=>(hs'.2 b hb).trans e) c0 c1 c3 c4 c5,rfl,q⟩⟩
theorem khl{wi:TI}{i:Nat}{y:Str}{py spos:Pos}(S:CompScope X scope N cap)(hc:X.calm=true)(hi:PI X tg iter wi)(hg:∀fp s H C,PG (cxC X scope N fp s H C) tg g)(he:∀fp s H C,PE (cxC X scope N fp s H C) elt te)
  (hA:PG X (.Name y py) (gName i)) (hsw:swapsWith (.ListComp elt [⟨tg,iter,[],0⟩] scope pos) (some (.Name y py)) spos.line X.env=pure true:=by rfl)
  (hs:∀x,foldedSetIterable iter X.env x=pure x:=by intro _;rfl):PS X (.Assign [.Name y py] (.ListComp elt [⟨tg,iter,[],0⟩] scope pos) spos) (tAsg (tComp wi cap g te) (gName i)):=by
 intro pins s σ H D I h
 rw[exec_Assign_Name_used _ _ _ _ hsw]
 refine wpAny_bind (wpAny_standAt (wpAny_bind ?_))
 show wpAny _ X.A (do let _ ←comprehension (.ListComp elt [⟨tg,iter,[],0⟩] scope pos) scope X.env _ (newList []) false (eval iter X.env) (some (assign (.Name y py) X.env))) _ _ s
 refine wpAny_bind (wpAny_mono (wpAny_comprehension_free (use:=some (assign (.Name y py) X.env)) (Q:=fun _ s'=>SP X pins D .next s') rfl hs (kcY S I) S.kind S.names
  (thn (hi pins s σ H _ I h) fun v s1 h1=>thn h1 fun itv s2 h2=>?_)) (fun _ s' hq=>wpAny_pure (wpAny_pure hq)) fun _ _ e=>e)
 obtain⟨it,fp,tn,J,H2,e,I2,T,st2,f2,W,⟨m0,w0⟩,turn⟩:=h2
 subst e
 refine kdV (Q:=fun v H'=>gName i v σ H' D.nx) (RR:=fun acc C=>compPost (model X.prog X.w) X.A X.xe (some (assign (.Name y py) X.env)) (fun _ s'=>SP X pins D .next s') acc C) S hc hg (fun _ _ _ _=>kjK) he I2 T st2 f2 W w0 (kgT (Q:=fun v H'=>gName i v σ H' D.nx) turn) fun D' C H' s' m B fC hCD hm q=>?_
 obtain⟨c0,c1,c2,c3,c4,c5⟩:=fC
 obtain⟨oC,es,ep,eC,dC,kC⟩:=hm
 have B':Inv X (pins++[(C,oC)]) σ H' s':=B.pins_of fun p hp=>by
  rcases Nr.mp hp with hp|hp
  ·exact B.pin p (NJ _ hp)
  ·have e:p=(C,oC):=by simpa using hp
   subst e
   exact⟨eC,c0,c1,c2,fun v z=>by rw[dC] at z;cases z⟩
 refine thn (hA _ s' σ H' (.ref D') (.ref D') _ B' rfl q) fun _ s'' ⟨σ2,H3,I3,q3⟩=>?_
 obtain⟨e3,n3,_⟩:=I3.pin (C,oC) (NJ _ (NJ _ (by simp)))
 exact⟨m,⟨oC,es,ep,e3,dC,kC⟩,fun h' hs'=>⟨σ2,H3,I3.unpinned.turned (t':=s''.toks) (fun b o hb e=>(hs'.2 b hb).trans e) n3 c1 c3 c4 c5,q3⟩⟩
end
section
variable {g:TG} {te:TE} {σ:St} {H:Hp} {R:List V→Hp→Addr→Prop}
theorem kba{K:JN}{a:Addr}{xs:List V}(Pv:Nat→St→List V→Hp→Prop)(h0:Pv 0 σ [] H)(hz:xs.length≤sizeLine)(hl:∀i σ ys H,i≤xs.length→Pv i σ ys H→SqL K H a xs∧ys.length=i)
  (hs:∀i x σ ys H,xs[i]?=some x→Pv i σ ys H→g x σ H fun σ2 H2=>te σ2 H2 fun y H3=>Pv (i+1) σ2 (ys++[y]) H3) (hd:∀σ ys H,Pv xs.length σ ys H→∀D,H D=none→R ys H D):
  ∃ W:Nat→Nat→St→List V→Hp→Prop,(∃m,W 0 m σ [] H)∧∀i m σ' ys H',W i m σ' ys H'→
   ((Itl K a).stop i H'∧∀D,H' D=none→R ys H' D)∨((Itl K a).go i H'∧ys.length<sizeLine∧∃N:St→V→Hp→Prop,(∀σ2 y H4,N σ2 y H4→∃m',m'<m∧W (i+1) m' σ2 (ys++[y]) H4)∧
    ∀x H2,(Itl K a).yld i H' x H2→g x σ' H2 fun σ2 H3=>te σ2 H3 (N σ2)):=by
 refine⟨fun i m σ ys H=>m=xs.length-i∧i≤xs.length∧Pv i σ ys H,⟨xs.length,by simp,Nw _,h0⟩,?_⟩
 rintro i m σ ys H ⟨rfl,hi,p⟩
 obtain⟨q,el⟩:=hl i σ ys H hi p
 by_cases hlt:i<xs.length
 ·refine .inr ⟨⟨xs,xs[i],q,by simp[hlt]⟩,by omega,fun σ2 y H3=>Pv (i+1) σ2 (ys++[y]) H3,fun σ' y H' p'=>⟨xs.length-(i+1),by omega,rfl,hlt,p'⟩,fun x H' yl=>?_⟩
  obtain⟨e,yl⟩:=yl
  subst e
  exact hs i x σ ys _ (yl xs q) p
 ·have e:i=xs.length:=by omega
  subst e
  exact .inl ⟨⟨xs,q,JO _⟩,hd σ ys H p⟩
end
theorem CompScope.plain{X:Cx}{scope:Scope}{N:List Str}(kind:scope.kind=.function)(names:∀x∈scope.names,x.2=.local→scope.names.lookup x.1=some .local)(_:∀x∈scope.names,x.2≠.cell)(nf:∀x∈scope.names,x.2≠.free)(nd:N.Nodup):
  CompScope X scope N (JS N.length none):=by
 refine⟨kind,names,fun x hx hf=>absurd hf (nf x hx),nd,by simp,fun j i x e _=>?_⟩
 rw[Ew] at e
 split at e
 ·cases e
 ·cases e
noncomputable def klN(scope:Scope)(ns:List (Str×NameKind))(XN N:List Str)(cap:List (Option Nat)):Bool:=
 scope.kind== .function&&scope.names.all (fun x=>!(x.2== .local)||scope.names.lookup x.1==some .local)&&scope.names.all (fun x=>!(x.2== .free)||(ns.lookup x.1==some .cell||ns.lookup x.1==some .free))&&decide N.Nodup&&decide (cap.length=N.length) &&
  (cap.zip N).all fun p=>match p.1 with
   |none=>true
   |some i=>XN[i]? ==some p.2&&scope.names.lookup p.2==some .free&&scope.names.all fun y=>!(y.1==p.2&&y.2== .cell)
def CompScope.of{X:Cx}{scope:Scope}{N:List Str}{cap:List (Option Nat)}(ns:List (Str×NameKind))(XN:List Str)(hn:X.env.scope.names=ns)(hN:X.N=XN)(h:klN scope ns XN N cap=true):CompScope X scope N cap:=by
 unfold klN at h
 simp only[NR,decide_eq_true_eq,MY,EA,Bool.not_eq_true',beq_iff_eq,beq_eq_false_iff_ne] at h
 obtain⟨⟨⟨⟨⟨h1,h2⟩,h3⟩,h4⟩,h5⟩,h6⟩:=h
 refine⟨h1,fun x hx hl=>?_,fun x hx hf=>?_,h4,h5,fun j i x e1 e2=>?_⟩
 ·rcases h2 x hx with q|q
  ·exact absurd hl q
  ·exact q
 ·rw[hn]
  rcases h3 x hx with q|q
  ·exact absurd hf q
  ·exact q
 ·have hz:(cap.zip N)[j]?=some (some i,x):=by
   rw[List.getElem?_zip_eq_some]
   exact⟨e1,e2⟩
  have q:=h6 _ (JT hz)
  simp only[NR,beq_iff_eq,MY,Bool.not_eq_true',Bool.and_eq_false_iff,beq_eq_false_iff_ne] at q
  obtain⟨⟨q1,q2⟩,q3⟩:=q
  refine⟨by rw[hN];exact q1,q2,fun z=>?_⟩
  rcases q3 _ z with q|q
  ·exact q rfl
  ·exact q rfl
end L2
namespace L2
open PySem PySem.Spec PyProof.Rows
theorem Inv.turnedL{X:Cx}{pins:List (Addr×Obj)}{σ:St}{H:Hp}{s:Shared}{h':Heap}{t':Nat}{ch:List Addr}(I:Inv X pins σ H s)(k:∀b o,b∉ch→s.heap.get? b=some o→h'.get? b=some o)(hf:∀b∈ch,FpOk X pins H b):
  Inv X pins σ H {s with heap:=h',toks:=t'}:=by
 have nch:∀b u,H b=some u→b∉ch:=fun b u e z=>by
  have:=(hf b z).1
  rw[this] at e
  cases e
 refine I.step (g':=s.gens) (d':=s.drawn) (ch:=ch) (fun b hb=>let⟨_,h1,_,h3,h4,h5⟩:=hf b hb;⟨h3,h1,h4,h5⟩) (fun b o _ _ hc e _=>k b o hc e) (fun b o _ _ hc e _=>⟨o.slots,k b o hc e⟩) (fun _ _ _ _ n=>n)
  (fun b o hc e=>⟨o,k b o hc e⟩) (fun _ _ e=>e) (fun _ _ _ e=>e) (fun b ps e=>⟨#[],by rw[e];simp⟩) (fun m hm=>?_) (fun b u e=>?_) I.bare
 ·obtain⟨o,es,ep,ho,r⟩:=hm
  exact⟨o,es,ep,k _ o (fun z=>(hf _ z).2.1 rfl) ho,r⟩
 ·refine(I.hok b u e).stay (fun c v hc q=>k c v ?_ q) (fun _ q=>q) fun _ _ q=>q
  rcases hc with z|z
  ·rw[z];exact nch b u e
  ·exact nch c _ z
noncomputable def Ite(a:Addr):It:=⟨fun i H=>∃xs x,H a=some (.lst xs)∧xs[i]?=some x,fun i H x H'=>∃t y,H t=none∧x=.ref t∧H'=upd H t (.tup [.int i,y])∧∀xs,H a=some (.lst xs)→xs[i]?=some y,fun i H=>∃xs,H a=some (.lst xs)∧xs.length≤i⟩
theorem ki1{P:Program}{w:World}{K:JN}{es:List Expr}{k:Nat}{pos:Pos}(a e it:Addr)(hne:e≠it):Turn P w K (.Tuple es k pos) (Ite a) [e,it] e (fun i h=>(∃old,IsEnum h e it ((i:Nat):Int) old)∧h.IsListIter it a i) where
 mem:=by simp
 obj:=fun i h st b hb=>by
  obtain⟨⟨old,he⟩,o,eo,c,d⟩:=st
  have hb':b=e∨b=it:=by simpa using hb
  rcases hb' with rfl|rfl
  ·exact⟨_,he,fun v z=>by
    have z':Data.fields _=Data.cell v:=z
    cases z'⟩
  ·exact⟨o,eo,fun v z=>by rw[d] at z;cases z⟩
 keep:=fun i h h' st k=>⟨let⟨old,he⟩:=st.1;⟨old,k e (by simp) _ he⟩,st.2.at fun o eo=>k it (by simp) o eo⟩
 item:=by
  intro X hP hw hK hc i pins s σ H E I hf st hg
  subst hP hw hK
  obtain⟨⟨old,he⟩,hit⟩:=st
  obtain⟨xs,x,hq,hx⟩:=hg
  obtain⟨its,n,r,ho,hz⟩:=I.lst hq
  obtain⟨u,hu,ru⟩:=r.get hx
  have hl:s.heap.IsList a its.toArray:=⟨_,ho,rfl,n,rfl⟩
  refine wpAny_pyNext_enum_item he hit hl (x:=u) (by simpa using hu) hne fun h1 heo hit1 ht1 hz1 hk1=>?_
  refine⟨.ref s.heap.objs.size,rfl,wpAny_letOwnedTupleGo_enum heo fun h2 he2 hs2=>?_⟩
  have hs2':Heap.SameBut e h1 h2:=hs2
  have el:e<s.heap.objs.size:=Heap.lt_size he
  have kk:∀b o,b∉[e,it]→s.heap.get? b=some o→h2.get? b=some o:=fun b o hb eo=>by
   have hb':b≠e∧b≠it:=by simpa using hb
   exact(hs2'.2 b hb'.1).trans (hk1 b o hb'.1 hb'.2 eo)
  have I1:Inv X pins σ H {s with heap:=h2,toks:=s.toks+1}:=I.turnedL (ch:=[e,it]) kk hf
  have fr:H s.heap.objs.size=none:=I.hok.fresh (JO _)
  have ft:FpOk X pins H s.heap.objs.size:=I.fpOk (JO _) fr
  have ht2:h2.get? s.heap.objs.size=some {cls:=.type "tuple",data:=.seq #[.int i s.toks,u]}:=(hs2'.2 _ (NN el)).trans ht1
  have I2:Inv X pins σ (upd H s.heap.objs.size (.tup [.int i,x])) {s with heap:=h2,toks:=s.toks+1}:=
   I1.adopt ft I.sz ⟨by show 2≤sizeLine;decide,[.int i s.toks,u], .cons ⟨_,rfl⟩ (.cons ru .nil),_,ht2,rfl,_,rfl⟩
  have hit2:h2.IsListIter it a (i+1):=hit1.extBut hs2'.extBut (Ne.symm hne)
  refine⟨.ref s.heap.objs.size,_,I2,rfl,⟨s.heap.objs.size,x,fr,rfl,rfl,fun ys hy=>by rw[hq] at hy;cases hy;exact hx⟩,⟨⟨u,?_⟩,hit2⟩,fun b hb=>?_⟩
  ·have e1:((i+1:Nat):Int)=(i:Int)+1:=rfl
   rw[e1]
   exact he2
  ·have hbl:b<s.heap.objs.size:=by
    have hb':b=e∨b=it:=by simpa using hb
    rcases hb' with rfl|rfl
    ·exact el
    ·obtain⟨o,eo,_⟩:=hit
     exact Heap.lt_size eo
   rw[kaj (Nk hbl)]
   exact(hf b hb).1
 done:=by
  intro X hP hw hK hc i pins s σ H E I hf st hg
  subst hP hw hK
  obtain⟨⟨old,he⟩,hit⟩:=st
  obtain⟨xs,hq,hx⟩:=hg
  obtain⟨its,n,r,ho,hz⟩:=I.lst hq
  have hl:s.heap.IsList a its.toArray:=⟨_,ho,rfl,n,rfl⟩
  have hlen:=r.length
  obtain⟨f0,f1,f2,f3,f4,f5⟩:=hf it (by simp)
  exact wpAny_pyNext_enum_end (I.ok.hd hc) he hit hl (by simp;omega) fun h' eb=>⟨rfl,I.turned (t':=s.toks) (fun b o hb e=>eb b o hb e) f0 f1 f3 f4 f5⟩
 self:=fun _ _ _ _ _ st h=>let⟨_,he⟩:=st.1;wpAny_pyIter_enum he h
section
variable {X:Cx}
noncomputable def iEnum(ta:TA):TI:=fun σ H R=>ta σ H fun vs H1=>∃a xs,vs=[.ref a]∧H1 a=some (.lst xs)∧R (Ite a) H1
theorem kho{es:List Expr}{k:Nat}{tpos:Pos}{e:Expr}{ta:TA}{p pos:Pos}(hg:Gl X "enumerate")(hm:X.mg "enumerate"=none)(ha:PA X [e] ta)(he:starEach [e] X.env=(false,eval e X.env)::starEach [] X.env:=by rfl)
  (hpl:(backTo pos (starEach [] X.env)).any (·.1)=false:=by rfl):PI X (.Tuple es k tpos) (.Call (.Name "enumerate" p) [e] [] pos) (iEnum ta):=by
 intro pins s σ H R I h
 refine Call_ (kdB I hg hm boot_enumerate (PyProof.Rows.callWith_type1 (thn (ha pos pins s σ H _ I h) fun us s1 ⟨vs,H1,I1,r1,q1⟩=>?_) he hpl))
 obtain⟨a,xs,rfl,hq,q⟩:=q1
 obtain⟨u,rfl,rx⟩:=vals1 r1
 cases rx
 obtain⟨its,n,r,ho,hz⟩:=I1.lst hq
 refine call_enumerate_1 ho fun h' he' hit' hsz hk=>wpAny_pyIter_enum he' ?_
 have I2:Inv X pins σ H1 {s1 with heap:=h'}:=I1.kept (t':=s1.toks) hk
 refine⟨s1.heap.objs.size+1,[s1.heap.objs.size+1,s1.heap.objs.size],_,_,H1,rfl,I2,ki1 a (s1.heap.objs.size+1) s1.heap.objs.size (Nat.succ_ne_self _),⟨⟨_,he'⟩,hit'⟩,fun b hb=>?_,q⟩
 have hb':b=s1.heap.objs.size+1∨b=s1.heap.objs.size:=by simpa using hb
 have hle:s1.heap.objs.size≤b:=by rcases hb' with rfl|rfl <;> omega
 exact I1.fpOk hle (I1.hok.fresh hle)
end
theorem kir{a:Addr}{xs:List V}{g:TG}{tb:TS}{D:Ends}{σ:St}{H:Hp}(Pv:Nat→St→Hp→Prop)(h0:Pv 0 σ H)(hl:∀i σ H,i≤xs.length→Pv i σ H→H a=some (.lst xs))
  (hs:∀i y t σ H,xs[i]?=some y→Pv i σ H→H t=none→g (.ref t) σ (upd H t (.tup [.int (i:Nat),y])) fun σ2 H2=>tb {D with nx:=Pv (i+1),ct:=Pv (i+1),bk:=D.nx} σ2 H2) (hd:∀σ H,Pv xs.length σ H→D.nx σ H):
  ∃W:Nat→Nat→St→Hp→Prop,(∃m,W 0 m σ H)∧∀i m σ H,W i m σ H→
   ((Ite a).stop i H∧D.nx σ H)∨((Ite a).go i H∧∃N:St→Hp→Prop,(∀σ' H',N σ' H'→∃m',m'<m∧W (i+1) m' σ' H')∧∀x H',(Ite a).yld i H x H'→g x σ H' fun σ2 H2=>tb {D with nx:=N,ct:=N,bk:=D.nx} σ2 H2):=by
 refine⟨fun i m σ H=>m=xs.length-i∧i≤xs.length∧Pv i σ H,⟨xs.length,by simp,Nw _,h0⟩,?_⟩
 rintro i m σ H ⟨rfl,hi,p⟩
 have q:=hl i σ H hi p
 by_cases hlt:i<xs.length
 ·refine .inr ⟨⟨xs,xs[i],q,by simp[hlt]⟩,Pv (i+1),fun σ' H' p'=>⟨xs.length-(i+1),by omega,rfl,hlt,p'⟩,fun x H' y=>?_⟩
  obtain⟨t,y,hn,rfl,rfl,hy⟩:=y
  exact hs i y t σ _ (hy xs q) p hn
 ·have e:i=xs.length:=by omega
  subst e
  exact .inl ⟨⟨xs,q,JO _⟩,hd σ H p⟩
section
variable {X:Cx}
end
section
variable {X:Cx}
end
end L2
namespace L2
open PySem PySem.Spec PyProof.Rows
section
variable {prog:Program} {w:World} {A:Around} {E:Value→Shared→Prop} {s:Shared}
end
section
variable {X:Cx}
end
section
variable {X:Cx} {CX:CXT} {k:Nat} {f C:Addr} {fd:FuncData} {ps ks:List Str} {sp:Sp} {E:XK} {x:Str} {p pos:Pos} {e:Expr} {es:List Expr} {kws:List Keyword} {t tk:TA} {g:List Value→List Value→List Value} {gV:List V→List V→List V}
end
end L2
namespace L2
open PySem PySem.Spec PyProof.Rows
noncomputable def ka6(K:JN):List V→Hp→VK→Prop:=fun xs H Q=>∃p ys,xs=[.ref p]∧(SqL K H p ys∨SqT K H p ys)∧∀l,H l=none→Q (.ref l) (upd H l (.lst ys))
noncomputable def kaL(K:JN):List V→Hp→VK→Prop:=fun xs H Q=>∃p ys,xs=[.ref p]∧(SqL K H p ys∨SqT K H p ys)∧Q (.int ys.length) H
noncomputable def rSum(K:JN):List V→Hp→VK→Prop:=fun xs H Q=>∃(p:Addr)(ns:List Int),xs=[.ref p]∧SqL K H p (ns.map V.int)∧Q (.int ns.sum) H
noncomputable def rIsi(K:JN):List V→Hp→VK→Prop:=fun xs H Q=>∃x c t b,xs=[x,c]∧((∃n,c=.ty n)∨∃a,c=.ref a)∧TyOf K H x t∧J4 K t (cV c)=some b∧Q (.bl b) H
section
variable {X:Cx} {K:JN} {pos:Pos}
theorem kak{e:Expr}{ta:TE}{f:Str}(he:PE X e ta)(hb:attributeBase e f X.env (eval e X.env)=eval e X.env)(hK:X.K=K:=by rfl):PE X (.Attribute e f pos) (tFld K ta f):=by
 subst hK
 exact kmV he hb
theorem kaG{tg l:Expr}{tl:TE}(hl:PE X l tl)(hK:X.K=K:=by rfl):PI X tg l (iList K tl):=by
 subst hK
 exact kmd hl
theorem kbi{es:List Expr}{k:Nat}{t:TGs}{n:Nat}(hc:X.calm=true)(h:PGs X es t)(hK:X.K=K:=by rfl)
  (hn:(assignEach es X.env).length=n:=by rfl) (hst:(assignEach es X.env).findIdx? (·.1)=none:=by rfl):PG X (.Tuple es k pos) (gTup K n t):=by
 subst hK
 exact kmS hc h hn hst
end
end L2
namespace L2
open PySem PySem.Spec PyProof.Rows
inductive DEq (K:JN) (H:Hp):Nat→V→V→Prop
 |flat {n:Nat} {x y:V} (fx:flatV x=true) (fy:flatV y=true) (e:eqV x y=true):DEq K H n x y
 |same {n:Nat} (a:Addr):DEq K H n (.ref a) (.ref a)
 |lst {n:Nat} {a b:Addr} {xs ys:List V} (ha:SqL K H a xs) (hb:SqL K H b ys) (hl:xs.length=ys.length) (h:∀(i:Nat)(x y:V),xs[i]?=some x→ys[i]?=some y→DEq K H n x y):DEq K H (n+1) (.ref a) (.ref b)
 |tup {n:Nat} {a b:Addr} {xs ys:List V} (ha:SqT K H a xs) (hb:SqT K H b ys) (hl:xs.length=ys.length) (h:∀(i:Nat)(x y:V),xs[i]?=some x→ys[i]?=some y→DEq K H n x y):DEq K H (n+1) (.ref a) (.ref b)
def DEq.self{K:JN}{H:Hp}{n:Nat}{x:V}(h:flatV x=true):DEq K H n x x:=.flat h h (kix h)
def DEq.int{K:JN}{H:Hp}{n:Nat}(i:Int):DEq K H n (.int i) (.int i):=.self rfl
def DEq.bl{K:JN}{H:Hp}{n:Nat}(i:Bool):DEq K H n (.bl i) (.bl i):=.self rfl
def DEq.non{K:JN}{H:Hp}{n:Nat}:DEq K H n .non .non:=.self rfl
def DEq.str{K:JN}{H:Hp}{n:Nat}(i:Str):DEq K H n (.str i) (.str i):=.self rfl
section
variable {X:Cx}
end
noncomputable def Itz(a b:Addr):It:=⟨fun i H=>∃xs ys x y,H a=some (.lst xs)∧H b=some (.lst ys)∧xs[i]?=some x∧ys[i]?=some y,
 fun i H v H'=>∃t x y,H t=none∧v=.ref t∧H'=upd H t (.tup [x,y])∧(∀xs,H a=some (.lst xs)→xs[i]?=some x)∧∀ys,H b=some (.lst ys)→ys[i]?=some y,
 fun i H=>∃xs ys,H a=some (.lst xs)∧H b=some (.lst ys)∧(xs.length≤i∨ys.length≤i)⟩
theorem kkA{P:Program}{w:World}{K:JN}{es:List Expr}{k:Nat}{pos:Pos}(a b z TI TO i1 i2:Addr)(nd:[z,TI,TO,i1,i2].Nodup):
  Turn P w K (.Tuple es k pos) (Itz a b) [z,TI,TO,i1,i2] z (fun i h=>IsZip h z TI TO .none∧IsPair h TI (.ref i1) (.ref i2)∧(∃u v,IsPair h TO u v)∧h.IsListIter i1 a i∧h.IsListIter i2 b i) where
 mem:=by simp
 obj:=fun i h st b hb=>by
  obtain⟨hz,hI,⟨_,_,hO⟩,⟨o1,e1,_,d1⟩,⟨o2,e2,_,d2⟩⟩:=st
  simp only[Nd,Ml,or_false] at hb
  rcases hb with rfl|rfl|rfl|rfl|rfl
  ·exact⟨_,hz,fun v q=>by cases(show Data.fields _=Data.cell v from q)⟩
  ·exact⟨_,hI,fun v q=>by cases(show Data.seq _ _=Data.cell v from q)⟩
  ·exact⟨_,hO,fun v q=>by cases(show Data.seq _ _=Data.cell v from q)⟩
  ·exact⟨o1,e1,fun v q=>by rw[d1] at q;cases q⟩
  ·exact⟨o2,e2,fun v q=>by rw[d2] at q;cases q⟩
 keep:=fun i h h' st kk=>by
  obtain⟨hz,hI,⟨u,v,hO⟩,h1,h2⟩:=st
  exact⟨kk z (by simp) _ hz,kk TI (by simp) _ hI,⟨u,v,kk TO (by simp) _ hO⟩,h1.at fun o e=>kk i1 (by simp) o e,h2.at fun o e=>kk i2 (by simp) o e⟩
 item:=by
  intro X hP hw hK hc i pins s σ H E I hf st hg
  subst hP hw hK
  obtain⟨hz,hI,⟨u,v,hO⟩,h1,h2⟩:=st
  obtain⟨xs,ys,x,y,ha,hb,hx,hy⟩:=hg
  obtain⟨its1,n1,r1,ho1,_⟩:=I.lst ha
  obtain⟨its2,n2,r2,ho2,_⟩:=I.lst hb
  obtain⟨u1,g1,ru1⟩:=r1.get hx
  obtain⟨u2,g2,ru2⟩:=r2.get hy
  have L1:s.heap.IsList a its1.toArray:=⟨_,ho1,rfl,n1,rfl⟩
  have L2':s.heap.IsList b its2.toArray:=⟨_,ho2,rfl,n2,rfl⟩
  have off:∀{l:Addr}{zs:List V},H l=some (.lst zs)→l∉[z,TI,TO,i1,i2]:=fun {l zs} e m=>by
   have:=(hf l m).1
   rw[this] at e
   cases e
  have oa:=off ha
  have ob:=off hb
  have nd':=nd
  simp only[NW,Nd,Ml,or_false,not_or,ED,and_true,not_false_eq_true] at nd' oa ob
  obtain⟨⟨nzI,nzO,nz1,nz2⟩,⟨nIO,nI1,nI2⟩,⟨nO1,nO2⟩,n12⟩:=nd'
  have D:ZipApart z TI TO i1 i2 a b:=⟨Ne.symm nzI,Ne.symm nzO,Ne.symm nz1,Ne.symm nz2,nIO,nI1,nI2,nO1,nO2,n12,oa.1,oa.2.2.1,oa.2.2.2.1,oa.2.2.2.2,ob.1,ob.2.2.1,ob.2.2.2.1,ob.2.2.2.2⟩
  refine wpAny_pyNext_zip_item D hz hI hO h1 h2 L1 L2' (x:=u1) (y:=u2) (by simpa using g1) (by simpa using g2) fun h' a1 a2 a3 a4 a5 a6 a7=>?_
  refine⟨.ref s.heap.objs.size,rfl,wpAny_letOwnedTupleGo_zip a1 fun h2' z2 s2=>?_⟩
  have s2':Heap.SameBut z h' h2':=s2
  have zl:z<s.heap.objs.size:=Heap.lt_size hz
  have kk:∀b o,b∉[z,TI,TO,i1,i2]→s.heap.get? b=some o→h2'.get? b=some o:=fun b o hb eo=>by
   simp only[Nd,Ml,or_false,not_or] at hb
   exact(s2'.2 b hb.1).trans (a7 b o hb.1 hb.2.2.1 hb.2.2.2.1 hb.2.2.2.2 eo)
  have I1:Inv X pins σ H {s with heap:=h2',toks:=s.toks}:=I.turnedL (ch:=[z,TI,TO,i1,i2]) kk hf
  have fr:H s.heap.objs.size=none:=I.hok.fresh (JO _)
  have ft:FpOk X pins H s.heap.objs.size:=I.fpOk (JO _) fr
  have t2:h2'.get? s.heap.objs.size=some {cls:=.type "tuple",data:=.seq #[u1,u2]}:=(s2'.2 _ (NN zl)).trans a5
  have I2:Inv X pins σ (upd H s.heap.objs.size (.tup [x,y])) {s with heap:=h2',toks:=s.toks}:=
   I1.adopt ft I.sz ⟨by show 2≤sizeLine;decide,[u1,u2], .cons ru1 (.cons ru2 .nil),_,t2,rfl,_,rfl⟩
  have hI2:IsPair h2' TI (.ref i1) (.ref i2):=(s2'.2 _ (Ne.symm nzI)).trans (a7 TI _ (Ne.symm nzI) nIO nI1 nI2 hI)
  refine⟨.ref s.heap.objs.size,_,I2,rfl,⟨s.heap.objs.size,x,y,fr,rfl,rfl,fun ws e=>by rw[ha] at e;cases e;exact hx,fun ws e=>by rw[hb] at e;cases e;exact hy⟩,
   ⟨z2,hI2,⟨_,_,(s2'.2 _ (Ne.symm nzO)).trans a2⟩,a3.extBut s2'.extBut (Ne.symm nz1),a4.extBut s2'.extBut (Ne.symm nz2)⟩,fun b hb=>?_⟩
  have hbl:b<s.heap.objs.size:=by
   simp only[Nd,Ml,or_false] at hb
   rcases hb with rfl|rfl|rfl|rfl|rfl
   ·exact zl
   ·exact Heap.lt_size hI
   ·exact Heap.lt_size hO
   ·obtain⟨o,e,_⟩:=h1;exact Heap.lt_size e
   ·obtain⟨o,e,_⟩:=h2;exact Heap.lt_size e
  rw[kaj (Nk hbl)]
  exact(hf b hb).1
 done:=by
  intro X hP hw hK hc i pins s σ H E I hf st hg
  subst hP hw hK
  obtain⟨hz,hI,⟨u,v,hO⟩,h1,h2⟩:=st
  obtain⟨xs,ys,ha,hb,hx⟩:=hg
  obtain⟨its1,n1,r1,ho1,_⟩:=I.lst ha
  obtain⟨its2,n2,r2,ho2,_⟩:=I.lst hb
  have L1:s.heap.IsList a its1.toArray:=⟨_,ho1,rfl,n1,rfl⟩
  have L2':s.heap.IsList b its2.toArray:=⟨_,ho2,rfl,n2,rfl⟩
  have hlen1:=r1.length
  have hlen2:=r2.length
  have off:∀{l:Addr}{zs:List V},H l=some (.lst zs)→l∉[z,TI,TO,i1,i2]:=fun {l zs} e m=>by
   have:=(hf l m).1
   rw[this] at e
   cases e
  have oa:=off ha
  have ob:=off hb
  have nd':=nd
  simp only[NW,Nd,Ml,or_false,not_or,ED,and_true,not_false_eq_true] at nd' oa ob
  obtain⟨⟨nzI,nzO,nz1,nz2⟩,⟨nIO,nI1,nI2⟩,⟨nO1,nO2⟩,n12⟩:=nd'
  have D:ZipApart z TI TO i1 i2 a b:=⟨Ne.symm nzI,Ne.symm nzO,Ne.symm nz1,Ne.symm nz2,nIO,nI1,nI2,nO1,nO2,n12,oa.1,oa.2.2.1,oa.2.2.2.1,oa.2.2.2.2,ob.1,ob.2.2.1,ob.2.2.2.1,ob.2.2.2.2⟩
  refine wpAny_pyNext_zip_end (I.ok.hd hc) D hz hI hO h1 h2 L1 L2' ?_ fun h' hk=>⟨rfl,?_⟩
  ·rcases hx with hx|hx
   ·exact .inl (by simp;omega)
   ·exact .inr (by simp;omega)
  ·refine I.turnedL (t':=s.toks) (ch:=[z,TI,TO,i1,i2]) (fun b o hb e=>?_) hf
   simp only[Nd,Ml,or_false,not_or] at hb
   exact hk b o hb.1 hb.2.2.1 hb.2.2.2.1 hb.2.2.2.2 e
 self:=fun _ _ _ _ _ st h=>wpAny_pyIter_zip st.1 h
def kmt(n:Nat):([n+4,n+2,n+3,n,n+1]:List Nat).Nodup:=by
 simp only[NW,Nd,Ml,or_false,not_or,ED,and_true,not_false_eq_true]
 omega
def kmu{n x:Nat}(h:x∈([n+4,n+2,n+3,n,n+1]:List Nat)):n≤x:=by
 simp only[Nd,Ml,or_false] at h
 omega
section
variable {X:Cx}
noncomputable def iZip(ta:TA):TI:=fun σ H R=>ta σ H fun vs H1=>∃a b xs ys,vs=[.ref a, .ref b]∧H1 a=some (.lst xs)∧H1 b=some (.lst ys)∧R (Itz a b) H1
theorem knc:bootBuiltins "zip"=some (.type "zip"):=by decide +kernel
theorem kfR{es:List Expr}{k:Nat}{tpos:Pos}{e1 e2:Expr}{ta:TA}{p pos:Pos}(hg:Gl X "zip")(hm:X.mg "zip"=none)(ha:PA X [e1,e2] ta)(he:starEach [e1,e2] X.env=(false,eval e1 X.env)::starEach [e2] X.env:=by rfl)
  (hpl:(backTo pos (starEach [e2] X.env)).any (·.1)=false:=by rfl):PI X (.Tuple es k tpos) (.Call (.Name "zip" p) [e1,e2] [] pos) (iZip ta):=by
 intro pins s σ H R I h
 refine Call_ (kdB I hg hm knc (PyProof.Rows.callWith_type1 (thn (ha pos pins s σ H _ I h) fun us s1 ⟨vs,H1,I1,r1,q1⟩=>?_) he hpl))
 obtain⟨a,b,xs,ys,rfl,qa,qb,q⟩:=q1
 cases r1 with
 | cons ra rr=>
  cases rr with
  |cons rb rr=>
   cases rr
   cases ra
   cases rb
   obtain⟨its1,n1,_,ho1,_⟩:=I1.lst qa
   obtain⟨its2,n2,_,ho2,_⟩:=I1.lst qb
   refine call_zip_2 (xs:=its1.toArray) (ys:=its2.toArray) ⟨_,ho1,rfl,n1,rfl⟩ ⟨_,ho2,rfl,n2,rfl⟩ fun h' b1 b2 b3 b4 b5 _ hk=>wpAny_pyIter_zip b1 ?_
   have I2:Inv X pins σ H1 {s1 with heap:=h'}:=I1.kept (t':=s1.toks) hk
   refine⟨s1.heap.objs.size+4,[s1.heap.objs.size+4,s1.heap.objs.size+2,s1.heap.objs.size+3,s1.heap.objs.size,s1.heap.objs.size+1],_,_,H1,rfl,I2,kkA a b _ _ _ _ _ (kmt _),⟨b1,b2,⟨_,_,b3⟩,b4,b5⟩,fun x hx=>?_,q⟩
   have hle:s1.heap.objs.size≤x:=kmu hx
   exact I1.fpOk hle (I1.hok.fresh hle)
end
theorem kkb{a b:Addr}{xs ys:List V}{g:TG}{tb:TS}{D:Ends}{σ:St}{H:Hp}(Pv:Nat→St→Hp→Prop)(h0:Pv 0 σ H)(hl:∀i σ H,i≤min xs.length ys.length→Pv i σ H→H a=some (.lst xs)∧H b=some (.lst ys))
  (hs:∀i x y t σ H,xs[i]?=some x→ys[i]?=some y→Pv i σ H→H t=none→g (.ref t) σ (upd H t (.tup [x,y])) fun σ2 H2=>tb {D with nx:=Pv (i+1),ct:=Pv (i+1),bk:=D.nx} σ2 H2) (hd:∀σ H,Pv (min xs.length ys.length) σ H→D.nx σ H):
  ∃W:Nat→Nat→St→Hp→Prop,(∃m,W 0 m σ H)∧∀i m σ H,W i m σ H→
   ((Itz a b).stop i H∧D.nx σ H)∨((Itz a b).go i H∧∃N:St→Hp→Prop,(∀σ' H',N σ' H'→∃m',m'<m∧W (i+1) m' σ' H')∧∀x H',(Itz a b).yld i H x H'→g x σ H' fun σ2 H2=>tb {D with nx:=N,ct:=N,bk:=D.nx} σ2 H2):=by
 refine⟨fun i m σ H=>m=min xs.length ys.length-i∧i≤min xs.length ys.length∧Pv i σ H,⟨min xs.length ys.length,by simp,Nw _,h0⟩,?_⟩
 rintro i m σ H ⟨rfl,hi,p⟩
 obtain⟨q1,q2⟩:=hl i σ H hi p
 by_cases hlt:i<min xs.length ys.length
 ·refine .inr ⟨⟨xs,ys,xs[i]'(by omega),ys[i]'(by omega),q1,q2,by simp[show i<xs.length by omega],by simp[show i<ys.length by omega]⟩,Pv (i+1),fun σ' H' p'=>⟨min xs.length ys.length-(i+1),by omega,rfl,hlt,p'⟩,fun x H' y=>?_⟩
  obtain⟨t,x,y,hn,rfl,rfl,h1,h2⟩:=y
  exact hs i x y t σ _ (h1 _ q1) (h2 _ q2) p hn
 ·have e:i=min xs.length ys.length:=by omega
  refine .inl ⟨⟨xs,ys,q1,q2,by omega⟩,?_⟩
  rw[e] at p
  exact hd σ H p
theorem kiz{a b:Addr}{xs ys:List V}{g:TG}{te:TE}{σ:St}{H:Hp}{R:List V→Hp→Addr→Prop}(Pv:Nat→St→List V→Hp→Prop)(h0:Pv 0 σ [] H)(hz:min xs.length ys.length≤sizeLine)(hl:∀i σ zs H,i≤min xs.length ys.length→Pv i σ zs H→H a=some (.lst xs)∧H b=some (.lst ys)∧zs.length=i)
  (hs:∀i x y t σ zs H,xs[i]?=some x→ys[i]?=some y→Pv i σ zs H→H t=none→g (.ref t) σ (upd H t (.tup [x,y])) fun σ2 H2=>te σ2 H2 fun z H3=>Pv (i+1) σ2 (zs++[z]) H3) (hd:∀σ zs H,Pv (min xs.length ys.length) σ zs H→∀D,H D=none→R zs H D):
  ∃ W:Nat→Nat→St→List V→Hp→Prop,(∃m,W 0 m σ [] H)∧∀i m σ' zs H',W i m σ' zs H'→
   ((Itz a b).stop i H'∧∀D,H' D=none→R zs H' D)∨((Itz a b).go i H'∧zs.length<sizeLine∧∃N:St→V→Hp→Prop,(∀σ2 y H4,N σ2 y H4→∃m',m'<m∧W (i+1) m' σ2 (zs++[y]) H4)∧
    ∀x H2,(Itz a b).yld i H' x H2→g x σ' H2 fun σ2 H3=>te σ2 H3 (N σ2)):=by
 refine⟨fun i m σ zs H=>m=min xs.length ys.length-i∧i≤min xs.length ys.length∧Pv i σ zs H,⟨min xs.length ys.length,by simp,Nw _,h0⟩,?_⟩
 rintro i m σ zs H ⟨rfl,hi,p⟩
 obtain⟨q1,q2,el⟩:=hl i σ zs H hi p
 by_cases hlt:i<min xs.length ys.length
 ·refine .inr ⟨⟨xs,ys,xs[i]'(by omega),ys[i]'(by omega),q1,q2,by simp[show i<xs.length by omega],by simp[show i<ys.length by omega]⟩,by omega,fun σ2 y H3=>Pv (i+1) σ2 (zs++[y]) H3,fun σ' y H' p'=>⟨min xs.length ys.length-(i+1),by omega,rfl,hlt,p'⟩,fun x H' yl=>?_⟩
  obtain⟨t,x,y,hn,rfl,rfl,h1,h2⟩:=yl
  exact hs i x y t σ zs _ (h1 _ q1) (h2 _ q2) p hn
 ·have e:i=min xs.length ys.length:=by omega
  refine .inl ⟨⟨xs,ys,q1,q2,by omega⟩,?_⟩
  rw[e] at p
  exact hd σ zs H p
end L2
namespace L2
open PySem PySem.Spec PyProof.Rows
section
variable {g:TG} {tt:TT} {te:TE} {σ:St} {H:Hp} {R:List V→Hp→Addr→Prop}
theorem kiA{J:It}{n:Nat}(Pv:Nat→St→List V→Hp→Prop)(h0:Pv 0 σ [] H)(hz:n≤sizeLine)(hl:∀i σ ys H,i≤n→Pv i σ ys H→ys.length≤i)(hgo:∀i σ ys H,i<n→Pv i σ ys H→J.go i H)(hst:∀σ ys H,Pv n σ ys H→J.stop n H)
  (hs:∀i σ ys H x H',i<n→Pv i σ ys H→J.yld i H x H'→g x σ H' fun σ2 H2=>tt σ2 H2 fun b H3=>if b=true then te σ2 H3 (fun y H4=>Pv (i+1) σ2 (ys++[y]) H4) else Pv (i+1) σ2 ys H3) (hd:∀σ ys H,Pv n σ ys H→∀D,H D=none→R ys H D):
  ∃ W:Nat→Nat→St→List V→Hp→Prop,(∃m,W 0 m σ [] H)∧∀i m σ' ys H',W i m σ' ys H'→
   (J.stop i H'∧∀D,H' D=none→R ys H' D)∨(J.go i H'∧ys.length<sizeLine∧∃(N:St→V→Hp→Prop)(N0:St→Hp→Prop),(∀σ2 y H4,N σ2 y H4→∃m',m'<m∧W (i+1) m' σ2 (ys++[y]) H4)∧(∀σ2 H4,N0 σ2 H4→∃m',m'<m∧W (i+1) m' σ2 ys H4)∧
    ∀x H2,J.yld i H' x H2→g x σ' H2 fun σ2 H3=>tt σ2 H3 fun b H4=>if b=true then te σ2 H4 (N σ2) else N0 σ2 H4):=by
 refine⟨fun i m σ ys H=>m=n-i∧i≤n∧Pv i σ ys H,⟨n,by simp,Nw _,h0⟩,?_⟩
 rintro i m σ ys H ⟨rfl,hi,p⟩
 have el:=hl i σ ys H hi p
 by_cases hlt:i<n
 ·refine .inr ⟨hgo i σ ys H hlt p,by omega,fun σ2 y H3=>Pv (i+1) σ2 (ys++[y]) H3,fun σ2 H3=>Pv (i+1) σ2 ys H3,fun σ' y H' p'=>⟨n-(i+1),by omega,rfl,hlt,p'⟩,fun σ' H' p'=>⟨n-(i+1),by omega,rfl,hlt,p'⟩,fun x H' yl=>?_⟩
  exact hs i σ ys H x H' hlt p yl
 ·have e:i=n:=by omega
  subst e
  exact .inl ⟨hst σ ys H p,hd σ ys H p⟩
theorem khD{lo:Int}{n:Nat}(Pv:Nat→St→List V→Hp→Prop)(h0:Pv 0 σ [] H)(hz:n≤sizeLine)(hl:∀i σ ys H,i≤n→Pv i σ ys H→ys.length≤i)
  (hs:∀i σ ys H,i<n→Pv i σ ys H→g (.int (lo+i)) σ H fun σ2 H2=>tt σ2 H2 fun b H3=>if b=true then te σ2 H3 (fun y H4=>Pv (i+1) σ2 (ys++[y]) H4) else Pv (i+1) σ2 ys H3) (hd:∀σ ys H,Pv n σ ys H→∀D,H D=none→R ys H D):
  ∃ W:Nat→Nat→St→List V→Hp→Prop,(∃m,W 0 m σ [] H)∧∀i m σ' ys H',W i m σ' ys H'→
   ((Itr lo n).stop i H'∧∀D,H' D=none→R ys H' D)∨((Itr lo n).go i H'∧ys.length<sizeLine∧∃(N:St→V→Hp→Prop)(N0:St→Hp→Prop),(∀σ2 y H4,N σ2 y H4→∃m',m'<m∧W (i+1) m' σ2 (ys++[y]) H4)∧(∀σ2 H4,N0 σ2 H4→∃m',m'<m∧W (i+1) m' σ2 ys H4)∧
    ∀x H2,(Itr lo n).yld i H' x H2→g x σ' H2 fun σ2 H3=>tt σ2 H3 fun b H4=>if b=true then te σ2 H4 (N σ2) else N0 σ2 H4):=
 kiA Pv h0 hz hl (fun _ _ _ _ hi _=>hi) (fun _ _ _ _=>JO _) (fun i σ ys H x H' hi p yl=>by
  obtain⟨e,q⟩:=yl
  subst e q
  exact hs i σ ys _ hi p) hd
theorem kiU{a:Addr}{xs:List V}(Pv:Nat→St→List V→Hp→Prop)(h0:Pv 0 σ [] H)(hz:xs.length≤sizeLine)(hl:∀i σ ys H,i≤xs.length→Pv i σ ys H→H a=some (.lst xs)∧ys.length≤i)
  (hs:∀i y t σ ys H,xs[i]?=some y→Pv i σ ys H→H t=none→g (.ref t) σ (upd H t (.tup [.int (i:Nat),y])) fun σ2 H2=>tt σ2 H2 fun b H3=>if b=true then te σ2 H3 (fun y H4=>Pv (i+1) σ2 (ys++[y]) H4) else Pv (i+1) σ2 ys H3) (hd:∀σ ys H,Pv xs.length σ ys H→∀D,H D=none→R ys H D):
  ∃ W:Nat→Nat→St→List V→Hp→Prop,(∃m,W 0 m σ [] H)∧∀i m σ' ys H',W i m σ' ys H'→
   ((Ite a).stop i H'∧∀D,H' D=none→R ys H' D)∨((Ite a).go i H'∧ys.length<sizeLine∧∃(N:St→V→Hp→Prop)(N0:St→Hp→Prop),(∀σ2 y H4,N σ2 y H4→∃m',m'<m∧W (i+1) m' σ2 (ys++[y]) H4)∧(∀σ2 H4,N0 σ2 H4→∃m',m'<m∧W (i+1) m' σ2 ys H4)∧
    ∀x H2,(Ite a).yld i H' x H2→g x σ' H2 fun σ2 H3=>tt σ2 H3 fun b H4=>if b=true then te σ2 H4 (N σ2) else N0 σ2 H4):=
 kiA Pv h0 hz (fun i σ ys H hi p=>(hl i σ ys H hi p).2) (fun i σ ys H hi p=>⟨xs,xs[i],(hl i σ ys H (Nc hi) p).1,by simp[hi]⟩) (fun σ ys H p=>⟨xs,(hl _ σ ys H (JO _) p).1,JO _⟩)
  (fun i σ ys H x H' hi p yl=>by
   obtain⟨t,y,hn,rfl,rfl,hy⟩:=yl
   exact hs i y t σ ys _ (hy xs (hl i σ ys _ (Nc hi) p).1) p hn) hd
end
section
variable {X:Cx}
noncomputable def isI(k:Int):Value→Bool
 | .int a _=>a==k
 |_=>false
theorem kgL:∀{ns:List Int}{us:List Value},Vals (ns.map V.int) us→∀(j:Nat)(n:Int),ns[j]?=some n→∃t,us[j]?=some (.int n t)
 |[],_,_,j,n,e=>by simp at e
 | m::ns,u::us, .cons r t,j,n,e=>by
  cases j with
  |zero=>
   have e':m=n:=by simpa using e
   subst e'
   obtain⟨t,rfl⟩:=r
   exact⟨t,rfl⟩
  |succ j=>
   obtain⟨q,h⟩:=kgL t j n (by simpa using e)
   exact⟨q,by simpa using h⟩
end
end L2
namespace L2
open PySem PySem.Spec PyProof.Rows
structure BaseT (K:JN) (C:Addr) (m:Str) (f:Addr):Prop where
 rd:PySem.W.readsIn K C (.type "type")=true
 ga:MH K (.ref C) "__getattribute__"=some (some (.builtin "type.__getattribute__"))
 fc:PySem.W.findCls K (.ref C) (.type "type") m=some (.val (.ref f))
section
variable {X:Cx} {CX:CXT} {k:Nat} {f C:Addr} {fd:FuncData} {ps:List Str} {sp:Sp} {dvs:List V} {ds:List Value} {E:XK} {x m:Str} {p pos apos:Pos} {e o:Expr} {es:List Expr} {ta:TE} {t:TA}
theorem keF{pl:Sem Bool}(B:BaseT X.K C m f)(F:FnOk X.prog X.w X.K X.mg X.base CX k f fd ps sp)(hr:Room k X.A)(hg:Gl X x)(hm:X.mg x=some (.ref C))(hk:J6 X.K (.ref f)=true)(hb:Binds X.K fd ps ds)(hd:Vals dvs ds)(hx:kc0 CX X E)
  (ha:PA X (e::es) t) (hdb:(x==("__debug__" :Str))=false:=by decide)
  (hst:starEach (e::es) X.env=(false,eval e X.env)::starEach es X.env:=by rfl) (hpl:(backTo pos (starEach es X.env)).any (·.1)=false:=by rfl)
  (ht:eval (.Call (.Attribute (.Name x p) m apos) (e::es) [] pos) X.env=(do
   let ov ←eval (.Name x p) X.env
   standAt apos.atName
   let(f,first) ←holding [ov] (getMethod ov m pl)
   callWith pos f first (backTo pos (starEach (e::es) X.env)) (backToKw pos (keywordEach [] X.env))):=by rfl):
  PE X (.Call (.Attribute (.Name x p) m apos) (e::es) [] pos) (tCall sp dvs E t):=by
 intro pins s σ H Q I h
 refine Et (pl:=pl) (thn (kby (v:=.ref C) hg hm rfl hdb pins s σ H (fun y H1=>y=.ref C∧H1=H) I ⟨rfl,rfl⟩) fun u s1 ⟨y,H1,I1,ry,ey,eH⟩=>?_) ht
 subst ey eH
 obtain rfl:u=Value.ref C:=ry
 refine PySem.W.method_cls I1.kIn B.ga (PySem.W.cls_value I1.kIn B.rd B.fc rfl ?_)
 have I2:=I1.tok (s1.toks+1)
 refine Mu (h₀:=X.base) I.ok.mod.kin hk (thn (ha pos pins _ σ H1 _ I2 h) fun us s2 ⟨vs,H2,I3,r,q2⟩=>⟨I3.kIn,?_⟩) hst hpl
 exact kh7 F hr hb hd hx I3 r q2
end
def kdU{n j:Nat}(h:j<n):ixN n (j:Int)=some j:=by
 unfold ixN
 rw[if_pos (by omega),if_pos (by omega)]
 simp
section
variable {X:Cx}
end
section
variable {X:Cx}
noncomputable def km6(ta:TA):TI:=fun σ H R=>ta σ H fun vs H1=>∃i j k:Int,vs=[.int i, .int j, .int k]∧(-(2 ^ 31)≤i∧i<2 ^ 31)∧(-(2 ^ 31)≤j∧j<2 ^ 31)∧0<k∧k<2 ^ 30∧R (Its i k (Builtin.Range.rangeSize i j k).toNat) H1
theorem kiJ{tg a b c:Expr}{ta:TA}{p pos:Pos}(hg:Gl X "range")(hm:X.mg "range"=none)(ha:PA X [a,b,c] ta)(he:starEach [a,b,c] X.env=(false,eval a X.env)::starEach [b,c] X.env:=by rfl)
  (hpl:(backTo pos (starEach [b,c] X.env)).any (·.1)=false:=by rfl):PI X tg (.Call (.Name "range" p) [a,b,c] [] pos) (km6 ta):=by
 intro pins s σ H R I h
 refine Call_ (kdB I hg hm boot_range (PyProof.Rows.callWith_type1 (thn (ha pos pins s σ H _ I h) fun us s1 ⟨vs,H1,I1,r1,q1⟩=>?_) he hpl))
 obtain⟨i,j,k,e,hi,hj,hk,hk2,q⟩:=q1
 subst e
 cases r1 with
 | cons r rr=>
  cases rr with
  | cons r' rr=>
   cases rr with
   | cons r'' rr=>
    cases rr
    obtain⟨t,rfl⟩:=r
    obtain⟨t',rfl⟩:=r'
    obtain⟨t'',rfl⟩:=r''
    refine call_range_3 (by omega) ?_ (.inl (PyProof.noPylong_small (by omega)))
    refine wpAny_pyIter_range (IsRange.new ..) (kiF hk hk2 hi hj) ?_
    have I2:Inv X pins σ H1 {s1 with heap:=s1.heap.push {cls:=.type "range",data:=.fields #[.int i t, .int j t', .int k t'']},toks:=s1.toks}:=I1.kept fun b o e=>Heap.get?_push_of_some _ e
    have hn:=kgj hk hi hj
    refine⟨(s1.heap.push {cls:=.type "range",data:=.fields #[.int i t, .int j t', .int k t'']}).objs.size,[(s1.heap.push {cls:=.type "range",data:=.fields #[.int i t, .int j t', .int k t'']}).objs.size],_,_,H1,rfl,
     I2.kept (t':=s1.toks) fun b o e=>Heap.get?_push_of_some _ e,kiZ _ i k (Builtin.Range.rangeSize i j k).toNat,?_,fun b hb=>?_,q⟩
    ·have e1:i+((0:Nat):Int)*k=i:=by simp
     have e2:(((Builtin.Range.rangeSize i j k).toNat:Nat):Int)-((0:Nat):Int)=Builtin.Range.rangeSize i j k:=by omega
     show IsRangeIter _ _ (i+((0:Nat):Int)*k) ((((Builtin.Range.rangeSize i j k).toNat:Nat):Int)-((0:Nat):Int)) k
     rw[e1,e2]
     exact Heap.get?_push_size _ rfl
    ·have e:b=(s1.heap.push {cls:=.type "range",data:=.fields #[.int i t, .int j t', .int k t'']}).objs.size:=by simpa using hb
     subst e
     exact I2.fpOk (JO _) (I2.hok.fresh (JO _))
end
section
variable {g:TG} {te:TE} {σ:St} {H:Hp} {R:List V→Hp→Addr→Prop}
theorem kkk{lo st:Int}{n:Nat}(Pv:Nat→St→List V→Hp→Prop)(h0:Pv 0 σ [] H)(hz:n≤sizeLine)(hl:∀i σ ys H,i≤n→Pv i σ ys H→ys.length=i)
  (hs:∀i σ ys H,i<n→Pv i σ ys H→g (.int (lo+i*st)) σ H fun σ2 H2=>te σ2 H2 fun y H3=>Pv (i+1) σ2 (ys++[y]) H3) (hd:∀σ ys H,Pv n σ ys H→∀D,H D=none→R ys H D):
  ∃ W:Nat→Nat→St→List V→Hp→Prop,(∃m,W 0 m σ [] H)∧∀i m σ' ys H',W i m σ' ys H'→
   ((Its lo st n).stop i H'∧∀D,H' D=none→R ys H' D)∨((Its lo st n).go i H'∧ys.length<sizeLine∧∃N:St→V→Hp→Prop,(∀σ2 y H4,N σ2 y H4→∃m',m'<m∧W (i+1) m' σ2 (ys++[y]) H4)∧
    ∀x H2,(Its lo st n).yld i H' x H2→g x σ' H2 fun σ2 H3=>te σ2 H3 (N σ2)):=by
 refine⟨fun i m σ ys H=>m=n-i∧i≤n∧Pv i σ ys H,⟨n,by simp,Nw _,h0⟩,?_⟩
 rintro i m σ ys H ⟨rfl,hi,p⟩
 have el:=hl i σ ys H hi p
 by_cases hlt:i<n
 ·refine .inr ⟨hlt,by omega,fun σ2 y H3=>Pv (i+1) σ2 (ys++[y]) H3,fun σ' y H' p'=>⟨n-(i+1),by omega,rfl,hlt,p'⟩,fun x H' yl=>?_⟩
  obtain⟨e,yl⟩:=yl
  subst e yl
  exact hs i σ ys _ hlt p
 ·have e:i=n:=by omega
  subst e
  exact .inl ⟨JO _,hd σ ys H p⟩
end
def khc{L m:Nat}(hm:0<m):(Builtin.Range.rangeSize 0 ((L:Int)-(m:Int)+1) (m:Int)).toNat=L/m:=by
 unfold Builtin.Range.rangeSize
 rw[if_pos (by omega)]
 by_cases h:m≤L
 ·rw[if_pos (by omega),show(L:Int)-(m:Int)+1-0-1=((L-m:Nat):Int) by omega,←Int.natCast_ediv,Nat.div_eq_sub_div hm h]
  generalize (L-m)/m=q
  omega
 ·rw[if_neg (by omega),Nat.div_eq_of_lt (by omega)]
  rfl
end L2
namespace L2
open PySem PySem.Spec PyProof.Rows
inductive Src where
 |p (i:Nat)
 |k (j:Nat)
 |d (v:Value) (x:V)
noncomputable def Src.val(us ws:List Value):Src→Value
 | .p i=>us.getD i .none
 | .k j=>ws.getD j .none
 | .d v _=>v
noncomputable def Src.abs(vs zs:List V):Src→V
 | .p i=>vs.getD i .non
 | .k j=>zs.getD j .non
 | .d _ x=>x
noncomputable def Src.Ok:Src→Prop
 | .d v x=>RelV x v
 |_=>True
section
variable {X:Cx} {CX:CXT} {k:Nat} {f C:Addr} {fd:FuncData} {ps ks:List Str} {sp:Sp} {E:XK} {x:Str} {p pos:Pos} {kws:List Keyword} {tk:TA} {g:List Value→List Value→List Value} {gV:List V→List V→List V}
end
end L2
namespace L2
open PySem PySem.Spec PyProof.Rows
noncomputable def atK(kvs:List (Key×V))(k:Key):Option V:=(kvs.find? fun p=>decide (p.1=k)).map Prod.snd
theorem khH:∀{kvs:List (Key×V)}{vs:List (Key×Value)},KV kvs vs→∀k,RelO (atK kvs k) (valueAt vs k)
 |_,_, .nil,_=>True.intro
 | p::ps,q::qs, .cons h t,k=>by
  obtain⟨h1,h2⟩:=h
  have ih:=khH t k
  unfold atK valueAt at *
  by_cases e:p.1=k
  ·have e':q.1=k:=h1.symm.trans e
   simp only[MI,e,e',decide_true,M0]
   exact h2
  ·have e':¬q.1=k:=fun z=>e (h1.trans z)
   simp only[MI,e,e',decide_false]
   exact ih
theorem kvAny:∀{kvs:List (Key×V)}{vs:List (Key×Value)},KV kvs vs→∀k:Key,atK kvs k=none→(vs.any fun p=>decide (p.1=k))=false
 |_,_, .nil,_,_=>rfl
 | p::ps,q::qs, .cons h t,k,hn=>by
  obtain⟨h1,h2⟩:=h
  unfold atK at hn
  by_cases e:p.1=k
  ·simp[MI,e] at hn
  ·have e':¬q.1=k:=fun z=>e (h1.trans z)
   rw[Mr,decide_eq_false e',Bool.false_or]
   refine kvAny t k ?_
   unfold atK
   simpa[MI,e] using hn
theorem klI:∀{kvs:List (Key×V)}{vs:List (Key×Value)},KV kvs vs→∀{k:Key}{y:V}{u:Value},RelV y u→KV (kvs++[(k,y)]) (vs++[(k,u)])
 |_,_, .nil,_,_,_,r=>.cons ⟨rfl,r⟩ .nil
 |_,_, .cons h t,_,_,_,r=>.cons h (klI t r)
theorem kvLen:∀{kvs:List (Key×V)}{vs:List (Key×Value)},KV kvs vs→kvs.length=vs.length
 |_,_, .nil=>rfl
 |_,_, .cons _ t=>by rw[Nq,Nq,kvLen t]
theorem klH:∀{kvs:List (Key×V)}{vs:List (Key×Value)},KV kvs vs→Vals (kvs.map Prod.snd) (vs.map Prod.snd)
 |_,_, .nil=>.nil
 |_,_, .cons h t=>.cons h.2 (klH t)
section
variable {X:Cx}
noncomputable def kmJ:TE:=fun _ H Q=>∀p,H p=none→Q (.ref p) (upd H p (.dK []))
theorem kkK{pos:Pos}:PE X (.Dict [] [] pos) kmJ:=fun pins s σ H Q I h=>
 have big:sysModules<s.heap.objs.size:=Nat.lt_trans (by decide) (show mainGlobals<s.heap.objs.size from(I.mod.glob.keeps I.bk).lt)
 wpAny_Dict_empty ⟨.ref s.heap.objs.size,_,I.laid (a:=s.heap.objs.size) (o:=.dK []) (t':=s.toks) (fun _ _ q=>Heap.get?_push_of_some _ q) (JO _)
  (show ObjOk X.prog X.w _ _ _ (.dK []) from⟨Nw _,beq_eq_false_iff_ne.mpr (Ne.symm (Nk big)),[], .nil,Heap.DictOf.new _⟩),rfl,h _ (I.hok.fresh (JO _))⟩
noncomputable def rSetd:V→List V→Hp→VK→Prop:=fun x vs H Q=>∃(a:Addr)(kvs:List (Key×V))(i:Int)(y:V),x=.ref a∧vs=[.int i,y]∧H a=some (.dK kvs)∧kvs.length<sizeLine∧(∀v,atK kvs (.inl i)=some v→Q v H)∧(atK kvs (.inl i)=none→Q y (upd H a (.dK (kvs++[(.inl i,y)]))))
theorem kf0:MtM X "dict.setdefault" rSetd:=by
 intro pins s σ H x vs v us Q I rx rv h
 obtain⟨a,kvs,i,y,rfl,rfl,e,hz,h1,h2⟩:=h
 cases rx
 obtain⟨u1,u2,rfl,⟨t,rfl⟩,ru2⟩:=vals2 rv
 obtain⟨z,hd,ws,rel,dd⟩:=(show ObjOk X.prog X.w H s.heap a (.dK kvs) from I.hok a _ e)
 have key:(kdi X.prog X.w).is (Sum.inl i:Key) (.int i t)=true:=khs _ _ i t
 refine call_meetsIn E2 dd.typeIs PySem.F.entry_dict_setdefault (PySem.F.args_dict_setdefault_3 _ _ _) (kt_meets_setdefault (kdi X.prog X.w) a key hd u2)
  ⟨ws,dd,by rw[←kvLen rel];exact z,fun v hv=>?_,fun hn h' dd' hs=>?_⟩
 ·have r:=khH rel (Sum.inl i)
  rw[hv] at r
  cases ea:atK kvs (Sum.inl i) with
  |none=>rw[ea] at r;exact(show False from r).elim
  |some w'=>
   rw[ea] at r
   exact⟨w',H,I.tok _,r,h1 w' ea⟩
 ·have r:=khH rel (Sum.inl i)
  rw[hn] at r
  have ea:atK kvs (Sum.inl i)=none:=by
   cases ea:atK kvs (Sum.inl i) with
   |none=>rfl
   |some w'=>rw[ea] at r;exact(show False from r).elim
  have est:stored ws (Sum.inl i:Key) u2=ws++[(Sum.inl i,u2)]:=by
   unfold stored
   rw[kvAny rel _ ea,if_neg JV]
  rw[est] at dd'
  have he:∃q,h'.get? a=some q:=let⟨q,_,_,hq,_⟩:=dd';⟨q,hq⟩
  refine⟨y,_,I.write (x:=a) (e:=a) (by rw[e];exact True.intro) (.inl rfl) (fun b q hb w'=>(hs.2 b hb).trans w') he ?_,ru2,h2 ea⟩
  exact(show ObjOk X.prog X.w _ h' a (.dK (kvs++[(.inl i,y)])) from⟨by rw[JZ,NA];omega,hd,_,klI rel ru2,dd'⟩)
noncomputable def ki3(te:TE):TE:=fun σ H Q=>te σ H fun v H1=>∃(a:Addr)(kvs:List (Key×V)),v=.ref a∧H1 a=some (.dK kvs)∧∀l,H1 l=none→Q (.ref l) (upd H1 l (.lst (kvs.map Prod.snd)))
theorem khp{e:Expr}{te:TE}{p1 pos1 apos cpos:Pos}(hc:X.calm=true)(h1:Gl X "list")(m1:X.mg "list"=none)(he:PE X e te)
  (hbase:attributeBase e "values" X.env (eval e X.env)=eval e X.env:=by rfl) (hline:(apos.endLine==cpos.line)=true:=by rfl)
  (s2:starEach [.Call (.Attribute e "values" apos) [] [] cpos] X.env=[(false,eval (.Call (.Attribute e "values" apos) [] [] cpos) X.env)]:=by rfl):PE X (.Call (.Name "list" p1) [.Call (.Attribute e "values" apos) [] [] cpos] [] pos1) (ki3 te):=by
 intro pins s σ H Q I h
 refine wpAny_Call_Name_kw (kdB I h1 m1 kbt ?_ (by decide) (by decide))
 refine PyProof.Rows.callWith_type1 ?_ s2 rfl
 rw[s2]
 refine Calls.spliced_cons (wpAny_Call_method0_late hbase hline (thn (he pins s σ H _ I h) fun u s3 ⟨v,H1,I1,r1,a,kvs,ev,ea,q⟩=>?_))
 subst ev
 cases r1
 obtain⟨t1,t2⟩:=kln (T:="dict") (x:=.ref a) (v:=.ref a) I1 rfl (.inr (.inr (.inl ⟨rfl, .inl ⟨kvs,ea⟩⟩)))
 obtain⟨z,hd,ws,rel,dd⟩:=(show ObjOk X.prog X.w H1 s3.heap a (.dK kvs) from I1.hok a _ ea)
 obtain⟨ep,hat⟩:=dd.dictAt
 refine⟨"dict","dict.values",E3,E4,PySem.F.type_dict_values,t1,t2,Calls.callWith_builtin rfl (PySem.evalArgs_none ?_)⟩
 refine call_meetsIn E4 dd.typeIs PySem.F.entry_dict_values (PySem.F.args_dict_values_1 _) (meets_dict_values (kdi X.prog X.w) a hd) ⟨⟨ws,dd⟩,Calls.spliced_nil ?_⟩
 refine PySem.W.kdl_call (PySem.W.kdl_values (knd:=kdi X.prog X.w) (kvs:=ws) (ep:=ep)) (I1.ok.hd hc) ⟨⟨_,Heap.get?_push_size _ rfl,rfl,rfl⟩,hat.push _⟩ (by rw[←kvLen rel];exact z) fun h' tk acc' c' hk hS hacc=>?_
 have hv:acc'.toList=ws.map (·.2):=PySem.W.kdl_vals_eq acc'.toList (by rw[Mt];exact hacc.1) fun j v' ej=>hacc.2 j v' (by rw[←Array.getElem?_toList];exact ej)
 generalize ho:({cls:=.type "dict_values",data:=.fields #[.ref a]}:Obj)=ob at *
 have hsz:(s3.heap.push ob).objs.size=s3.heap.objs.size+1:=Heap.size_push ..
 have rv:Vals (kvs.map Prod.snd) acc'.toList:=by rw[hv];exact klH rel
 have I2:Inv X pins σ (upd H1 (s3.heap.push ob).objs.size (.lst (kvs.map Prod.snd))) {s3 with heap:=h',toks:=tk}:=
  I1.laid (fun b o e=>hk b o (Heap.get?_push_of_some _ e)) (by rw[hsz];exact Mq _) (show ObjOk X.prog X.w _ h' _ (.lst (kvs.map Prod.snd)) from⟨by rw[JM];exact z,acc'.toList,c',rv,by simpa using hS⟩)
 exact⟨.ref _,_,I2,rfl,q _ (I1.hok.fresh (by rw[hsz];exact Mq _))⟩
end
end L2
namespace L2
open PySem PySem.Spec PyProof.Rows
section
variable {X:Cx}
end
end L2
namespace Stb
open PySem PyProof.Rows
noncomputable def T(xs:Array Keyed)(i:Nat):Int:=match xs[i]? with
 |some p=>numOf p.2
 |none=>0
def T_at{xs ys:Array Keyed}{i j:Nat}(h:xs[i]?=ys[j]?):T xs i=T ys j:=by unfold T;rw[h]
noncomputable def Lx(xs:Array Keyed)(i j:Nat):Prop:=K xs i<K xs j∨(K xs i=K xs j∧T xs i<T xs j)
def Lx.trans{xs:Array Keyed}{i j k:Nat}(h:Lx xs i j)(h':Lx xs j k):Lx xs i k:=by unfold Lx at *;omega
def Lx.le{xs:Array Keyed}{i j:Nat}(h:Lx xs i j):K xs i≤K xs j:=by unfold Lx at *;omega
noncomputable def Up(xs:Array Keyed)(k:Nat):Prop:=∀i j,i<j→j<k→Lx xs i j
noncomputable def Dn(xs:Array Keyed)(k:Nat):Prop:=∀i j,i<j→j<k→Lx xs j i
noncomputable def Lat(a₀ xs:Array Keyed)(k:Nat):Prop:=∀i j,i<j→k≤j→j<a₀.size→T xs i<T xs j
def Lat.mono{a₀ xs:Array Keyed}{k k':Nat}(h:Lat a₀ xs k)(hk:k≤k'):Lat a₀ xs k':=fun i j h1 h2 h3=>h i j h1 (by omega) h3
theorem kiB{xs:Array Keyed}{src d:Nat}(hs:src<xs.size)(hd:d≤src)(k:Nat):
  ∃k',(K (bubble xs src d) k=K xs k'∧T (bubble xs src d) k=T xs k')∧k'=if k=src-d then src else if src-d<k∧k≤src then k-1 else k:=by
 refine⟨_,?_,rfl⟩
 have e:=getElem?_bubble hs d hd k
 have e':(bubble xs src d)[k]?=xs[if k=src-d then src else if src-d<k∧k≤src then k-1 else k]?:=by
  rw[e]
  split
  ·rfl
  ·split <;> rfl
 exact⟨K_congr e',T_at e'⟩
theorem kcG{xs:Array Keyed}{i j:Nat}(hj:j≤xs.size)(k:Nat):
  ∃k',(K (mirror xs i j ((j-i)/2)) k=K xs k'∧T (mirror xs i j ((j-i)/2)) k=T xs k')∧k'=if i≤k∧k<j then i+j-1-k else k:=by
 refine⟨_,?_,rfl⟩
 have e:=getElem?_mirror_all (i:=i) hj k
 have e':(mirror xs i j ((j-i)/2))[k]?=xs[if i≤k∧k<j then i+j-1-k else k]?:=by
  rw[e]
  split <;> rfl
 exact⟨K_congr e',T_at e'⟩
def khv{a₀ xs:Array Keyed}{i j k:Nat}(hj:j≤xs.size)(hk:j≤k)(h:Lat a₀ xs k):Lat a₀ (mirror xs i j ((j-i)/2)) k:=by
 intro a b hab hkb hb
 obtain⟨a',⟨_,ea⟩,ha⟩:=kcG (i:=i) hj a
 obtain⟨b',⟨_,eb⟩,hb'⟩:=kcG (i:=i) hj b
 rw[ea,eb]
 rw[if_neg (by omega)] at hb'
 subst hb'
 refine h _ _ ?_ hkb hb
 rw[ha]
 split <;> omega
section
variable {prog:Program} {w:World} {A:Around} {E:Value→Shared→Prop} {s:Shared} {a₀:Array Keyed}
theorem asc{st:SortSt}{a nrem:Nat}{Q:AscSt→SortSt→Prop}(h0:IntKeys a₀)(hn:nrem≤a₀.size)(ha:1≤a)(han:a≤nrem)(hB:SBase a₀ st)(hs:Up (arrOf st) a)(hl:Lat a₀ (arrOf st) a)
  (h:∀n,a≤n→n≤nrem→Up (arrOf st) n→(n=nrem∨K (arrOf st) n<K (arrOf st) (n-1))→Q (none,n) st):wpS (model prog w) A E s (ascLoop a nrem) Q st:=by
 unfold ascLoop
 refine wpS_forRange (I:=fun x c st'=>st'=st∧c=(none,x)∧Up (arrOf st) x) ?turn ?over ⟨rfl,rfl,hs⟩
 case over=>
  rintro c st' ⟨rfl,rfl,u⟩
  rw[show max a nrem=nrem by omega] at u⊢
  exact h nrem han (JO _) u (.inl rfl)
 case turn=>
  rintro x c st' hax hxn ⟨rfl,rfl,u⟩
  dsimp only
  refine wpS_bind (wpS_ltK hB h0 (by omega) (by omega) ?_)
  by_cases c1:K (arrOf st') x<K (arrOf st') (x-1)
  ·simp only[c1,decide_true,if_true]
   exact wpS_pure (h x hax (by omega) u (.inr c1))
  ·simp only[c1,decide_false,NS,if_false]
   refine wpS_pure ⟨rfl,rfl,fun i j hij hj=>?_⟩
   by_cases hjx:j<x
   ·exact u i j hij hjx
   ·have e:j=x:=by omega
    subst e
    have t1:=hl (j-1) j (by omega) hax (by omega)
    have l1:Lx (arrOf st') (j-1) j:=by unfold Lx;omega
    by_cases e2:i=j-1
    ·rw[e2];exact l1
    ·exact(u i (j-1) (by omega) (by omega)).trans l1
theorem tail{st:SortSt}{n nrem:Nat}{Q:Option Nat→SortSt→Prop}(h0:IntKeys a₀)(hn:nrem≤a₀.size)(h1:1≤n)(hnn:n≤nrem)(hB:SBase a₀ st)(hs:Dn (arrOf st) n)(hl:Lat a₀ (arrOf st) n)
  (h:∀m st',SBase a₀ st'→1≤m→m≤nrem→Up (arrOf st') m→Lat a₀ (arrOf st') m→Q (some m) st'):wpS (model prog w) A E s (tail3 n nrem) Q st:=by
 unfold tail3
 have sz:n≤(arrOf st).size:=by rw[hB.size];omega
 refine wpS_bind (wpS_reverse ?_)
 have hB2:SBase a₀ (setArr st (mirror (arrOf st) 0 n ((n-0)/2))):=hB.setArr (mirror_perm _ _ _ _)
 have hl2:Lat a₀ (mirror (arrOf st) 0 n ((n-0)/2)) n:=khv sz (JO _) hl
 refine wpS_bind (asc h0 hn h1 hnn hB2 ?_ hl2 fun m hm1 hm2 hu _=>wpS_pure (h m _ hB2 (by omega) hm2 hu (hl2.mono hm1)))
 intro i j hij hj
 show Lx (mirror (arrOf st) 0 n ((n-0)/2)) i j
 obtain⟨i',⟨k1,t1⟩,e1⟩:=kcG (i:=0) sz i
 obtain⟨j',⟨k2,t2⟩,e2⟩:=kcG (i:=0) sz j
 rw[if_pos (by omega)] at e1 e2
 have:=hs j' i' (by omega) (by omega)
 unfold Lx at this⊢
 rw[k1,k2,t1,t2]
 exact this
structure Fl (a₀ xs:Array Keyed) (x neq:Nat):Prop where
 few:neq+1≤x
 hd:Dn xs (x-(neq+1))
 cr:∀i j,i<x-(neq+1)→x-(neq+1)≤j→j<x→K xs j<K xs i
 tl:∀i j,x-(neq+1)≤i→i<j→j<x→K xs i=K xs j∧T xs i<T xs j
 lat:Lat a₀ xs x
theorem Fl.turned{xs:Array Keyed}{x neq:Nat}(h:Fl a₀ xs x neq)(hx:x≤xs.size):Dn (mirror xs (x-(neq+1)) x ((x-(x-(neq+1)))/2)) x∧(∀i,i<x→K xs (x-1)≤K (mirror xs (x-(neq+1)) x ((x-(x-(neq+1)))/2)) i)∧Lat a₀ (mirror xs (x-(neq+1)) x ((x-(x-(neq+1)))/2)) x∧
  ∀k,x≤k→K (mirror xs (x-(neq+1)) x ((x-(x-(neq+1)))/2)) k=K xs k:=by
 have hf:=h.few
 refine⟨fun i j hij hj=>?_,fun i hi=>?_,khv hx (JO _) h.lat,fun k hk=>?_⟩
 ·obtain⟨i',⟨k1,t1⟩,e1⟩:=kcG (i:=x-(neq+1)) hx i
  obtain⟨j',⟨k2,t2⟩,e2⟩:=kcG (i:=x-(neq+1)) hx j
  unfold Lx
  rw[k1,k2,t1,t2]
  by_cases c1:j<x-(neq+1)
  ·rw[if_neg (by omega)] at e1 e2
   subst e1 e2
   exact h.hd i' j' hij c1
  ·rw[if_pos (by omega)] at e2
   by_cases c2:i<x-(neq+1)
   ·rw[if_neg (by omega)] at e1
    subst e1
    exact .inl (h.cr i' j' c2 (by omega) (by omega))
   ·rw[if_pos (by omega)] at e1
    have:=h.tl j' i' (by omega) (by omega) (by omega)
    omega
 ·obtain⟨i',⟨k1,_⟩,e1⟩:=kcG (i:=x-(neq+1)) hx i
  rw[k1]
  by_cases c2:i<x-(neq+1)
  ·rw[if_neg (by omega)] at e1
   subst e1
   have:=h.cr i' (x-1) c2 (by omega) (by omega)
   omega
  ·rw[if_pos (by omega)] at e1
   by_cases c3:i'=x-1
   ·rw[c3];exact Int.le_refl _
   ·have:=h.tl i' (x-1) (by omega) (by omega) (by omega)
    omega
 ·obtain⟨k',⟨k1,_⟩,e1⟩:=kcG (i:=x-(neq+1)) hx k
  rw[if_neg (by omega)] at e1
  rw[k1,e1]
theorem Fl.plain{xs:Array Keyed}{x:Nat}(h:Fl a₀ xs x 0):Dn xs x∧(∀i,i<x→K xs (x-1)≤K xs i):=by
 have hf:=h.few
 refine⟨fun i j hij hj=>?_,fun i hi=>?_⟩
 ·by_cases c1:j<x-(0+1)
  ·exact h.hd i j hij c1
  ·exact .inl (h.cr i j (by omega) (by omega) hj)
 ·by_cases c3:i=x-1
  ·rw[c3];exact Int.le_refl _
  ·have:=h.cr i (x-1) (by omega) (by omega) (by omega)
   omega
theorem Fl.next{xs:Array Keyed}{x:Nat}(hd:Dn xs x)(hk:∀i,i<x→K xs x<K xs i)(hl:Lat a₀ xs x):Fl a₀ xs (x+1) 0:=
 ⟨by omega,fun i j h1 h2=>hd i j h1 (by omega),fun i j h1 h2 h3=>by
  have e:j=x:=by omega
  subst e
  exact hk i (by omega),fun i j h1 h2 h3=>by omega,hl.mono (by omega)⟩
theorem desc{st:SortSt}{n nrem:Nat}{Q:DescSt→SortSt→Prop}(h0:IntKeys a₀)(hn:nrem≤a₀.size)(hnn:n≤nrem)(hB:SBase a₀ st)(hs:Fl a₀ (arrOf st) n 0)
  (h:∀m neq st',SBase a₀ st'→n≤m→m≤nrem→Fl a₀ (arrOf st') m neq→Q (none,m,neq) st'):wpS (model prog w) A E s (descLoop n nrem) Q st:=by
 unfold descLoop
 refine wpS_forRange (I:=fun x c st'=>∃neq,c=(none,x,neq)∧SBase a₀ st'∧Fl a₀ (arrOf st') x neq) ?turn ?over ⟨0,rfl,hB,hs⟩
 case over=>
  rintro c st' ⟨neq,rfl,hB',f⟩
  rw[show max n nrem=nrem by omega] at f⊢
  exact h nrem neq st' hB' hnn (JO _) f
 case turn=>
  rintro x c st' hax hxn ⟨neq,rfl,hB',f⟩
  dsimp only
  have few:=f.few
  have sz:x≤(arrOf st').size:=by rw[hB'.size];omega
  refine wpS_bind (wpS_ltK hB' h0 (by omega) (by omega) ?_)
  by_cases c1:K (arrOf st') x<K (arrOf st') (x-1)
  ·simp only[c1,decide_true,if_true]
   by_cases c2:neq > 0
   ·rw[if_pos c2]
    obtain⟨d1,d2,d3,d4⟩:=f.turned sz
    refine wpS_bind (wpS_reverse (wpS_pure ⟨0,rfl,hB'.setArr (mirror_perm _ _ _ _),Fl.next d1 (fun i hi=>?_) d3⟩))
    have:=d2 i hi
    have e:=d4 x (JO _)
    show K (mirror (arrOf st') _ _ _) x<K (mirror (arrOf st') _ _ _) i
    omega
   ·rw[if_neg c2]
    have e:neq=0:=by omega
    subst e
    obtain⟨d1,d2⟩:=f.plain
    exact wpS_pure ⟨0,rfl,hB',Fl.next d1 (fun i hi=>by have:=d2 i hi;omega) f.lat⟩
  ·simp only[c1,decide_false,NS,if_false]
   refine wpS_bind (wpS_ltK hB' h0 (by omega) (by omega) ?_)
   by_cases c2:K (arrOf st') (x-1)<K (arrOf st') x
   ·simp only[c2,decide_true,if_true]
    exact wpS_pure (h x neq st' hB' hax (by omega) f)
   ·simp only[c2,decide_false,NS,if_false]
    have ek:K (arrOf st') x=K (arrOf st') (x-1):=by omega
    refine wpS_pure ⟨neq+1,rfl,hB',⟨by omega,?_,?_,?_,f.lat.mono (by omega)⟩⟩
    ·rw[show x+1-(neq+1+1)=x-(neq+1) by omega]
     exact f.hd
    ·rw[show x+1-(neq+1+1)=x-(neq+1) by omega]
     intro i j h1 h2 h3
     by_cases c3:j<x
     ·exact f.cr i j h1 h2 c3
     ·have e:j=x:=by omega
      subst e
      rw[ek]
      exact f.cr i (j-1) h1 (by omega) (by omega)
    ·rw[show x+1-(neq+1+1)=x-(neq+1) by omega]
     intro i j h1 h2 h3
     by_cases c3:j<x
     ·exact f.tl i j h1 h2 c3
     ·have e:j=x:=by omega
      subst e
      refine⟨?_,f.lat i j h2 (JO _) (by omega)⟩
      rw[ek]
      by_cases c4:i=j-1
      ·rw[c4]
      ·exact(f.tl i (j-1) h1 (by omega) (by omega)).1
theorem falls{st:SortSt}{n nrem:Nat}{Q:Option Nat→SortSt→Prop}(h0:IntKeys a₀)(hn:nrem≤a₀.size)(hnn:n+1≤nrem)(hB:SBase a₀ st)(hs:Fl a₀ (arrOf st) (n+1) 0)
  (h:∀m st',SBase a₀ st'→1≤m→m≤nrem→Up (arrOf st') m→Lat a₀ (arrOf st') m→Q (some m) st'):wpS (model prog w) A E s (descPart n nrem) Q st:=by
 unfold descPart
 refine wpS_bind (wpS_lift (wpAny_rule ⟨rfl,?_⟩))
 refine wpS_bind (desc h0 hn hnn hB hs fun m neq st' hB' hm1 hm2 f=>?_)
 dsimp only
 have sz:m≤(arrOf st').size:=by rw[hB'.size];omega
 by_cases c2:neq > 0
 ·rw[if_pos c2]
  obtain⟨d1,_,d3,_⟩:=f.turned sz
  exact wpS_bind (wpS_reverse (tail h0 hn (by omega) hm2 (hB'.setArr (mirror_perm _ _ _ _)) d1 d3 h))
 ·rw[if_neg c2]
  have e:neq=0:=by omega
  subst e
  exact tail h0 hn (by omega) hm2 hB' f.plain.1 f.lat h
theorem count{st:SortSt}{nrem:Nat}{Q:Option Nat→SortSt→Prop}(h0:IntKeys a₀)(hn:nrem≤a₀.size)(h1:1≤nrem)(hB:SBase a₀ st)(hl:Lat a₀ (arrOf st) 1)
  (h:∀m st',SBase a₀ st'→1≤m→m≤nrem→Up (arrOf st') m→Lat a₀ (arrOf st') m→Q (some m) st'):wpS (model prog w) A E s (countRun' 0 nrem) Q st:=by
 rw[countRun0_eq]
 refine wpS_bind (asc h0 hn (JO 1) h1 hB (fun i j hij hj=>by omega) hl fun n hn1 hn2 hu hor=>?_)
 dsimp only
 by_cases c1:n=nrem
 ·rw[if_pos (by simpa using c1)]
  exact wpS_pure (h n st hB hn1 hn2 hu (hl.mono hn1))
 ·rw [if_neg (by simpa using c1)]
  have lt:K (arrOf st) n<K (arrOf st) (n-1):=hor.resolve_left c1
  by_cases c2:n > 1
  ·rw [if_pos c2]
   refine wpS_bind (wpS_ltK hB h0 (by omega) (by omega) ?_)
   by_cases c3:K (arrOf st) 0<K (arrOf st) (n-1)
   ·simp only[c3,decide_true,if_true]
    exact wpS_pure (h n st hB hn1 hn2 hu (hl.mono hn1))
   ·simp only[c3,decide_false,NS,if_false]
    have sz:n≤(arrOf st).size:=by rw[hB.size];omega
    have same:∀i,i<n→K (arrOf st) i=K (arrOf st) (n-1):=fun i hi=>by
     by_cases z:i=0
     ·subst z
      have:=(hu 0 (n-1) (by omega) (by omega)).le
      omega
     ·have a1:=(hu 0 i (by omega) hi).le
      by_cases z2:i=n-1
      ·rw[z2]
      ·have a2:=(hu i (n-1) (by omega) (by omega)).le
       omega
    refine wpS_bind (wpS_reverse (falls h0 hn (by omega) (hB.setArr (mirror_perm _ _ _ _)) (Fl.next (fun i j hij hj=>?_) (fun i hi=>?_) (khv sz (JO _) (hl.mono hn1))) h))
    ·show Lx (mirror (arrOf st) 0 n ((n-0)/2)) j i
     obtain⟨i',⟨k1,t1⟩,e1⟩:=kcG (i:=0) sz i
     obtain⟨j',⟨k2,t2⟩,e2⟩:=kcG (i:=0) sz j
     rw[if_pos (by omega)] at e1 e2
     have:=hu j' i' (by omega) (by omega)
     unfold Lx at this⊢
     rw[k1,k2,t1,t2]
     exact this
    ·show K (mirror (arrOf st) 0 n ((n-0)/2)) n<K (mirror (arrOf st) 0 n ((n-0)/2)) i
     obtain⟨i',⟨k1,_⟩,e1⟩:=kcG (i:=0) sz i
     obtain⟨n',⟨k2,_⟩,e2⟩:=kcG (i:=0) sz n
     rw[if_pos (by omega)] at e1
     rw[if_neg (by omega)] at e2
     subst e2
     rw[k1,k2,same i' (by omega)]
     exact lt
  ·rw[if_neg c2]
   have e:n=1:=by omega
   subst e
   refine falls h0 hn (by omega) hB (Fl.next (fun i j hij hj=>by omega) (fun i hi=>?_) hl) h
   have z:i=0:=by omega
   subst z
   exact lt
theorem insert{st:SortSt}{n ok:Nat}{Q:Bool→SortSt→Prop}(h0:IntKeys a₀)(hn:n≤a₀.size)(h1:1≤ok)(hok:ok≤n)(hB:SBase a₀ st)(hs:Up (arrOf st) ok)(hl:Lat a₀ (arrOf st) ok)
  (h:∀st',SBase a₀ st'→Up (arrOf st') n→Q true st'):wpS (model prog w) A E s (binarySort' 0 n ok) Q st:=by
 rw[binarySort'_eq]
 simp only[Nat.zero_add]
 refine wpS_bind (wpS_mono (wpS_forRange (I:=fun k c st'=>c=(none,())∧SBase a₀ st'∧Up (arrOf st') (min k n)∧Lat a₀ (arrOf st') (min k n)) (Q:=fun c st'=>c=(none,())∧SBase a₀ st'∧Up (arrOf st') n) ?turn ?over ?begin) ?behind)
 case behind=>
  rintro c st' ⟨rfl,hB',hu⟩
  exact wpS_pure (h st' hB' hu)
 case begin=>
  rw[show max ok 1=ok by omega,show min ok n=ok by omega]
  exact⟨rfl,hB,hs,hl⟩
 case over=>
  rintro c st' ⟨hc,hB',hu,_⟩
  refine⟨hc,hB',?_⟩
  rwa [show min (max (max ok 1) n) n=n by omega] at hu
 case turn=>
  rintro k c st' hak hkn ⟨rfl,hB',hu,hla⟩
  rw[show min k n=k by omega] at hu hla
  have hk:k<a₀.size:=by omega
  refine wpS_bind (wpS_mono (wpS_forRange (I:=fun x c st''=>st''=st'∧∃l r,c=(none,l,r)∧l≤r∧r≤k∧r-l≤k-x∧(∀i,i<l→K (arrOf st') i≤K (arrOf st') k)∧(∀i,r≤i→i<k→K (arrOf st') k<K (arrOf st') i))
   (Q:=fun c st''=>st''=st'∧∃l r,c=(none,l,r)∧l≤k∧(∀i,i<l→K (arrOf st') i≤K (arrOf st') k)∧(∀i,l≤i→i<k→K (arrOf st') k<K (arrOf st') i)) ?turn2 ?over2 ?begin2) ?behind2)
  case begin2=>exact⟨rfl,0,k,rfl,by omega,by omega,by omega,fun i hi=>by omega,fun i a b=>by omega⟩
  case over2=>
   rintro c st'' ⟨rfl,l,r,rfl,hlr,hrk,hm,lo,hi⟩
   have e:l=r:=by omega
   subst e
   exact⟨rfl,l,l,rfl,hrk,lo,hi⟩
  case turn2=>
   rintro x c st'' _ hxk ⟨rfl,l,r,rfl,hlr,hrk,hm,lo,hi⟩
   dsimp only
   by_cases c1:l≥r
   ·rw[if_pos c1]
    have e:l=r:=by omega
    subst e
    exact wpS_pure ⟨rfl,l,l,rfl,hrk,lo,hi⟩
   ·rw[if_neg c1]
    refine wpS_bind (wpS_ltK hB' h0 hk (by omega) ?_)
    by_cases c2:K (arrOf st'') k<K (arrOf st'') ((l+r)/2)
    ·simp only[c2,decide_true,if_true]
     refine wpS_pure ⟨rfl,l,(l+r)/2,rfl,by omega,by omega,by omega,lo,fun i a b=>?_⟩
     by_cases z:i=(l+r)/2
     ·rw[z];exact c2
     ·exact Int.lt_of_lt_of_le c2 (hu _ _ (by omega) b).le
    ·simp only[c2,decide_false,NS,if_false]
     refine wpS_pure ⟨rfl,(l+r)/2+1,r,rfl,by omega,by omega,by omega,fun i a=>?_,hi⟩
     by_cases z:i=(l+r)/2
     ·rw[z];omega
     ·exact Int.le_trans (hu i ((l+r)/2) (by omega) (by omega)).le (Int.not_lt.mp c2)
  case behind2=>
   rintro c st'' ⟨rfl,l,r,rfl,hlk,lo,hi⟩
   show wpS _ _ _ _ (do moveDown' k l;pure (ForInStep.yield (none,()))) _ _
   rw[moveDown'_eq]
   have hks:k<(arrOf st'').size:=by rw[hB'.size];exact hk
   refine wpS_bind (wpS_modify (wpS_pure ⟨rfl,hB'.setArr (bubble_perm _ _ _),?_,?_⟩))
   ·rw [show min (k+1) n=k+1 by omega]
    intro i j hij hj
    show Lx (bubble (arrOf st'') k (k-l)) i j
    obtain⟨i',⟨k1,t1⟩,e1⟩:=kiB hks (show k-l≤k by omega) i
    obtain⟨j',⟨k2,t2⟩,e2⟩:=kiB hks (show k-l≤k by omega) j
    rw[show k-(k-l)=l by omega] at e1 e2
    unfold Lx
    rw[k1,k2,t1,t2]
    by_cases z1:i=l
    ·rw[if_pos z1] at e1
     rw[if_neg (by omega),if_pos (by omega)] at e2
     subst e1
     exact .inl (hi j' (by omega) (by omega))
    ·rw[if_neg z1] at e1
     by_cases z2:j=l
     ·rw[if_pos z2] at e2
      rw[if_neg (by omega)] at e1
      subst e2
      have a1:=lo i' (by omega)
      have a2:=hla i' j' (by omega) (JO _) hk
      omega
     ·rw[if_neg z2] at e2
      refine hu i' j' ?_ ?_
      ·rw[e1,e2]
       repeat' split
       all_goals omega
      ·rw[e2]
       split <;> omega
   ·rw[show min (k+1) n=k+1 by omega]
    intro a b hab hkb hb
    show T (bubble (arrOf st'') k (k-l)) a<T (bubble (arrOf st'') k (k-l)) b
    obtain⟨a',⟨_,t1⟩,e1⟩:=kiB hks (show k-l≤k by omega) a
    obtain⟨b',⟨_,t2⟩,e2⟩:=kiB hks (show k-l≤k by omega) b
    rw[show k-(k-l)=l by omega] at e1 e2
    rw[if_neg (by omega),if_neg (by omega)] at e2
    subst e2
    rw[t1,t2]
    refine hla a' b' ?_ (by omega) hb
    rw[e1]
    repeat' split
    all_goals omega
noncomputable def Done(a₀:Array Keyed)(st:SortSt):Prop:=(arrOf st).Perm a₀∧failedOf st=none∧pendingOf st= #[(0,a₀.size,0)]∧Up (arrOf st) a₀.size
theorem done{st:SortSt}(hB:SBase a₀ st)(hu:Up (arrOf st) a₀.size):Done a₀ (setPending st ((pendingOf st).push (0,a₀.size,0))):=⟨hB.perm,hB.failed,by show(pendingOf st).push _=_;rw[hB.pend];rfl,hu⟩
theorem runs{st:SortSt}{Q:Unit→SortSt→Prop}(h0:IntKeys a₀)(hB:SBase a₀ st)(h2:2≤a₀.size)(h64:a₀.size<64)(hl:Lat a₀ (arrOf st) 1)
  (h:∀st',(arrOf st').Perm a₀→failedOf st'=none→Up (arrOf st') a₀.size→Q () st'):wpS (model prog w) A E s sortRuns' Q st:=by
 rw[sortRuns'_eq]
 refine wpS_bind (wpS_get ?_)
 dsimp only
 have mr:minRun' a₀.size a₀.size 0=a₀.size:=by
  obtain⟨f,hf⟩:∃f,a₀.size=f+1:=⟨a₀.size-1,by omega⟩
  have z:minRun' (f+1) a₀.size 0=a₀.size:=by rw[minRun'_succ,if_pos h64];rfl
  rwa [←hf] at z
 simp only[hB.size,mr]
 refine wpS_bind (wpS_mono (wpS_forRange (I:=fun x c st'=>(x=0∧c=(none,0)∧st'=st)∨(1≤x∧c=(none,a₀.size)∧Done a₀ st')) (Q:=fun c st'=>c=(none,a₀.size)∧Done a₀ st') ?turn ?over (.inl ⟨rfl,rfl,rfl⟩)) ?behind)
 case over=>
  rintro c st' (⟨hx,_,_⟩|⟨_,hc,hD⟩)
  ·omega
  ·exact⟨hc,hD⟩
 case turn=>
  rintro x c st' _ hx (⟨rfl,rfl,rfl⟩|⟨hx1,rfl,hD⟩)
  ·dsimp only
   rw[if_neg (by omega)]
   simp only[Nat.sub_zero,MJ,Nat.zero_add]
   refine wpS_bind (count h0 (JO _) (by omega) hB hl fun m st2 hB2 hm1 hm2 hu2 hl2=>?_)
   dsimp only
   by_cases c1:m<a₀.size
   ·rw[if_pos c1]
    refine wpS_bind (wpS_lift (wpAny_rule ⟨rfl,?_⟩))
    refine wpS_bind (insert h0 (JO _) hm1 hm2 hB2 hu2 hl2 fun st3 hB3 hu3=>?_)
    simp only[Bool.not_true,NS,if_false]
    refine wpS_bind (wpS_get ?_)
    have hb:(pendingOf st3).back?=none:=by rw[hB3.pend];rfl
    rw[hb]
    dsimp only
    exact wpS_bind (wpS_modify (wpS_pure (.inr ⟨by omega,rfl,done hB3 hu3⟩)))
   ·rw[if_neg c1]
    have e:m=a₀.size:=by omega
    subst e
    refine wpS_bind (wpS_get ?_)
    have hb:(pendingOf st2).back?=none:=by rw[hB2.pend];rfl
    rw[hb]
    dsimp only
    exact wpS_bind (wpS_modify (wpS_pure (.inr ⟨by omega,rfl,done hB2 hu2⟩)))
  ·dsimp only
   rw[if_pos (JO _)]
   exact wpS_pure ⟨rfl,hD⟩
 case behind=>
  rintro c st' ⟨rfl,hD⟩
  dsimp only
  refine wpS_bind (wpS_mono (wpS_forRange (I:=fun _ c st''=>st''=st'∧c=(none,())) (Q:=fun c st''=>st''=st'∧c=(none,())) ?_ (fun _ _ z=>z) ⟨rfl,rfl⟩) ?_)
  ·rintro x c st'' _ _ ⟨rfl,rfl⟩
   refine wpS_bind (wpS_get ?_)
   rw[if_pos (by rw[hD.2.2.1];exact JO 1)]
   exact wpS_pure ⟨rfl,rfl⟩
  ·rintro c st'' ⟨rfl,rfl⟩
   exact wpS_pure (h _ hD.1 hD.2.1 hD.2.2.2)
end
end Stb
namespace Stb
open PySem PyProof.Rows
structure SJ (J:Shared→Prop) (n0:Nat):Prop where
 sz:∀s,J s→n0≤s.heap.objs.size
 push:∀s c xs n,J s→J {s with heap:=s.heap.push (seqObj c xs n)}
 upd:∀s b g,J s→n0≤b→J {s with heap:=s.heap.update b (Obj.mapSeq g)}
noncomputable def Tells(J:Shared→Prop)(n0:Nat)(k:Int)(s:Shared)(v:Value)(s':Shared):Prop:=(∃t,v=.int k t)∧J s'∧∀b o,n0≤b→s.heap.get? b=some o→s'.heap.get? b=some o
noncomputable def Rows(keys:Array Value)(vs:List Value)(out:Array Value):Prop:=∃xs:Array Keyed,xs.Perm (keys.zip vs.toArray)∧Up xs xs.size∧out=xs.map (·.2)
section
variable {prog:Program} {w:World} {A:Around} {E:Value→Shared→Prop} {s:Shared} {J:Shared→Prop} {n0:Nat} {a kS:Addr} {vs:List Value} {kz:List Int} {keys:Array Value} {e e1:Nat} {P:PySem.Fin→Shared→Prop}
theorem tailK(S:SJ J n0)(hJ:J s)(hk:s.heap.get? kS=some (seqObj "list" keys e))(ha:s.heap.get? a=some (seqObj "list" #[] e1))(ne:kS≠a)(nk:n0≤kS)(na:n0≤a){st:SortSt}(hz:keys.size≤64)(hp:(arrOf st).Perm (keys.zip vs.toArray))(hu:Up (arrOf st) (arrOf st).size)
  (hf:failedOf st=none) (hv:vs.length≤64) (h:∀h' out c,J {s with heap:=h'}→h'.get? a=some (seqObj "list" out c)→Rows keys vs out→P (.done (.ret .none)) {s with heap:=h'}):wpAny (model prog w) A (ksk_tail a false e1 (.ref kS) st) P E s:=by
 have sz2:(arrOf st).size≤64:=by
  have hvs:vs.toArray.size=vs.length:=by simp
  rw[hp.size_eq,M1]
  omega
 have q1:=Heap.SameBut.update s.heap kS (Obj.mapSeq fun _=>(#[]:Array Value))
 have g1:(s.heap.update kS (Obj.mapSeq fun _=>(#[]:Array Value))).get? a=some (seqObj "list" #[] e1):=(q1.2 a ne.symm).trans ha
 have J1:=S.upd s kS (fun _=>#[]) hJ nk
 have J2:=S.upd _ a (fun _=>(arrOf st).map (·.2)) J1 na
 unfold ksk_tail
 try dsimp only
 refine wpAny_bind (listUpdate_at hk rfl ?_ (by rw[sizeLine_eq];omega) (Nw _))
 refine wpAny_bind (wpAny_letGo ?_)
 refine wpAny_bind (seqEpoch_at g1 rfl ?_)
 refine wpAny_bind (listUpdate_at g1 rfl ?_ (Nw _) (by simp only[NS,if_false,Array.size_map];rw[sizeLine_eq];omega))
 rw[hf]
 simp only[bne_self_eq_false,NS,if_false]
 exact wpAny_pure (h _ _ _ J2 (get?_update_seq g1 fun _=>(arrOf st).map (·.2)) ⟨arrOf st,hp,hu,rfl⟩)
theorem zip_T{keys:Array Value}{vs:List Value}{i:Nat}(hl:keys.size=vs.length):T (keys.zip vs.toArray) i=match vs[i]? with|some v=>numOf v|none=>0:=by
 unfold T
 have hvs:vs.toArray.size=vs.length:=by simp
 cases ev:vs[i]? with
 |none=>
  have hi:vs.length≤i:=Ek.mp ev
  have e:(keys.zip vs.toArray)[i]?=none:=Array.getElem?_eq_none (by rw[M1];omega)
  rw[e]
 | some v=>
  have hi:i<vs.length:=(JX.mp ev).1
  have hz:i<(keys.zip vs.toArray).size:=by rw[M1];omega
  have ev':vs[i]=v:=by
   rw[N1 hi] at ev
   exact Option.some.inj ev
  have e:(keys.zip vs.toArray)[i]?=some (keys[i]'(by omega),vs[i]):=by
   rw[EE hz]
   simp
  rw[e,ev']
theorem endK(S:SJ J n0)(hJ:J s)(hk:s.heap.get? kS=some (seqObj "list" keys e))(ha:s.heap.get? a=some (seqObj "list" #[] e1))(ne:kS≠a)(nk:n0≤kS)(na:n0≤a)(hi:IntsAre keys.toList kz)(hl:keys.size=vs.length)(h64:vs.length<64)
  (up:∀(i j:Nat)(x y:Value),i<j→vs[i]?=some x→vs[j]?=some y→numOf x<numOf y)
  (h:∀h' out c,J {s with heap:=h'}→h'.get? a=some (seqObj "list" out c)→Rows keys vs out→P (.done (.ret .none)) {s with heap:=h'}):wpAny (model prog w) A (ksk_end a false vs.toArray e1 (.ref kS) keys) P E s:=by
 have hvs:vs.toArray.size=vs.length:=by simp
 have zs:(keys.zip vs.toArray).size=vs.length:=by rw[M1];omega
 unfold ksk_end
 try dsimp only
 simp only[NS,if_false]
 by_cases h2:vs.toArray.size<2
 ·rw[if_pos h2,if_pos h2]
  refine wpAny_bind (wpAny_pure ?_)
  rw[StateT.run_pure]
  refine wpAny_bind (wpAny_pure ?_)
  try dsimp only
  refine tailK (st:=SortSt.mk' general' (keys.zip vs.toArray) #[] 7 none) S hJ hk ha ne nk na (by omega) (Array.Perm.refl _) ?_ rfl (by omega) h
  intro i j hij hj
  have hj2:j<(keys.zip vs.toArray).size:=hj
  rw[zs] at hj2
  rw[Nh] at h2
  omega
 ·rw[if_neg h2,if_neg h2]
  rw[Nh] at h2
  rw[ksk_kind hi (by rw[hl];omega)]
  refine wpAny_bind (wpAny_pure ?_)
  have lat:Lat (keys.zip vs.toArray) (keys.zip vs.toArray) 1:=fun i j hij _ hj=>by
   rw[zs] at hj
   rw[zip_T hl,zip_T hl,N1 (show i<vs.length by omega),N1 hj]
   exact up i j _ _ hij (N1 (show i<vs.length by omega)) (N1 hj)
  refine wpAny_bind (wpAny_mono (runs (a₀:=keys.zip vs.toArray) (st:=SortSt.mk' oneType' (keys.zip vs.toArray) #[] 7 none) (Q:=fun _ st'=>(arrOf st').Perm (keys.zip vs.toArray)∧failedOf st'=none∧Up (arrOf st') (keys.zip vs.toArray).size)
   (ksk_intKeys hi) ⟨Array.Perm.refl _,rfl,rfl,rfl⟩ (by rw[zs];omega) (by rw[zs];exact h64) lat fun st' b1 b2 b3=>⟨b1,b2,b3⟩) ?_ fun _ _ z=>z)
  rintro⟨⟨⟩,st'⟩ s' ⟨rfl,b1,b2,b3⟩
  try dsimp only
  exact tailK S hJ hk ha ne nk na (by omega) b1 (by rw[b1.size_eq];exact b3) b2 (by omega) h
theorem restK{f:Value}(S:SJ J n0)(hJ:J s)(hk:s.heap.get? kS=some (seqObj "list" #[] 0))(ha:s.heap.get? a=some (seqObj "list" #[] e1))(ne:kS≠a)(nk:n0≤kS)(na:n0≤a)(hl:kz.length=vs.length)(h64:vs.length<64)
  (up:∀(i j:Nat)(x y:Value),i<j→vs[i]?=some x→vs[j]?=some y→numOf x<numOf y)
  (turn:∀(i:Nat)(v:Value)(k:Int),vs[i]?=some v→kz[i]?=some k→∀s',J s'→wpAny (model prog w) A (call f [v]) (Tells J n0 k s') (fun _ _=>False) s')
  (h:∀s' keys out c,J s'→s'.heap.get? a=some (seqObj "list" out c)→IntsAre keys.toList kz→keys.size=vs.length→Rows keys vs out→P (.done (.ret .none)) s'):wpAny (model prog w) A (ksk_rest a f false vs.toArray e1 (.ref kS)) P E s:=by
 unfold ksk_rest
 refine wpAny_bind (wpAny_rule ?_)
 first
  |rw[List.forIn_toArray]
  |rw[←Array.forIn_toList]
 refine wpAny_bind (ksk_fold (fun i s'=>J s'∧∃kA e,s'.heap.get? kS=some (seqObj "list" kA e)∧s'.heap.get? a=some (seqObj "list" #[] e1)∧IntsAre kA.toList (kz.take i)) vs 0 s ⟨hJ,#[],0,hk,ha,by simpa using IntsAre.nil⟩ ?turnP ?doneP)
 case turnP=>
  rintro j x s' hx ⟨J',kA,e,g1,g2,hi⟩
  simp only[Nat.zero_add] at hi⊢
  have hj:j<vs.length:=(JX.mp hx).1
  obtain⟨k,ek⟩:∃k,kz[j]?=some k:=⟨_,N1 (by omega)⟩
  have lz:kA.size≤vs.length:=by
   have h1:=hi.length
   rw[Mt,Nl] at h1
   omega
  refine wpAny_bind (wpAny_attempt (wpAny_mono (turn j x k hx ek s' J') (fun v s'' hT=>?_) fun _ _ z=>z.elim))
  obtain⟨⟨t,rfl⟩,J2,kp⟩:=hT
  try dsimp only
  have g1':=kp _ _ nk g1
  have g2':=kp _ _ na g2
  have q1:=Heap.SameBut.update s''.heap kS (Obj.mapSeq (·.push (.int k t)))
  refine wpAny_bind (listUpdate_at g1' rfl ?_ (by rw[sizeLine_eq];omega) (JR (MT (Array.size_push ..)) (by rw[sizeLine_eq];omega)))
  have et:kz.take (j+1)=kz.take j++[k]:=by rw[NY,ek];simp
  have ep:(kA.push (Value.int k t)).toList=kA.toList++[Value.int k t]:=by simp
  exact wpAny_pure ⟨rfl,S.upd _ kS _ J2 nk,kA.push (.int k t),_,get?_update_seq g1' (·.push (.int k t)),(q1.2 a ne.symm).trans g2',by rw[ep,et];exact ksk_snoc hi⟩
 case doneP=>
  rintro s' ⟨J',kA,e,g1,g2,hi⟩
  have e3:kz.take (0+vs.length)=kz:=Mj (by omega)
  rw[e3] at hi
  have lk:kA.size=vs.length:=by
   have:=hi.length
   rw[Mt] at this
   omega
  try dsimp only
  refine wpAny_bind (listItems_at g1 rfl ?_)
  exact endK S J' g1 g2 ne nk na hi lk h64 up fun h' out c z1 z2 z3=>h _ kA out c z1 z2 hi lk z3
theorem sortK{f:Value}{n:Nat}(S:SJ J n0)(hJ:J s)(ho:s.heap.get? a=some (seqObj "list" vs.toArray n))(na:n0≤a)(hl:kz.length=vs.length)(h64:vs.length<64)
  (up:∀(i j:Nat)(x y:Value),i<j→vs[i]?=some x→vs[j]?=some y→numOf x<numOf y)
  (turn:∀(i:Nat)(v:Value)(k:Int),vs[i]?=some v→kz[i]?=some k→∀s',J s'→wpAny (model prog w) A (call f [v]) (Tells J n0 k s') (fun _ _=>False) s')
  (h:∀s' keys out c,J s'→s'.heap.get? a=some (seqObj "list" out c)→IntsAre keys.toList kz→keys.size=vs.length→Rows keys vs out→P (.done (.ret .none)) s'):wpAny (model prog w) A (ksk_tree a f false) P E s:=by
 have la:a<s.heap.objs.size:=Heap.lt_size ho
 have J1:=S.upd s a (fun _=>#[]) hJ na
 have J2:=S.push _ "tuple" vs.toArray 0 J1
 have J3:=S.push _ "list" #[] 0 J2
 obtain⟨e1,g1⟩:∃e1,(s.heap.update a (Obj.mapSeq fun _=>(#[]:Array Value))).get? a=some (seqObj "list" #[] e1):=⟨_,get?_update_seq ho fun _=>#[]⟩
 have sz:((s.heap.update a (Obj.mapSeq fun _=>(#[]:Array Value))).push (seqObj "tuple" vs.toArray 0)).objs.size=s.heap.objs.size+1:=by rw[size_push',Heap.size_update]
 have n0s:=S.sz s hJ
 unfold ksk_tree
 refine wpAny_bind (listItems_at ho rfl ?_)
 refine wpAny_bind (listUpdate_at ho rfl ?_ (by rw[Nh,sizeLine_eq];omega) (Nw _))
 refine wpAny_bind (seqEpoch_at g1 rfl ?_)
 refine wpAny_bind (wpAny_newTuple ?_ (by show vs.length≤_;rw[sizeLine_eq];omega))
 refine wpAny_bind (wpAny_newList ?_ (Nw _))
 refine wpAny_holding ?_
 refine restK (s:={s with heap:=((s.heap.update a (Obj.mapSeq fun _=>(#[]:Array Value))).push (seqObj "tuple" vs.toArray 0)).push (seqObj "list" #[] 0)}) (kS:=((s.heap.update a (Obj.mapSeq fun _=>(#[]:Array Value))).push (seqObj "tuple" vs.toArray 0)).objs.size)
  S J3 (Heap.get?_push_size _ rfl) (Heap.get?_push_of_some _ (Heap.get?_push_of_some _ g1)) (by rw[sz];exact NN (Nat.lt_succ_of_lt la)) (by rw[sz];omega) na hl h64 up turn h
end
section
variable {prog:Program} {w:World} {A:Around} {E:Value→Shared→Prop} {s:Shared} {J:Shared→Prop} {n0:Nat} {vs:List Value} {kz:List Int} {Q:Value→Shared→Prop}
theorem sortedK{l f:Addr}(S:SJ J n0)(hJ:J s)(hL:s.heap.IsList l vs.toArray)(hl:kz.length=vs.length)(h64:vs.length<64)
  (up:∀(i j:Nat)(x y:Value),i<j→vs[i]?=some x→vs[j]?=some y→numOf x<numOf y)
  (turn:∀(i:Nat)(v:Value)(k:Int),vs[i]?=some v→kz[i]?=some k→∀s',J s'→wpAny (model prog w) A.in1.in1 (call (.ref f) [v]) (Tells J n0 k s') (fun _ _=>False) s')
  (h:∀s' D keys out c,n0≤D→J s'→s'.heap.get? D=some (seqObj "list" out c)→IntsAre keys.toList kz→keys.size=vs.length→Rows keys vs out→Q (.ref D) s'):wpAny (model prog w) A (call (.builtin "sorted") [.ref l] [(Str.ofString "key", .ref f)]) Q E s:=by
 refine call_function_entry_kw kind_sorted plain_sorted entry_sorted (ksk_s1 _ _) ?_
 unfold Builtin.«sorted»
 refine wpAny_bind (m:=checkCount "sorted" 1 1 _) (wpAny_pure ?_)
 refine wpAny_bind (collect_list hL ?_ (by rw[sizeLine_eq];omega))
 refine wpAny_bind (wpAny_newList ?_ (by rw[sizeLine_eq];omega))
 have n0s:=S.sz s hJ
 have J1:=S.push s "list" #[] 0 hJ
 have J2:=S.upd _ s.heap.objs.size (· ++vs.toArray) J1 n0s
 have J3:=S.push _ "list" vs.toArray 0 J2
 have sz:((s.heap.push (seqObj "list" #[] 0)).update s.heap.objs.size (Obj.mapSeq (· ++vs.toArray))).objs.size=s.heap.objs.size+1:=by rw[Heap.size_update,size_push']
 have g1:(((s.heap.push (seqObj "list" #[] 0)).update s.heap.objs.size (Obj.mapSeq (· ++vs.toArray))).push (seqObj "list" vs.toArray 0)).get? (s.heap.objs.size+1)=some (seqObj "list" vs.toArray 0):=by
  rw[←sz]
  exact Heap.get?_push_size _ rfl
 show wpAny _ _ _ _ _ {s with heap:=((s.heap.push (seqObj "list" #[] 0)).update s.heap.objs.size (Obj.mapSeq (· ++vs.toArray))).push (seqObj "list" vs.toArray 0)}
 rw[sz]
 refine wpAny_bind (wpAny_holding (wpAny_call_entry_kw slot_list_sort ⟨_,g1,rfl⟩ entry_list_sort ?inner (ksk_l1 _ _)))
 case inner=>
  show wpAny (model prog w) A.in1.in1 (Builtin.«list.sort» ⟨[.ref (s.heap.objs.size+1)],[(Str.ofString "key", .ref f)]⟩) _ _ _
  rw[ksk_t1]
  refine sortK (s:={s with heap:=((s.heap.push (seqObj "list" #[] 0)).update s.heap.objs.size (Obj.mapSeq (· ++vs.toArray))).push (seqObj "list" vs.toArray 0)}) S J3 g1 (by omega) hl h64 up turn fun s' keys out c z1 z2 z3 z4 z5=>⟨_,rfl,?_⟩
  exact wpAny_pure ⟨_,rfl,h s' _ keys out c (by omega) z1 z2 z3 z4 z5⟩
end
end Stb
namespace L2
open PySem PySem.Spec PyProof.Rows
structure kdH (X:Cx) (scope:Scope) (x:Str) (N:List Str) (cap:List (Option Nat)):Prop where
 S:CompScope X scope N (none::cap)
 hd:N[0]?=some x
 par:scope.names.lookup x=some .local
 co:scope.isCoroutine=false
 gen:scope.isGenerator=false
 nocell:∀y∈scope.names,y.2≠.cell
noncomputable abbrev kjX(X:Cx)(scope:Scope)(qual:Str)(L f c:Addr):Env:=PySem.W.envX qual scope L f (.ref c) (closL X.env.cells scope.names [])
noncomputable def cxL(X:Cx)(A:Around)(scope:Scope)(N:List Str)(qual:Str)(f c:Addr)(s:Shared)(H:Hp):Cx:=
 {X with A:=A.deeper (kjX X scope qual s.heap.objs.size f c),N:=N,s₀:=s,H₀:=H,env:=kjX X scope qual s.heap.objs.size f c,outer:=X.stack,stack:=kjX X scope qual s.heap.objs.size f c::X.stack,ex:=[],fn:=fun _=>false,calm:=true,pn:=[],xe:=fun _ _=>False}
section
variable {X:Cx} {A:Around} {scope:Scope} {x:Str} {N:List Str} {cap:List (Option Nat)} {pins:List (Addr×Obj)} {σ:St} {H:Hp} {s s1:Shared} {qual:Str} {f c:Addr}
theorem kcV(S:kdH X scope x N cap)(I:Inv X pins σ H s){y:Str}{a:Addr}(h:(closL X.env.cells scope.names []).lookup y=some a):X.env.cells.lookup y=some a:=by
 rcases keq _ _ h with⟨h1,h2⟩|h1
 ·obtain⟨a',ea⟩:=I.ok.has y (S.S.free _ h1 rfl)
  rw[ea] at h2
  rw[h2]
  exact ea
 ·cases h1
theorem kmq(S:kdH X scope x N cap)(I:Inv X pins σ H s)(hfr:A.frames=some X.stack)(hh:A.handled=none){v:V}{u:Value}(r:RelV v u){h1:Heap}{t:Nat}(hns:h1.Ns s.heap.objs.size fun y=>[(x,u)].reverse.lookup y)(hk:∀b o,s.heap.get? b=some o→h1.get? b=some o):
  Inv (cxL X A scope N qual f c s H) [] (some v::capσ cap σ) H {s with heap:=h1,toks:=t}:=by
 have noA:∀b:Addr,b∉(cxL X A scope N qual f c s H).ex:=fun b z=>absurd (show b∈([]:List Addr) from z) (by simp)
 have od:∀{y:Str}{a:Addr},X.env.cells.lookup y=some a→a<s.heap.objs.size:=fun {y a} h=>let⟨_,q⟩:=I.cell y a h;q.lt
 refine⟨⟨I.ok.mod,S.S.kind,rfl,rfl,JO _,fun y z a e1 e2=>I.ok.inj y z a (kcV S I e1) (kcV S I e2),fun y hy=>?_,fun y a e1 _=>?_,fun _=>hh,Around.frames_deeper hfr, .inr ⟨rfl,rfl⟩,fun b z=>absurd z (noA b),I.bs,JR I.ok.bsz I.sz,fun b _ _=>noA b,fun b z=>absurd z (noA b),I.stack,I.stkFree⟩,
  rfl,I.bare,Un.kept hk,⟨_,hns,fun j y w e1 e2 e3=>?_⟩,fun y a e=>?_,I.hok.fresh (JO _),fun y a e=>I.freeC y a (kcV S I e),fun p hp=>absurd (show p∈([]:List (Addr×Obj)) from hp) (by simp),I.hok.kept hk,?_⟩
 ·have hy':scope.names.lookup y=some .cell∨scope.names.lookup y=some .free:=hy
  rcases hy' with q|q
  ·exact absurd rfl (S.nocell _ (PySem.mem_of_lookup q))
  ·exact kcZ (cells:=X.env.cells) scope.names [] (.inl (PySem.mem_of_lookup q))
 ·cases(show false=true from e1)
 ·cases j with
  | zero=>
   have ex:y=x:=by
    have e1':N[0]?=some y:=e1
    rw[S.hd] at e1'
    exact(Option.some.inj e1').symm
   have ev:w=v:=by
    have e2':some (some v)=some (some w):=e2
    exact(Option.some.inj (Option.some.inj e2')).symm
   subst ex ev
   refine⟨u,r, .inl ⟨S.par,?_⟩⟩
   simp
  | succ j=>
   have e2':(capσ cap σ)[j]?=some (some w):=by simpa using e2
   have e2'':(cap.map fun o=>match o with|some i=>(σ[i]?).getD none|none=>none)[j]?=some (some w):=e2'
   rw[JY] at e2''
   cases ec:cap[j]? with
   |none=>rw[ec] at e2'';cases e2''
   | some oi=>
    rw[ec] at e2''
    cases oi with
    |none=>cases e2''
    | some i=>
     have e4:(σ[i]?).getD none=some w:=Option.some.inj e2''
     have e5: σ[i]?=some (some w):=by
      cases q: σ[i]? with
      |none=>rw[q] at e4;cases e4
      |some w'=>rw[q] at e4;exact congrArg some e4
     obtain⟨q1,hf,_⟩:=S.S.cap (j+1) i y (by simpa using ec) e1
     have hm:=PySem.mem_of_lookup hf
     have q2:=S.S.free _ hm rfl
     obtain⟨mo,_,hl⟩:=I.loc
     obtain⟨u',ru,lk⟩:=hl i y w q1 e5 (.inr q2)
     refine⟨u',ru, .inr ⟨.inr hf,?_⟩⟩
     rcases lk with⟨k1,_⟩|⟨_,a,ea,z⟩
     ·have k1':X.env.scope.names.lookup y=some .local:=k1
      rcases q2 with q2|q2 <;> rw[q2] at k1' <;> cases k1'
     ·obtain⟨a',ea2⟩:=kcZ (cells:=X.env.cells) scope.names [] (.inl hm)
      have e6:=kcV S I ea2
      rw[ea] at e6
      have e7:a=a':=Option.some.inj e6
      subst e7
      obtain⟨oc,ho,hd⟩:=z
      exact⟨a,ea2,oc,hk _ _ ho,hd⟩
 ·obtain⟨w,oc,ho,hd⟩:=I.cell y a (kcV S I e)
  exact⟨w,oc,hk _ _ ho,hd⟩
 ·have:=S.S.len
  show(some v::capσ cap σ).length=N.length
  rw[←this,Nq,Nq]
  unfold capσ
  rw[JM]
theorem kkY{name:Str}{params:Arguments}{body:Expr}{pm ctv:Value}{te:TE}{v:V}{u:Value}{Q:VK}(S:kdH X scope x N cap)(I:Inv X pins σ H s)(hfr:A.frames=some X.stack)(hh:A.handled=none)(hdp:A.depth<recursionLimit)
  (ho:s.heap.get? f=some (M3 name qual params body scope (closL X.env.cells scope.names []) pm c ctv)) (hcd:s.heap.CodeRec (.ref c) qual)
  (hbind:bindArgs (PySem.W.kla_fn name qual params body scope (closL X.env.cells scope.names []) pm (.ref c) ctv) ⟨[u],[]⟩=pure [(x,u)]) (r:RelV v u) (he:PE (cxL X A scope N qual f c s H) body te) (hq:te (some v::capσ cap σ) H Q):
  wpAny (model X.prog X.w) A (call (.ref f) [u]) (fun w' s'=>∃v' H',Inv X pins σ H' s'∧RelV v' w'∧Q v' H'∧Un (frs X.stack) [] H H' s.heap s'.heap∧s.heap.objs.size≤s'.heap.objs.size) (fun _ _=>False) s:=by
 refine wpAny_call (PySem.W.kla_callFunE hdp ho rfl S.co S.gen rfl hcd ?_)
 rw[hbind]
 refine wpAny_pure (wpAny_newFunctionEnv S.nocell (fun y hy=>?_) (fun h1 hns hsb=>⟨I.nolimit.fresh _ hsb,?_⟩) S.S.kind)
 ·rw[N3] at hy
  subst hy
  exact S.par
 have hk:∀b o,s.heap.get? b=some o→h1.get? b=some o:=fun b o e=>hsb.extBut b o (Nk (Heap.lt_size e)) (Heap.get?_push_of_some _ e)
 have J:=kmq (A:=A) (qual:=qual) (f:=f) (c:=c) (t:=s.toks+1) S I hfr hh r hns hk
 refine PySem.W.kla_codeExpr (wpAny_mono (he [] _ _ _ Q J hq) (fun w' s' hw=>?_) fun _ _ z=>z.elim)
 obtain⟨v',H',J',rv,qv⟩:=hw
 exact⟨v',H',I.call' (ch:=[]) J'.os J'.base J'.hok J'.bare (fun b hb=>by simp at hb),rv,qv,J'.base,J'.sz⟩
end
end L2
namespace L2
open PySem PySem.Spec PyProof.Rows
noncomputable def CodeO(c:Addr)(qual:Str):HO:=.ext fun h=>h.CodeRec (.ref c) qual
noncomputable def lamN(p:Pos):Str:=if p.col=38 then "first_use.<locals>.<lambda>" else "falling_groups.<locals>.<lambda>"
def kkZ{p p':Pos}(h:p.col=p'.col):lamN p=lamN p':=by unfold lamN;rw[h]
noncomputable def TbAt(P:Addr)(H:Hp):Prop:=∃ps:Array Value,H P=some (.tbl ps)∧TriplesOk ps.toList∧∀pos c,codeAmong pos ps.toList=some c→∃c',c=.ref c'∧H c'=some (CodeO c' (lamN pos))
structure Grew (P:Addr) (H H':Hp):Prop where
 kp:∀b o,b≠P→H b=some o→H' b=some o
 tb:TbAt P H'
theorem kku{pos:Pos}{a b:Int}{c:Value}(l:List Value)(h:TriplesOk l){x:Value}(e:codeAmong pos (l++[rawInt a,rawInt b,c])=some x):codeAmong pos l=some x∨(x=c∧b=pos.col):=by
 fun_induction TriplesOk l with
 |case1=>
  right
  unfold rawInt codeAmong at e
  simp only[NL] at e
  split at e
  next hc=>exact⟨(Option.some.inj e).symm,by simpa using(Bool.and_eq_true_iff.mp hc).2⟩
  ·simp[codeAmong] at e
 | case2 n t m u d rest ih=>
  simp only[MK,codeAmong] at e⊢
  split at e
  ·left
   rename_i hc
   rw[if_pos hc]
   exact e
  ·rename_i hc
   rw[if_neg hc]
   exact ih h e
 |case3=>exact h.elim
noncomputable def CodeK(K:JN)(c P:Addr):Prop:=
 ∃o vs file tf flags tg inF text tt,K.lookup c=some o∧o.cls=.type "code"∧o.data=.fields vs∧vs[11]?=some (.ref P)∧vs.getD 11 .none=.ref P∧vs.getD 18 .none=.str file tf∧vs.getD 7 .none=.int flags tg∧vs.getD 9 .none=.bool inF∧vs.getD 10 .none=.int text tt∧c≠P
def CodeK.hd{K:JN}{c P:Addr}{h:Heap}(x:CodeK K c P)(X:K.In h):PySem.W.CodeHd h c P:=by
 obtain⟨o,vs,file,tf,flags,tg,inF,text,tt,e,r⟩:=x
 exact⟨o,vs,file,tf,flags,tg,inF,text,tt,X _ _ e,r⟩
noncomputable def BltM(mg:Str→Option Value)(base:Heap):Prop:=∃bm ob,mg "__builtins__"=some (.ref bm)∧bm≠builtinsNs∧base.get? bm=some ob∧ob.cls=.type "module"∧ob.dict=some builtinsNs∧ob.data=.plain
section
variable {X:Cx} {scope:Scope} {x:Str} {N:List Str} {cap:List (Option Nat)} {pins:List (Addr×Obj)} {σ:St} {H:Hp} {s:Shared} {c0 P:Addr} {params:Arguments} {body:Expr} {lpos:Pos}
theorem kkX{E:Value→Shared→Prop}{Q:Value→Shared→Prop}(S:kdH X scope x N cap)(I:Inv X pins σ H s)(hcode:X.env.code=.ref c0)(CK:CodeK X.K c0 P)(hB:BltM X.mg X.base)(TB:TbAt P H)(hq:X.env.qual++ "<lambda>"=(lamN lpos))(hdef:defaultsOf params X.env=([],[]))
  (h:∀(s':Shared)(H':Hp)(f c:Addr)(pm ctv:Value),Inv X pins σ H' s'→Grew P H H'→s'.heap.get? f=some (M3 "<lambda>" (lamN lpos) params body scope (closL X.env.cells scope.names []) pm c ctv)→H' f=none→s.heap.objs.size≤f→(∀b,s.heap.objs.size≤b→s'.heap.objs.size≤b→H' b=none)→H' c=some (CodeO c (lamN lpos))→Q (.ref f) s'):
  wpAny (model X.prog X.w) X.A (eval (.Lambda params body scope lpos) X.env) Q E s:=by
 obtain⟨ps,eP,ht,hor⟩:=TB
 have hP:s.heap.get? P=some (M4 ps):=(show ObjOk X.prog X.w H s.heap P (.tbl ps) from I.hok P _ eP)
 have hg:=I.mod.glob.keeps I.bk
 have nbP:∀b o,X.base.get? b=some o→b≠P:=fun b o e z=>by
  have:=(I.bs b o e).2
  rw[z,eP] at this
  cases this
 have hgP:mainGlobals≠P:=by
  obtain⟨o,_,_,e,_⟩:=I.mod.glob
  exact nbP _ o e
 have hb:s.heap.BuiltinsAt X.mg P:=by
  obtain⟨bm,ob,b1,b2,b3,b4,b5,b6⟩:=hB
  refine⟨bm,ob,b1,b2,fun z=>?_,nbP _ ob b3,I.bk _ _ b3,b4,b5,b6⟩
  obtain⟨o,es,ep,e,hd,_⟩:=I.mod.glob
  rw[←z,b3] at e
  cases e
  rw[b6] at hd
  cases hd
 have CH:=CK.hd I.kIn
 refine PySem.W.kla_eval hdef ?_
 rw[hq]
 cases hor':codeAmong lpos ps.toList with
 | none=>
  have hnf:=hor'
  refine PySem.W.kla_makeFunction (mg:=X.mg) (kcY S.S I) I.ok.glob hg hcode CH hP ht hnf hgP hb fun c' ctv h' tk hx hge hlt hrec htb=>?_
  have hc0:H c'=none:=I.hok.fresh hge
  have nPc:P≠c':=kag eP hc0
  have szP:P<s.heap.objs.size:=Heap.lt_size hP
  generalize hob:M3 "<lambda>" (lamN lpos) params body scope (closL X.env.cells scope.names []) ((X.mg "__name__").getD .none) c' ctv=ob
  have k2:∀b o,b≠P→s.heap.get? b=some o→(h'.push ob).get? b=some o:=fun b o hbp e=>Heap.get?_push_of_some _ (hx b o hbp e)
  have nN:∀{b:Addr},H b=none→b≠P:=fun {b} n z=>by rw[z,eP] at n;cases n
  have at2:∀{b:Addr},b≠P→b≠c'→(upd (upd H P (.tbl (ps++ #[rawInt lpos.line,rawInt lpos.col, .ref c']))) c' (CodeO c' (lamN lpos))) b=H b:=fun {b} h1 h2=>by rw[kaj h2,kaj h1]
  have eP2:(upd (upd H P (.tbl (ps++ #[rawInt lpos.line,rawInt lpos.col, .ref c']))) c' (CodeO c' (lamN lpos))) P=some (.tbl (ps++ #[rawInt lpos.line,rawInt lpos.col, .ref c'])):=by rw[kaj nPc,kad]
  have ec2:(upd (upd H P (.tbl (ps++ #[rawInt lpos.line,rawInt lpos.col, .ref c']))) c' (CodeO c' (lamN lpos))) c'=some (CodeO c' (lamN lpos)):=kad
  have fresh2:∀b,s.heap.objs.size≤b→(h'.push ob).objs.size≤b→(upd (upd H P (.tbl (ps++ #[rawInt lpos.line,rawInt lpos.col, .ref c']))) c' (CodeO c' (lamN lpos))) b=none:=fun b h1 h2=>by
   rw[Heap.size_push] at h2
   rw[at2 (NN (Nj szP h1)) (NN (Nj hlt (Nat.le_of_succ_le h2)))]
   exact I.hok.fresh h1
  have ff:(upd (upd H P (.tbl (ps++ #[rawInt lpos.line,rawInt lpos.col, .ref c']))) c' (CodeO c' (lamN lpos))) h'.objs.size=none:=by
   have h1:s.heap.objs.size≤h'.objs.size:=JR hge (Nc hlt)
   rw[at2 (NN (Nj szP h1)) (NN hlt)]
   exact I.hok.fresh h1
  generalize upd (upd H P (.tbl (ps++ #[rawInt lpos.line,rawInt lpos.col, .ref c']))) c' (CodeO c' (lamN lpos))=H2 at *
  have un:Un X.fs [] H H2 s.heap (h'.push ob):=by
   refine⟨fun b o e n _ _=>k2 b o (nN n) e,fun b o e n _ _=>⟨o.slots,k2 b o (nN n) e⟩,fun b o e n _=>?_,fun b o e _=>?_,fun b xs e=>?_,fun b o u e=>?_,fun b qs e=>?_⟩
   ·rw[at2 (nN n) (Nk (Nj (Heap.lt_size e) hge))]
    exact n
   ·by_cases hbp:b=P
    ·subst hbp
     exact⟨_,Heap.get?_push_of_some _ htb⟩
    ·exact⟨o,k2 b o hbp e⟩
   ·rw[at2 (ne_of e eP (by intro z;cases z)) (kag e hc0)]
    exact e
   ·rw[at2 (ne_of e eP (by intro z;cases z)) (kag e hc0)]
    exact e
   ·by_cases hbp:b=P
    ·subst hbp
     rw[eP] at e
     cases e
     exact⟨_,eP2⟩
    ·refine⟨#[],?_⟩
     rw[at2 hbp (kag e hc0),e]
     simp
  have hok2:HOk X.prog X.w H2 (h'.push ob):=fun b u e=>by
   by_cases hbp:b=P
   ·subst hbp
    rw[eP2] at e
    cases e
    exact(show(h'.push ob).get? b=some _ from Heap.get?_push_of_some _ htb)
   ·by_cases hbc:b=c'
    ·subst hbc
     rw[ec2] at e
     cases e
     obtain⟨cc,oc,vs,t,e1,e2,e3,e4⟩:=hrec
     cases e1
     refine(show ObjOk X.prog X.w H2 (h'.push ob) b (CodeO b (lamN lpos)) from⟨⟨b,oc,vs,t,rfl,Heap.get?_push_of_some _ e2,e3,e4⟩,⟨oc,Heap.get?_push_of_some _ e2⟩,fun h1 h2 q k=>?_⟩)
     obtain⟨c3,o3,vs3,t3,z1,z2,z3,z4⟩:=q
     cases z1
     exact⟨b,o3,vs3,t3,rfl,k _ z2,z3,z4⟩
    ·rw[at2 hbp hbc] at e
     have nown:∀d y,H d=some (.own y)→d≠P∧d≠c':=fun d y r=>⟨ne_of r eP (by intro z;cases z),kag r hc0⟩
     refine(I.hok b u e).stay (fun d v hd r=>k2 d v ?_ r) (fun d r=>by rw[at2 (nown d b r).1 (nown d b r).2];exact r) fun d xs r=>by rw[at2 (ne_of r eP (by intro z;cases z)) (kag r hc0)];exact r
     rcases hd with rfl|hd
     ·exact hbp
     ·exact(nown d b hd).1
  subst hob
  refine h _ H2 h'.objs.size c' _ ctv (I.un (t':=tk) un hok2) ⟨fun b o hbp e=>by rw[at2 hbp (kag e hc0)];exact e,_,eP2,?_,fun pos d ed=>?_⟩ (Heap.get?_push_size _ rfl) ff (JR hge (Nc hlt)) fresh2 ec2
  ·have:=TriplesOk_snoc lpos.line lpos.col (.ref c') ps.toList ht
   simpa using this
  ·have ed':codeAmong pos (ps.toList++[rawInt lpos.line,rawInt lpos.col, .ref c'])=some d:=by simpa using ed
   rcases kku ps.toList ht ed' with z|z
   ·obtain⟨d',rfl,ed2⟩:=hor pos d z
    exact⟨d',rfl,by rw[at2 (ne_of ed2 eP (by intro z;cases z)) (kag ed2 hc0)];exact ed2⟩
   ·exact⟨c',z.1,by rw[kkZ (p:=pos) (p':=lpos) (by have:=z.2;omega)];exact ec2⟩
 |some cv=>
  have hf:=hor'
  obtain⟨c',rfl,ec'⟩:=hor lpos cv hf
  refine PySem.W.kla_makeFunctionHit (mg:=X.mg) (kcY S.S I) I.ok.glob hg hcode CH hP ht hf hb fun ctv h' tk hk hsz=>?_
  have k2:∀b o,s.heap.get? b=some o→(h'.push (M3 "<lambda>" (lamN lpos) params body scope (closL X.env.cells scope.names []) ((X.mg "__name__").getD .none) c' ctv)).get? b=some o:=fun b o e=>Heap.get?_push_of_some _ (hk b o e)
  exact h _ H h'.objs.size c' _ ctv (I.kept (t':=tk) k2) ⟨fun b o _ e=>e,ps,eP,ht,hor⟩ (Heap.get?_push_size _ rfl) (I.hok.fresh hsz) hsz (fun b h1 _=>I.hok.fresh h1) ec'
end
end L2
namespace L2
open PySem PySem.Spec PyProof.Rows
theorem kiq:∀{ns:List Int}{us:List Value},Vals (ns.map V.int) us→IntsAre us ns
 |[],_, .nil=>.nil
 |n::ns,_, .cons h t=>by
  obtain⟨tk,rfl⟩:=h
  exact .cons n tk (kiq t)
theorem khM:∀{us:List Value}{ns:List Int},IntsAre us ns→Vals (ns.map V.int) us
 |_,_, .nil=>.nil
 |_,_, .cons n t h=>.cons ⟨t,rfl⟩ (khM h)
theorem kkD{ns:List Int}{key:Int→Int}{keys:Array Value}{us:List Value}{out:Array Value}(hu:IntsAre us ns)(hk:IntsAre keys.toList (ns.map key))(hl:keys.size=us.length)(h:Stb.Rows keys us out):
  ∃ms:List Int,IntsAre out.toList ms∧ms.Perm ns∧ms.Pairwise fun a b=>key a<key b∨(key a=key b∧a<b):=by
 obtain⟨xs,hp,hup,rfl⟩:=h
 have pl:xs.toList.Perm (keys.toList.zip us):=by
  rw[←ksk_zip]
  exact Array.perm_iff_toList_perm.mp hp
 have mem:∀p∈keys.toList.zip us,p.2∈us∧numOf p.1=key (numOf p.2):=fun p hp=>by
  obtain⟨i,hi,rfl⟩:=List.mem_iff_getElem.mp hp
  have l1:i<keys.toList.length:=by
   rw[List.length_zip] at hi
   omega
  have l2:i<us.length:=by
   rw[List.length_zip] at hi
   omega
  rw[List.getElem_zip]
  refine⟨Ey l2,?_⟩
  have e1:(keys.toList.map numOf)[i]?=(ns.map key)[i]?:=by rw[hk.nums]
  have e2:(us.map numOf)[i]?=ns[i]?:=by rw[hu.nums]
  rw[JY,N1 l1,JY] at e1
  rw[JY,N1 l2] at e2
  rw[←e2] at e1
  exact Option.some.inj e1
 have memx:∀p∈xs.toList,p.2∈us∧numOf p.1=key (numOf p.2):=fun p hp=>mem p (pl.mem_iff.mp hp)
 refine⟨xs.toList.map fun p=>numOf p.2,?_,?_,?_⟩
 ·have e:(xs.map (·.2)).toList=xs.toList.map (·.2):=by simp
  rw[e]
  have:=intsAre_map (xs.toList.map (·.2)) fun v hv=>by
   obtain⟨p,hp',rfl⟩:=Nb.mp hv
   exact hu.all _ (memx p hp').1
  rw[Nf] at this
  exact this
 ·have h1:=pl.map (fun p:Keyed=>numOf p.2)
  have e2:(keys.toList.zip us).map (fun p:Keyed=>numOf p.2)=ns:=by
   have e3:(keys.toList.zip us).map (fun p:Keyed=>numOf p.2)=((keys.toList.zip us).map Prod.snd).map numOf:=by rw[Nf];rfl
   rw[e3,List.map_snd_zip (by have e:=Mt (xs:=keys);omega),hu.nums]
  rw[e2] at h1
  exact h1
 ·rw[Mm]
  intro i j hi hj hij
  have hi':i<xs.size:=by simpa using hi
  have hj':j<xs.size:=by simpa using hj
  have q:=hup i j hij hj'
  have ki:=(memx xs[i] (by simp)).2
  have kj:=(memx xs[j] (by simp)).2
  unfold Stb.Lx Stb.T at q
  rw[K_eq hi',K_eq hj',EE hi',EE hj'] at q
  simp only[ML,Array.getElem_toList]
  rw[←ki,←kj]
  exact q
section
variable {X:Cx} {scope:Scope} {x:Str} {N:List Str} {cap:List (Option Nat)} {pins:List (Addr×Obj)} {σ:St} {H:Hp} {s1:Shared} {f:Addr} {fo:Obj}
noncomputable def Held(X:Cx)(pins:List (Addr×Obj))(σ:St)(H:Hp)(n0:Nat)(f:Addr)(fo:Obj)(s:Shared):Prop:=Inv X pins σ H s∧n0≤s.heap.objs.size∧s.heap.get? f=some fo
theorem kmr(I:Inv X pins σ H s1)(hf:f<s1.heap.objs.size):Stb.SJ (Held X pins σ H s1.heap.objs.size f fo) s1.heap.objs.size where
 sz:=fun s h=>h.2.1
 push:=fun s c xs n h=>⟨h.1.kept (t':=s.toks) fun b o e=>Heap.get?_push_of_some _ e,JR h.2.1 (by rw[Heap.size_push];exact Mq _),Heap.get?_push_of_some _ h.2.2⟩
 upd:=fun s b g h hb=>by
  obtain⟨q1,q2,q3,q4,q5,q6⟩:=I.fpOk hb (I.hok.fresh hb)
  have sb:=Heap.SameBut.update s.heap b (Obj.mapSeq g)
  exact⟨h.1.turned (t':=s.toks) (it:=b) (fun d o hd e=>(sb.2 d hd).trans e) q1 q2 q4 q5 q6,by rw[Heap.size_update];exact h.2.1,(sb.2 f (Nk (Nj hf hb))).trans h.2.2⟩
noncomputable def kkB(K:JN)(P:Addr)(tl:TE)(cap:List (Option Nat))(te:TE):TE:=fun σ H Q=>tl σ H fun v H1=>∃(a:Addr)(ns:List Int)(key:Int→Int),v=.ref a∧SqL K H1 a (ns.map V.int)∧ns.length<64∧ns.Pairwise (· < ·)∧TbAt P H1∧a≠P∧
 (∀H2,Grew P H1 H2→∀n∈ns,te (some (.int n)::capσ cap σ) H2 fun v H3=>v=.int (key n)∧H3=H2)∧
 ∀(H2:Hp)(l:Addr)(ms:List Int),Grew P H1 H2→H1 l=none→H2 l=none→ms.Perm ns→(ms.Pairwise fun a b=>key a<key b∨(key a=key b∧a<b))→Q (.ref l) (upd H2 l (.lst (ms.map V.int)))
theorem kli:bootBuiltins "sorted"=some (.builtin "sorted"):=by decide +kernel
theorem Grew.seq{K:JN}{P:Addr}{H H':Hp}{a:Addr}{xs:List V}(g:Grew P H H')(ha:a≠P)(h:SqL K H a xs):SqL K H' a xs:=by
 rcases h with(h|⟨o,h⟩)|h
 ·exact .inl (.inl (g.kp _ _ ha h))
 ·exact .inl (.inr ⟨o,g.kp _ _ ha h⟩)
 ·exact .inr h
theorem kiK{l:Expr}{tl te:TE}{c0 P:Addr}{params:Arguments}{body:Expr}{lpos p pos kpos:Pos}(hl:PE X l tl)(S:kdH X scope x N cap)(hc:X.calm=true)(hdp:X.A.depth<recursionLimit)(hcode:X.env.code=.ref c0)(CK:CodeK X.K c0 P)(hB:BltM X.mg X.base)
  (hg:Gl X "sorted") (hm:X.mg "sorted"=none) (hbind:∀(cl:List (Str×Addr))(pm:Value)(c:Addr)(ctv u:Value),bindArgs (PySem.W.kla_fn "<lambda>" (lamN lpos) params body scope cl pm (.ref c) ctv) ⟨[u],[]⟩=pure [(x,u)])
  (he:∀A f c s H,PE (cxL X A scope N (lamN lpos) f c s H) body te) (hq:X.env.qual++ "<lambda>"=(lamN lpos)) (hdef:defaultsOf params X.env=([],[]):=by rfl) (s1:starEach [l] X.env=[(false,eval l X.env)]:=by rfl):
  PE X (.Call (.Name "sorted" p) [l] [⟨some "key", .Lambda params body scope lpos,kpos⟩] pos) (kkB X.K P tl cap te):=by
 intro pins s σ H Q I h
 refine wpAny_Call_Name_kw (kdB I hg hm kli ?_ (by decide) (by decide))
 refine callWith_kw ?_ (by rw[s1];rfl) (by rw[s1];rfl)
 rw[s1]
 refine Calls.spliced_cons (thn (hl pins s σ H _ I h) fun u s3 ⟨v,H1,I1,r1,a,ns,key,ev,hS,h64,hup,TB,haP,hte,q⟩=>Calls.spliced_nil ?_)
 subst ev
 cases r1
 show wpAny _ _ (evalAll ((do let v ←eval (.Lambda params body scope lpos) X.env;standAt pos;pure v):: [])) _ _ s3
 refine wpAny_evalAll_cons (wpAny_bind (kkX S I1 hcode CK hB TB hq hdef fun s4 H4 lf c pm ctv I4 G ef ff hsf hfr ec=>wpAny_bind (wpAny_standAt (wpAny_pure (wpAny_evalAll_nil ?_)))))
 show wpAny _ _ (call (.builtin "sorted") [.ref a] [(Str.ofString "key", .ref lf)]) _ _ s4
 obtain⟨its,rv,pl,hz⟩:=I4.list (G.seq haP hS)
 have hi:=kiq rv
 have lu:=hi.length
 have lf4:lf<s4.heap.objs.size:=Heap.lt_size ef
 have rising:∀(i j:Nat)(y z:Value),i<j→its[i]?=some y→its[j]?=some z→numOf y<numOf z:=fun i j y z hij ey ez=>by
  have e1:ns[i]?=some (numOf y):=by rw[←hi.nums,JY,ey];rfl
  have e2:ns[j]?=some (numOf z):=by rw[←hi.nums,JY,ez];rfl
  obtain⟨l1,q1⟩:=JX.mp e1
  obtain⟨l2,q2⟩:=JX.mp e2
  have:=Mm.mp hup i j l1 l2 hij
  rw[q1,q2] at this
  exact this
 refine Stb.sortedK (kz:=ns.map key) (J:=Held X pins σ H4 s4.heap.objs.size lf _) (kmr I4 lf4) ⟨I4,JO _,ef⟩ pl.isList (by rw[JM,lu]) (by omega) rising (fun i v k ev ek s5 hJ=>?_) fun s5 D keys out cc hD hJ eD hk hkl hR=>?_
 ·have en:ns[i]?=some (numOf v):=by rw[←hi.nums,JY,ev];rfl
  have ek':k=key (numOf v):=by
   rw[JY,en] at ek
   exact(Option.some.inj ek).symm
  subst ek'
  obtain⟨n,t,rfl⟩:=hi.all v (JT ev)
  have hcr:s5.heap.CodeRec (.ref c) (lamN lpos):=(show ObjOk X.prog X.w H4 s5.heap c (CodeO c (lamN lpos)) from hJ.1.hok c _ ec).1
  refine wpAny_mono (kkY (A:=X.A.in1.in1) (v:=.int n) (u:=.int n t) S hJ.1 I.ok.frames (I.ok.hd hc) hdp hJ.2.2 hcr (hbind _ _ _ _ _) ⟨t,rfl⟩ (he _ _ _ _ _) (hte H4 G n (JT en))) (fun w' s6 hw=>?_) fun _ _ z=>z
  obtain⟨v',H6,I6,rv',⟨e1,e2⟩,un,sz6⟩:=hw
  subst e1 e2
  have nst:∀b,s3.heap.objs.size≤b→b∉frs X.stack:=fun b hb z=>absurd (ki8 I1 z) (Mw.mpr hb)
  have s34:s3.heap.objs.size≤s4.heap.objs.size:=Nc (Ma hsf lf4)
  have kp:∀b o,s3.heap.objs.size≤b→H6 b=none→s5.heap.get? b=some o→s6.heap.get? b=some o:=fun b o hb hn e=>un.keep b o e hn (nst b hb) (by simp)
  refine⟨rv',⟨I6,?_,kp lf _ hsf ff hJ.2.2⟩,fun b o hb e=>kp b o (JR s34 hb) (I4.hok.fresh hb) e⟩
  exact JR hJ.2.1 sz6
 ·obtain⟨ms,m1,m2,m3⟩:=kkD hi hk (by omega) hR
  have hn:H4 D=none:=I4.hok.fresh hD
  have fp:=I4.fpOk hD hn
  have h10:H1 D=none:=I1.hok.fresh (JR (Nc (Ma hsf lf4)) hD)
  have vm:=khM m1
  have lz:(ms.map V.int).length≤sizeLine:=by
   rw[JM,m2.length_eq,sizeLine_eq]
   omega
  refine⟨.ref D,_,hJ.1.adopt (a:=D) (o:=.lst (ms.map V.int)) fp ?_ ?_,rfl,q H4 D ms G h10 hn m2 m3⟩
  ·exact JR I4.sz hD
  ·exact(show ObjOk X.prog X.w _ s5.heap D (.lst (ms.map V.int)) from⟨lz,out.toList,cc,vm,by simpa using eD⟩)
end
end L2
namespace L2
open PySem PySem.W PyProof.Rows
section
variable {X:Cx}
noncomputable def kmO:V→List V→Hp→VK→Prop:=fun x vs H Q=>∃(l:Addr)(ns:List Int)(k:Int),x=.ref l∧vs=[.int k]∧H l=some (.lst (ns.map V.int))∧Q (.int (ns.count k:Nat)) H
theorem keZ:∀{ns:List Int}{us:List Value}(k:Int),Vals (ns.map V.int) us→us.countP (isI k)=ns.count k
 |[],_,_, .nil=>rfl
 |m::ns,_::us,k, .cons r t=>by
  obtain⟨tk,rfl⟩:=r
  rw[List.countP_cons,EF,keZ k t]
  rfl
theorem kf1:MtM X "list.count" kmO:=by
 intro pins s σ H x vs v us Q I rx rv h
 obtain⟨l,ns,k,rfl,rfl,hH,q⟩:=h
 cases rx
 obtain⟨u,rfl,ru⟩:=rv.one
 obtain⟨t,rfl⟩:=ru
 obtain⟨z,its,n,r,hl,e⟩:=I.lstM hH
 refine call_meets F.slot_list_count ⟨_,e,rfl⟩ F.entry_list_count (F.args_list_count_2 _ _)
  (MeetsSeq.list_count l its.toArray n (.int k t) (isI k) (fun y hy=>?_)) ⟨e,?_⟩
 ·obtain⟨j,hj',rfl⟩:=Array.mem_iff_getElem.mp hy
  have hjl:j<its.length:=by simpa using hj'
  have hln:its.length=ns.length:=by rw[←hl,JM]
  obtain⟨tk,et⟩:=kgL r j ns[j] (by simp)
  obtain⟨_,e'⟩:=JX.mp et
  have e2:its.toArray[j]=.int ns[j] tk:=by simpa using e'
  rw[e2]
  exact MeetsSeq.EqGives.int _ k tk t
 ·refine⟨.int (ns.count k:Nat),H,I.tok _,⟨s.toks,?_⟩,q⟩
  rw[List.toList_toArray,keZ k r]
end
end L2
namespace L2
open PySem PySem.W PyProof.Rows
section
variable {X:Cx} {pins:List (Addr×Obj)} {σ:St} {H:Hp} {s:Shared} {A:Around} {E:Value→Shared→Prop} {Q:Value→Shared→Prop}
end
end L2
namespace L2
open PySem PySem.W PyProof.Rows
section
variable {X:Cx}
theorem kk7:PGet X (rIxL X.K):=by
 intro pins s σ H o i ov iv Q I ro ri h
 obtain⟨p,xs,i,z,rfl,rfl,hq,he,q⟩:=h
 cases ro
 obtain⟨t,rfl⟩:=ri
 obtain⟨its,r,pl,hz⟩:=I.list hq
 obtain⟨j,h1,h2,h3,h4,h5⟩:=khI he
 obtain⟨w,ew,rw'⟩:=r.get h2
 have hl:=r.length
 have hn:=kgI
 have fin:EP X pins σ Q w s:=⟨z,H,I,rw',q⟩
 by_cases h0:0≤i
 ·have hj:i.toNat=j:=by
   rw[seqIndex_of h0 h5] at h1
   exact Option.some.inj h1
  exact wpAny_getItem_list pl.isList h0 (by omega) (by rw[hj];simpa using ew) fin
 ·have hj:(i+(its.toArray.size:Int)).toNat=j:=by
   rw[seqIndex_neg (by omega) h4] at h1
   rw[Nh,←hl]
   exact Option.some.inj h1
  exact wpAny_getItem_list_neg pl.isList (by omega) (by rw[Nh] <;> omega) (by omega) (by rw[hj];simpa using ew) fin
end
end L2
namespace L2
open PySem PySem.Spec PyProof.Rows
section
variable {prog:Program} {w:World} {A:Around} {E:Value→Shared→Prop} {s:Shared}
end
end L2
namespace L2
open PySem PySem.Spec PyProof.Rows
section
variable {prog:Program} {w:World} {A:Around} {E:Value→Shared→Prop} {s:Shared}
end
section
variable {X:Cx}
end
end L2
namespace L2
open PySem PySem.Spec PyProof.Rows
section
variable {X:Cx}
end
end L2
namespace L2
open PySem PySem.Spec PyProof.Rows
noncomputable def nxo:HO→Bool
 | .ext _=>false
 |_=>true
noncomputable def NX(H:Hp)(p:Addr):Prop:=∀φ,H p≠some (.ext φ)
def nx{H:Hp}{p:Addr}{o:HO}(h:H p=some o)(n:nxo o=true:=by rfl):NX H p:=fun φ z=>by
 rw[h] at z
 cases z
 cases n
def nx0{H:Hp}{p:Addr}(h:H p=none):NX H p:=fun φ z=>by
 rw[h] at z
 cases z
def kda{H:Hp}{p q:Addr}{o:HO}(h:NX H p)(n:nxo o=true:=by rfl):NX (upd H q o) p:=fun φ z=>by
 by_cases e:p=q
 ·subst e
  rw[kad] at z
  cases z
  cases n
 ·rw[kaj e] at z
  exact h φ z
noncomputable abbrev Ev(H H':Hp)(b:Addr)(o:HO):Prop:=match o with
 | .tbl _=>(∃ps,H' b=some (.tbl ps))∧(TbAt b H→TbAt b H')
 |o=>H' b=some o
def ev_eq{H H':Hp}{b:Addr}{o:HO}(e:H' b=some o)(t:TbAt b H→TbAt b H'):Ev H H' b o:=by
 cases o <;> first|exact e|exact⟨⟨_,e⟩,t⟩
def kf4{H H':Hp}{b:Addr}{o:HO}(e:Ev H H' b o):∃o',H' b=some o':=by
 cases o <;> first|exact⟨_,e⟩|exact⟨_,e.1.choose_spec⟩
theorem kbA{H H1 H2:Hp}{b:Addr}{o:HO}(e:Ev H H1 b o)(k:∀o,H1 b=some o→Ev H1 H2 b o):Ev H H2 b o:=by
 cases o with
 |tbl ps=>
  obtain⟨⟨ps1,e1⟩,t1⟩:=e
  obtain⟨e2,t2⟩:=(show Ev H1 H2 b (.tbl ps1) from k _ e1)
  exact⟨e2,fun h=>t2 (t1 h)⟩
 |_=>exact k _ e
def kdY{b p:Addr}{H:Hp}{o:HO}(h:TbAt b H)(n:b≠p)(hx:NX H p):TbAt b (upd H p o):=by
 obtain⟨ps,e,t,hor⟩:=h
 refine⟨ps,by rw[kaj n];exact e,t,fun pos d ed=>?_⟩
 obtain⟨c,rfl,z2⟩:=hor pos d ed
 have hc:c≠p:=fun e=>by
  subst e
  exact hx _ z2
 exact⟨c,rfl,by rw[kaj hc];exact z2⟩
noncomputable def Same(H H':Hp):Prop:=∀b o,H b=some o→Ev H H' b o
def Same.refl(H:Hp):Same H H:=fun _ _ h=>ev_eq h fun t=>t
def Same.trans{H H1 H2:Hp}(a:Same H H1)(b:Same H1 H2):Same H H2:=fun c o h=>kbA (a c o h) fun o' e=>b c o' e
theorem Same.free{H H':Hp}(e:Same H H'){l:Addr}(h:H' l=Option.none):H l=Option.none:=by
 cases q:H l with
 |none=>rfl
 |some o=>
  obtain⟨o',e'⟩:=kf4 (e l o q)
  rw[e'] at h
  cases h
def Same.seq{K:JN}{H H':Hp}{a:Addr}{xs:List V}(e:Same H H')(h:SqL K H a xs):SqL K H' a xs:=by
 rcases h with(h|⟨o,h⟩)|h
 ·exact .inl (.inl (e _ _ h))
 ·exact .inl (.inr ⟨o,e _ _ h⟩)
 ·exact .inr h
def Same.tb{H H':Hp}(s:Same H H'){b:Addr}(h:TbAt b H):TbAt b H':=by
 obtain⟨ps,e,r⟩:=id h
 exact(show Ev H H' b (.tbl ps) from s b _ e).2 h
def Grew.same{P:Addr}{H H':Hp}(g:Grew P H H')(TB:TbAt P H):Same H H':=fun b o e=>by
 obtain⟨ps,eP,ht,hor⟩:=TB
 by_cases h:b=P
 ·subst h
  rw[eP] at e
  cases e
  obtain⟨qs,e1,_⟩:=id g.tb
  exact⟨⟨qs,e1⟩,fun _=>g.tb⟩
 ·refine ev_eq (g.kp b o h e) fun t=>?_
  obtain⟨qs,e1,t1,h1⟩:=t
  refine⟨qs,g.kp b _ h e1,t1,fun pos d ed=>?_⟩
  obtain⟨c,rfl,z⟩:=h1 pos d ed
  exact⟨c,rfl,g.kp c _ (ne_of z eP (by intro z;cases z)) z⟩
end L2
namespace L2
open PySem PySem.Spec PyProof.Rows
noncomputable def kge(K:JN)(tP:Addr):Sp:=fun vs H Q _=>∃(a:Addr)(ns:List Int),vs=[.ref a]∧SqL K H a (ns.map V.int)∧ns.length≤63∧TbAt tP H∧∀H',Q (.bl true) H'
theorem kjU{P:Program}{w:World}{K:JN}{mg mb:Str→Option Value}{k:Nat}{fa a tP c0:Addr}{fd:FuncData}{x:Str}{s₁:Shared}{vs:List Value}{ns:List Int}
  (KX:K.In s₁.heap) (hns:s₁.heap.Ns mainGlobals mg) (hb:s₁.heap.Ns builtinsNs mb) (hbb:∀x:Str,x≠"__name__"→mb x=bootBuiltins x) (hlim:s₁.heap.NoLimit) (hg:s₁.gens= #[])
  (ha:s₁.heap.get? a=some {cls:=.type "list",data:=.seq vs.toArray}) (hi:IntsAre vs ns) (hl:ns.length≤63) (hr:Room k callerA) (hT:s₁.heap.get? tP=some (M4 #[])) (CK:CodeK K c0 tP) (kT:K.lookup tP=none) (hBM:BltM mg s₁.heap)
  (F:∀base:Heap,K.In base→base.Ns mainGlobals mg→BltM mg base→FnOk P w K mg base CX0 k fa fd [x] (kge K tP)) (hbind:∀(s:Shared)(u:Value),BindsTo s fd ⟨[u],[]⟩ [(x,u)]):
  codeAny (model P w) callerA (.call (.ref fa) ⟨[.ref a],[]⟩) (fun r s'=>r=.ok (.ret (.bool true))∧OldK s₁.heap s'.heap∧s'.os=s₁.os∧AllBare s'.gens) s₁:=by
 have rv:=kf7 hi
 have lenV:=hi.length
 have hlz:ns.length≤sizeLine:=JR hl (by decide)
 have nTa:tP≠a:=fun e=>by
  rw[e,ha] at hT
  have:=Option.some.inj hT
  injection this with z
  cases z
 have core:∀H:Hp,SqL K H a (ns.map V.int)→HOk P w H s₁.heap→H tP=some (.tbl #[])→(∀b,b≠tP→H b=none∨(b=a∧∃o xs,H b=some (.frz o (.lst xs))))→(H a≠none→K.lookup a=none)→
   codeAny (model P w) callerA (.call (.ref fa) ⟨[.ref a],[]⟩) (fun r s'=>r=.ok (.ret (.bool true))∧OldK s₁.heap s'.heap∧s'.os=s₁.os∧AllBare s'.gens) s₁:=by
  intro H hS hok eT hO hK
  have base_of:∀{b:Addr}{o:Obj},s₁.heap.get? b=some o→H b=none→(hidT s₁.heap H).get? b=some o:=fun e n=>kk3 e n
  have noT:∀{b:Addr}{o:Obj},s₁.heap.get? b=some o→o.cls≠.none→(∀us n,o.data≠.seq us n)→H b=none:=fun {b o} e hc hd=>by
   by_cases hbT:b=tP
   ·rw[hbT,hT] at e
    cases e
    exact absurd rfl hc
   ·rcases hO b hbT with z|⟨z,_⟩
    ·exact z
    ·rw[z,ha] at e
     cases e
     exact absurd rfl (hd _ _)
  have noA:∀{b:Addr}{o:Obj}{es:Array DictEntry}{ep:Nat},s₁.heap.get? b=some o→o.data=.dict es ep→H b=none:=fun {b o es ep} e d=>by
   by_cases hbT:b=tP
   ·rw[hbT,hT] at e
    cases e
    cases d
   ·rcases hO b hbT with z|⟨z,_⟩
    ·exact z
    ·rw[z,ha] at e
     cases e
     cases d
  have nsK:∀{b:Addr}{m:Str→Option Value},s₁.heap.Ns b m→(hidT s₁.heap H).Ns b m:=fun {b m} ⟨o,es,ep,e,d,r⟩=>⟨o,es,ep,base_of e (noA e d),d,r⟩
  have hKb:K.In (hidT s₁.heap H):=fun b o e=>base_of (KX b o e) (by
   by_cases hbT:b=tP
   ·rw[hbT,kT] at e
    cases e
   ·rcases hO b hbT with z|⟨z,o',xs,z2⟩
    ·exact z
    ·subst z
     rw[hK (by rw[z2];simp)] at e
     cases e)
  have hM:Mod K mg (hidT s₁.heap H):=⟨hKb,nsK hns,⟨mb,nsK hb,hbb⟩,let⟨mc,h1,h2⟩:=hlim;⟨mc,nsK h1,h2⟩⟩
  have hBb:BltM mg (hidT s₁.heap H):=by
   obtain⟨bm,ob,b1,b2,b3,b4,b5,b6⟩:=hBM
   exact⟨bm,ob,b1,b2,base_of b3 (noT b3 (by rw[b4];intro z;cases z) (fun us n z=>by rw[b6] at z;cases z)),b4,b5,b6⟩
  have e0:Env0 P w K mg (hidT s₁.heap H) callerA [] s₁ H:=⟨rfl,hM,fun b o e=>kmj e,MT (kj6 _ _),trivial,fun b hb=>absurd (show b∈([]:List Addr) from hb) (by simp),hok, .of_eq hg⟩
  have hsp:kge K tP [.ref a] H (fun v _=>v=.bl true) fun _ _ _=>False:=⟨a,ns,rfl,hS,hl,⟨#[],eT,by trivial,fun pos c e=>by cases e⟩,fun _=>rfl⟩
  refine codeAny_mono ((F _ hKb (nsK hns) hBb).run callerA [] s₁ H ⟨[.ref a],[]⟩ [.ref a] [.ref a] _ _ hr e0 (hbind s₁ (.ref a)) (.cons rfl .nil) hsp) fun r s' h=>?_
  cases r with
  |error e=>exact(show False from h).elim
  | ok fl=>
   cases fl with
   |next=>exact False.elim h
   |brk=>exact False.elim h
   |cont=>exact False.elim h
   | ret u=>
    obtain⟨v,H',os,bare,un,hok',r',q⟩:=h
    have q':v=.bl true:=q
    subst q'
    obtain rfl:u=Value.bool true:=r'
    have kp:∀b o,b≠tP→s₁.heap.get? b=some o→s'.heap.get? b=some o:=fun b o hbT e=>by
     rcases hO b hbT with z|⟨z,o',xs,z2⟩
     ·exact un.keep b o e z (fun z=>absurd (show b∈([]:List Addr) from z) (by simp)) (by simp)
     ·have z3:=un.frzs b o' _ z2
      obtain⟨e1,_⟩:=hok b _ z2
      obtain⟨e2,_⟩:=hok' b _ z3
      rw[e] at e1
      cases e1
      exact e2
    obtain⟨more,eM⟩:=un.tbls tP #[] eT
    have tM:s'.heap.get? tP=some (M4 (#[]++more)):=(show ObjOk P w H' s'.heap tP (.tbl (#[]++more)) from hok' tP _ eM)
    refine⟨rfl,⟨fun b o e=>?_,fun b o e=>?_⟩,os,bare⟩
    ·by_cases hbT:b=tP
     ·subst hbT
      rw[hT] at e
      cases e
      obtain⟨oc,us,_,_,_,_,_,_,_,c1,c2,c3,c4,_⟩:=CK
      exact .inr (.inl ⟨⟨c0,oc,us,KX _ _ c1,c2,c3,c4⟩,rfl,#[],more,rfl,tM⟩)
     ·exact .inl (kp b o hbT e)
    ·by_cases hbT:b=tP
     ·subst hbT
      exact⟨_,tM⟩
     ·exact⟨o,kp b o hbT e⟩
 cases hk:K.lookup a with
 | some o=>
  have e:=KX a o hk
  rw[ha] at e
  cases e
  refine core (fun b=>if b=tP then some (.tbl #[]) else none) (.inr ⟨_,vs.toArray,_,hk,rfl,rfl,rfl,by rw[Nh,lenV];exact hlz,by simpa using rv⟩) (fun b u z=>?_) (if_pos rfl) (fun b hbT=>.inl (if_neg hbT)) fun z=>absurd (if_neg nTa.symm) z
  by_cases hbT:b=tP
  ·have z':=(if_pos hbT).symm.trans z
   cases z'
   subst hbT
   exact(show s₁.heap.get? b=some _ from hT)
  ·have z':=(if_neg hbT).symm.trans z
   cases z'
 | none=>
  refine core (fun b=>if b=tP then some (.tbl #[]) else if b=a then some (.frz {cls:=.type "list",data:=.seq vs.toArray} (.lst (ns.map V.int))) else none) (.inl (.inr ⟨{cls:=.type "list",data:=.seq vs.toArray},by show(if a=tP then _ else _)=_;rw[if_neg nTa.symm,if_pos rfl]⟩)) (fun b u z=>?_) (if_pos rfl) (fun b hbT=>?_) fun _=>hk
  ·by_cases hbT:b=tP
   ·have z':=(if_pos hbT).symm.trans z
    cases z'
    subst hbT
    exact(show s₁.heap.get? b=some _ from hT)
   ·have z1:=(if_neg hbT).symm.trans z
    by_cases hb2:b=a
    ·have z':=(if_pos hb2).symm.trans z1
     cases z'
     subst hb2
     exact⟨ha,by rw[JM];exact hlz,vs,_,rv,ha⟩
    ·have z':=(if_neg hb2).symm.trans z1
     cases z'
  ·by_cases hb2:b=a
   ·exact .inr ⟨hb2,_,_,by show(if b=tP then _ else _)=_;rw[if_neg hbT,if_pos hb2]⟩
   ·exact .inl (by show(if b=tP then _ else _)=_;rw[if_neg hbT,if_neg hb2])
theorem walkT_of{l:PySem.W.OpenLaw}{k:Nat}{q:Program}{loose:List Str}{XP:(Str→Option Value)→Heap→Prop}{YP:World→Heap→Prop}{d:DefRec}{K:Params→JN}{ts:List Addr}{x:Str}
  (hn:l.most=some 63) (hdf:d.params.defaults=[]) (hr:Room k callerA) (hY:∀(w:World)(h:Heap),YP w h→(K w.params).In h) (hTs:∀(w:World)(h:Heap),YP w h→∀P∈ts,h.get? P=some (M4 #[]))
  (F:∀(w:World)(mg:Str→Option Value)(fa:Addr)(h:Heap),(K w.params).In h→h.Ns mainGlobals mg→mg d.name=some (.ref fa)→
   ∃(fd:FuncData)(tP c0:Addr),tP∈ts∧CodeK (K w.params) c0 tP∧(K w.params).lookup tP=none∧(∀(s:Shared)(u:Value),BindsTo s fd ⟨[u],[]⟩ [(x,u)])∧
    ∀base:Heap,(K w.params).In base→base.Ns mainGlobals mg→BltM mg base→FnOk l.prog w (K w.params) mg base CX0 k fa fd [x] (kge (K w.params) tP)):
  PySem.W.WalkO q loose XP YP l.row.toRowW d [] (fun f vs=>PySem.call f vs):=by
 refine Att.attach_call hn hdf fun w s₀ s₁ mg mb fa o pm cd doc a vs ns G Y ho hd hcd hmg hobj hints hlen hg=>?_
 have KX:=hY w _ Y
 obtain⟨fd,tP,c0,hm,CK,kT,hb,hF⟩:=F w mg fa _ KX G.T.g hmg
 obtain⟨bm,ob,b1,b2,b3,b4,b5,b6⟩:=G.T.bmain
 exact kjU KX G.T.g G.T.b G.T.builtins G.T.nolimit hg hobj hints hlen hr (hTs w _ Y tP hm) CK kT ⟨bm,ob,b1,b2,b3,b4,b5,b6⟩ hF hb
end L2
namespace L2
open PySem PySem.Spec PyProof.Rows
def nd1(x:Str):([x]:List Str).Nodup:=by simp
noncomputable def But(x:Addr)(H H':Hp):Prop:=∀b o,b≠x→H b=some o→Ev H H' b o
def But.trans{x:Addr}{H H1 H2:Hp}(a:But x H H1)(b:But x H1 H2):But x H H2:=fun c o n h=>kbA (a c o n h) fun o' e=>b c o' n e
def But.same{x:Addr}{H H1 H2:Hp}(a:But x H H1)(b:Same H1 H2):But x H H2:=fun c o n h=>kbA (a c o n h) fun o' e=>b c o' e
def But.of_same{x:Addr}{H H1:Hp}(b:Same H H1):But x H H1:=fun c o _ h=>b c o h
def But.refl{x:Addr}{H:Hp}:But x H H:=fun b o _ h=>Same.refl H b o h
def kav{x:Addr}{H:Hp}{o:HO}(hx:NX H x:=by first|exact nx kad|exact nx (by assumption)|exact nx0 (by assumption)|exact kda (nx kad) rfl|exact kda (nx (by assumption)) rfl):But x H (upd H x o):=fun b u n e=>ev_eq (by rw[kaj n];exact e) fun t=>kdY t n hx
def kam{H:Hp}{p:Addr}{o:HO}(hp:H p=none):Same H (upd H p o):=fun b u e=>ev_eq (by rw[kaj (kag e hp)];exact e) fun t=>kdY t (kag e hp) (nx0 hp)
def kas{H H':Hp}{p:Addr}{o:HO}(hp:H p=none)(s:Same H H')(hx:NX H' p:=by first|exact nx (by assumption)|exact nx kad|exact kda (nx (by assumption)) rfl|exact kda (nx kad) rfl|exact kda (nx0 (by assumption)) rfl|exact kda (kda (nx (by assumption)) rfl) rfl):Same H (upd H' p o):=fun b u e=>
 kbA (s b u e) fun u' e'=>ev_eq (by rw[kaj (kag e hp)];exact e') fun t=>kdY t (kag e hp) hx
def ka2{H:Hp}{x dx C:Addr}(hx:H x=none)(nd:H dx=none):Same H (upd (upd H dx (.own x)) x (.ins C dx [])):=fun b u e=>by
 have n1:=kag e hx
 have n2:=kag e nd
 exact ev_eq (by rw[kaj n1,kaj n2];exact e) fun t=>kdY (kdY t n2 (nx0 nd)) n1 (kda (nx0 hx) rfl)
def kbC{H H':Hp}{x dx C:Addr}(hx:H x=none)(nd:H dx=none)(k:But x (upd (upd H dx (.own x)) x (.ins C dx [])) H'):Same H H':=fun b o e=>kbA (ka2 (C:=C) hx nd b o e) fun o' e'=>k b o' (kag e hx) e'
def kdA{H:Hp}{x dx C y:Addr}(h:(upd (upd H dx (.own x)) x (.ins C dx [])) y=none):H y=none:=by
 by_cases e1:y=x
 ·subst e1
  rw[kad] at h
  cases h
 ·rw[kaj e1] at h
  by_cases e2:y=dx
  ·subst e2
   rw[kad] at h
   cases h
  ·rw[kaj e2] at h
   exact h
def kgD{H:Hp}{x dx C y:Addr}{o:HO}(nx:H x=none)(nd:H dx=none)(h:H y=some o):(upd (upd H dx (.own x)) x (.ins C dx [])) y=some o:=by
 rw[kaj (kag h nx),kaj (kag h nd)]
 exact h
theorem kal{f:Str}{v:V}:∀{fs:List (Str×V)}{n:Nat},fs.length≤n→(putF f v fs).length≤n+1
 |[],n,_=>by
  show 1≤n+1
  omega
 | (g,x)::r,n,h=>by
  show(if g=f then(g,v)::r else(g,x)::putF f v r).length≤n+1
  have h':r.length+1≤n:=h
  split
  ·show r.length+1≤n+1
   omega
  ·show(putF f v r).length+1≤n+1
   have:=kal (f:=f) (v:=v) (fs:=r) (n:=n-1) (by omega)
   omega
def few{fs:List (Str×V)}(h:fs.length≤20):fs.length<1000:=by omega
theorem kcl{ns:List Addr}{i:Nat}{x:V}(h:(ns.map V.ref)[i]?=some x):∃z,ns[i]?=some z∧x=V.ref z:=by
 rw[JY] at h
 cases e:ns[i]? with
 |none=>rw[e] at h;cases h
 |some z=>rw[e] at h;exact⟨z,rfl,(Option.some.inj h).symm⟩
theorem kbB{α:Type}{g: α→V}{ns:List α}{i:Nat}{x:V}(h:(ns.map g)[i]?=some x):∃z,ns[i]?=some z∧x=g z:=by
 rw[JY] at h
 cases e:ns[i]? with
 |none=>rw[e] at h;cases h
 |some z=>rw[e] at h;exact⟨z,rfl,(Option.some.inj h).symm⟩
def at_lt{α:Type}{xs:List α}{i:Nat}{x: α}(h:xs[i]?=some x):i<xs.length:=(JX.mp h).1
def at_of{α:Type}{xs:List α}{i:Nat}(h:i<xs.length):∃x,xs[i]?=some x:=⟨xs[i],by simp[h]⟩
def kbP{α:Type}{rs:List α}{i:Nat}{r: α}(h:rs[i]?=some r):rs.take (i+1)=rs.take i++[r]:=by
 rw[NY,h]
 rfl
inductive P2 {α β:Type} (R: α→β→Prop):List α→List β→Prop
 |nil:P2 R [] []
 |cons {a: α} {b: β} {as:List α} {bs:List β} (h:R a b) (t:P2 R as bs):P2 R (a::as) (b::bs)
section
variable {α β:Type} {R R': α→β→Prop} {as as':List α} {bs bs':List β}
theorem P2.of(hl:as.length=bs.length)(h:∀(i:Nat)(a: α)(b: β),as[i]?=some a→bs[i]?=some b→R a b):P2 R as bs:=by
 induction as generalizing bs with
 |nil=>
  cases bs with
  |nil=>exact .nil
  |cons b bs=>cases hl
 |cons a as ih=>
  cases bs with
  |nil=>cases hl
  |cons b bs=>exact .cons (h 0 a b rfl rfl) (ih (by simpa using hl) fun i x y e1 e2=>h (i+1) x y (by simpa using e1) (by simpa using e2))
theorem P2.len(h:P2 R as bs):as.length=bs.length:=by
 induction h with
 |nil=>rfl
 |cons r t ih=>simp[ih]
theorem P2.get(h:P2 R as bs){i:Nat}{a: α}{b: β}(e1:as[i]?=some a)(e2:bs[i]?=some b):R a b:=by
 induction h generalizing i with
 |nil=>simp at e1
 | cons r t ih=>
  cases i with
  |zero=>
   simp at e1 e2
   subst e1 e2
   exact r
  |succ i=>exact ih (by simpa using e1) (by simpa using e2)
theorem P2.at(h:P2 R as bs){i:Nat}{a: α}(e1:as[i]?=some a):∃b,bs[i]?=some b∧R a b:=by
 obtain⟨b,e2⟩:=at_of (xs:=bs) (i:=i) (by rw[←h.len];exact at_lt e1)
 exact⟨b,e2,h.get e1 e2⟩
theorem P2.mono(h:P2 R as bs)(k:∀a b,R a b→R' a b):P2 R' as bs:=by
 induction h with
 |nil=>exact .nil
 |cons r t ih=>exact .cons (k _ _ r) ih
theorem P2.append(h:P2 R as bs)(h':P2 R as' bs'):P2 R (as++as') (bs++bs'):=by
 induction h with
 |nil=>exact h'
 |cons r t ih=>exact .cons r ih
theorem P2.snoc(h:P2 R as bs){a: α}{b: β}(r:R a b):P2 R (as++[a]) (bs++[b]):=h.append (.cons r .nil)
theorem P2.take(h:P2 R as bs)(k:Nat):P2 R (as.take k) (bs.take k):=by
 induction h generalizing k with
 |nil=>simpa using P2.nil
 |cons r t ih=>
  cases k with
  |zero=>exact .nil
  |succ k=>exact .cons r (ih k)
theorem P2.drop(h:P2 R as bs)(k:Nat):P2 R (as.drop k) (bs.drop k):=by
 induction h generalizing k with
 |nil=>simpa using P2.nil
 |cons r t ih=>
  cases k with
  |zero=>exact .cons r t
  |succ k=>exact ih k
theorem P2.reverse(h:P2 R as bs):P2 R as.reverse bs.reverse:=by
 induction h with
 |nil=>exact .nil
 |cons r t ih=>
  rw[MW,MW]
  exact ih.append (.cons r .nil)
end
theorem rep1(n:Nat)(v:V):(JS n [v]).flatten=JS n v:=by
 induction n with
 |zero=>rfl
 |succ n ih=>rw[N9,Nm,ih,N9];rfl
def kjB(n:Nat)(z:Int):JS n (V.int z)=(JS n z).map V.int:=by simp
def klG(k:Int):(!decide (V.int k=V.non))=true:=by simp
def klF:(!decide (V.non=V.non))=false:=by simp
noncomputable def oV:Option Int→V
 |none=>.non
 |some z=>.int z
structure TxtB (mg:Str→Option Value):Prop where
 range:mg "range"=none
 len:mg "len"=none
 min:mg "min"=none
 max:mg "max"=none
 isi:mg "isinstance"=none
 bool:mg "bool"=none
 int:mg "int"=none
 list:mg "list"=none
 sum:mg "sum"=none
 enum:mg "enumerate"=none
 any:mg "any"=none
 all:mg "all"=none
 rev:mg "reversed"=none
 zip:mg "zip"=none
 abs:mg "abs"=none
 sorted:mg "sorted"=none
 tuple:mg "tuple"=none
 str:mg "str"=none
structure FunD (K:JN) (x qual:Str) (st:Stmt) (f:Addr) (fd:FuncData):Prop where
 ex:∃(oc:Value)(od:Option Addr)(dV kV doc pm:Value)(an:Option Addr)(cdv ct:Value)(osl:Array (Option Value)),
  fd=J9 x qual (kaE st) (kaC st) (kai st) dV kV doc pm an cdv ct∧K.lookup f=some ⟨oc,od, .func fd,osl⟩∧Nz K cdv qual=true
 kp:J6 K (.ref f)=true
theorem FunD.ok{P:Program}{w:World}{K:JN}{mg:Str→Option Value}{base:Heap}{x qual:Str}{st:Stmt}{f:Addr}{fd:FuncData}{N ps:List Str}{k:Nat}{sp:Sp}(F:FunD K x qual st f fd)(S:kar N ps (kai st))(len:∀vs H Q E,sp vs H Q E→vs.length=ps.length)
  (hbody:∀(cdv:Value)(A:Around)(outer:List Env)(s:Shared)(H:Hp)(vs:List V)(Q:VK)(E:XK),Room k (A.deeper (PyProof.Rows.envOfC qual (kai st) s.heap.objs.size f cdv))→sp vs H Q E→
   ∃t,PSs (cxOf CX0 P w K mg base N qual (kai st) f cdv A outer s H E).nox (kaC st) t∧t {nx:=fun _ H'=>Q .non H',rt:=Q} (start N vs) H):FnOk P w K mg base CX0 (k+1) f fd ps sp:=by
 obtain⟨oc,od,dV,kV,doc,pm,an,cdv,ct,osl,rfl,lk,hcd⟩:=F.ex
 refine fn_of lk hcd S len fun A outer s H vs Q E hr hsp=>?_
 obtain⟨t,h,q⟩:=hbody cdv A outer s H vs Q E hr hsp
 exact⟨t,h.nox,q⟩
theorem FunD.okC{P:Program}{w:World}{K:JN}{mg:Str→Option Value}{base:Heap}{x qual:Str}{st:Stmt}{f:Addr}{fd:FuncData}{N ps:List Str}{k:Nat}{sp:Sp}(F:FunD K x qual st f fd)(S:kar N ps (kai st))(len:∀vs H Q E,sp vs H Q E→vs.length=ps.length)
  (hbody:∀(A:Around)(outer:List Env)(s:Shared)(H:Hp)(vs:List V)(Q:VK)(E:XK),Room k (A.deeper (PyProof.Rows.envOfC qual (kai st) s.heap.objs.size f fd.code))→sp vs H Q E→
   ∃t,PSs (cxOf CX0 P w K mg base N qual (kai st) f fd.code A outer s H E).nox (kaC st) t∧t {nx:=fun _ H'=>Q .non H',rt:=Q} (start N vs) H):FnOk P w K mg base CX0 (k+1) f fd ps sp:=by
 obtain⟨oc,od,dV,kV,doc,pm,an,cdv,ct,osl,rfl,lk,hcd⟩:=F.ex
 refine fn_of lk hcd S len fun A outer s H vs Q E hr hsp=>?_
 obtain⟨t,h,q⟩:=hbody A outer s H vs Q E hr hsp
 exact⟨t,h.nox,q⟩
theorem kbr{K:JN}{x qual:Str}{st:Stmt}{f:Addr}{oc:Value}{od an:Option Addr}{osl:Array (Option Value)}{dV kV doc pm cdv ct:Value}(l:K.lookup f=some ⟨oc,od, .func (J9 x qual (kaE st) (kaC st) (kai st) dV kV doc pm an cdv ct),osl⟩)
  (c:Nz K cdv qual=true) (k:J6 K (.ref f)=true):FunD K x qual st f (J9 x qual (kaE st) (kaC st) (kai st) dV kV doc pm an cdv ct):=⟨⟨oc,od,dV,kV,doc,pm,an,cdv,ct,osl,rfl,l,c⟩,k⟩
structure Dn (K:JN) (mg:Str→Option Value) (x:Str) (st:Stmt) (ps:List Str) (f:Addr) (fd:FuncData):Prop where
 F:FunD K x x st f fd
 b:Binds K fd ps []
 m:mg x=some (.ref f)
structure Isi (K:JN) (C:Addr):Prop where
 ha:JP K (.ref C) "__class__"=some (some (.builtin "object.__class__"))
 hn:MH K (.builtin "object.__class__") "__get__"=some (some (.builtin "getset_descriptor.__get__"))
 ht:Es K (.builtin "object.__class__")=some true
 hm:JU K C (.type "object")=some true
def kaK{K:JN}{A B:Addr}{b:Bool}(mA:JU K A (.ref B)=some b)(ob:JU K B (.type "object")=some true)(ty:Ny K (.ref B)=some (.type "type"))(ne:A≠B):J4 K (.ref A) (.ref B)=some b:=by
 have e:(Value.ref A==Value.ref B)=false:=beq_eq_false_iff_ne.mpr fun z=>ne (by injection z)
 obtain⟨cd,a,_⟩:=Option.bind_eq_some_iff.mp ob
 unfold J4 PySem.W.kitCls Ez
 rw[e,if_neg JV]
 show(if((PySem.W.clsIn K B).isSome&&Ny K (.ref B)==some (.type "type"))=true then JU K A (.ref B) else none)=some b
 rw[a,ty,mA,if_pos (by simp)]
def kbo{K:JN}{A B:Addr}(h:JU K A (.ref B)=some false)(hA:JU K A (.ref A)=some true):A≠B:=fun e=>by
 rw[←e,hA] at h
 cases h
structure ClsT (K:JN) (mg:Str→Option Value) (nm:Str) (C:Addr):Prop where
 cl:Cls K C
 m:mg nm=some (.ref C)
 isi:Isi K C
 self:JU K C (.ref C)=some true
 ty:Ny K (.ref C)=some (.type "type")
 makes:NF K C=true
 kp:J6 K (.ref C)=true
structure MthT (K:JN) (C:Addr) (m qual:Str) (st:Stmt) (ps:List Str) (f:Addr) (fd:FuncData):Prop where
 at_:JP K (.ref C) m=some (some (.ref f))
 fn:ND K (.ref f)=true
 F:FunD K m qual st f fd
 b:Binds K fd ps []
def MthT.me{K:JN}{C:Addr}{m qual:Str}{st:Stmt}{ps:List Str}{f:Addr}{fd:FuncData}(h:MthT K C m qual st ps f fd):Meth K C m f:=⟨h.at_,h.fn,h.F.kp⟩
def MthT.mk'{K:JN}{mg:Str→Option Value}{C:Addr}{nm qual:Str}{st:Stmt}{ps:List Str}{f:Addr}{fd:FuncData}(h:MthT K C "__init__" qual st ps f fd)(c:ClsT K mg nm C):Mk K C f:=⟨c.makes,h.at_,h.fn,c.kp⟩
end L2
namespace L2
open PySem PySem.Spec PyProof.Rows
section
variable {X:Cx}
theorem pcl{k:Nat}{f:Addr}{fd:FuncData}{ps:List Str}{sp:Sp}{x:Str}{st:Stmt}{e:Expr}{es:List Expr}{t:TA}{p pos:Pos}(F:FnOk X.prog X.w X.K X.mg X.base CX0 k f fd ps sp)(hr:Room k X.A)(D:Dn X.K X.mg x st ps f fd)(ha:PA X (e::es) t)
  (hg:Gl X x:=by rfl) (hdb:(x==("__debug__" :Str))=false:=by decide) (he:starEach (e::es) X.env=(false,eval e X.env)::starEach es X.env:=by rfl) (hpl:(backTo pos (starEach es X.env)).any (·.1)=false:=by rfl):
  PE X (.Call (.Name x p) (e::es) [] pos) (tCall sp [] E0 t):=kjL F hr hg D.m D.F.kp D.b .nil pass0 ha hdb he hpl
theorem psl{i:Nat}{x:Str}{e:Expr}{te:TE}{pos pos':Pos}(hN:X.N.Nodup)(he:PE X e te)(hi:X.N[i]?=some x:=by rfl)(hx:Loc X.env.scope x:=by first|exact Or.inl rfl|exact Or.inr rfl)(hs:swapsWith e (some (.Name x pos')) pos.line X.env=pure false:=by rfl)(hf:X.fn x=true∨X.env.scope.names.lookup x=some .local:=by first|exact .inl rfl|exact .inr rfl|assumption):
  PS X (.Assign [.Name x pos'] e pos) (tAsg te (gName i)):=kmQ hN hi hx he hs hf
theorem pgn{i:Nat}{x:Str}{pos:Pos}(hN:X.N.Nodup)(hi:X.N[i]?=some x:=by rfl)(hx:Loc X.env.scope x:=by first|exact Or.inl rfl|exact Or.inr rfl)(hf:X.fn x=true∨X.env.scope.names.lookup x=some .local:=by first|exact .inl rfl|exact .inr rfl|assumption):PG X (.Name x pos) (gName i):=kme hN hi hx hf
end
end L2
namespace L2
open PySem PySem.Spec PyProof.Rows
section
variable {X:Cx}
end
end L2
namespace L2
open PySem PySem.Spec PyProof.Rows
structure ExStep (fr:List Addr) (ol:List Addr) (e:Addr) (oe:Obj) (T:Addr) (fl:Value) (h h':Heap):Prop where
 keep:∀b o,h.get? b=some o→b∉fr→b≠e→b∉ol→h'.get? b=some o
 slot:∀b o,h.get? b=some o→b∈fr→b∉ol→b≠e→∃sl,h'.get? b=some {o with slots:=sl}
 ex:h'.get? e=some (oe.mapFields (·.setIfInBounds 1 (.ref T)))
 new:h.get? T=none
 sz:h.objs.size≤T
 there:∀b o,h.get? b=some o→∃o',h'.get? b=some o'
 tb:∃oT ts,h'.get? T=some oT∧oT.data=.fields ts∧ts[3]?=some fl
section
variable {M:Model} {A:Around} {E:Value→Shared→Prop} {s:Shared}
theorem kiv{base:Heap}{env:Env}{outer:List Env}{L e:Addr}{oe:Obj}{vs:Array Value}{head:Value}{hadNext:Bool}{Q:Unit→Shared→Prop}
  (hfr:A.frames=some (env::outer)) (hl:s.heap.FunFrames base (env::outer)) (hf:env.frame=some L) (he:s.heap.get? e=some oe) (hd:oe.data=.fields vs) (hsz:1<vs.size)
  (h:∀h' T,ExStep (frs (env::outer)) [] e oe T (rawInt L) s.heap h'→Q () {s with heap:=h'}):
  wpAny M A (do let a ←frameOf env;let pl ←entryPlaceOf L hadNext;let b ←EntryCells.newEntry head a .none (rawInt L) .none pl;setField (.ref e) 1 b) Q E s:=by
 have hene:e∉frs (env::outer):=fun hm=>by
  obtain⟨_,o,ho,hnf⟩:=hl.mem hm
  rw[he] at ho
  cases ho
  exact hnf vs hd
 refine wpAny_bind (wpAny_frameOf_fun hfr hl hf fun h₁ hs₁=>?_)
 refine wpAny_bind (wpAny_entryPlaceOf fun pl hpl=>?_)
 unfold EntryCells.newEntry newFields
 refine wpAny_bind (wpAny_newObj_type ?_ (hpl.sizeOk5 _ _ _ _ _))
 have he₁:h₁.get? e=some oe:=(hs₁.2.1 e hene).trans he
 generalize hob:({cls:=.type "traceback",dict:=none,data:=.fields ([head, .ref L, .none,rawInt L, .none]++(if pl.isEmpty then JS 6 Value.none else pl)).toArray}:Obj)=ob
 have he₂:=Heap.get?_push_of_some (h:=h₁) ob he₁
 refine wpAny_setField he₂ hd hsz (h _ h₁.objs.size ?_)
 have hTe:h₁.objs.size≠e:=NN (Heap.lt_size he₁)
 have hd₃:=Obj.data_mapFields hd (·.setIfInBounds 1 (Value.ref h₁.objs.size))
 have kp:∀b o,b≠e→h₁.get? b=some o→((h₁.push ob).update e (Obj.mapFields (·.setIfInBounds 1 (Value.ref h₁.objs.size)))).get? b=some o:=fun b o hbe hb=>by
  rw[Heap.get?_update_other _ _ (Ne.symm hbe)]
  exact Heap.get?_push_of_some _ hb
 have ex:=Heap.get?_update_self (Obj.mapFields (·.setIfInBounds 1 (Value.ref h₁.objs.size))) he₂ (Obj.isFreed_of_fields hd₃)
 refine⟨fun b o hb hnf hbe _=>kp b o hbe ((hs₁.2.1 b hnf).trans hb),fun b o hb _ _ hbe=>?_,ex,Heap.get?_none_of_le (by rw[hs₁.1];exact JO _),by rw[hs₁.1];exact JO _,fun b o hb=>?_,?_⟩
 ·obtain⟨sl,e1⟩:=hs₁.2.2 b o hb
  exact⟨sl,kp b _ hbe e1⟩
 ·by_cases hbe:b=e
  ·rw[hbe]
   exact⟨_,ex⟩
  ·obtain⟨sl,e1⟩:=hs₁.2.2 b o hb
   exact⟨_,kp b _ hbe e1⟩
 ·subst hob
  refine⟨_,_,(Heap.get?_update_other _ _ (Ne.symm hTe)).trans (Heap.get?_push_size h₁ rfl),rfl,?_⟩
  rcases hpl with rfl|⟨_,_,_,_,_,_,_,rfl⟩ <;> simp
theorem ExStep.nT{fr ol:List Addr}{e T:Addr}{oe:Obj}{fl:Value}{h h':Heap}(x:ExStep fr ol e oe T fl h h'){b:Addr}{o:Obj}(hb:h.get? b=some o):T≠b:=fun z=>by
 have:=x.new
 rw[z,hb] at this
 cases this
theorem kgP{fr ol:List Addr}{e T:Addr}{oe:Obj}{vs:Array Value}{fl:Value}{h:Heap}{Q:Unit→Shared→Prop}(x:ExStep fr ol e oe T fl h s.heap)(hoe:h.get? e=some oe)(hd:oe.data=.fields vs)(hsz:1<vs.size)
  (k:∀h',ExStep fr ol e oe T .none h h'→Q () {s with heap:=h'}):wpAny M A (setFlight (.ref e) none) Q E s:=by
 obtain⟨oT,ts,hT,hdT,h3⟩:=x.tb
 have nTe:=x.nT hoe
 have hd₃:=Obj.data_mapFields hd (·.setIfInBounds 1 (Value.ref T))
 have hz:3<ts.size:=(Mn.mp h3).1
 unfold setFlight
 refine wpAny_bind (wpAny_field x.ex hd₃ (x:=.ref T) (by simp[hsz]) ?_)
 rw[if_pos (show(Value.ref T !=Value.none)=true from by simp)]
 have hdT':=Obj.data_mapFields hdT (·.setIfInBounds 3 ((none:Option Addr).elim Value.none fun f=>rawInt f))
 refine wpAny_setField hT hdT hz (k _ ⟨fun b o hb h1 h2 h3=>?_,fun b o hb h1 h2 h3=>?_,?_,x.new,x.sz,fun b o hb=>?_,_,_,Heap.get?_update_self _ hT (Obj.isFreed_of_fields hdT'),hdT',?_⟩)
 ·rw[Heap.get?_update_other _ _ (x.nT hb)]
  exact x.keep b o hb h1 h2 h3
 ·rw[Heap.get?_update_other _ _ (x.nT hb)]
  exact x.slot b o hb h1 h2 h3
 ·rw[Heap.get?_update_other _ _ nTe]
  exact x.ex
 ·rw[Heap.get?_update_other _ _ (x.nT hb)]
  exact x.there b o hb
 ·simp[hz]
theorem kf3{base:Heap}{env:Env}{outer:List Env}{L e:Addr}{oe:Obj}{vs:Array Value}{Q:Unit→Shared→Prop}
  (hfr:A.frames=some (env::outer)) (hl:s.heap.FunFrames base (env::outer)) (hf:env.frame=some L) (he:s.heap.get? e=some oe) (hd:oe.data=.fields vs) (h1:vs[1]?=some .none)
  (h:∀h' T,ExStep (frs (env::outer)) [] e oe T (rawInt L) s.heap h'→Q () {s with heap:=h'}):wpAny M A (noteFrame (.ref e) env) Q E s:=by
 unfold noteFrame
 simp only[hf]
 refine wpAny_bind (wpAny_field he hd h1 ?_)
 rw[if_neg (by decide)]
 exact kiv hfr hl hf he hd (Mn.mp h1).1 h
theorem kgO{base:Heap}{env:Env}{outer:List Env}{L e T0:Addr}{oe oT:Obj}{vs ts:Array Value}{Q:Unit→Shared→Prop}
  (hfr:A.frames=some (env::outer)) (hl:s.heap.FunFrames base (env::outer)) (hf:env.frame=some L) (he:s.heap.get? e=some oe) (hd:oe.data=.fields vs) (h1:vs[1]?=some (.ref T0)) (nT:T0≠e) (hT:s.heap.get? T0=some oT) (hdT:oT.data=.fields ts) (h3:ts[3]?=some .none)
  (h:∀h' T,ExStep (frs (env::outer)) [T0] e oe T (rawInt L) s.heap h'→Q () {s with heap:=h'}):wpAny M A (noteFrame (.ref e) env) Q E s:=by
 unfold noteFrame
 simp only[hf]
 refine wpAny_bind (wpAny_field he hd h1 ?_)
 rw[if_pos (show(Value.ref T0 !=Value.none)=true from by simp)]
 refine wpAny_bind (wpAny_field hT hdT h3 ?_)
 rw[if_neg (show ¬((Value.none==rawInt L)=true) from by simp[rawInt])]
 refine wpAny_bind (wpAny_setField hT hdT (Mn.mp h3).1 ?_)
 have other:∀b,b≠T0→(s.heap.update T0 (Obj.mapFields (·.setIfInBounds 3 Value.none))).get? b=s.heap.get? b:=fun b hb=>Heap.get?_update_other _ _ (Ne.symm hb)
 have hdT':=Obj.data_mapFields hdT (·.setIfInBounds 3 Value.none)
 have self0:=Heap.get?_update_self (Obj.mapFields (·.setIfInBounds 3 Value.none)) hT (Obj.isFreed_of_fields hdT')
 have nrec:∀b o,s.heap.get? b=some o→(∀vs,o.data≠.fields vs)→b≠T0:=fun b o hb hnf q=>by
  rw[q,hT] at hb
  cases hb
  exact hnf ts hdT
 refine kiv (s:={s with heap:=s.heap.update T0 (Obj.mapFields (·.setIfInBounds 3 Value.none))}) hfr (hl.of_keeps fun b o hb hnf=>⟨o,(other b (nrec b o hb hnf)).trans hb,rfl⟩) hf ((other e (Ne.symm nT)).trans he) hd (Mn.mp h1).1 fun h' T x=>h h' T ?_
 have ol:∀b o,s.heap.get? b=some o→∃o',(s.heap.update T0 (Obj.mapFields (·.setIfInBounds 3 Value.none))).get? b=some o':=fun b o hb=>by
  by_cases z:b=T0
  ·rw[z]
   exact⟨_,self0⟩
  ·exact⟨o,(other b z).trans hb⟩
 have nn:∀{b:Addr},b∉[T0]→b≠T0:=fun {b} h z=>h (by rw[z];simp)
 refine⟨fun b o hb h1 h2 h3=>x.keep b o ((other b (nn h3)).trans hb) h1 h2 (by simp),fun b o hb h1 h2 h3=>x.slot b o ((other b (nn h2)).trans hb) h1 (by simp) h3,x.ex,?_,?_,fun b o hb=>?_,x.tb⟩
 ·have z:=x.sz
  exact Heap.get?_none_of_le (by rw[Heap.size_update] at z;exact z)
 ·have z:=x.sz
  rw[Heap.size_update] at z
  exact z
 ·obtain⟨o',e'⟩:=ol b o hb
  exact x.there b o' e'
theorem kff{base:Heap}{env:Env}{outer:List Env}{L e:Addr}{oe:Obj}{vs:Array Value}{Q:Unit→Shared→Prop}
  (hfr:A.frames=some (env::outer)) (hl:s.heap.FunFrames base (env::outer)) (hf:env.frame=some L) (he:s.heap.get? e=some oe) (hd:oe.data=.fields vs) (h1:vs[1]?=some .none)
  (h:∀h' T,ExStep (frs (env::outer)) [] e oe T .none s.heap h'→Q () {s with heap:=h'}):wpAny M A (leaving env (.ref e)) Q E s:=by
 unfold leaving
 refine wpAny_bind (kf3 hfr hl hf he hd h1 fun h' T x=>?_)
 exact kgP x he hd (Mn.mp h1).1 fun h'' y=>h h'' T y
end
theorem ObjOk.get{P:Program}{w:World}{H:Hp}{h:Heap}{a:Addr}{o:HO}(x:ObjOk P w H h a o):∃q,h.get? a=some q:=by
 cases o with
 |lst xs=>obtain⟨_,_,_,_,e⟩:=x;exact⟨_,e⟩
 |tup xs=>obtain⟨_,_,_,q,e,_⟩:=x;exact⟨_,e⟩
 |dK kvs=>obtain⟨_,_,_,_,o,_,_,e,_⟩:=x;exact⟨_,e⟩
 |dT kvs=>obtain⟨_,_,_,_,o,_,_,e,_⟩:=x;exact⟨_,e⟩
 |set S n=>obtain⟨o,_,_,_,e,_⟩:=x;exact⟨_,e⟩
 |ins C dx fs=>obtain⟨_,_,_,e,_⟩:=x;exact⟨_,e⟩
 |own y=>obtain⟨_,e⟩:=x;exact⟨_,e⟩
 |xd fs=>obtain⟨_,⟨_,_,_,e,_⟩,_⟩:=x;exact⟨_,e⟩
 |rng lo hi=>obtain⟨_,_,_,e⟩:=x;exact⟨_,e⟩
 |frz ob u=>obtain⟨e,_⟩:=x;exact⟨_,e⟩
 |tbl ps=>exact⟨_,(show h.get? a=some _ from x)⟩
 |met f y=>exact⟨_,(show h.get? a=some _ from x)⟩
 |ext φ=>obtain⟨_,⟨_,e⟩,_⟩:=x;exact⟨_,e⟩
theorem HOk.no{P:Program}{w:World}{H:Hp}{h:Heap}{a:Addr}(x:HOk P w H h)(e:h.get? a=none):H a=none:=by
 cases q:H a with
 |none=>rfl
 |some o=>
  obtain⟨_,e'⟩:=(x a o q).get
  rw[e] at e'
  cases e'
structure ExT (h:Heap) (a T:Addr) (cls:Value) (dx:Option Addr):Prop where
 ob:∃oe vs,h.get? a=some oe∧oe.cls=cls∧oe.dict=dx∧oe.data=.fields vs∧vs[1]?=some (.ref T)
 ne:T≠a
 tb:∃oT ts,h.get? T=some oT∧oT.data=.fields ts∧ts[3]?=some .none
noncomputable def CX1(P:Program)(w:World):CXT:=fun outer H s E e s'=>∃(a T:Addr)(cls:Value)(dx:Option Addr)(H':Hp),e=.ref a∧s'.os=s.os∧AllBare s'.gens∧Un (frs outer) [] H H' s.heap s'.heap∧HOk P w H' s'.heap∧s.heap.get? a=none∧H' a=none∧s.heap.get? T=none∧H' T=none∧ExT s'.heap a T cls dx∧E cls dx H'
def ExStep.ext{fr ol:List Addr}{e T:Addr}{oe:Obj}{vs:Array Value}{h h':Heap}(x:ExStep fr ol e oe T .none h h')(he:h.get? e=some oe)(hd:oe.data=.fields vs)(hz:1<vs.size):ExT h' e T oe.cls oe.dict:=by
 refine⟨⟨_,_,x.ex,Obj.cls_mapFields _ _,?_,Obj.data_mapFields hd _,by simp[hz]⟩,x.nT he,x.tb⟩
 obtain⟨c,d,dt,sl⟩:=oe
 cases dt <;> rfl
theorem Un.ex{fs ol ex:List Addr}{env:Env}{outer:List Env}{L e T:Addr}{oe:Obj}{fl:Value}{H0 H:Hp}{h0 h h1 h':Heap}(u:Un (frs outer) ex H0 H h0 h)(hf:env.frame=some L)(hL:h0.objs.size≤L)(kp:∀b o,h.get? b=some o→h1.get? b=some o)(x:ExStep (frs (env::outer)) ol e oe T fl h1 h')(h0e:h0.get? e=none)(hol:∀b∈ol,h0.get? b=none):Un (frs outer) ex H0 H h0 h':=by
 have nL:∀b o,h0.get? b=some o→b≠L:=fun b o e z=>absurd (Heap.lt_size e) (by rw[z];exact Mw.mpr hL)
 have ne:∀b o,h0.get? b=some o→b≠e:=fun b o q z=>by
  rw[z,h0e] at q
  cases q
 have nol:∀b o,h0.get? b=some o→b∉ol:=fun b o q z=>by
  rw[hol b z] at q
  cases q
 have nfr:∀b o,h0.get? b=some o→b∉frs outer→b∉frs (env::outer):=fun b o q hb z=>by
  unfold frs at z hb
  rw[Mp,hf] at z
  rcases Nd.mp z with z|z
  ·exact nL b o q z
  ·exact hb z
 have ifr:∀b,b∈frs outer→b∈frs (env::outer):=fun b hb=>by
  unfold frs at hb⊢
  rw[Mp,hf]
  exact J5 _ hb
 refine⟨fun b o q n hb hx=>x.keep b o (kp b o (u.keep b o q n hb hx)) (nfr b o q hb) (ne b o q) (nol b o q),fun b o q n hb hx=>?_,u.free,fun b o q hx=>?_,u.tups,u.frzs,u.tbls⟩
 ·obtain⟨sl,e1⟩:=u.slot b o q n hb hx
  obtain⟨sl2,e2⟩:=x.slot b _ (kp b _ e1) (ifr b hb) (nol b o q) (ne b o q)
  exact⟨sl2,e2⟩
 ·obtain⟨o',e1⟩:=u.there b o q hx
  exact x.there b o' (kp b o' e1)
section
variable {P:Program} {w:World} {K:JN} {mg:Str→Option Value} {base:Heap} {N:List Str} {qual:Str} {scope:Scope} {f:Addr} {cd:Value} {A:Around} {outer:List Env} {s₀:Shared} {H₀:Hp} {E:XK}
end
def FnOk.calm{P:Program}{w:World}{K:JN}{mg:Str→Option Value}{base:Heap}{k:Nat}{f:Addr}{fd:FuncData}{ps:List Str}{sp:Sp}(F:FnOk P w K mg base (CX1 P w) k f fd ps sp):FnOk P w K mg base CX0 k f fd ps fun vs H Q _=>sp vs H Q E0:=
 ⟨fun vs H Q E h=>F.len vs H Q E0 h,fun A outer s H args us vs Q E hr he hb hv hs=>codeAny_mono (F.run A outer s H args us vs Q E0 hr he hb hv hs) fun r s' h=>by
  cases r with
  |ok fl=>cases fl <;> exact h
  |error e=>
   obtain⟨_,_,_,_,_,_,_,_,_,_,_,_,_,_,_,z⟩:=h
   exact z.elim⟩
theorem FunD.okX{P:Program}{w:World}{K:JN}{mg:Str→Option Value}{base:Heap}{x qual:Str}{st:Stmt}{f:Addr}{fd:FuncData}{N ps:List Str}{k:Nat}{sp:Sp}(F:FunD K x qual st f fd)(S:kar N ps (kai st))(len:∀vs H Q E,sp vs H Q E→vs.length=ps.length)
  (hbody:∀(cdv:Value)(A:Around)(outer:List Env)(s:Shared)(H:Hp)(vs:List V)(Q:VK)(E:XK),Room k (A.deeper (PyProof.Rows.envOfC qual (kai st) s.heap.objs.size f cdv))→sp vs H Q E→
   ∃t,PSs (cxOf (CX1 P w) P w K mg base N qual (kai st) f cdv A outer s H E) (kaC st) t∧t {nx:=fun _ H'=>Q .non H',rt:=Q} (start N vs) H):FnOk P w K mg base (CX1 P w) (k+1) f fd ps sp:=by
 obtain⟨oc,od,dV,kV,doc,pm,an,cdv,ct,osl,rfl,lk,hcd⟩:=F.ex
 exact fn_of lk hcd S len fun A outer s H vs Q E hr hsp=>hbody cdv A outer s H vs Q E hr hsp
structure Top1 (X:Cx):Prop where
 st:X.stack=X.env::X.outer
 fr:X.env.frame=some X.env.locals
 fn:∀y,X.fn y=true
 ex0:X.ex=[]
structure Fre (X:Cx) (pins:List (Addr×Obj)) (H:Hp) (b:Addr):Prop where
 no:H b=none
 s0:X.s₀.heap.get? b=none
 pin:∀p∈X.pn++pins,p.1≠b
theorem Inv.exs{X:Cx}{pins:List (Addr×Obj)}{σ:St}{H:Hp}{s:Shared}{e T:Addr}{ol:List Addr}{oe:Obj}{vs:Array Value}{fl:Value}{h':Heap}{tk:Nat}(I:Inv X pins σ H s)(TX:Top1 X)(x:ExStep (frs X.stack) ol e oe T fl s.heap h')(he:s.heap.get? e=some oe)(hd:oe.data=.fields vs)(fe:Fre X pins H e)
  (fo:∀b∈ol,Fre X pins H b∧∃ob ts,s.heap.get? b=some ob∧ob.data=.fields ts):Inv X pins σ H {s with heap:=h',toks:=tk}:=by
 have nfld:∀{b:Addr}{o:Obj},s.heap.get? b=some o→(∀vs,o.data≠.fields vs)→b≠e∧b∉ol:=fun {b o} hb hn=>⟨fun z=>by
  rw[z,he] at hb
  cases hb
  exact hn vs hd,fun z=>by
  obtain⟨_,ob,ts,h1,h2⟩:=fo b z
  rw[hb] at h1
  cases h1
  exact hn ts h2⟩
 have mem:X.env.locals∈frs X.stack:=by
  rw[TX.st]
  unfold frs
  rw[Mp,TX.fr]
  exact Na ..
 have nfr:∀{b:Addr},b≠X.env.locals→b∉X.fs→b∉frs X.stack:=fun {b} h1 h2 z=>by
  rw[TX.st] at z
  unfold frs at z
  rw[Mp,TX.fr] at z
  rcases Nd.mp z with z|z
  ·exact h1 z
  ·exact h2 z
 have cl:∀{y:Str}{c:Addr}{v:Option Value},X.env.cells.lookup y=some c→s.heap.IsCell c v→h'.IsCell c v:=fun {y c v} hc ⟨o,ho,hdc⟩=>by
  obtain⟨n1,n2⟩:=nfld ho (fun vs q=>by rw[hdc] at q;cases q)
  refine⟨o,x.keep c o ho (nfr (fun z=>?_) fun z=>?_) n1 n2,hdc⟩
  ·obtain⟨m,⟨o',es,ep,ho',hd',_⟩,_⟩:=I.loc
   rw[←z,ho] at ho'
   cases ho'
   rw[hdc] at hd'
   cases hd'
  ·obtain⟨_,o',ho',_⟩:=I.ok.funs.mem z
   exact absurd (Heap.lt_size ho') (Mw.mpr (I.ok.cab y c (TX.fn y) hc))
 refine⟨I.ok,I.os,I.bare,?_,?_,fun y c hc=>?_,I.free,I.freeC,fun p hp=>?_,fun b u q=>?_,I.len⟩
 ·rw[TX.st] at x
  exact I.base.ex (fs:=[]) (L:=X.env.locals) (env:=X.env) TX.fr I.ok.above (fun _ _ q=>q) x fe.s0 fun b hb=>(fo b hb).1.s0
 ·obtain⟨m,⟨o,es,ep,ho,hdo,r⟩,hl⟩:=I.loc
  obtain⟨n1,n2⟩:=nfld ho (fun vs q=>by rw[hdo] at q;cases q)
  obtain⟨sl,hs⟩:=x.slot _ o ho mem n2 n1
  refine⟨m,⟨_,es,ep,hs,hdo,r⟩,fun i y v h1 h2 h3=>?_⟩
  obtain⟨u,ru,lk⟩:=hl i y v h1 h2 h3
  refine⟨u,ru,?_⟩
  rcases lk with lk|⟨k,c,hc,z⟩
  ·exact .inl lk
  ·exact .inr ⟨k,c,hc,cl hc z⟩
 ·obtain⟨v,z⟩:=I.cell y c hc
  exact⟨v,cl hc z⟩
 ·obtain⟨h1,h2,h3,h4,h5⟩:=I.pin p hp
  exact⟨x.keep p.1 p.2 h1 (nfr h3 h4) (fe.pin p hp) (fun z=>(fo p.1 z).1.pin p hp rfl),h2,h3,h4,h5⟩
 ·refine(I.hok b u q).stay (fun c v hc r=>?_) (fun _ r=>r) fun _ _ r=>r
  obtain⟨o,eo⟩:∃o,H c=some o:=by
   rcases hc with rfl|hc
   ·exact⟨u,q⟩
   ·exact⟨_,hc⟩
  refine x.keep c v r (fun z=>?_) (kag eo fe.no) fun z=>?_
  ·have:=I.stkFree c z
   rw[eo] at this
   cases this
  ·have:=(fo c z).1.no
   rw[eo] at this
   cases this
theorem keo{X:Cx}{pins:List (Addr×Obj)}{σ:St}{H:Hp}{s:Shared}{n:Str}{i:Nat}{pos:Pos}{M:Model}{A:Around}{E:Value→Shared→Prop}{Q:Unit→Shared→Prop}(I:Inv X pins σ H s)(hN:X.N.Nodup)(hi:X.N[i]?=some n)(hl:X.env.kindOf n=some .local)
  (h:∀s',Inv X pins (σ.set i none) H s'→Q () s'):wpAny M A (do bindName X.env n .none;unbindBehindTheSuite X.env n pos) Q E s:=by
 obtain⟨m,hn,hlk⟩:=id I.loc
 have hcls:(X.env.scope.kind== .class||(X.env.scope.kind== .module&&X.env.locals !=X.env.globals))=false:=by rw[I.ok.kind];rfl
 have hiN:=(JX.mp hi).1
 refine wpAny_nameGoes_keeps hl hn hcls fun h' v hn' hs=>h _ ?_
 have szL:=I.ok.above
 have kp:∀{b:Addr}{o:Obj},b≠X.env.locals→s.heap.get? b=some o→h'.get? b=some o:=fun {b o} nb e=>(hs.2 b nb).trans e
 have nL:∀{b:Addr}{o:Obj},X.s₀.heap.get? b=some o→b≠X.env.locals:=fun {b o} e z=>absurd (Heap.lt_size e) (by rw[z];exact Mw.mpr szL)
 have cl:∀{y:Str}{c:Addr}{v:Option Value},s.heap.IsCell c v→h'.IsCell c v:=fun {y c v} ⟨o,ho,hdc⟩=>⟨o,kp (fun z=>by
  obtain⟨o',es,ep,ho',hd',_⟩:=hn
  rw[←z,ho] at ho'
  cases ho'
  rw[hdc] at hd'
  cases hd') ho,hdc⟩
 refine⟨I.ok,I.os,I.bare,⟨fun b o q z hb hx=>kp (nL q) (I.base.keep b o q z hb hx),fun b o q z hb hx=>?_,I.base.free,fun b o q hx=>?_,I.base.tups,I.base.frzs,I.base.tbls⟩,⟨_,hn',fun j y w h1 h2 h3=>?_⟩,fun y c hc=>?_,I.free,I.freeC,fun p hp=>?_,fun b u q=>?_,by rw[N8];exact I.len⟩
 ·obtain⟨sl,e1⟩:=I.base.slot b o q z hb hx
  exact⟨sl,kp (nL q) e1⟩
 ·obtain⟨o',e1⟩:=I.base.there b o q hx
  exact⟨o',kp (nL q) e1⟩
 ·have hji:j≠i:=fun z=>by
   rw[z,ME (by rw[I.len];exact hiN)] at h2
   cases h2
  rw[MF (Ne.symm hji)] at h2
  obtain⟨u,ru,lk⟩:=hlk j y w h1 h2 h3
  have hyn:y≠n:=fun z=>by
   subst z
   exact hji ((List.getElem?_inj hiN hN).mp (hi.trans h1.symm)).symm
  refine⟨u,ru,?_⟩
  rcases lk with⟨k1,k2⟩|⟨k,c,hc,z⟩
  ·exact .inl ⟨k1,by show(if y=n then v else m y)=_;rw[if_neg hyn];exact k2⟩
  ·exact .inr ⟨k,c,hc,cl (y:=y) z⟩
 ·obtain⟨v,z⟩:=I.cell y c hc
  exact⟨v,cl (y:=y) z⟩
 ·obtain⟨h1,h2,h3,h4,h5⟩:=I.pin p hp
  exact⟨kp h3 h1,h2,h3,h4,h5⟩
 ·refine(I.hok b u q).stay (fun c v hc r=>kp (fun z=>?_) r) (fun _ r=>r) fun _ _ r=>r
  rw[z] at hc
  rcases hc with hc|hc
  ·rw[←hc,I.free] at q
   cases q
  ·rw[I.free] at hc
   cases hc
noncomputable def Cx.inEx(X:Cx)(a:Addr):Cx:={X with A:=X.A.mark (some (.ref a)),calm:=false}
def Inv.inEx{X:Cx}{pins:List (Addr×Obj)}{σ:St}{H:Hp}{s:Shared}(I:Inv X pins σ H s)(a:Addr):Inv (X.inEx a) pins σ H s:=
 ⟨⟨I.ok.mod,I.ok.kind,I.ok.glob,I.ok.blt,I.ok.above,I.ok.inj,I.ok.has,I.ok.cab,(fun z=>absurd z JV),I.ok.frames,I.ok.stk,I.ok.exf,I.ok.bs,I.ok.bsz,I.ok.noex,I.ok.exfs,I.ok.funs,I.ok.frf⟩,I.os,I.bare,I.base,I.loc,I.cell,I.free,I.freeC,I.pin,I.hok,I.len⟩
def Inv.outEx{X:Cx}{pins:List (Addr×Obj)}{σ:St}{H:Hp}{s:Shared}{a:Addr}(ok:X.Ok)(I:Inv (X.inEx a) pins σ H s):Inv X pins σ H s:=⟨ok,I.os,I.bare,I.base,I.loc,I.cell,I.free,I.freeC,I.pin,I.hok,I.len⟩
noncomputable def ExcO(a:Addr)(cls:Value)(dx:Option Addr):HO:=.ext fun h=>∃oe vs,h.get? a=some oe∧oe.cls=cls∧oe.dict=dx∧oe.data=.fields vs
def Inv.adoptX{X:Cx}{pins:List (Addr×Obj)}{σ:St}{H:Hp}{s:Shared}{a:Addr}{o:HO}{oe:Obj}{vs:Array Value}(I:Inv X pins σ H s)(f:Fre X pins H a)(he:s.heap.get? a=some oe)(hd:oe.data=.fields vs)(new:ObjOk X.prog X.w (upd H a o) s.heap a o):Inv X pins σ (upd H a o) s:=by
 have hn:=f.no
 have nt:∀b u,H b=some u→b≠a:=fun b u e=>kag e hn
 have hL:a≠X.env.locals:=fun z=>by
  obtain⟨m,⟨o',es,ep,ho',hd',_⟩,_⟩:=I.loc
  rw[←z,he] at ho'
  cases ho'
  rw[hd] at hd'
  cases hd'
 have hC:∀x c,X.env.cells.lookup x=some c→c≠a:=fun x c e z=>by
  obtain⟨v,o',ho',hd'⟩:=I.cell x c e
  rw[z,he] at ho'
  cases ho'
  rw[hd] at hd'
  cases hd'
 refine⟨I.ok,I.os,I.bare,⟨I.base.keep,I.base.slot,fun b ob e n hx=>?_,I.base.there,fun b xs e=>?_,fun b ob u e=>?_,fun b ps e=>?_⟩,I.loc,I.cell,?_,fun x c e=>?_,fun p hp'=>?_,fun b u e=>?_,I.len⟩
 ·rw[kaj (show b≠a from fun z=>by rw[z,f.s0] at e;cases e)]
  exact I.base.free b ob e n hx
 ·have q:=I.base.tups b xs e
  rw[kaj (nt _ _ q)]
  exact q
 ·have q:=I.base.frzs b ob u e
  rw[kaj (nt _ _ q)]
  exact q
 ·obtain⟨m,q⟩:=I.base.tbls b ps e
  exact⟨m,by rw[kaj (nt _ _ q)];exact q⟩
 ·rw[kaj (Ne.symm hL)]
  exact I.free
 ·rw[kaj (hC x c e)]
  exact I.freeC x c e
 ·obtain⟨e,n,r⟩:=I.pin p hp'
  exact⟨e,by rw[kaj (f.pin p hp')];exact n,r⟩
 ·by_cases hb:b=a
  ·subst hb
   rw[kad] at e
   cases e
   exact new
  ·rw[kaj hb] at e
   refine(I.hok b u e).stay (fun _ _ _ q=>q) (fun d r=>?_) fun d xs r=>?_
   ·rw[kaj (nt _ _ r)]
    exact r
   ·rw[kaj (nt _ _ r)]
    exact r
noncomputable def XL(X:Cx)(pins:List (Addr×Obj))(σ:St)(EX:XK)(e:Value)(s:Shared):Prop:=∃(a T:Addr)(cls:Value)(dx:Option Addr)(H:Hp),e=.ref a∧Inv X pins σ H s∧Fre X pins H a∧Fre X pins H T∧ExT s.heap a T cls dx∧EX cls dx H
noncomputable def Ends.goes(D:Ends)(i:Nat):Ends:={nx:=fun σ H=>D.nx (σ.set i none) H,rt:=D.rt,bk:=fun σ H=>D.bk (σ.set i none) H,ct:=fun σ H=>D.ct (σ.set i none) H}
noncomputable def tTry(K:JN)(CT:Addr)(i:Nat)(tb:XK→TS)(ts:TS):TS:=fun D σ H=>tb (fun cls dx H1=>EG K cls (.ref CT)=some true∧∀a,H1 a=none→ts (D.goes i) (σ.set i (some (.ref a))) (upd H1 a (ExcO a cls dx))) D σ H
theorem kmP{X:Cx}{body suite:List Stmt}{b₀:Stmt}{n tn:Str}{i:Nat}{CT:Addr}{tp hpos pos:Pos}{tb:XK→TS}{ts:TS}(TX:Top1 X)(hN:X.N.Nodup)(hi:X.N[i]?=some n)(hl:X.env.kindOf n=some .local)(hg:Gl X tn)(hm:X.mg tn=some (.ref CT))
  (hb:∀(pins:List (Addr×Obj))(s:Shared)(σ:St)(H:Hp)(D:Ends)(EX:XK),Inv X pins σ H s→tb EX D σ H→wpAny (model X.prog X.w) X.A (execs body X.env) (SP X pins D) (XL X pins σ EX) s)
  (hs:∀a,PSs (X.inEx a).nox (b₀::suite) ts) (hdb:(tn==("__debug__" :Str))=false:=by decide):
  PS X (.Try body [.ExceptHandler (some (.Name tn tp)) (some n) (b₀::suite) hpos] [] [] pos) (tTry X.K CT i tb ts):=by
 intro pins s σ H D I h
 refine wpAny_Try_except (wpAny_mono (hb pins s σ H D _ I h) (fun f s1 h1=>?_) fun e s1 h1=>?_)
 ·cases f with
  |next=>exact wpAny_execs_nil h1
  |brk=>exact h1
  |cont=>exact h1
  |ret v=>exact h1
 obtain⟨a,T0,cls,dx,H1,rfl,I1,fa,fT,ext,hxm,hts⟩:=h1
 obtain⟨⟨oe,vs,hoe,hcl,hdx,hd,hv1⟩,nT,oT,tsv,hT,hdT,h3⟩:=ext
 have hsz:1<vs.size:=(Mn.mp hv1).1
 have hfr:X.A.frames=some (X.env::X.outer):=by rw[←TX.st];exact I1.ok.frames
 have hst:s1.heap.FunFrames X.base (X.env::X.outer):=by rw[←TX.st];exact I1.stack
 refine kgO hfr hst TX.fr hoe hd hv1 nT hT hdT h3 fun h2 T x2=>?_
 refine kgP (s:={s1 with heap:=h2}) x2 hoe hd hsz fun h3' x3=>?_
 have I3:Inv X pins σ H1 {s1 with heap:=h3',toks:=s1.toks}:=I1.exs TX (by rw[TX.st];exact x3) hoe hd fa fun b hb=>by
  rw[N3.mp hb]
  exact⟨fT,oT,tsv,hT,hdT⟩
 have ext3:=x3.ext hoe hd hsz
 rw[hcl,hdx] at ext3
 have hT1:H1 T=none:=I1.hok.no x3.new
 have sT:s1.heap.objs.size≤T:=x3.sz
 have fpT:=I1.fpOk (H':=H1) sT hT1
 clear x2 x3
 obtain⟨⟨oe3,vs3,hoe3,hcl3,hdx3,hd3,hv3⟩,nT3,oT3,ts3,hT3,hdT3,h33⟩:=id ext3
 refine wpAny_handleBy_cons (codeAny_handlers_test ?_) (by intro q;cases q)
 refine kdj (X:=X.inEx a) (I3.inEx a) hg hm ?_ hdb
 have lt:Er (model X.prog X.w) h3' (typeOf (.ref a)) cls:=by
  have z:=(Er.ld (M:=model X.prog X.w) (part:=none) hoe3).andThen (f:=fun o=>pure o.cls) .now
  rw[hcl3] at z
  exact z
 refine(PySem.W.exm_one (M:=model X.prog X.w) I3.kIn lt hxm).here ?_
 rw[if_pos rfl]
 refine codeAny_handlers_suite_as ?_
 have hz3:3<ts3.size:=(Mn.mp h33).1
 refine wpAny_setFlight_none hoe3 hd3 hv3 hT3 hdT3 hz3 ?_
 have sb:=Heap.SameBut.update h3' T (Obj.mapFields (·.setIfInBounds 3 Value.none))
 obtain⟨q1,q2,q3,q4,q5,q6⟩:=fpT
 have I4:=I3.turned (t':=s1.toks) (it:=T) (h':=h3'.update T (Obj.mapFields (·.setIfInBounds 3 Value.none))) (fun b o nb e=>(sb.2 b nb).trans e) q1 q2 q4 q5 q6
 have hoe4:(h3'.update T (Obj.mapFields (·.setIfInBounds 3 Value.none))).get? a=some oe3:=(sb.2 a (Ne.symm nT3)).trans hoe3
 have I5:Inv X pins σ (upd H1 a (ExcO a cls dx)) {s1 with heap:=h3'.update T (Obj.mapFields (·.setIfInBounds 3 Value.none)),toks:=s1.toks}:=I4.adoptX fa hoe4 hd3 (show ObjOk X.prog X.w _ _ a (ExcO a cls dx) from⟨⟨oe3,vs3,hoe4,hcl3,hdx3,hd3⟩,⟨oe3,hoe4⟩,fun g1 g2 ⟨o,v,z1,z2⟩ k=>⟨o,v,k o z1,z2⟩⟩)
 refine kdm (X:=X) (v:=.ref a) I5 hN hi (.inl hl) rfl (fun s6 I6=>?_) (.inl (TX.fn n))
 have key:=hs a pins s6 _ _ (D.goes i) ((I6.inEx a).wish _) (hts a fa.no)
 refine wpAny_mono key (fun f s7 h7=>?_) fun _ _ z=>z.elim
 show wpAny (model X.prog X.w) X.A (do bindName X.env n .none;unbindBehindTheSuite X.env n hpos) (fun _ s₃=>SP X pins D f s₃) X.xe s7
 cases f with
 |next=>
  obtain⟨σ',H',J,q⟩:=h7
  exact keo (J.unwish.outEx I.ok) hN hi hl fun s' I'=>⟨_,H',I',q⟩
 |brk=>
  obtain⟨σ',H',J,q⟩:=h7
  exact keo (J.unwish.outEx I.ok) hN hi hl fun s' I'=>⟨_,H',I',q⟩
 |cont=>
  obtain⟨σ',H',J,q⟩:=h7
  exact keo (J.unwish.outEx I.ok) hN hi hl fun s' I'=>⟨_,H',I',q⟩
 |ret u=>
  obtain⟨v,σ',H',J,r,q⟩:=h7
  exact keo (J.unwish.outEx I.ok) hN hi hl fun s' I'=>⟨v,_,H',I',r,q⟩
section
variable {X:Cx} {k:Nat} {f C:Addr} {fd:FuncData} {ps:List Str} {sp:Sp} {dvs:List V} {ds:List Value} {x m:Str} {p pos apos:Pos} {e o:Expr} {es:List Expr} {ta:TE} {t:TA}
theorem xl_of{pins:List (Addr×Obj)}{σ:St}{H:Hp}{s s':Shared}{EX:XK}{e:Value}(TX:Top1 X)(I:Inv X pins σ H s)(hq:CX1 X.prog X.w X.stack H s EX e s'):XL X pins σ EX e s':=by
 obtain⟨a,T,cls,dx,H',rfl,os,bare,un,hok,ha,hHa,hT,hHT,ext,hE⟩:=hq
 have I':Inv X pins σ H' s':=I.call' (ch:=[]) os un hok bare (fun b hb=>by simp at hb)
 have z0:∀{b:Addr},s.heap.get? b=none→b∉X.ex→X.s₀.heap.get? b=none:=fun {b} hn hx=>by
  cases q:X.s₀.heap.get? b with
  |none=>rfl
  |some o=>
   obtain⟨o',z⟩:=I.base.there b o q hx
   rw[hn] at z
   cases z
 have zp:∀{b:Addr},s.heap.get? b=none→∀p∈X.pn++pins,p.1≠b:=fun {b} hn p hp z=>by
  have:=(I.pin p hp).1
  rw[z,hn] at this
  cases this
 have nx:∀b:Addr,b∉X.ex:=fun b z=>by
  rw[TX.ex0] at z
  cases z
 exact⟨a,T,cls,dx,H',rfl,I',⟨hHa,z0 ha (nx a),zp ha⟩,⟨hHT,z0 hT (nx T),zp hT⟩,ext,hE⟩
theorem kl5{pins:List (Addr×Obj)}{σ:St}{H:Hp}{s:Shared}{Q:VK}{EX:XK}{us:List Value}{vs:List V}(F:FnOk X.prog X.w X.K X.mg X.base (CX1 X.prog X.w) k f fd ps sp)(hr:Room k X.A)(hb:Binds X.K fd ps ds)(hd:Vals dvs ds)(TX:Top1 X)
  (I:Inv X pins σ H s) (r:Vals vs us) (h:sp (vs++dvs) H Q EX):wpAny (model X.prog X.w) X.A (call (.ref f) us) (EP X pins σ Q) (XL X pins σ EX) s:=by
 have r2:Vals (vs++dvs) (us++ds):=r.append hd
 have hl:(us++ds).length=ps.length:=by rw[←r2.length];exact F.len _ _ _ _ h
 refine wpAny_call (codeAny_mono (F.run X.A X.stack s H ⟨us,[]⟩ (us++ds) (vs++dvs) Q EX hr I.env0 (hb s us I.kIn hl) r2 h) fun r s' hq=>?_)
 cases r with
 |error e=>exact xl_of TX I hq
 |ok fl=>
  cases fl with
  |ret u=>exact I.after hq
  |next=>exact False.elim hq
  |brk=>exact False.elim hq
  |cont=>exact False.elim hq
noncomputable def PEX(X:Cx)(e:Expr)(te:XK→TE):Prop:=∀(pins:List (Addr×Obj))(s:Shared)(σ:St)(H:Hp)(Q:VK)(EX:XK),Inv X pins σ H s→te EX σ H Q→wpAny (model X.prog X.w) X.A (eval e X.env) (EP X pins σ Q) (XL X pins σ EX) s
theorem klT(TX:Top1 X)(hnx:∀e s',X.xe e s'→False)(F:FnOk X.prog X.w X.K X.mg X.base (CX1 X.prog X.w) k f fd ps sp)(hr:Room k X.A)(hg:Gl X x)(hm:X.mg x=some (.ref f))(hk:J6 X.K (.ref f)=true)(hb:Binds X.K fd ps ds)(hd:Vals dvs ds)
  (ha:PA X (e::es) t) (hdb:(x==("__debug__" :Str))=false:=by decide) (he:starEach (e::es) X.env=(false,eval e X.env)::starEach es X.env:=by rfl) (hpl:(backTo pos (starEach es X.env)).any (·.1)=false:=by rfl):
  PEX X (.Call (.Name x p) (e::es) [] pos) (fun EX=>tCall sp dvs EX t):=by
 intro pins s σ H Q EX I h
 refine wpAny_Call_Name_kw (kdj I hg hm ?_ hdb)
 exact Mu (h₀:=X.base) I.ok.mod.kin hk (wpAny_mono (ha pos pins s σ H _ I h) (fun us s1 ⟨vs,H1,I1,r,q⟩=>⟨I1.kIn,kl5 F hr hb hd TX I1 r q⟩) fun e s' z=>(hnx e s' z).elim) he hpl
noncomputable def PBX(X:Cx)(body:List Stmt)(tb:XK→TS):Prop:=∀(pins:List (Addr×Obj))(s:Shared)(σ:St)(H:Hp)(D:Ends)(EX:XK),Inv X pins σ H s→tb EX D σ H→wpAny (model X.prog X.w) X.A (execs body X.env) (SP X pins D) (XL X pins σ EX) s
theorem kmH{i:Nat}{te:XK→TE}{pos':Pos}(hN:X.N.Nodup)(he:PEX X e te)(hi:X.N[i]?=some x:=by rfl)(hx:Loc X.env.scope x:=by first|exact Or.inl rfl|exact Or.inr rfl)(hs:swapsWith e (some (.Name x pos')) pos.line X.env=pure false:=by rfl)(hf:X.fn x=true∨X.env.scope.names.lookup x=some .local:=by first|exact .inl rfl|exact .inr rfl|assumption):
  PBX X [.Assign [.Name x pos'] e pos] (fun EX=>tAsg (te EX) (gName i)):=by
 intro pins s σ H D EX I h
 refine wpAny_execs_cons (wpAny_Assign_Name (thn (he pins s σ H _ EX I h) fun v s1 ⟨y,H1,I1,r1,q1⟩=>?_) hs)
 exact kdm I1 hN hi hx r1 (fun s2 I2=>wpAny_execs_nil ⟨_,H1,I2,q1⟩) hf
theorem ki2{CX:CXT}{P:Program}{w:World}{K:JN}{mg:Str→Option Value}{base:Heap}{N:List Str}{qual:Str}{scope:Scope}{f:Addr}{cd:Value}{A:Around}{outer:List Env}{s:Shared}{H:Hp}{E:XK}:Top1 (cxOf CX P w K mg base N qual scope f cd A outer s H E).nox:=⟨rfl,rfl,fun _=>rfl,rfl⟩
end
end L2
namespace L2
open PySem PySem.W PySem.Calls PyProof.Rows Builtin Builtin.ObjectAttr
section
variable {prog:Program} {w:World} {K:Frag} {A:Around} {E:Value→Shared→Prop} {h:Heap} {g:Array GenState} {d:Drawn} {t:Nat} {os:OsState} {a C:Addr} {o:Obj} {od:Option Obj}
structure ExcK (K:Frag) (C:Addr):Prop where
 ga:findIn K (.ref C) "__getattribute__"=some (some (.builtin "BaseException.__getattribute__"))
 no:findIn K (.ref C) "__getattr__"=some none
 cl:findIn K (.ref C) "__class__"=some (some (.builtin "object.__class__"))
 sub:subIn K (.ref C) (.type "BaseException")=some true
 obj:mroIn K C (.type "object")=some true
 isc:(clsIn K C).isSome=true
theorem kkh{M:Model}{nameV:Value}{Q:Unit→Shared→Prop}(X:K.In h)(Z:ExcK K C)(hx:h.get? a=some o)(hc:o.cls=.ref C)(hq:Q () ⟨h,g,d,t,os⟩):wpAny M A (checkBuiltinCall "BaseException.__getattribute__" ⟨[.ref a,nameV],[]⟩) Q E ⟨h,g,d,t,os⟩:=by
 have hk:builtinKind "BaseException.__getattribute__"=some .slot:=by decide +kernel
 have hsplit:splitId "BaseException.__getattribute__"=some ("BaseException","__getattribute__"):=by decide +kernel
 have ha:=PySem.F.args_bexc_ga (.ref a) nameV
 have sb:∀{A:Around}{E:Value→Shared→Prop}{Q:Bool→Shared→Prop}{t:Nat},Q true ⟨h,g,d,t,os⟩→wpAny M A (isSubtype (.ref C) (.type "BaseException")) Q E ⟨h,g,d,t,os⟩:=fun q=>(looks_subIn X Z.sub).at q
 simp only[checkBuiltinCall,hk,hsplit]
 refine wpAny_bind ?_
 ·unfold isInstance
  repeat (first|(with_reducible refine wpAny_loadPart_at hx ?_;rw[hc])|(with_reducible refine sb ?_)|wp_step)
  exact hq
theorem kkg{tk:Tok}{Q:Fin→Shared→Prop}(X:K.In h)(Z:ExcK K C)(I:InstAt h a o C od)(hq:Q (.done (.ret (.ref C))) ⟨h,g,d,t,os⟩):wpAny (model prog w) A (Builtin.«object.__getattribute__» ⟨[.ref a, .str "__class__" tk],[]⟩) Q E ⟨h,g,d,t,os⟩:=by
 have hx:=I.at_
 have hc:=I.cls
 have f5:=PySem.F.typeOf_object_class
 have f6:=PySem.F.slot_gs_get.lookup
 have f7:=PySem.F.slot_gs_set.lookup
 have lk:∀{A:Around}{E:Value→Shared→Prop}{Q:Option Value→Shared→Prop}{t:Nat},Q (some (.builtin "object.__class__")) ⟨h,g,d,t,os⟩→wpAny (model prog w) A (typeLookup (.ref C) "__class__") Q E ⟨h,g,d,t,os⟩:=fun q=>(looks_findIn X Z.cl).at q
 repeat (any_goals (first|assumption|(with_reducible refine wpAny_loadPart_at hx ?_;rw[hc])|with_reducible refine lk ?_|wp_step))
 refine class_get (s:=⟨h,g,d,t,os⟩) X I Z.obj ?_
 repeat (any_goals (first|assumption|wp_step))
theorem kla{tk:Tok}{R:Result→Shared→Prop}(X:K.In h)(Z:ExcK K C)(I:InstAt h a o C od)(hq:R (.ok (.ret (.ref C))) ⟨h,g,d,t,os⟩):codeAny (model prog w) A (.call (.builtin "BaseException.__getattribute__") ⟨[.ref a, .str "__class__" tk],[]⟩) R ⟨h,g,d,t,os⟩:=
 codeAny_call_builtin E5.ga.plain PySem.F.entry_bexc_ga (kkh X Z I.at_ I.cls (kkg X Z I hq))
theorem km8{tk:Tok}{fill expr:Bool}{Q:Value→Shared→Prop}(X:K.In h)(Z:ExcK K C)(I:InstAt h a o C od)(hq:Q (.ref C) ⟨h,g,d,t,os⟩):wpAny (model prog w) A (getAttrBy (.ref a) (.str "__class__" tk) fill expr) Q E ⟨h,g,d,t,os⟩:=by
 have hx:=I.at_
 have hc:=I.cls
 have f3:=E5.ga.bind (.ref a)
 have hx0:(expr&&onTheHeap (Value.builtin "BaseException.__getattribute__"))=false:=by cases expr <;> rfl
 have hx2:(Value.builtin "BaseException.__getattribute__" ==Value.builtin "object.__getattribute__")=false:=by decide +kernel
 have hx1:(onTheHeap (Value.ref C)&&Value.builtin "BaseException.__getattribute__" ==Value.builtin "object.__getattribute__")=false:=by rw[hx2];rfl
 have lk1:∀{A:Around}{E:Value→Shared→Prop}{Q:Option Value→Shared→Prop}{t:Nat},Q (some (.builtin "BaseException.__getattribute__")) ⟨h,g,d,t,os⟩→wpAny (model prog w) A (typeLookup (.ref C) "__getattribute__") Q E ⟨h,g,d,t,os⟩:=fun q=>(looks_findIn X Z.ga).at q
 have lk2:∀{A:Around}{E:Value→Shared→Prop}{Q:Option Value→Shared→Prop}{t:Nat},Q none ⟨h,g,d,t,os⟩→wpAny (model prog w) A (typeLookup (.ref C) "__getattr__") Q E ⟨h,g,d,t,os⟩:=fun q=>(looks_findIn X Z.no).at q
 repeat (any_goals (first|assumption|(with_reducible refine wpAny_loadPart_at hx ?_;rw[hc])|with_reducible refine lk1 ?_|with_reducible refine lk2 ?_|wp_step))
 refine kla X Z I ?_
 repeat (any_goals (first|assumption|wp_step))
theorem km7{Q:Option Value→Shared→Prop}(X:K.In h)(Z:ExcK K C)(I:InstAt h a o C od)(hq:Q (some (.ref C)) ⟨h,g,d,t+1,os⟩):wpAny (model prog w) A (getAttr? (.ref a) "__class__") Q E ⟨h,g,d,t,os⟩:=by
 unfold getAttr? getAttrBy?
 repeat (any_goals (first|assumption|with_reducible apply km8 X Z I|wp_step))
theorem kk1(Z:ExcK K C):KitX K (.ref a) (.ref C) (fun h=>InstAt h a o C od) where
 ty:=fun _ _ _ I=>I.type
 it:=fun _ _ X _=>by
  obtain⟨cdD,hcD⟩:=Eu.mp Z.isc
  unfold clsIn at hcD
  split at hcD
  ·rename_i c' d' cd' sl' ho
   intro A' Q' E' s' k q
   unfold isType loadHead
   exact wpAny_bind (wpAny_loadPart (k _ _ (X _ _ ho)) (wpAny_pure q))
  ·cases hcD
 ne:=fun h tp dd its n sl X htp=>by
  obtain⟨cdD,hcD⟩:=Eu.mp Z.isc
  refine Bool.eq_false_iff.mpr fun q=>?_
  have e:C=tp:=Value.ref.inj (beq_iff_eq.mp q)
  subst e
  unfold clsIn at hcD
  split at hcD
  ·rename_i c' d' cd' sl' ho
   have z:=(X _ _ ho).symm.trans htp
   cases z
  ·cases hcD
 ca:=fun {prog w A E Q s} X I k=>by
  obtain⟨hh,g,d,t,os⟩:=s
  exact km7 X Z I k
end
end L2
namespace L2
open PySem PySem.Spec PyProof.Rows
section
variable {X:Cx}
theorem kk9{pins:List (Addr×Obj)}{σ:St}{H:Hp}{s:Shared}{a C:Addr}{dx:Option Addr}(I:Inv X pins σ H s)(e:H a=some (ExcO a (.ref C) dx))(hd:∀d,dx=some d→∃u,H d=some u):∃oe od,PySem.W.InstAt s.heap a oe C od:=by
 obtain⟨⟨oe,vs,h1,h2,h3,h4⟩,_⟩:=(show ObjOk X.prog X.w H s.heap a (ExcO a (.ref C) dx) from I.hok a _ e)
 have no:PySem.W.notCls oe=true:=by
  unfold PySem.W.notCls
  rw[h4]
 cases dx with
 |none=>exact⟨oe,none,h1,h2,no,by rw[h3];trivial⟩
 |some d=>
  obtain⟨fs,ed⟩:=hd d rfl
  obtain⟨q,hq⟩:=(I.hok d _ ed).get
  exact⟨oe,some q,h1,h2,no,by rw[h3];exact hq⟩
noncomputable def rIsiX(K:JN):List V→Hp→VK→Prop:=fun xs H Q=>∃(a C:Addr)(dx:Option Addr)(c:V)(b:Bool),xs=[.ref a,c]∧((∃n,c=.ty n)∨∃p,c=.ref p)∧H a=some (ExcO a (.ref C) dx)∧(∀d,dx=some d→∃u,H d=some u)∧ExcK K C∧J4 K (.ref C) (cV c)=some b∧Q (.bl b) H
theorem kdG:CallR X (.builtin "isinstance") (rIsiX X.K):=by
 intro pins s σ H xs us Q I r h
 obtain⟨a,C,dx,c,b,rfl,hc,ha,hd,Z,e,q⟩:=h
 obtain⟨u,w',rfl,r1,r2⟩:=vals2 r
 cases(show u=Value.ref a from r1)
 have ew:w'=cV c:=by
  rcases hc with⟨n,rfl⟩|⟨p,rfl⟩
  ·exact r2
  ·exact r2
 subst ew
 obtain⟨oe,od,J⟩:=kk9 I ha hd
 exact NQ (kk1 Z) I.kIn J e (fun z=>nomatch z) fun tk=>⟨.bl b,H,I.tok tk,rfl,q⟩
end
end L2
namespace L2
open PySem PySem.Spec PyProof.Rows
def kmX{K:JN}{h:Heap}{mg:Str→Option Value}{x:Str}{C:Addr}{bm:List Value}{newId:String}(X:K.In h)(hb:mg x=some (.ref C))(q:EH K C bm newId=true):OwnCls x C bm newId mg h:=by
 refine⟨hb,?_⟩
 unfold EH at q
 split at q
 next dd cd sl ho=>
  split at q
  next C' tl k0 k1 k2 k3 n k5 hm hs=>
   rw[NR,NR,NR,NR,NR] at q
   obtain⟨⟨⟨⟨⟨e1,e2⟩,e3⟩,ht⟩,hok⟩,hni⟩:=q
   have z1:=beq_iff_eq.mp e1
   have z2:=beq_iff_eq.mp e2
   subst z1 z2
   obtain⟨nm,bs,mro,ns,qn,hdc,sn,sub,ab,col,del⟩:=cd
   have z3:del=false:=by simpa using e3
   have z4:mro=.ref C'::tl:=hm
   have z5:sl= #[k0,k1,k2,k3,some (.builtin n),k5]:=by
    obtain⟨l⟩:=sl
    exact congrArg Array.mk hs
   subst z3 z4 z5
   exact⟨tl,ns,nm,qn,bs,hdc,sn,sub,ab,col,dd,k0,k1,k2,k3,k5,_,X _ _ ho, .of_isNs (PySem.W.isNs_of_in X hok),PySem.W.nsMap_none_of_in X hok (beq_iff_eq.mp hni),PySem.W.tail_of_in X ht⟩
  all_goals cases q
 all_goals cases q
end L2
namespace L2
open PySem
def kg0:bootBuiltins "ValueError"=some (.type "ValueError"):=by decide +kernel
end L2
namespace L2
open PySem PySem.W PySem.Calls PyProof.Rows Builtin Builtin.ObjectAttr
noncomputable def veL:List Value:=[.type "ValueError", .type "Exception", .type "BaseException", .type "object"]
structure ExcW (K:Frag) (C T:Addr):Prop where
 ob:∃(nm q:Str)(N:Addr)(bs:List Value)(sn:List Str)(sub:List Value)(ab:Bool)(col:Option Bool)(dd:Option Addr)(k0 k1 k2 k3 k5:Option Value),K.lookup C=some (excClassObj nm q C N bs (.ref T::veL) true sn sub ab col dd k0 k1 k2 k3 k5 "ValueError.__new__")
 tt:excIn K T veL "ValueError.__new__"=true
 sa:findIn K (.ref C) "__setattr__"=some (some (.builtin "object.__setattr__"))
def ExcW.cls{K:Frag}{C T:Addr}(W:ExcW K C T):∃cd,clsIn K C=some cd∧cd.mro=.ref C:: .ref T::veL∧cd.hasDict=true:=by
 obtain⟨nm,q,N,bs,sn,sub,ab,col,dd,k0,k1,k2,k3,k5,e⟩:=W.ob
 refine⟨_,by unfold clsIn;rw[e],rfl,rfl⟩
def ExcW.hd{K:Frag}{C T:Addr}(W:ExcW K C T):hasDictIn K C=true:=by
 obtain⟨cd,e1,_,e3⟩:=W.cls
 unfold hasDictIn
 rw[e1]
 exact e3
section
variable {prog:Program} {w:World} {K:Frag} {A:Around} {C T x:Addr} {s:Shared}
theorem khJ{R:Result→Shared→Prop}{ox:Obj}{od:Option Obj}{name:Str}{tk:Tok}{v:Value}(X:K.In s.heap)(I:InstAt s.heap x ox C od)(W:ExcW K C T)(ht:findIn K (.ref C) name=some none)
  (h:wpAny (model prog w) A.in1 (storeInOwnDict (.ref x) (.ref C) (.str name tk) name v false)
   (fun fin s'=>match fin with| .done f=>R (.ok f) s'| .again c'=>c'.quiet=true∧codeAny (model prog w) A c' R s') (fun e s'=>R (.error e) s') s):
  codeAny (model prog w) A (.call (.builtin "object.__setattr__") ⟨[.ref x, .str name tk,v],[]⟩) R s:=by
 have SF:=PySem.F.store_object
 obtain⟨cd,hc,ho,_⟩:=W.cls
 have ne:cd.mro.isEmpty=false:=by rw[ho];rfl
 have sub:Looks (model prog w) s.heap (isInstance (.ref x) (.type "object")) true:=I.type.andThen (looks_mroIn X (by unfold mroIn;rw[hc,Option.bind_some,if_neg (by rw[ne];decide),ho];rfl))
 refine codeAny_call_builtin SF.slot.plain SF.entry (@check_slot (model prog w) _ _ s "object.__setattr__" "object" "__setattr__" (.ref x) [.str name tk,v] [] _ SF.kind SF.split sub (SF.args (.ref x) (.str name tk) v) ?_)
 have hm:Looks (model prog w) s.heap (mroOf (.ref C)) cd.mro:=(looks_clsIn X hc).andThen .now
 rw[osa_eq,refuse_eq]
 refine wpAny_bind (wpAny_bind (I.type.here (wpAny_bind (hm.here ?_))))
 rw[ho,refuseLoop_ref,refuseLoop_ref,show refuseLoop (.ref x) "__setattr__" veL=pure () from PySem.F.store_ValueError.passes (.ref x)]
 refine wpAny_pure (wpAny_bind (I.type.here (wpAny_bind ((looks_findIn X ht).here (wpAny_bind ((show Looks (model prog w) s.heap (storeTaker? none) none from .now).here ?_))))))
 exact h
theorem kkv{E:Value→Shared→Prop}{ns:List Str}{Q:Unit→Shared→Prop}{dx:Addr}{mA:Str→Option Value}{name:Str}{v:Value}{dt:Data}{sl:Array (Option Value)}(X:K.In s.heap)(W:ExcW K C T)(hx:s.heap.get? x=some ⟨.ref C,some dx,dt,sl⟩)(hnc:notCls ⟨.ref C,some dx,dt,sl⟩=true)(n:s.heap.Ns1 dx mA)(ht:findIn K (.ref C) name=some none)
  (hw:PySem.Within mA ns) (hsz:ns.length≤sizeLine)
  (h:∀h',h'.Ns1 dx (fun y=>if y=name then some v else mA y)→Heap.SameBut dx s.heap h'→Q () {s with heap:=h',toks:=s.toks+2}):
  wpAny (model prog w) A (setAttr (.ref x) name v) Q E s:=by
 obtain⟨od,ho,_⟩:=kgE n
 have J:InstAt s.heap x ⟨.ref C,some dx,dt,sl⟩ C (some od):=⟨hx,rfl,hnc,ho⟩
 refine set_plain X J W.sa (khJ (s:={s with toks:=s.toks+1}) X J W ht ?_)
 obtain⟨cd,hc,_,hd'⟩:=W.cls
 refine wpAny_bind (wpAny_pure (wpAny_bind (wpAny_bind (wpAny_loadPart hx (wpAny_bind (Looks.here (s:={s with toks:=s.toks+1}) (looks_clsIn X hc) ?_))))))
 rw[hd']
 refine wpAny_pure (a:=some dx) (wpAny_bind (wpAny_pure (wpAny_bind ?_)))
 refine wpAny_nsSet1 (s:={s with toks:=s.toks+1}) n fun h' hn2 hs2=>?_
 obtain⟨oD,esD,epD,hoD,hdD,hcD⟩:=hn2.count (PySem.Within.cons name v hw)
 refine wpAny_bind (wpAny_lookBehind hoD (by rw[hdD];exact pastItsLine_dict (JR hcD (by rw[Nq];omega))) ?_)
 exact wpAny_pure (h _ hn2 hs2)
theorem kkw{E:Value→Shared→Prop}{Q:Unit→Shared→Prop}{name:Str}{v:Value}{vs:Array Value}{sl:Array (Option Value)}(X:K.In s.heap)(W:ExcW K C T)(hx:s.heap.get? x=some ⟨.ref C,none, .fields vs,sl⟩)(ht:findIn K (.ref C) name=some none)
  (h:∀h',h'.Ns1 s.heap.objs.size (fun y=>if y=name then some v else none)→(∀b o,b≠x→s.heap.get? b=some o→h'.get? b=some o)→h'.get? x=some ⟨.ref C,some s.heap.objs.size, .fields vs,sl⟩→Q () {s with heap:=h',toks:=s.toks+2}):
  wpAny (model prog w) A (setAttr (.ref x) name v) Q E s:=by
 have J:InstAt s.heap x ⟨.ref C,none, .fields vs,sl⟩ C none:=⟨hx,rfl,rfl,trivial⟩
 refine set_plain X J W.sa (khJ (s:={s with toks:=s.toks+1}) X J W ht ?_)
 obtain⟨cd,hc,_,hd'⟩:=W.cls
 have hxs:x≠s.heap.objs.size:=Nk (Heap.lt_size hx)
 have hx₁:(s.heap.push {cls:=.type "dict",data:=.dict #[]}).get? x=some ⟨.ref C,none, .fields vs,sl⟩:=Heap.get?_push_of_some _ hx
 refine wpAny_bind (wpAny_pure (wpAny_bind (wpAny_bind (wpAny_loadPart hx (wpAny_bind (Looks.here (s:={s with toks:=s.toks+1}) (looks_clsIn X hc) ?_))))))
 rw[hd']
 refine wpAny_bind (wpAny_alloc' ?_)
 refine wpAny_bind (wpAny_update' hx₁ ?_)
 refine wpAny_pure ?_
 have hgd:((s.heap.push {cls:=.type "dict",data:=.dict #[]}).update x fun o=>{cls:=o.cls,dict:=some s.heap.objs.size,data:=o.data,slots:=o.slots}).get? s.heap.objs.size
   =some {cls:=.type "dict",data:=.dict #[]}:=
  (Heap.get?_update_ne _ _ _ _ hxs.symm).trans (Heap.get?_push_at rfl rfl)
 have hnd:((s.heap.push {cls:=.type "dict",data:=.dict #[]}).update x fun o=>{cls:=o.cls,dict:=some s.heap.objs.size,data:=o.data,slots:=o.slots}).Ns s.heap.objs.size (fun _=>none):=
  ⟨_,#[],_,hgd,rfl,fun e he=>absurd he (by simp),fun _=>rfl⟩
 show wpAny _ _ (storeInDict s.heap.objs.size (.str name _) name v) _ _ _
 unfold storeInDict newKeyGuard
 refine wpAny_bind (wpAny_pure (wpAny_bind (wpAny_nsSet1 (Heap.Ns1.of_empty hnd) fun h' hn' hs=>?_)))
 obtain⟨oD,esD,epD,hoD,hdD,hcD⟩:=hn'.count (Within.cons name v Within.nil)
 refine wpAny_bind (wpAny_lookBehind hoD (by rw[hdD];exact pastItsLine_dict (JR hcD (by rw[Nq,M5,sizeLine_eq];omega))) ?_)
 have hx':h'.get? x=some ⟨.ref C,some s.heap.objs.size, .fields vs,sl⟩:=(hs.2 x hxs).trans (Heap.get?_update_self _ hx₁ rfl)
 exact wpAny_pure (h _ hn' (fun b o nb e=>(hs.2 b (Nk (Heap.lt_size e))).trans ((Heap.get?_update_ne _ _ _ _ nb).trans (Heap.get?_push_of_some _ e))) hx')
end
end L2
namespace L2
open PySem PySem.W PySem.Calls PyProof.Rows Builtin Builtin.ObjectAttr
section
variable {prog:Program} {w:World} {K:Frag} {A:Around} {E:Value→Shared→Prop} {h:Heap} {g:Array GenState} {d:Drawn} {t:Nat} {os:OsState} {a C T:Addr} {o:Obj} {od:Option Obj} {name:Str} {v:Value}
theorem xc_in{rest:List Value}{fI:Addr}{Q:Fin→Shared→Prop}(X:K.In h)(W:ExcW K C T)(hi:findIn K (.ref C) "__init__"=some (some (.ref fI)))(hf:typeIn K (.ref fI)=some (.type "function"))(hrest:rest.length≤sizeLine)
  (hq:wpAny (model prog w) A (call (.ref fI) (.ref (h.objs.size+1)::rest)) (fun r s'=>r=.none∧Q (.done (.ret (.ref (h.objs.size+1)))) s') E ⟨(h.push {cls:=.type "tuple",data:=.seq rest.toArray}).push {cls:=.ref C,data:=.fields #[.ref h.objs.size, .none, .none, .none, .bool false, .none]},g,d,t,os⟩):
  wpAny (model prog w) A (Builtin.«type.__call__» ⟨.ref C::rest,[]⟩) Q E ⟨h,g,d,t,os⟩:=by
 have F:=PySem.F.excBase_ValueError
 obtain⟨nm,q,N,bs,sn,sub,ab,col,dd,k0,k1,k2,k3,k5,eC⟩:=W.ob
 have hC:=X _ _ eC
 obtain⟨tl,N2,nm2,q2,bs2,hdct2,sn2,sub2,ab2,col2,dd2,j0,j1,j2,j3,j5,mN2,hC2,hN2,hni2,T2⟩:=(kmX (x:="x") (mg:=fun _=>some (.ref T)) X rfl W.tt).obj
 have OT:OwnTail h veL (.ref T::veL):=.own hC2 hN2 hni2 .base
 repeat (first|with_reducible refine wpAny_loadPart_at hC ?_|with_reducible refine wpAny_madeBy_exc hC ?_|wp_step)
 refine codeAny_call_builtin_code (Code.quiet_builtin _ F.quiet) (wpAny_check_new_subT F OT hC ?_)
 refine codeAny_exc_new_subT F OT hC ?_ hrest
 show wpAny _ _ _ _ _ _
 have X1:K.In ((h.push {cls:=.type "tuple",data:=.seq rest.toArray}).push {cls:=.ref C,data:=.fields #[.ref h.objs.size, .none, .none, .none, .bool false, .none]}):=fun b o e=>Heap.get?_push_of_some _ (Heap.get?_push_of_some _ (X b o e))
 have hC₁:=X1 _ _ eC
 have hget:((h.push {cls:=.type "tuple",data:=.seq rest.toArray}).push
   {cls:=.ref C,data:=.fields #[.ref h.objs.size, .none, .none, .none, .bool false, .none]}).get? (h.objs.size+1)=some
   {cls:=.ref C,data:=.fields #[.ref h.objs.size, .none, .none, .none, .bool false, .none]}:=by heap_get
 have hcC:(Value.ref C:: .ref T::veL).contains (.ref C)=true:=by simp
 unfold isInstance
 repeat (first|with_reducible refine wpAny_loadPart_at hget ?_|(with_reducible refine wpAny_isSubtype_exc hC₁ ?_;rw[hcC])|wp_step)
 show wpAny _ _ (typeLookup (.ref C) _) _ _ _
 refine(looks_findIn X1 hi).at ?_
 refine wpAny_holding (wpAny_bind ?_)
 refine(bind_fn X1 (.ref (h.objs.size+1)) hf).at ?_
 refine wpAny_bind (wpAny_mono hq (fun r s' hr=>?_) fun _ _ x=>x)
 obtain⟨rfl,hQ⟩:=hr
 wp_walk
 exact hQ
theorem klU{rest:List Value}{fI:Addr}{Q:Value→Shared→Prop}(X:K.In h)(W:ExcW K C T)(hi:findIn K (.ref C) "__init__"=some (some (.ref fI)))(hf:typeIn K (.ref fI)=some (.type "function"))(hrest:rest.length≤sizeLine)
  (hq:wpAny (model prog w) (A.under (.builtin "type.__call__" ⟨.ref C::rest,[]⟩)) (call (.ref fI) (.ref (h.objs.size+1)::rest)) (fun r s'=>r=.none∧Q (.ref (h.objs.size+1)) s') E ⟨(h.push {cls:=.type "tuple",data:=.seq rest.toArray}).push {cls:=.ref C,data:=.fields #[.ref h.objs.size, .none, .none, .none, .bool false, .none]},g,d,t,os⟩):
  wpAny (model prog w) A (call (.ref C) rest) Q E ⟨h,g,d,t,os⟩:=by
 obtain⟨nm,q,N,bs,sn,sub,ab,col,dd,k0,k1,k2,k3,k5,eC⟩:=W.ob
 have hC:=X _ _ eC
 have f1:=tc_lookup
 have f2:=tc_bind (.ref C)
 have hT:(⟨h,g,d,t,os⟩:Shared).TypeIs (.ref C) "type":=⟨_,hC,rfl⟩
 refine wpAny_call (codeAny_of_tree ?_)
 show wpAny _ _ (callAny (.ref C) _) _ _ _
 repeat (any_goals (first|assumption|with_reducible refine wpAny_loadPart_at hC ?_|wp_step))
 refine⟨rfl,?_⟩
 exact codeAny_call_builtin_at (Code.quiet_builtin _ (by decide +kernel)) entry_typeCall (wpAny_check_type_call_sub hC (xc_in X W hi hf hrest hq))
end
end L2
namespace L2
open PySem PySem.Spec PyProof.Rows
noncomputable def ExcN(a:Addr)(cls:Value)(dx:Option Addr):HO:=.ext fun h=>∃oe vs,h.get? a=some oe∧oe.cls=cls∧oe.dict=dx∧oe.data=.fields vs∧vs[1]?=some .none
noncomputable def XdO(d:Addr)(fs:List (Str×V)):HO:=.ext fun h=>∃mA,h.Ns1 d mA∧(∀f,RelO (fs.lookup f) (mA f))∧PySem.Within mA (fs.map (·.1))
section
variable {P:Program} {w:World} {H:Hp} {h:Heap} {a d:Addr}
theorem kki{oe:Obj}{vs:Array Value}(e:h.get? a=some oe)(hd:oe.data=.fields vs)(h1:vs[1]?=some .none):ObjOk P w H h a (ExcN a oe.cls oe.dict):=
 ⟨⟨oe,vs,e,rfl,rfl,hd,h1⟩,⟨oe,e⟩,fun _ _ ⟨o,v,z1,z2⟩ k=>⟨o,v,k o z1,z2⟩⟩
theorem klm{fs:List (Str×V)}{mA:Str→Option Value}(n:h.Ns1 d mA)(r:∀f,RelO (fs.lookup f) (mA f))(wi:PySem.Within mA (fs.map (·.1))):ObjOk P w H h d (XdO d fs):=
 ⟨⟨mA,n,r,wi⟩,let⟨o,_,_,e,_⟩:=n;⟨o,e⟩,fun _ _ ⟨m,z1,z2⟩ k=>⟨m,z1.at k,z2⟩⟩
end
noncomputable def untX(a:Addr)(H:Hp):Hp:=fun b=>if b=a then none else H b
def kf8{a:Addr}{H:Hp}:untX a H a=none:=by unfold untX;rw[if_pos rfl]
def kcH{a b:Addr}{H:Hp}(h:b≠a):untX a H b=H b:=by unfold untX;rw[if_neg h]
section
variable {X:Cx} {k:Nat} {f C T:Addr} {fd:FuncData} {ps:List Str} {sp:Sp} {dvs:List V} {ds:List Value} {x m:Str} {p pos apos pos':Pos} {e o value:Expr} {es:List Expr} {ta tv:TE} {t:TA} {CX:CXT} {E:XK}
theorem kjz{pins:List (Addr×Obj)}{σ:St}{H:Hp}{s:Shared}{Q:VK}{us:List Value}{vs:List V}(W:ExcW X.K C T)(hi:JP X.K (.ref C) "__init__"=some (some (.ref f)))(fn:ND X.K (.ref f)=true)(F:FnOk X.prog X.w X.K X.mg X.base CX k f fd ps sp)(hr:Room (k+1) X.A)(hb:Binds X.K fd ps ds)(hd:Vals dvs ds)
  (hx:kc0 CX X E) (I:Inv X pins σ H s) (r:Vals vs us) (hps:ps.length≤1000)
  (h:∀x,H x=none→sp (.ref x::(vs++dvs)) (upd H x (ExcN x (.ref C) none)) (fun v H2=>v=.non∧Q (.ref x) H2) E):
  wpAny (model X.prog X.w) X.A (call (.ref C) us) (EP X pins σ Q) X.xe s:=by
 have hq:=h (s.heap.objs.size+1) (I.hok.fresh (Mq _))
 have e2:((s.heap.push {cls:=.type "tuple",data:=.seq us.toArray}).push {cls:=.ref C,data:=.fields #[.ref s.heap.objs.size, .none, .none, .none, .bool false, .none]}).get? (s.heap.objs.size+1)=some {cls:=.ref C,data:=.fields #[.ref s.heap.objs.size, .none, .none, .none, .bool false, .none]}:=by
  have:=Heap.get?_push_size (s.heap.push {cls:=.type "tuple",data:=.seq us.toArray}) (o:={cls:=.ref C,data:=.fields #[.ref s.heap.objs.size, .none, .none, .none, .bool false, .none]}) rfl
  rwa [Heap.size_push] at this
 have I2:=I.laid (a:=s.heap.objs.size+1) (o:=ExcN (s.heap.objs.size+1) (.ref C) none) (h':=(s.heap.push {cls:=.type "tuple",data:=.seq us.toArray}).push {cls:=.ref C,data:=.fields #[.ref s.heap.objs.size, .none, .none, .none, .bool false, .none]}) (t':=s.toks) (fun b u q=>Heap.get?_push_of_some _ (Heap.get?_push_of_some _ q)) (Mq _) (kki e2 rfl rfl)
 have r2:Vals (V.ref (s.heap.objs.size+1)::(vs++dvs)) (Value.ref (s.heap.objs.size+1)::(us++ds)):=.cons rfl (r.append hd)
 have hl:(Value.ref (s.heap.objs.size+1)::us++ds).length=ps.length:=by
  have e:=r2.length
  rw[F.len _ _ _ _ hq] at e
  exact e.symm
 have hus:us.length≤sizeLine:=by
  rw[sizeLine_eq]
  simp only[MK,Nq,JZ] at hl
  omega
 obtain⟨hh,g,dr,tk,os⟩:=s
 refine klU I.kIn W hi (beq_iff_eq.mp fn) hus ?_
 refine wpAny_call (codeAny_mono (F.run _ X.stack _ _ ⟨Value.ref (hh.objs.size+1)::us,[]⟩ (Value.ref (hh.objs.size+1)::(us++ds)) _ _ E (hr.make C us [])
  (I2.env0.make C us []) (hb _ (Value.ref (hh.objs.size+1)::us) I2.kIn hl) r2 hq) fun r s' hq'=>?_)
 cases r with
 |error e=>exact hx pins σ _ _ e s' I2 hq'
 | ok fl=>
  cases fl with
  |ret u=>
   obtain⟨v,H',I3,rv,ev,q3⟩:=I2.after hq'
   subst ev
   exact⟨rv,⟨V.ref (hh.objs.size+1),H',I3,rfl,q3⟩⟩
  |next=>exact False.elim hq'
  |brk=>exact False.elim hq'
  |cont=>exact False.elim hq'
noncomputable def kmI(C:Addr)(sp:Sp)(dvs:List V)(E:XK)(t:TA):TE:=fun σ H Q=>t σ H fun vs H1=>∀x,H1 x=none→sp (.ref x::(vs++dvs)) (upd H1 x (ExcN x (.ref C) none)) (fun v H2=>v=.non∧Q (.ref x) H2) E
theorem kkI(W:ExcW X.K C T)(kp:J6 X.K (.ref C)=true)(hi:JP X.K (.ref C) "__init__"=some (some (.ref f)))(fn:ND X.K (.ref f)=true)(F:FnOk X.prog X.w X.K X.mg X.base CX k f fd ps sp)(hr:Room (k+1) X.A)(hg:Gl X x)(hm:X.mg x=some (.ref C))(hb:Binds X.K fd ps ds)(hd:Vals dvs ds)(hx:kc0 CX X E)
  (ha:PA X (e::es) t) (hps:ps.length≤1000:=by decide) (hdb:(x==("__debug__" :Str))=false:=by decide) (he:starEach (e::es) X.env=(false,eval e X.env)::starEach es X.env:=by rfl) (hpl:(backTo pos (starEach es X.env)).any (·.1)=false:=by rfl):
  PE X (.Call (.Name x p) (e::es) [] pos) (kmI C sp dvs E t):=by
 intro pins s σ H Q I h
 refine wpAny_Call_Name_kw (kdj I hg hm ?_ hdb)
 refine Mu (h₀:=X.base) I.ok.mod.kin kp (thn (ha pos pins s σ H _ I h) fun us s1 ⟨vs,H1,I1,r,q⟩=>⟨I1.kIn,?_⟩) he hpl
 exact kjz W hi fn F hr hb hd hx I1 r hps q
noncomputable def sFldX(K:JN)(ta tv:TE)(f:Str):TS:=fun D σ H=>tv σ H fun y H1=>ta σ H1 fun x H2=>∃(a C T:Addr),x=.ref a∧ExcW K C T∧NoAttr K C f∧
  ((H2 a=some (ExcN a (.ref C) none)∧∀d,H2 d=none→d≠a→D.nx σ (upd (upd H2 d (XdO d [(f,y)])) a (ExcN a (.ref C) (some d))))∨
   ∃d fs,H2 a=some (ExcN a (.ref C) (some d))∧H2 d=some (XdO d fs)∧fs.length<1000∧D.nx σ (upd H2 d (XdO d (putF f y fs))))
theorem kiD{pins:List (Addr×Obj)}{σ:St}{H:Hp}{s:Shared}{a:Addr}{fl:Str}{y:V}{u:Value}{Q:Unit→Shared→Prop}{A:Around}{E:Value→Shared→Prop}(I:Inv X pins σ H s)(W:ExcW X.K C T)(n:NoAttr X.K C fl)(ea:H a=some (ExcN a (.ref C) none))(ry:RelV y u)
  (h:∀d s',H d=none→d≠a→Inv X pins σ (upd (upd H d (XdO d [(fl,y)])) a (ExcN a (.ref C) (some d))) s'→Q () s'):wpAny (model X.prog X.w) A (setAttr (.ref a) fl u) Q E s:=by
 obtain⟨⟨oe,vs,h1,h2,h3,h4,h5⟩,_⟩:=(show ObjOk X.prog X.w H s.heap a (ExcN a (.ref C) none) from I.hok a _ ea)
 obtain⟨oc,odi,oda,osl⟩:=oe
 dsimp only at h2 h3 h4
 subst h2 h3 h4
 refine kkw I.kIn W h1 n fun h' hn hk hx=>?_
 have lt:=Heap.lt_size h1
 have nd:s.heap.objs.size≠a:=NN lt
 have eN:H s.heap.objs.size=none:=I.hok.fresh (JO _)
 refine h s.heap.objs.size _ eN nd ?_
 have g1:(h'.update a fun _=>⟨.ref C,none, .fields vs,osl⟩).get? a=some ⟨.ref C,none, .fields vs,osl⟩:=Heap.get?_update_self _ hx rfl
 have g2:∀b,b≠a→(h'.update a fun _=>⟨.ref C,none, .fields vs,osl⟩).get? b=h'.get? b:=fun b nb=>Heap.get?_update_ne _ _ _ _ nb
 have hn1:(h'.update a fun _=>⟨.ref C,none, .fields vs,osl⟩).Ns1 s.heap.objs.size (fun z=>if z=fl then some u else none):=hn.at fun o q=>(g2 _ nd).trans q
 have I1:=I.laid (a:=s.heap.objs.size) (o:=XdO s.heap.objs.size [(fl,y)]) (h':=h'.update a fun _=>⟨.ref C,none, .fields vs,osl⟩) (t':=s.toks+2) (fun b ob q=>by
  by_cases z:b=a
  ·rw[z] at q⊢
   rw[h1] at q
   cases q
   exact g1
  ·exact(g2 b z).trans (hk b ob z q)) (JO _) (klm hn1 (fun z=>by
   by_cases q:z=fl
   ·rw[if_pos q,q,Nu,beq_self_eq_true]
    exact ry
   ·rw[if_neg q,Nu,show(z==fl)=false from beq_eq_false_iff_ne.mpr q]
    exact True.intro) (fun z hz=>by
   by_cases q:z=fl
   ·rw[q]
    exact Na ..
   ·exact absurd (if_neg q) hz))
 have em:upd H s.heap.objs.size (XdO s.heap.objs.size [(fl,y)]) a=some (ExcN a (.ref C) none):=(kaj (Ne.symm nd)).trans ea
 exact I1.write (x:=a) (e:=a) (h':=h') (t':=s.toks+2) (by rw[em];exact True.intro) (.inl rfl) (fun b ob nb q=>by rw[←g2 b nb];exact q) ⟨_,hx⟩ (kki hx rfl h5)
theorem kiC{pins:List (Addr×Obj)}{σ:St}{H:Hp}{s:Shared}{a d:Addr}{fl:Str}{fs:List (Str×V)}{y:V}{u:Value}{Q:Unit→Shared→Prop}{A:Around}{E:Value→Shared→Prop}(I:Inv X pins σ H s)(W:ExcW X.K C T)(n:NoAttr X.K C fl)(ea:H a=some (ExcN a (.ref C) (some d)))(ed:H d=some (XdO d fs))(hl:fs.length<1000)(ry:RelV y u)
  (h:∀s',Inv X pins σ (upd H d (XdO d (putF fl y fs))) s'→Q () s'):wpAny (model X.prog X.w) A (setAttr (.ref a) fl u) Q E s:=by
 obtain⟨⟨oe,vs,h1,h2,h3,h4,h5⟩,_⟩:=(show ObjOk X.prog X.w H s.heap a (ExcN a (.ref C) (some d)) from I.hok a _ ea)
 obtain⟨⟨mA,hn,r,wi⟩,_⟩:=(show ObjOk X.prog X.w H s.heap d (XdO d fs) from I.hok d _ ed)
 obtain⟨oc,odi,oda,osl⟩:=oe
 dsimp only at h2 h3 h4
 subst h2 h3 h4
 have hz:(fs.map (·.1)).length≤sizeLine:=by rw[JM,sizeLine_eq];omega
 refine kkv I.kIn W h1 rfl hn n wi hz fun h' hn' sb=>h _ ?_
 refine I.write (x:=d) (e:=d) (by rw[ed];exact True.intro) (.inl rfl) (fun b q hb z=>(sb.2 b hb).trans z) (let⟨o,_,_,e',_⟩:=hn';⟨o,e'⟩) (klm hn' (fun g=>?_) fun g hg=>?_)
 ·show RelO ((putF fl y fs).lookup g) (if g=fl then some u else mA g)
  rw[kab]
  by_cases q:g=fl
  ·rw[if_pos q,if_pos q];exact ry
  ·rw[if_neg q,if_neg q];exact r g
 ·by_cases q:g=fl
  ·rw[q];exact(kcW fl y fs).1
  ·refine(kcW fl y fs).2 g (wi g fun z=>hg ?_)
   show(if g=fl then some u else mA g)=none
   rw[if_neg q];exact z
theorem kjG{fl:Str}(ha:PE X o ta)(hv:PE X value tv)(hs:swapsWith value (some (.Attribute o fl pos')) pos.line X.env=pure false):PS X (.Assign [.Attribute o fl pos'] value pos) (sFldX X.K ta tv fl):=by
 intro pins s σ H D I h
 refine plainObj_wpAny_Assign_Attribute (thn (hv pins s σ H _ I h) fun u s1 ⟨y,H1,I1,ry,q⟩=>thn (ha pins s1 σ H1 _ I1 q) fun ov s2 ⟨x,H2,I2,rx,a,C,T,ex,W,n,q2⟩=>?_) hs
 subst ex
 obtain rfl:ov=Value.ref a:=rx
 rcases q2 with⟨ea,q3⟩|⟨d,fs,ea,ed,hl,q3⟩
 ·exact kiD I2 W n ea ry fun d s3 h1 h2 I3=>⟨σ,_,I3,q3 d h1 h2⟩
 ·exact kiC I2 W n ea ed hl ry fun s3 I3=>⟨σ,_,I3,q3⟩
end
end L2
namespace L2
open PySem PySem.Spec PyProof.Rows
theorem Inv.untX{X:Cx}{pins:List (Addr×Obj)}{σ:St}{H:Hp}{s:Shared}{a:Addr}{φ:Heap→Prop}(I:Inv X pins σ H s)(ea:H a=some (.ext φ))(h0:X.H₀ a=none):Inv X pins σ (untX a H) s:=by
 have no:∀{b:Addr},H b=none→L2.untX a H b=none:=fun {b} e=>by
  unfold L2.untX
  split
  ·rfl
  ·exact e
 have na:∀{b:Addr}{u:HO},X.H₀ b=some u→b≠a:=fun {b u} e=>kag e h0
 refine⟨I.ok,I.os,I.bare,⟨I.base.keep,I.base.slot,fun b o e n hx=>no (I.base.free b o e n hx),I.base.there,fun b xs e=>(kcH (na e)).trans (I.base.tups b xs e),fun b o u e=>(kcH (na e)).trans (I.base.frzs b o u e),fun b ps e=>?_⟩,I.loc,I.cell,no I.free,fun x c e=>no (I.freeC x c e),fun p hp=>?_,fun b u e=>?_,I.len⟩
 ·obtain⟨m,q⟩:=I.base.tbls b ps e
  exact⟨m,(kcH (na e)).trans q⟩
 ·obtain⟨h1,h2,h3⟩:=I.pin p hp
  exact⟨h1,no h2,h3⟩
 ·have nb:b≠a:=fun z=>by
   rw[z,kf8] at e
   cases e
  rw[kcH nb] at e
  refine(I.hok b u e).stay (fun _ _ _ q=>q) (fun d r=>?_) fun d xs r=>?_
  ·rw[kcH (ne_of r ea (fun z=>nomatch z))]
   exact r
  ·rw[kcH (ne_of r ea (fun z=>nomatch z))]
   exact r
noncomputable def RzV(X:Cx)(EX:XK):Prop:=∀(pins:List (Addr×Obj))(σ:St)(H:Hp)(s:Shared)(e:Addr)(oe:Obj)(vs:Array Value),Inv X pins σ H s→X.s₀.heap.get? e=none→H e=none→s.heap.get? e=some oe→oe.data=.fields vs→vs[1]?=some .none→EX oe.cls oe.dict H→X.xe (.ref e) s
def kmM{P:Program}{w:World}{K:JN}{mg:Str→Option Value}{base:Heap}{N:List Str}{qual:Str}{scope:Scope}{f:Addr}{cd:Value}{A:Around}{outer:List Env}{s₀:Shared}{H₀:Hp}{E:XK}:RzV (cxOf (CX1 P w) P w K mg base N qual scope f cd A outer s₀ H₀ E) E:=by
 intro pins σ H s e oe vs I he0 hHe he hd h1n hE
 have hsz:1<vs.size:=(Mn.mp h1n).1
 refine kff (s:=s) I.ok.frames (base:=base) I.stack rfl he hd h1n fun h' T x=>?_
 have hT0:s₀.heap.get? T=none:=by
  cases q:s₀.heap.get? T with
  |none=>rfl
  |some o=>
   obtain⟨o',z⟩:=I.base.there T o q (by intro z;cases z)
   rw[x.new] at z
   cases z
 refine⟨e,T,oe.cls,oe.dict,H,rfl,I.os,I.bare,I.base.ex (fs:=[]) (L:=s₀.heap.objs.size) (env:=PyProof.Rows.envOfC qual scope s₀.heap.objs.size f cd) rfl (JO _) (fun _ _ q=>q) x he0 (fun b hb=>by cases hb),fun b u q=>?_,he0,hHe,hT0,I.hok.no x.new,x.ext he hd hsz,hE⟩
 have nst:∀{b:Addr}{u:HO},H b=some u→b∉frs (PyProof.Rows.envOfC qual scope s₀.heap.objs.size f cd::outer):=fun {b u} q z=>by
  have:=I.stkFree b z
  rw[q] at this
  cases this
 refine(I.hok b u q).stay (fun c v hc r=>?_) (fun _ r=>r) fun _ _ r=>r
 obtain⟨o,eo⟩:∃o,H c=some o:=by
  rcases hc with rfl|hc
  ·exact⟨u,q⟩
  ·exact⟨_,hc⟩
 exact x.keep c v r (nst eo) (kag eo hHe) (by simp)
noncomputable def klZ(K:JN)(H₀:Hp)(EX:XK)(te:TE):TS:=fun _ σ H=>te σ H fun x H1=>∃(a C T:Addr)(dx:Option Addr),x=.ref a∧ExcW K C T∧H1 a=some (ExcN a (.ref C) dx)∧H₀ a=none∧EX (.ref C) dx (untX a H1)
def kjF{X:Cx}{EX:XK}{e:Expr}{te:TE}{pos:Pos}(he:PE X e te)(hx:RzV X EX)(hex:X.ex=[])(hc:X.calm=true):PS X (.Raise (some e) none pos) (klZ X.K X.H₀ EX te):=by
 intro pins s σ H D I h
 rw[arm_exec_Raise]
 simp only[evalOpt,Option.map]
 refine wpAny_bind (wpAny_standAt ?_)
 unfold raiseStmt
 refine wpAny_bind (wpAny_bind (thn (he pins s σ H _ I h) fun v s1 ⟨x,H1,I1,rx,a,C,T,dx,ex,W,ea,h0,q⟩=>wpAny_bind (wpAny_standAt (wpAny_pure ?_))))
 subst ex
 obtain rfl:v=Value.ref a:=rx
 obtain⟨⟨oe,vs,h1,h2,h3,h4,h5⟩,_⟩:=(show ObjOk X.prog X.w H1 s1.heap a (ExcN a (.ref C) dx) from I1.hok a _ ea)
 have s0:X.s₀.heap.get? a=none:=by
  cases z:X.s₀.heap.get? a with
  |none=>rfl
  |some o=>
   have:=I1.base.free a o z h0 (by rw[hex];intro z;cases z)
   rw[ea] at this
   cases this
 have I2:=I1.untX ea h0
 have hE:X.xe (.ref a) s1:=hx pins σ _ s1 a oe vs I2 s0 kf8 h1 h4 h5 (by rw[h2,h3];exact q)
 obtain⟨nm,qn,N,bs,sn,sub,ab,col,dd,k0,k1,k2,k3,k5,eC⟩:=W.ob
 have hC:=I1.kIn _ _ eC
 have hcB:(Value.ref C:: .ref T::veL).contains (.type "BaseException")=true:=by unfold veL;simp
 have hh:=I1.ok.hd hc
 clear I2 q I h
 obtain⟨oc,od,odt,osl⟩:=oe
 dsimp only at h2 h3 h4
 subst h2 h3 h4
 have g1:∀{α:Type}{Q: α→Shared→Prop}{f:Value→Sem α},wpAny (model X.prog X.w) X.A (f .none) Q X.xe s1→wpAny (model X.prog X.w) X.A (field (.ref a) 1 >>= f) Q X.xe s1:=fun z=>wpAny_bind (wpAny_field h1 rfl h5 z)
 obtain⟨hp,g,d,tk,os⟩:=s1
 repeat (first|with_reducible refine wpAny_loadPart_at h1 ?_|with_reducible refine wpAny_loadPart_at hC ?_|(with_reducible refine wpAny_isSubtype_exc hC ?_;rw[hcB])|with_reducible refine g1 ?_|with_reducible refine wpAny_field h1 rfl h5 ?_|wp_step)
 exact wpAny_raiseNew_none hh hE
def kmR{X:Cx}{st:Stmt}{t:TS}(h:PS X.nox st t):PS X st t:=fun pins s σ H D I hw=>
 wpAny_mono (h pins s σ H D (I.wish _) hw) (fun _ _ q=>q.unwish) fun _ _ z=>False.elim z
def kiI{H H':Hp}(h:∀b u,H b=some u→H' b=some u):Same H H':=fun b o e=>ev_eq (h b o e) fun⟨ps,e1,t,hor⟩=>⟨ps,h _ _ e1,t,fun pos d ed=>let⟨c,r,z⟩:=hor pos d ed;⟨c,r,h _ _ z⟩⟩
end L2
namespace L2
open PySem PySem.Spec PyProof.Rows
def kmG{X:Cx}{e:Expr}{fl:Str}{pos:Pos}{te:XK→TE}(he:PEX X e te)(hb:attributeBase e fl X.env (eval e X.env)=eval e X.env):PEX X (.Attribute e fl pos) (fun EX=>tFld X.K (te EX) fl):=by
 intro pins s σ H Q EX I h
 refine kkp hb (wpAny_mono (he pins s σ H _ EX I h) (fun u s1 ⟨x,H1,I1,rx,a,C,dx,fs,v,ex,ea,c,n,l,q⟩=>?_) fun _ _ z=>z)
 subst ex
 obtain rfl:u=Value.ref a:=rx
 exact kfA I1 ea c n l fun u' s2 I2 ru=>⟨v,H1,I2,ru,q⟩
def xw_mk{K:JN}{C T:Addr}{nm q:Str}{N:Addr}{bs:List Value}{sn:List Str}{sub:List Value}{ab:Bool}{col:Option Bool}{dd:Option Addr}{k0 k1 k2 k3 k5:Option Value}(e:K.lookup C=some (excClassObj nm q C N bs (.ref T::veL) true sn sub ab col dd k0 k1 k2 k3 k5 "ValueError.__new__")):∃(nm q:Str)(N:Addr)(bs:List Value)(sn:List Str)(sub:List Value)(ab:Bool)(col:Option Bool)(dd:Option Addr)(k0 k1 k2 k3 k5:Option Value),K.lookup C=some (excClassObj nm q C N bs (.ref T::veL) true sn sub ab col dd k0 k1 k2 k3 k5 "ValueError.__new__"):=⟨nm,q,N,bs,sn,sub,ab,col,dd,k0,k1,k2,k3,k5,e⟩
end L2
namespace War
structure Row where
 kd:Int
 pr:Int
 mn:Int
 ex:Option Int
structure Row.Ok (r:Row):Prop where
 pr0:0≤r.pr
 pr1:r.pr≤1000000000000
 mn0:0≤r.mn
 mn1:r.mn≤60
 ex0:∀z,r.ex=some z→0≤z∧z≤1000000000000
noncomputable def prc(m:Bool)(r:Row):Int:=if m=true then r.ex.getD r.pr else r.pr
noncomputable def own(rs:List Row):List Int:=(rs.zipIdx.map fun p=>JS p.1.mn.toNat (p.2:Int)).flatten
noncomputable def prs(m:Bool)(rs:List Row):List Int:=(rs.map fun r=>JS r.mn.toNat (prc m r)).flatten
def kkL(rs:List Row)(r:Row):own (rs++[r])=own rs++JS r.mn.toNat (rs.length:Int):=by
 unfold own
 rw[List.zipIdx_append,JW,M6]
 simp
def kkH(m:Bool)(rs:List Row)(r:Row):prs m (rs++[r])=prs m rs++JS r.mn.toNat (prc m r):=by
 unfold prs
 rw[JW,M6]
 simp
theorem kie:∀(rs:List Row)(k:Nat),(∀r∈rs,r.Ok)→((rs.zipIdx k).map fun p=>JS p.1.mn.toNat (p.2:Int)).flatten.length≤60*rs.length
 |[],_,_=>by simp
 |r::rs,k,h=>by
  have h1:=kie rs (k+1) fun x hx=>h x (J5 _ hx)
  have h2:=(h r Na).mn1
  rw[EI,J0,Nm,JZ,Mg,Nq]
  show r.mn.toNat+_≤_
  omega
def kjN(rs:List Row)(h:∀r∈rs,r.Ok):(own rs).length≤60*rs.length:=kie rs 0 h
theorem kjH(m:Bool):∀(rs:List Row),(∀r∈rs,r.Ok)→(prs m rs).length≤60*rs.length
 |[],_=>by simp[prs]
 |r::rs,h=>by
  have h1:=kjH m rs fun x hx=>h x (J5 _ hx)
  have h2:=(h r Na).mn1
  unfold prs at h1⊢
  rw[J0,Nm,JZ,Mg,Nq]
  omega
def klz{m:Bool}{r:Row}(h:r.Ok):0≤prc m r∧prc m r≤1000000000000:=by
 unfold prc
 split
 ·cases e:r.ex with
  |none=>exact⟨h.pr0,h.pr1⟩
  |some z=>exact h.ex0 z e
 ·exact⟨h.pr0,h.pr1⟩
def take_snoc{α:Type}{rs:List α}{i:Nat}{r: α}(h:rs[i]?=some r):rs.take (i+1)=rs.take i++[r]:=by
 rw[NY,h]
 rfl
end War
namespace Kin
noncomputable def Good(ps:List (Option Nat)):Prop:=∀(i k:Nat),ps[i]?=some (some k)→k<i
noncomputable def anc(ps:List (Option Nat)):Nat→Nat→List Nat
 |0,_=>[]
 |f+1,i=>i::(match ps[i]? with|some (some k)=>anc ps f k|_=>[])
noncomputable def up(ps:List (Option Nat))(i:Nat):List Nat:=anc ps (i+1) i
theorem klk{ps:List (Option Nat)}(g:Good ps):∀(f f' i:Nat),i<f→i<f'→anc ps f i=anc ps f' i:=by
 intro f
 induction f with
 |zero=>intro f' i h;omega
 | succ f ih=>
  intro f' i h h'
  cases f' with
  |zero=>omega
  | succ f'=>
   show i::_=i::_
   congr 1
   cases e:ps[i]? with
   |none=>rfl
   | some o=>
    cases o with
    |none=>rfl
    |some k=>
     have hk:=g i k e
     exact ih f' k (by omega) (by omega)
def klX{ps:List (Option Nat)}(g:Good ps){i k:Nat}(e:ps[i]?=some (some k)):up ps i=i::up ps k:=by
 have hk:=g i k e
 show i::_=_
 rw[e]
 show i::anc ps i k=i::up ps k
 rw[klk g i (k+1) k hk (by omega)]
 rfl
def klY{ps:List (Option Nat)}{i:Nat}(e:ps[i]?=some none):up ps i=[i]:=by
 show i::_=_
 rw[e]
noncomputable def rest(ps:List (Option Nat)):Option Nat→List Nat
 |none=>[]
 |some k=>up ps k
noncomputable def left:Option Nat→Nat
 |none=>0
 |some k=>k+1
theorem up_eq{ps:List (Option Nat)}(g:Good ps){i:Nat}{o:Option Nat}(e:ps[i]?=some o):up ps i=i::rest ps o:=by
 cases o with
 |none=>exact klY e
 |some k=>exact klX g e
def kk5:Good []:=fun i k e=>by simp at e
def kka{ps:List (Option Nat)}(g:Good ps){o:Option Nat}(h:∀k,o=some k→k<ps.length):Good (ps++[o]):=by
 intro i k e
 rcases Nat.lt_trichotomy i ps.length with hi|hi|hi
 ·rw[Mv hi] at e
  exact g i k e
 ·subst hi
  rw[N7 (JO _)] at e
  simp at e
  exact h k e
 ·rw[N7 (by omega)] at e
  have:(i-ps.length)≠0:=by omega
  cases q:i-ps.length with
  |zero=>omega
  |succ n=>rw[q] at e;simp at e
end Kin
namespace Kin
end Kin
namespace Deal
noncomputable def pre(ws:List Int)(k:Nat):Int:=(ws.take k).sum
noncomputable def part(c:Int)(ws:List Int)(j:Nat):Int:=c*pre ws (j+1)/ws.sum-c*pre ws j/ws.sum
noncomputable def dl(c:Int)(ws:List Int):List Int:=if ws.sum=0 then ws.map (fun _=>0) else(JQ ws.length).map (part c ws)
def kia(ws:List Int):pre ws 0=0:=by simp[pre]
def khm(ws:List Int):pre ws ws.length=ws.sum:=by simp[pre]
def kem{ws:List Int}{i:Nat}{w:Int}(h:ws[i]?=some w):pre ws (i+1)=pre ws i+w:=by
 unfold pre
 rw[NY,h]
 simp
def keY(c:Int)(ws:List Int):(dl c ws).length=ws.length:=by
 unfold dl
 split <;> simp
theorem kga(c:Int)(ws:List Int):∀k,((JQ k).map (part c ws)).sum=c*pre ws k/ws.sum
 |0=>by simp[kia]
 |k+1=>by
  rw[NG,JW,NO,kga c ws k]
  simp[part]
  omega
def kmL{c:Int}{ws:List Int}(h:0<ws.sum):(dl c ws).sum=c:=by
 unfold dl
 rw[if_neg (by omega),kga,khm,Int.mul_ediv_cancel _ (by omega)]
theorem kl1{c:Int}{ws:List Int}(h:ws.sum=0):(dl c ws).sum=0:=by
 unfold dl
 rw[if_pos h]
 clear h
 induction ws with
 |nil=>rfl
 |cons w ws ih=>simpa using ih
def dl_at{c:Int}{ws:List Int}(h:¬ws.sum=0){j:Nat}(hj:j<ws.length):(dl c ws)[j]?=some (part c ws j):=by
 unfold dl
 rw[if_neg h]
 simp[hj]
def kkj{c:Int}{ws:List Int}(h:ws.sum=0){j:Nat}(hj:j<ws.length):(dl c ws)[j]?=some 0:=by
 unfold dl
 rw[if_pos h]
 simp[hj]
noncomputable def Nn(ws:List Int):Prop:=∀w∈ws,0≤w
theorem kbe:∀{ws:List Int},Nn ws→0≤ws.sum
 |[],_=>by simp
 |w::ws,h=>by
  have:=kbe (ws:=ws) fun x hx=>h x (J5 _ hx)
  have h1:=h w Na
  simp
  omega
theorem kjM{c s A w:Int}(hs:0<s)(hc:0≤c)(hcs:c≤s)(hw:0≤w):0≤c*(A+w)/s-c*A/s∧c*(A+w)/s-c*A/s≤w∧
  (c*(A+w)/s-c*A/s)*s-c*w<s∧-s<(c*(A+w)/s-c*A/s)*s-c*w:=by
 have e:c*(A+w)=c*A+c*w:=Int.mul_add ..
 rw[e]
 generalize hx:c*A=x
 have h1:0≤c*w:=Int.mul_nonneg hc hw
 have h2:c*w≤w*s:=by
  rw[Int.mul_comm w s]
  exact Int.mul_le_mul_of_nonneg_right hcs hw
 generalize hy:c*w=y at h1 h2
 have m1:x/s≤(x+y)/s:=Int.ediv_le_ediv hs (by omega)
 have m2:(x+y)/s≤(x+w*s)/s:=Int.ediv_le_ediv hs (by omega)
 rw[Int.add_mul_ediv_right _ _ (by omega)] at m2
 have d1:=Int.emod_add_mul_ediv x s
 have d2:=Int.emod_add_mul_ediv (x+y) s
 have r1:=Int.emod_nonneg x (show s≠0 by omega)
 have r2:=Int.emod_lt_of_pos x hs
 have r3:=Int.emod_nonneg (x+y) (show s≠0 by omega)
 have r4:=Int.emod_lt_of_pos (x+y) hs
 have e3:((x+y)/s-x/s)*s=s*((x+y)/s)-s*(x/s):=by
  rw[Int.sub_mul,Int.mul_comm,Int.mul_comm (x/s)]
 rw[e3]
 refine⟨by omega,by omega,by omega,by omega⟩
end Deal
namespace Vs
open Kin Deal
structure Mks where
 kind:Option Nat
 needs:Int
 most:Option Int
 member:Bool
 once:Bool
 lone:Bool
inductive Srt
 |off (a:Int)
 |share (s:Int) (b:Bool)
 |cheap (n:Int)
 |bund (n p:Int)
 |carr
structure Vch where
 so:Srt
 ms:Mks
structure Stnd where
 ow:List Nat
 pr:List Int
 cg:Int
 mkd:List Bool
noncomputable def kHit(ps:List (Option Nat))(kind:Option Nat)(kd:Nat):Bool:=match kind with
 |none=>true
 |some k=>decide (k∈up ps kd)
noncomputable def hits(ps:List (Option Nat))(kds:List Nat)(kind:Option Nat)(lone:Bool)(mkd:List Bool)(l:Nat):Bool:=
 kHit ps kind (kds.getD l 0)&&(!lone|| !(mkd.getD l false))
noncomputable def abt(ps:List (Option Nat))(kds:List Nat)(kind:Option Nat)(lone:Bool)(S:Stnd):List Nat:=
 (JQ S.ow.length).filter fun i=>hits ps kds kind lone S.mkd (S.ow.getD i 0)
def kfD{ps:List (Option Nat)}{kds:List Nat}{kind:Option Nat}{lone:Bool}{S:Stnd}{i:Nat}(h:i∈abt ps kds kind lone S):i<S.ow.length:=by
 have:=(Np.mp h).1
 simpa using this
def ke4(ps:List (Option Nat))(kds:List Nat)(kind:Option Nat)(lone:Bool)(S:Stnd):(abt ps kds kind lone S).Nodup:=Ms.filter _ Mx
def kdW(ps:List (Option Nat))(kds:List Nat)(kind:Option Nat)(lone:Bool)(S:Stnd):(abt ps kds kind lone S).length≤S.ow.length:=by
 have:=MM (fun i=>hits ps kds kind lone S.mkd (S.ow.getD i 0)) (JQ S.ow.length)
 simpa[abt] using this
noncomputable def qs(pr:List Int)(is:List Nat):List Int:=is.map fun i=>pr.getD i 0
def kbl(pr:List Int)(is:List Nat):(qs pr is).length=is.length:=by simp[qs]
noncomputable def spr(n:Nat)(is:List Nat)(vs:List Int):List Int:=(JQ n).map fun i=>((is.zip vs).lookup i).getD 0
def kdc(n:Nat)(is:List Nat)(vs:List Int):(spr n is vs).length=n:=by simp[spr]
def kjb(n:Nat)(vs:List Int):spr n [] vs=JS n 0:=by
 unfold spr
 apply Mo
 ·simp
 ·intro i h1 h2
  simp
theorem kht{l:List (Nat×Int)}{i j:Nat}{v:Int}(h:∀p∈l,p.1≠i):(l++[(i,v)]).lookup j=if j=i then some v else l.lookup j:=by
 induction l with
 | nil=>
  simp only[NL,Nu,List.lookup_nil]
  by_cases e:j=i
  ·subst e;simp
  ·have:(j==i)=false:=beq_eq_false_iff_ne.mpr e
   simp[this,e]
 | cons p l ih=>
  obtain⟨k,w⟩:=p
  have ih':=ih fun q hq=>h q (J5 _ hq)
  have hk:k≠i:=h (k,w) Na
  simp only[MK,Nu]
  by_cases e:j=k
  ·subst e
   simp[hk]
  ·have:(j==k)=false:=beq_eq_false_iff_ne.mpr e
   simp only[this]
   exact ih'
theorem kja{n:Nat}{is:List Nat}{vs:List Int}(hn:is.Nodup){k i:Nat}{v:Int}(h1:is[k]?=some i)(h2:vs[k]?=some v)(hi:i<n):
  (spr n (is.take k) (vs.take k)).set i v=spr n (is.take (k+1)) (vs.take (k+1)):=by
 have e1:is.take (k+1)=is.take k++[i]:=by rw[NY,h1];rfl
 have e2:vs.take (k+1)=vs.take k++[v]:=by rw[NY,h2];rfl
 have hk1:k<is.length:=(JX.mp h1).1
 have hk2:k<vs.length:=(JX.mp h2).1
 have ez:(is.take (k+1)).zip (vs.take (k+1))=(is.take k).zip (vs.take k)++[(i,v)]:=by
  rw[e1,e2,List.zip_append (by simp;omega)]
  rfl
 have hne:∀p∈(is.take k).zip (vs.take k),p.1≠i:=fun p hp e=>by
  have hm:p.1∈is.take k:=(Me hp).1
  rw[e] at hm
  obtain⟨j,hj,ej⟩:=List.getElem_of_mem hm
  rw[Nl] at hj
  rw[List.getElem_take] at ej
  have e3:is[k]=i:=by
   obtain⟨_,q⟩:=JX.mp h1
   exact q
  exact Mm.mp hn j k (by omega) hk1 (by omega) (by rw[ej,e3])
 apply Mo
 ·simp[spr]
 ·intro j h3 h4
  have hj:j<n:=by simpa[spr] using h4
  rw[List.getElem_set]
  simp only[spr,ML,M7]
  rw[ez,kht hne]
  by_cases e:i=j
  ·subst e;simp
  ·have:¬j=i:=fun z=>e z.symm
   simp[e,this]
noncomputable def bef(q:List Int)(a b:Nat):Prop:=q.getD b 0<q.getD a 0∨(q.getD a 0=q.getD b 0∧a<b)
noncomputable def Fall(q:List Int)(r:List Nat):Prop:=r.Perm (JQ q.length)∧r.Pairwise (bef q)
def klh{q:List Int}{a b:Nat}(h:bef q a b)(h':bef q b a):False:=by
 unfold bef at h h'
 omega
theorem keE{R:Nat→Nat→Prop}(asym:∀a b,R a b→R b a→False):∀{l l':List Nat},l.Perm l'→l.Pairwise R→l'.Pairwise R→l=l'
 |[],l',p,_,_=>(List.nil_perm.mp p).symm
 | a ::l,l',p,h,h'=>by
  cases l' with
  |nil=>exact absurd p.length_eq (by simp)
  | cons b l'=>
   have hab:a=b:=by
    rcases Classical.em (a=b) with e|e
    ·exact e
    ·have ha:a∈b::l':=p.mem_iff.mp Na
     have hb:b∈a::l:=p.mem_iff.mpr Na
     rcases Nd.mp ha with e1|ha
     ·exact absurd e1 e
     ·rcases Nd.mp hb with e2|hb
      ·exact absurd e2.symm e
      ·exact(asym a b ((M8.mp h).1 b hb) ((M8.mp h').1 a ha)).elim
   subst hab
   congr 1
   exact keE asym (M9.cons_inv p) (M8.mp h).2 (M8.mp h').2
def khA{q:List Int}{r r':List Nat}(h:Fall q r)(h':Fall q r'):r=r':=
 keE (fun _ _ a b=>klh a b) (h.1.trans h'.1.symm) h.2 h'.2
noncomputable def grp(n:Nat)(r:List Nat):List (List Nat):=(JQ (r.length/n)).map fun g=>(r.drop (g*n)).take n
end Vs
namespace Vs
open Kin Deal
noncomputable def Le2(xs ys:List Int):Prop:=xs.length=ys.length∧∀(j:Nat)(v w:Int),xs[j]?=some v→ys[j]?=some w→0≤v∧v≤w
def Le2.nil:Le2 [] []:=⟨rfl,fun j v w e=>by simp at e⟩
def Le2.self{xs:List Int}(h:Nn xs):Le2 xs xs:=⟨rfl,fun j v w e1 e2=>by
 rw[e1] at e2
 cases e2
 exact⟨h v (JT e1),Int.le_refl _⟩⟩
def Le2.nn{xs ys:List Int}(h:Le2 xs ys):Nn xs:=fun v hv=>by
 obtain⟨j,hj,e⟩:=List.getElem_of_mem hv
 exact(h.2 j v (ys[j]'(by rw[←h.1];exact hj)) (by simp[hj,e]) (by simp[show j<ys.length by rw[←h.1];exact hj])).1
def Le2.trans{xs ys zs:List Int}(h:Le2 xs ys)(h':Le2 ys zs):Le2 xs zs:=⟨h.1.trans h'.1,fun j v w e1 e2=>by
 have hj:j<xs.length:=(JX.mp e1).1
 have e3:ys[j]?=some (ys[j]'(by rw[←h.1];exact hj)):=by simp[show j<ys.length by rw[←h.1];exact hj]
 have a:=h.2 j v _ e1 e3
 have b:=h'.2 j _ w e3 e2
 omega⟩
def Le2.append{xs ys xs' ys':List Int}(h:Le2 xs ys)(h':Le2 xs' ys'):Le2 (xs++xs') (ys++ys'):=by
 refine⟨by simp[h.1,h'.1],fun j v w e1 e2=>?_⟩
 have hl:=h.1
 rcases Nat.lt_or_ge j xs.length with hj|hj
 ·rw[Mv hj] at e1
  rw[Mv (by omega)] at e2
  exact h.2 j v w e1 e2
 ·rw[N7 hj] at e1
  rw[N7 (by omega),←hl] at e2
  exact h'.2 _ v w e1 e2
theorem Le2.sum:∀{xs ys:List Int},Le2 xs ys→0≤xs.sum∧xs.sum≤ys.sum
 |[],[],_=>by simp
 |[],_::_,h=>by have:=h.1;simp at this
 |_::_,[],h=>by have:=h.1;simp at this
 |x::xs,y::ys,h=>by
  have h0:=h.2 0 x y rfl rfl
  have h1:Le2 xs ys:=⟨by simpa using h.1,fun j v w e1 e2=>h.2 (j+1) v w (by simpa using e1) (by simpa using e2)⟩
  have h2:=Le2.sum h1
  simp
  omega
def dl_le{c:Int}{ws:List Int}(hn:Nn ws)(h0:0≤c)(h1:c≤ws.sum):Le2 (dl c ws) ws:=by
 refine⟨keY c ws,fun j v w e1 e2=>?_⟩
 have hj:j<ws.length:=(JX.mp e2).1
 have hw:=hn w (JT e2)
 by_cases hs:ws.sum=0
 ·rw[kkj hs hj] at e1
  cases e1
  exact⟨Int.le_refl _,hw⟩
 ·rw[dl_at hs hj] at e1
  cases e1
  have hp:0<ws.sum:=by
   have:=kbe hn
   omega
  have q:=kjM (A:=pre ws j) hp h0 h1 hw
  unfold part
  rw[kem e2]
  exact⟨q.1,q.2.1⟩
theorem kc5{is:List Nat}{vs:List Int}{i:Nat}{v:Int}(h:(is.zip vs).lookup i=some v):∃k:Nat,is[k]?=some i∧vs[k]?=some v:=by
 induction is generalizing vs with
 |nil=>simp at h
 | cons a is ih=>
  cases vs with
  |nil=>simp at h
  | cons b vs=>
   simp only[List.zip_cons_cons,Nu] at h
   by_cases e:i=a
   ·subst e
    simp at h
    exact⟨0,rfl,by simp[h]⟩
   ·have:(i==a)=false:=beq_eq_false_iff_ne.mpr e
    rw[this] at h
    obtain⟨k,h1,h2⟩:=ih h
    exact⟨k+1,by simpa using h1,by simpa using h2⟩
theorem kfh{pr:List Int}{is:List Nat}{vs:List Int}(hn:Nn pr)(hv:Le2 vs (qs pr is)):Le2 (spr pr.length is vs) pr:=by
 refine⟨kdc _ _ _,fun j v w e1 e2=>?_⟩
 have hj:j<pr.length:=(JX.mp e2).1
 have hw:=hn w (JT e2)
 have e3:v=((is.zip vs).lookup j).getD 0:=by
  simp[spr,hj] at e1
  exact e1.symm
 cases e4:(is.zip vs).lookup j with
 |none=>
  rw[e4] at e3
  subst e3
  exact⟨Int.le_refl _,hw⟩
 |some u=>
  rw[e4] at e3
  have e3':v=u:=e3
  subst e3'
  obtain⟨k,h1,h2⟩:=kc5 e4
  refine hv.2 k v w h2 ?_
  simp only[qs,JY,h1,M0]
  rw[J8,e2]
  rfl
theorem qs_nn{pr:List Int}(hn:Nn pr)(is:List Nat):Nn (qs pr is):=fun v hv=>by
 obtain⟨i,_,rfl⟩:=Nb.mp hv
 rw[J8]
 cases e:pr[i]? with
 |none=>exact Int.le_refl _
 |some w=>exact hn w (JT e)
noncomputable def leQ(q:List Int)(a b:Nat):Bool:=decide (q.getD b 0<q.getD a 0∨(q.getD a 0=q.getD b 0∧a≤b))
noncomputable def ordQ(q:List Int):List Nat:=(JQ q.length).mergeSort (leQ q)
def kcP(q:List Int):(ordQ q).Perm (JQ q.length):=List.mergeSort_perm _ _
def kdu(q:List Int):Fall q (ordQ q):=by
 refine⟨kcP q,?_⟩
 have h1:(ordQ q).Pairwise (fun a b=>leQ q a b=true):=List.pairwise_mergeSort (le:=leQ q) (fun a b c h h'=>by simp only[leQ,decide_eq_true_eq] at *;omega) (fun a b=>by simp only[leQ,EA,decide_eq_true_eq];omega) _
 have h2:(ordQ q).Nodup:=(kcP q).nodup_iff.mpr Mx
 refine(h1.and h2).imp fun {a b} h=>?_
 have h3:=h.1
 have h4:a≠b:=h.2
 simp only[leQ,decide_eq_true_eq] at h3
 unfold bef
 omega
noncomputable def gdl(cut:Int→Int)(gs:List (List Nat))(q:List Int):List Int:=spr q.length gs.flatten ((gs.map fun g=>dl (cut (qs q g).sum) (qs q g)).flatten)
def kgr(q:List Int)(a b:List Nat):qs q (a++b)=qs q a++qs q b:=by simp[qs]
theorem klK{cut:Int→Int}{gs:List (List Nat)}{q:List Int}(hn:Nn q)(hc:∀s,0≤s→0≤cut s∧cut s≤s):Le2 (gdl cut gs q) q:=by
 refine kfh hn ?_
 induction gs with
 |nil=>exact Le2.nil
 |cons g gs ih=>
  rw[J0,Nm,Nm,kgr]
  have h:=hc _ (kbe (qs_nn hn g))
  exact(dl_le (qs_nn hn g) h.1 h.2).append ih
noncomputable def kbf(n:Nat)(lines:List Nat):List (List Nat):=(JQ n).map fun l=>(JQ lines.length).filter fun k=>lines.getD k 0==l
noncomputable def lasts(gs:List (List Nat)):List Nat:=gs.map fun g=>g.getLastD 0
noncomputable def want(so:Srt)(n:Nat)(lines:List Nat)(q:List Int):List Int:=match so with
 | .off a=>dl (min a q.sum) q
 | .share s false=>dl (q.sum*s/1000) q
 | .share s true=>gdl (fun z=>z*s/1000) (kbf n lines) q
 | .cheap m=>spr q.length (lasts (grp m.toNat (ordQ q))) (qs q (lasts (grp m.toNat (ordQ q))))
 | .bund m p=>gdl (fun z=>max 0 (z-p)) (grp m.toNat (ordQ q)) q
 | .carr=>JS q.length 0
noncomputable def fee(so:Srt)(cg:Int):Int:=match so with
 | .carr=>cg
 |_=>0
noncomputable def SrtOk:Srt→Prop
 | .off a=>0≤a∧a≤1000000000000
 | .share s _=>1≤s∧s≤1000
 | .cheap n=>2≤n∧n≤20
 | .bund n p=>2≤n∧n≤20∧0≤p∧p≤1000000000000
 | .carr=>True
def kdo{z s:Int}(hz:0≤z)(h1:1≤s)(h2:s≤1000):0≤z*s/1000∧z*s/1000≤z:=by
 have a:0≤z*s:=Int.mul_nonneg hz (by omega)
 have b:z*s≤z*1000:=Int.mul_le_mul_of_nonneg_left h2 hz
 omega
def kmN{q:List Int}(hn:Nn q):Le2 (JS q.length 0) q:=by
 refine⟨by simp,fun j v w e1 e2=>?_⟩
 have:v=0:=by
  rw[Ew] at e1
  split at e1
  ·exact(Option.some.inj e1).symm
  ·cases e1
 subst this
 exact⟨Int.le_refl _,hn w (JT e2)⟩
def kg3{a:Int}{n:Nat}{lines:List Nat}{q:List Int}(hn:Nn q)(h0:0≤a):Le2 (want (.off a) n lines q) q:=by
 have hs:=kbe hn
 show Le2 (dl (min a q.sum) q) q
 exact dl_le hn (by omega) (by omega)
theorem kfE{s:Int}{e:Bool}{n:Nat}{lines:List Nat}{q:List Int}(hn:Nn q)(h1:1≤s)(h2:s≤1000):Le2 (want (.share s e) n lines q) q:=by
 have hs:=kbe hn
 cases e with
 |false=>
  show Le2 (dl (q.sum*s/1000) q) q
  have h:=kdo hs h1 h2
  exact dl_le hn h.1 h.2
 |true=>
  show Le2 (gdl (fun z=>z*s/1000) (kbf n lines) q) q
  exact klK hn fun z hz=>kdo hz h1 h2
def kdX{m p:Int}{n:Nat}{lines:List Nat}{q:List Int}(hn:Nn q)(h0:0≤p):Le2 (want (.bund m p) n lines q) q:=by
 show Le2 (gdl (fun z=>max 0 (z-p)) (grp m.toNat (ordQ q)) q) q
 exact klK hn fun z hz=>⟨by show 0≤max 0 (z-p);omega,by show max 0 (z-p)≤z;omega⟩
def kfF{m:Int}{n:Nat}{lines:List Nat}{q:List Int}(hn:Nn q):Le2 (want (.cheap m) n lines q) q:=by
 show Le2 (spr q.length _ (qs q _)) q
 exact kfh hn (Le2.self (qs_nn hn _))
def kf6{n:Nat}{lines:List Nat}{q:List Int}(hn:Nn q):Le2 (want .carr n lines q) q:=kmN hn
theorem kg4{so:Srt}{n:Nat}{lines:List Nat}{q:List Int}(hn:Nn q)(ho:SrtOk so):Le2 (want so n lines q) q:=by
 cases so with
 |off a=>exact kg3 hn ho.1
 |share s e=>exact kfE hn ho.1 ho.2
 |cheap m=>exact kfF hn
 |bund m p=>exact kdX hn ho.2.2.1
 |carr=>exact kf6 hn
noncomputable def cap(most:Option Int)(w:List Int)(f:Int):List Int×Int:=match most with
 |none=>(w,f)
 |some m=>if m<w.sum+f then(dl (min m w.sum) w,min f m) else(w,f)
theorem klP{most:Option Int}{w q:List Int}{f cg:Int}(h:Le2 w q)(hf:0≤f∧f≤cg)(hm:∀m,most=some m→0≤m):Le2 (cap most w f).1 q∧0≤(cap most w f).2∧(cap most w f).2≤cg:=by
 unfold cap
 cases most with
 |none=>exact⟨h,hf⟩
 |some m=>
  have h0:=hm m rfl
  have hs:=kbe h.nn
  simp only
  split
  ·exact⟨(dl_le h.nn (by omega) (by omega)).trans h,by simp only;omega,by simp only;omega⟩
  ·exact⟨h,hf⟩
noncomputable def cutM(V:Vch)(ps:List (Option Nat))(kk:List Nat)(S:Stnd):List Int×Int:=
 let is:=abt ps kk V.ms.kind V.ms.lone S
 let c:=cap V.ms.most (want V.so S.mkd.length (is.map fun i=>S.ow.getD i 0) (qs S.pr is)) (fee V.so S.cg)
 (spr S.pr.length is c.1,c.2)
def kiy{V:Vch}{ps:List (Option Nat)}{kk:List Nat}{S:Stnd}(hn:Nn S.pr)(hc:0≤S.cg)(ho:SrtOk V.so)(hm:∀m,V.ms.most=some m→0≤m):Le2 (cutM V ps kk S).1 S.pr∧0≤(cutM V ps kk S).2∧(cutM V ps kk S).2≤S.cg:=by
 have hf:0≤fee V.so S.cg∧fee V.so S.cg≤S.cg:=by
  unfold fee
  split <;> omega
 have h:=klP (most:=V.ms.most) (kg4 (n:=S.mkd.length) (lines:=(abt ps kk V.ms.kind V.ms.lone S).map fun i=>S.ow.getD i 0) (qs_nn hn (abt ps kk V.ms.kind V.ms.lone S)) ho) hf hm
 exact⟨kfh hn h.1,h.2⟩
noncomputable def kdF(ow:List Nat)(c:List Int)(l:Nat):Bool:=(JQ ow.length).any fun i=>ow.getD i 0==l&&decide (0<c.getD i 0)
noncomputable def aftM(V:Vch)(ps:List (Option Nat))(kk:List Nat)(S:Stnd):Stnd:=
 ⟨S.ow,NH (· - ·) S.pr (cutM V ps kk S).1,S.cg-(cutM V ps kk S).2,(JQ S.mkd.length).map fun l=>S.mkd.getD l false||(V.ms.lone&&kdF S.ow (cutM V ps kk S).1 l)⟩
def klR{V:Vch}{ps:List (Option Nat)}{kk:List Nat}{S:Stnd}(hn:Nn S.pr)(hc:0≤S.cg)(ho:SrtOk V.so)(hm:∀m,V.ms.most=some m→0≤m):Le2 (aftM V ps kk S).pr S.pr∧0≤(aftM V ps kk S).cg∧(aftM V ps kk S).cg≤S.cg:=by
 have h:=kiy (ps:=ps) (kk:=kk) hn hc ho hm
 refine⟨⟨?_,fun j v w e1 e2=>?_⟩,?_,?_⟩
 ·show(NH _ _ _).length=_
  rw[Ea,h.1.1]
  omega
 ·have hj:j<S.pr.length:=(JX.mp e2).1
  have hj2:j<(cutM V ps kk S).1.length:=by rw[h.1.1];exact hj
  have e3:(cutM V ps kk S).1[j]?=some ((cutM V ps kk S).1[j]):=by simp[hj2]
  have b:=h.1.2 j _ w e3 e2
  have e4:(NH (· - ·) S.pr (cutM V ps kk S).1)[j]?=some (w-(cutM V ps kk S).1[j]):=by
   rw[Eb,e2,e3]
  have e1':(NH (· - ·) S.pr (cutM V ps kk S).1)[j]?=some v:=e1
  rw[e4] at e1'
  cases e1'
  omega
 ·show 0≤S.cg-_
  have:=h.2
  omega
 ·show S.cg-_≤S.cg
  have:=h.2
  omega
end Vs
namespace Vs
open Kin Deal
structure Sel (q:List Int) (row left:List Nat):Prop where
 pm:(row++left).Perm (JQ q.length)
 inc:left.Pairwise (· < ·)
 pw:row.Pairwise (bef q)
 cr:∀r∈row,∀l∈left,bef q r l
def Sel.start(q:List Int):Sel q [] (JQ q.length):=⟨M9.refl _,Ec, .nil,fun r hr=>by simp at hr⟩
def Sel.lt{q:List Int}{row left:List Nat}(h:Sel q row left){i:Nat}(hi:i∈left):i<q.length:=by
 have:=h.pm.mem_iff.mp (NJ row hi)
 simpa using this
def Sel.len{q:List Int}{row left:List Nat}(h:Sel q row left):row.length+left.length=q.length:=by
 have:=h.pm.length_eq
 simpa using this
def Sel.fin{q:List Int}{row:List Nat}(h:Sel q row []):row=ordQ q:=by
 refine khA ⟨?_,h.pw⟩ (kdu q)
 have:=h.pm
 rwa [N6] at this
noncomputable def TopI(q:List Int)(left:List Nat)(i top:Nat):Prop:=(∃k,left[k]?=some top∧(k<i∨k=0))∧∀y∈left.take i,y=top∨bef q top y
def TopI.start{q:List Int}{left:List Nat}{t:Nat}(h:left[0]?=some t):TopI q left 0 t:=⟨⟨0,h, .inr rfl⟩,fun y hy=>by simp at hy⟩
def TopI.more{q:List Int}{left:List Nat}{i top x:Nat}(inc:left.Pairwise (· < ·))(h:TopI q left i top)(hx:left[i]?=some x):TopI q left (i+1) (if q.getD top 0<q.getD x 0 then x else top):=by
 obtain⟨⟨k,ek,hk⟩,hy⟩:=h
 have et:left.take (i+1)=left.take i++[x]:=by rw[NY,hx];rfl
 split
 ·rename_i hlt
  refine⟨⟨i,hx, .inl (by omega)⟩,fun y hm=>?_⟩
  rw[et] at hm
  rcases Nr.mp hm with h1|h1
  ·refine .inr (.inl ?_)
   rcases hy y h1 with rfl|h2
   ·exact hlt
   ·unfold bef at h2
    omega
  ·exact .inl (by simpa using h1)
 ·rename_i hge
  refine⟨⟨k,ek,by omega⟩,fun y hm=>?_⟩
  rw[et] at hm
  rcases Nr.mp hm with h1|h1
  ·exact hy y h1
  ·have e:y=x:=by simpa using h1
   subst e
   by_cases hki:k=i
   ·subst hki
    rw[ek] at hx
    exact .inl (Option.some.inj hx).symm
   ·have hlt:top<y:=by
     obtain⟨l1,q1⟩:=JX.mp ek
     obtain⟨l2,q2⟩:=JX.mp hx
     have:=Mm.mp inc k i l1 l2 (by omega)
     rwa [q1,q2] at this
    refine .inr ?_
    unfold bef
    omega
def Sel.step{q:List Int}{row left:List Nat}{top:Nat}(h:Sel q row left)(ht:TopI q left left.length top):Sel q (row++[top]) (left.erase top)∧top∈left:=by
 obtain⟨⟨k,ek,_⟩,hy⟩:=ht
 have hm:=JT ek
 rw[NB] at hy
 have nd:left.Nodup:=h.inc.imp fun hlt=>Nk hlt
 refine⟨⟨?_,h.inc.sublist (List.erase_sublist),?_,?_⟩,hm⟩
 ·refine M9.trans ?_ h.pm
  rw[Nt]
  exact M9.append_left row (List.perm_cons_erase hm).symm
 ·exact List.pairwise_append.mpr ⟨h.pw,List.pairwise_singleton _ _,fun r hr t ht=>by
   have e:t=top:=by simpa using ht
   subst e
   exact h.cr r hr t hm⟩
 ·intro r hr l hl
  have hl':=(nd.mem_erase_iff).mp hl
  rcases Nr.mp hr with h1|h1
  ·exact h.cr r h1 l hl'.2
  ·have e:r=top:=by simpa using h1
   subst e
   rcases hy l hl'.2 with h2|h2
   ·exact absurd h2 hl'.1
   ·exact h2
end Vs
namespace Vs
open Kin Deal
def kgN{m:Nat}{r:List Nat}{i:Nat}{g:List Nat}(h:(grp m r)[i]?=some g):i*m+m≤r.length∧g.length=m∧∀j,j<m→g[j]?=r[i*m+j]?:=by
 unfold grp at h
 rw[JY] at h
 have hi:i<r.length/m:=by
  rcases Nat.lt_or_ge i (r.length/m) with q|q
  ·exact q
  ·rw[My (by simpa using q)] at h
   cases h
 rw[Mz hi] at h
 cases h
 have hle:i*m+m≤r.length:=by
  have h1:(i+1)*m≤r.length/m*m:=Ed m hi
  have h2:=Nat.div_mul_le_self r.length m
  rw[MN,MO] at h1
  omega
 refine⟨hle,by rw[Nl,MU];omega,fun j hj=>?_⟩
 rw[E1 hj,List.getElem?_drop]
theorem keS{m:Nat}{r:List Nat}{i:Nat}{g:List Nat}(hm:0<m)(h:(grp m r)[i]?=some g):r[i*m+(m-1)]?=some (g.getLastD 0):=by
 obtain⟨hle,hl,hg⟩:=kgN h
 rw[←hg (m-1) (by omega)]
 cases g with
 |nil=>simp at hl;omega
 |cons x xs=>
  have e:(x::xs).getLastD 0=(x::xs).getLast (by simp):=by simp[List.getLastD]
  rw[e,List.getLast_eq_getElem,JX]
  refine⟨by omega,?_⟩
  congr 1
  omega
def kim{gs:List (List Nat)}{i:Nat}{g:List Nat}(h:gs[i]?=some g):(lasts gs)[i]?=some (g.getLastD 0):=by
 unfold lasts
 rw[JY,h]
 rfl
def kdC(gs:List (List Nat)):(lasts gs).length=gs.length:=by simp[lasts]
def keR{m:Nat}{r:List Nat}(hm:0<m)(hr:r.Nodup):(lasts (grp m r)).Nodup:=by
 refine Mm.mpr fun i j hi hj hij e=>?_
 rw[kdC] at hi hj
 have e1:(grp m r)[i]?=some (grp m r)[i]:=by simp[hi]
 have e2:(grp m r)[j]?=some (grp m r)[j]:=by simp[hj]
 have a1:=keS hm e1
 have a2:=keS hm e2
 have b1:=kim e1
 have b2:=kim e2
 obtain⟨_,c1⟩:=JX.mp b1
 obtain⟨_,c2⟩:=JX.mp b2
 rw[c1,c2] at e
 rw[e] at a1
 obtain⟨l1,d1⟩:=JX.mp a1
 obtain⟨l2,d2⟩:=JX.mp a2
 have hlt:i*m+(m-1)<j*m+(m-1):=by
  have:=Nat.mul_lt_mul_of_pos_right hij hm
  omega
 exact Mm.mp hr _ _ l1 l2 hlt (by rw[d1,d2])
def kfr(q:List Int):(ordQ q).Nodup:=(kcP q).nodup_iff.mpr Mx
def khq{q:List Int}{i:Nat}(h:i∈ordQ q):i<q.length:=by
 have:=(kcP q).mem_iff.mp h
 simpa using this
end Vs
namespace Vs
open Kin Deal
def kkC{n:Nat}{is:List Nat}{vs:List Int}{i:Nat}{v:Int}(hl:is.length=vs.length)(hn:(is++[i]).Nodup)(hi:i<n):(spr n is vs).set i v=spr n (is++[i]) (vs++[v]):=by
 have h:=kja (n:=n) (is:=is++[i]) (vs:=vs++[v]) hn (k:=is.length) (i:=i) (v:=v) (by simp) (by rw[hl];simp) hi
 rw[List.take_left' rfl,List.take_left' hl.symm,Mj (by simp),Mj (by simp[hl])] at h
 exact h
def kes{gs:List (List Nat)}(h:gs.flatten.Nodup){i k a:Nat}{g:List Nat}(hg:gs[i]?=some g)(hk:g[k]?=some a):((gs.take i).flatten++g.take k++[a]).Nodup:=by
 have e:gs=gs.take i++g::gs.drop (i+1):=by
  obtain⟨hi,eg⟩:=JX.mp hg
  rw[←eg,E6 hi,E7]
 have e2:g=(g.take k++[a])++g.drop (k+1):=by
  obtain⟨hk',ek⟩:=JX.mp hk
  rw[Nt,EJ,←ek,E6 hk',E7]
 rw[e,M6,Nm] at h
 rw[Nt]
 refine h.sublist (List.Sublist.append_left ?_ _)
 refine List.Sublist.trans ?_ (E8 g _)
 conv=>rhs;rw[e2]
 exact E8 _ _
theorem kk4{m:Nat}(r:List Nat):(grp m r).flatten=r.take (r.length/m*m):=by
 unfold grp
 have hle:r.length/m*m≤r.length:=Nat.div_mul_le_self _ _
 generalize r.length/m=c at *
 induction c with
 |zero=>simp
 |succ c ih=>
  have h1:c*m+m≤r.length:=by rw[←Nat.succ_mul];exact hle
  rw[NG,JW,M6,ih (by omega)]
  simp only[J0,Mh,Nm,List.flatten_nil,N6]
  rw[show(c+1)*m=c*m+m by rw[MN,MO],List.take_add]
def kgM{m:Nat}{r:List Nat}(h:r.Nodup):(grp m r).flatten.Nodup:=by
 rw[kk4]
 exact h.sublist (List.take_sublist _ _)
end Vs
namespace Vs
open Kin Deal
theorem kdb{is:List Nat}(hn:is.Nodup){k i:Nat}(hk:is[k]?=some i):∀(l:List (Nat×Int)),(∀p∈l,p.1<is.length)→(l.map fun p=>(is.getD p.1 0,p.2)).lookup i=l.lookup k
 |[],_=>rfl
 | (j,v)::l,h=>by
  have ih:=kdb hn hk l fun p hp=>h p (J5 _ hp)
  have hj:j<is.length:=h (j,v) Na
  obtain⟨hk',ek⟩:=JX.mp hk
  have e:is.getD j 0=is[j]:=by rw[J8];simp[hj]
  simp only[J0,Nu,e]
  by_cases q:k=j
  ·subst q
   simp[ek]
  ·have h1:(k==j)=false:=by simp[q]
   have h2:(i==is[j])=false:=by
    refine beq_eq_false_iff_ne.mpr fun z=>q ?_
    exact(En hn).mp (by rw[ek,z])
   rw[h1,h2]
   exact ih
theorem lookup_none{is:List Nat}{i:Nat}(hi:∀k:Nat,is[k]?≠some i):∀(l:List (Nat×Int)),(∀p∈l,p.1<is.length)→(l.map fun p=>(is.getD p.1 0,p.2)).lookup i=none
 |[],_=>rfl
 |(j,v)::l,h=>by
  have ih:=lookup_none hi l fun p hp=>h p (J5 _ hp)
  have hj:j<is.length:=h (j,v) Na
  have e:is.getD j 0=is[j]:=by rw[J8];simp[hj]
  have h2:(i==is[j])=false:=beq_eq_false_iff_ne.mpr fun z=>hi j (by rw[z];simp[hj])
  simp only[J0,Nu,e,h2]
  exact ih
theorem keP{is:List Nat}(hn:is.Nodup){k i:Nat}(hk:is[k]?=some i):∀{vs:List Int},is.length=vs.length→(is.zip vs).lookup i=vs[k]?:=by
 induction is generalizing k with
 |nil=>simp at hk
 | cons a is ih=>
  intro vs hl
  cases vs with
  |nil=>simp at hl
  | cons v vs=>
   rw[List.zip_cons_cons,Nu]
   cases k with
   |zero=>
    have:a=i:=by simpa using hk
    subst this
    simp
   |succ k=>
    have hk':is[k]?=some i:=by simpa using hk
    have hh:=NW.mp hn
    have hne:(i==a)=false:=beq_eq_false_iff_ne.mpr fun z=>hh.1 (z▸JT hk')
    rw[hne]
    simpa using ih hh.2 hk' (by simpa using hl)
def kg6{n:Nat}{is js:List Nat}{vs:List Int}(hn:is.Nodup)(hj:∀j∈js,j<is.length):spr n is (spr is.length js vs)=spr n (js.map fun j=>is.getD j 0) vs:=by
 apply Mo
 ·simp[spr]
 intro i h1 h2
 have ez:(js.map fun j=>is.getD j 0).zip vs=(js.zip vs).map fun p=>(is.getD p.1 0,p.2):=by rw[List.zip_map_left];rfl
 have hp:∀p∈js.zip vs,p.1<is.length:=fun p hp=>hj _ (Me hp).1
 simp only[spr,ML,M7]
 rw[ez]
 by_cases hk:∃k:Nat,is[k]?=some i
 ·obtain⟨k,hk⟩:=hk
  have hkl:=(JX.mp hk).1
  rw[kdb hn hk _ hp,keP hn hk (by simp)]
  simp[hkl]
 ·rw[lookup_none (fun k e=>hk ⟨k,e⟩) _ hp]
  have:((is.zip ((JQ is.length).map fun i=>((js.zip vs).lookup i).getD 0)).lookup i)=none:=by
   rw[List.lookup_eq_none_iff]
   intro p hp'
   have:=(Me hp').1
   obtain⟨k,ek⟩:=N4.mp this
   have hne:i≠p.1:=fun z=>hk ⟨k,by rw[ek,←z]⟩
   simpa using hne
  rw[this]
noncomputable def owns(n:Nat)(ow:List Nat)(is:List Nat):List (List Nat):=(JQ n).map fun l=>is.filter fun i=>ow.getD i 0==l
def ke1(n:Nat)(ow is:List Nat):(kbf n (is.map fun i=>ow.getD i 0)).map (fun g=>g.map fun j=>is.getD j 0)=owns n ow is:=by
 unfold kbf owns
 rw[Nf]
 refine NM fun l _=>?_
 show(((JQ _).filter _).map fun j=>is.getD j 0)=_
 have e:is=(JQ is.length).map fun j=>is.getD j 0:=by
  apply Mo
  ·simp
  ·intro j h1 h2
   simp[J8,h1]
 conv=>rhs;rw[e]
 rw[List.filter_map,JM]
 congr 1
 refine List.filter_congr fun k hk=>?_
 have hk':k<is.length:=by simpa using hk
 simp[J8,hk']
def qs_qs{pr:List Int}{ab g:List Nat}(h:∀j∈g,j<ab.length):qs (qs pr ab) g=qs pr (g.map fun j=>ab.getD j 0):=by
 unfold qs
 rw[Nf]
 refine NM fun j hj=>?_
 have:=h j hj
 simp[J8,this]
def ke2{n:Nat}{lines:List Nat}{g:List Nat}(hg:g∈kbf n lines){j:Nat}(hj:j∈g):j<lines.length:=by
 obtain⟨l,_,rfl⟩:=Nb.mp hg
 have:=(Np.mp hj).1
 simpa using this
def khF{n N:Nat}{ow ab:List Nat}{pr:List Int}(cut:Int→Int)(hn:ab.Nodup):spr n ab (gdl cut (kbf N (ab.map fun i=>ow.getD i 0)) (qs pr ab))=spr n (owns N ow ab).flatten ((owns N ow ab).map fun o=>dl (cut (qs pr o).sum) (qs pr o)).flatten:=by
 unfold gdl
 rw[kbl,kg6 hn fun j hj=>?_,List.map_flatten,ke1]
 ·congr 2
  rw[←ke1,Nf]
  refine NM fun g hg=>?_
  have e:=qs_qs (pr:=pr) (ab:=ab) (g:=g) fun j hj=>by simpa using ke2 hg hj
  show dl (cut (qs (qs pr ab) g).sum) (qs (qs pr ab) g)=dl (cut (qs pr (g.map fun j=>ab.getD j 0)).sum) (qs pr (g.map fun j=>ab.getD j 0))
  rw[e]
 ·obtain⟨g,hg,hj'⟩:=NZ.mp hj
  simpa using ke2 hg hj'
end Vs
namespace Vs
open Kin Deal
section
variable {p:Nat→Bool} {n:Nat} {w:List Int}
noncomputable def cnt(p:Nat→Bool)(j:Nat):Nat:=((JQ j).filter p).length
theorem kkl{j:Nat}(h:p j=true):cnt p (j+1)=cnt p j+1:=by
 unfold cnt
 rw[NG,Mb,JZ]
 simp[h]
theorem klO{j:Nat}(h:p j=false):cnt p (j+1)=cnt p j:=by
 unfold cnt
 rw[NG,Mb,JZ]
 simp[h]
theorem kcX:∀{n j:Nat},j<n→p j=true→((JQ n).filter p)[cnt p j]?=some j
 |0,j,h,_=>by omega
 | n+1,j,h,hp=>by
  rw[NG,Mb]
  by_cases hj:j<n
  ·have ih:=kcX hj hp
   rw[Mv (JX.mp ih).1]
   exact ih
  ·have e:j=n:=by omega
   subst e
   unfold cnt
   rw[N7 (JO _)]
   simp[hp]
theorem klp(hl:w.length=cnt p n){j:Nat}(hj:j<n):(spr n ((JQ n).filter p) w)[j]?=some (if p j=true then w.getD (cnt p j) 0 else 0):=by
 unfold spr
 rw[JY,Mz hj]
 show some _=some _
 congr 1
 show(NP j (((JQ n).filter p).zip w)).getD 0=_
 cases hp:p j with
 |true=>
  rw[keP (Ms.filter _ Mx) (kcX hj hp) hl.symm,if_pos rfl,J8]
 | false=>
  rw[if_neg JV]
  cases e:(((JQ n).filter p).zip w).lookup j with
  |none=>rw[Ex]
  |some v=>
   obtain⟨k,hk,_⟩:=kc5 e
   have:=(Np.mp (JT hk)).2
   rw[hp] at this
   cases this
theorem kfQ(hl:w.length=cnt p n):∀j,j≤n→pre (spr n ((JQ n).filter p) w) j=pre w (cnt p j)
 |0,_=>by simp[pre,cnt]
 | j+1,h=>by
  have ih:=kfQ hl j (by omega)
  rw[kem (klp hl (show j<n by omega)),ih]
  cases hp:p j with
  |true=>
   have hk:=(JX.mp (kcX (show j<n by omega) hp)).1
   have hk':cnt p j<w.length:=by rw[hl];exact hk
   rw[if_pos rfl,kkl hp,kem (w:=w.getD (cnt p j) 0) (by rw[J8,N1 hk'];rfl)]
  |false=>rw[if_neg JV,klO hp,Int.add_zero]
theorem ki4(hl:w.length=cnt p n):(spr n ((JQ n).filter p) w).sum=w.sum:=by
 have h:=kfQ hl n (JO _)
 rw[←hl,khm] at h
 have e:pre (spr n ((JQ n).filter p) w) n=(spr n ((JQ n).filter p) w).sum:=by
  have:=khm (spr n ((JQ n).filter p) w)
  rw[kdc] at this
  exact this
 rw[←e,h]
theorem km9(m:Int)(hl:w.length=cnt p n):dl m (spr n ((JQ n).filter p) w)=spr n ((JQ n).filter p) (dl m w):=by
 have hl2:(dl m w).length=cnt p n:=by rw[keY,hl]
 have hs:=ki4 hl
 apply List.ext_getElem?
 intro j
 by_cases hj:j<n
 ·rw[klp hl2 hj]
  have hjF:j<(spr n ((JQ n).filter p) w).length:=by rw[kdc];exact hj
  by_cases h0:w.sum=0
  ·rw[kkj (hs.trans h0) hjF]
   cases hp:p j with
   |false=>rw[if_neg JV]
   |true=>
    have hk:=(JX.mp (kcX hj hp)).1
    rw[if_pos rfl,J8,kkj h0 (by rw[hl];exact hk)]
    rfl
  ·rw[dl_at (by rw[hs];exact h0) hjF]
   unfold part
   rw[hs,kfQ hl j (by omega),kfQ hl (j+1) (by omega)]
   cases hp:p j with
   |false=>rw[if_neg JV,klO hp,Int.sub_self]
   |true=>
    have hk:=(JX.mp (kcX hj hp)).1
    rw[if_pos rfl,J8,dl_at h0 (by rw[hl];exact hk),kkl hp]
    rfl
 ·rw[My (by rw[keY,kdc];omega),My (by rw[kdc];omega)]
end
def kmx{c:Int}{n:Nat}:dl c (JS n 0)=JS n 0:=by
 have e:(JS n (0:Int)).sum=0:=by simp
 unfold dl
 rw[if_pos e]
 simp
theorem kld{V:Vch}{ps:List (Option Nat)}{kk:List Nat}{S:Stnd}(e:V.ms.most=none):
  (cutM V ps kk S).1=spr S.pr.length (abt ps kk V.ms.kind V.ms.lone S) (want V.so S.mkd.length ((abt ps kk V.ms.kind V.ms.lone S).map fun i=>S.ow.getD i 0) (qs S.pr (abt ps kk V.ms.kind V.ms.lone S))):=by
 unfold cutM cap
 rw[e]
theorem klc{V:Vch}{ps:List (Option Nat)}{kk:List Nat}{S:Stnd}(hl:S.pr.length=S.ow.length)
  (hw:Le2 (want V.so S.mkd.length ((abt ps kk V.ms.kind V.ms.lone S).map fun i=>S.ow.getD i 0) (qs S.pr (abt ps kk V.ms.kind V.ms.lone S))) (qs S.pr (abt ps kk V.ms.kind V.ms.lone S))) {m:Int} (e:V.ms.most=some m) (h0:0≤m):
  (cutM V ps kk S).1=if(spr S.pr.length (abt ps kk V.ms.kind V.ms.lone S) (want V.so S.mkd.length ((abt ps kk V.ms.kind V.ms.lone S).map fun i=>S.ow.getD i 0) (qs S.pr (abt ps kk V.ms.kind V.ms.lone S)))).sum > m
   then dl m (spr S.pr.length (abt ps kk V.ms.kind V.ms.lone S) (want V.so S.mkd.length ((abt ps kk V.ms.kind V.ms.lone S).map fun i=>S.ow.getD i 0) (qs S.pr (abt ps kk V.ms.kind V.ms.lone S))))
   else spr S.pr.length (abt ps kk V.ms.kind V.ms.lone S) (want V.so S.mkd.length ((abt ps kk V.ms.kind V.ms.lone S).map fun i=>S.ow.getD i 0) (qs S.pr (abt ps kk V.ms.kind V.ms.lone S))):=by
 have hwl:=hw.1
 rw[kbl] at hwl
 have ea:abt ps kk V.ms.kind V.ms.lone S=(JQ S.pr.length).filter fun i=>hits ps kk V.ms.kind V.ms.lone S.mkd (S.ow.getD i 0):=by rw[hl];rfl
 have ez:V.so=.carr→(want V.so S.mkd.length ((abt ps kk V.ms.kind V.ms.lone S).map fun i=>S.ow.getD i 0) (qs S.pr (abt ps kk V.ms.kind V.ms.lone S)))=JS (qs S.pr (abt ps kk V.ms.kind V.ms.lone S)).length 0:=fun z=>by rw[z];rfl
 unfold cutM cap
 rw[e]
 simp only
 generalize want V.so S.mkd.length ((abt ps kk V.ms.kind V.ms.lone S).map fun i=>S.ow.getD i 0) (qs S.pr (abt ps kk V.ms.kind V.ms.lone S))=w at *
 rw[ea] at hwl⊢
 rw[ki4 hwl,km9 m hwl]
 by_cases hc:V.so=.carr
 ·have hz:=ez hc
  have hs:w.sum=0:=by rw[hz];simp
  rw[if_neg (by omega:¬w.sum > m)]
  split
  ·simp only
   rw[hz,kmx]
  ·rfl
 ·have hf:fee V.so S.cg=0:=by
   unfold fee
   split
   ·rename_i z
    exact absurd z hc
   ·rfl
  rw[hf,Int.add_zero]
  by_cases hm:m<w.sum
  ·rw[if_pos hm,if_pos hm]
   simp only
   rw[Int.min_eq_left (by omega)]
  ·rw[if_neg hm,if_neg hm]
end Vs
namespace Vs
open Kin Deal
noncomputable def ins:List (Nat×List Nat)→Nat→Nat→List (Nat×List Nat)
 |[],o,a=>[(o,[a])]
 |(l,g)::G,o,a=>if l=o then(l,g++[a])::G else(l,g)::ins G o a
noncomputable def parted(f:Nat→Nat)(is:List Nat):List (Nat×List Nat):=is.foldl (fun G a=>ins G (f a) a) []
def keH(f:Nat→Nat)(is:List Nat)(a:Nat):parted f (is++[a])=ins (parted f is) (f a) a:=by
 unfold parted
 rw[Ee]
 rfl
theorem kep:∀(G:List (Nat×List Nat))(o a:Nat),(ins G o a).map Prod.fst=if o∈G.map Prod.fst then G.map Prod.fst else G.map Prod.fst++[o]
 |[],o,a=>by simp[ins]
 | (l,g)::G,o,a=>by
  unfold ins
  by_cases h:l=o
  ·subst h
   simp
  ·rw[if_neg h,J0,kep G o a]
   show _=if o∈l::G.map Prod.fst then l::G.map Prod.fst else(l::G.map Prod.fst)++[o]
   have h':¬o=l:=fun z=>h z.symm
   by_cases hm:o∈G.map Prod.fst
   ·rw[if_pos hm,if_pos (J5 _ hm)]
   ·rw[if_neg hm,if_neg (by rw[Nd,not_or];exact⟨h',hm⟩)]
    rfl
theorem kj5:∀{G:List (Nat×List Nat)}{o a l:Nat}{g:List Nat},(G.map Prod.fst).Nodup→(l,g)∈ins G o a→(l≠o∧(l,g)∈G)∨(l=o∧((∃g',(o,g')∈G∧g=g'++[a])∨(o∉G.map Prod.fst∧g=[a])))
 |[],o,a,l,g,_,h=>by
  unfold ins at h
  rw[N3] at h
  cases h
  exact .inr ⟨rfl, .inr ⟨by simp,rfl⟩⟩
 | (k,g0)::G,o,a,l,g,hn,h=>by
  unfold ins at h
  rw[J0,NW] at hn
  by_cases e:k=o
  ·rw[if_pos e] at h
   subst e
   rcases Nd.mp h with z|z
   ·cases z
    exact .inr ⟨rfl, .inl ⟨g0,Na,rfl⟩⟩
   ·refine .inl ⟨fun w=>?_,J5 _ z⟩
    subst w
    exact hn.1 (Nb.mpr ⟨(l,g),z,rfl⟩)
  ·rw[if_neg e] at h
   rcases Nd.mp h with z|z
   ·cases z
    exact .inl ⟨e,Na⟩
   ·rcases kj5 hn.2 z with⟨w1,w2⟩|⟨w1,⟨g',w2,w3⟩|⟨w2,w3⟩⟩
    ·exact .inl ⟨w1,J5 _ w2⟩
    ·exact .inr ⟨w1, .inl ⟨g',J5 _ w2,w3⟩⟩
    ·refine .inr ⟨w1, .inr ⟨?_,w3⟩⟩
     rw[J0,Nd,not_or]
     exact⟨fun z=>e z.symm,w2⟩
structure PtOk (f:Nat→Nat) (is:List Nat) (G:List (Nat×List Nat)):Prop where
 nd:(G.map Prod.fst).Nodup
 gs:∀l g,(l,g)∈G→g=is.filter fun i=>f i==l
 all:∀i∈is,f i∈G.map Prod.fst
theorem kfp(f:Nat→Nat):∀(n:Nat)(is:List Nat),is.length=n→PtOk f is (parted f is)
 |0,is,h=>by
  have e:is=[]:=List.eq_nil_of_length_eq_zero h
  subst e
  exact⟨by simp[parted],fun l g hg=>by simp[parted] at hg,fun i hi=>by simp at hi⟩
 | n +1,is,h=>by
  have hne:is≠[]:=by
   intro z
   subst z
   cases h
  obtain⟨is',a,rfl⟩:∃is' a,is=is'++[a]:=⟨is.dropLast,is.getLast hne,(List.dropLast_concat_getLast hne).symm⟩
  have ih:=kfp f n is' (by simpa using h)
  rw[keH]
  refine⟨?_,fun l g hg=>?_,fun i hi=>?_⟩
  ·rw[kep]
   split
   ·exact ih.nd
   ·rename_i hm
    exact EK.mpr ⟨ih.nd,by simp,fun x hx y hy=>by
     rw[N3] at hy
     subst hy
     exact fun z=>hm (by rw[←z];exact hx)⟩
  ·rw[Mb]
   rcases kj5 ih.nd hg with⟨w1,w2⟩|⟨w1,⟨g',w2,w3⟩|⟨w2,w3⟩⟩
   ·rw[ih.gs l g w2]
    have:(f a==l)=false:=by simpa using fun z=>w1 z.symm
    simp[this]
   ·subst w1 w3
    rw[ih.gs _ g' w2]
    simp
   ·subst w1 w3
    have e:is'.filter (fun i=>f i==f a)=[]:=by
     rw[E9]
     intro i hi z
     have z':f i=f a:=by simpa using z
     exact w2 (by rw[←z'];exact ih.all i hi)
    rw[e]
    simp
  ·rw[kep]
   rcases Nr.mp hi with hi|hi
   ·have:=ih.all i hi
    split
    ·exact this
    ·exact Em _ this
   ·rw[N3] at hi
    subst hi
    split
    ·assumption
    ·exact NJ _ (by simp)
def kcO(f:Nat→Nat)(is:List Nat):PtOk f is (parted f is):=kfp f is.length is rfl
def PtOk.snds{f:Nat→Nat}{is:List Nat}{G:List (Nat×List Nat)}(h:PtOk f is G):G.map Prod.snd=(G.map Prod.fst).map fun l=>is.filter fun i=>f i==l:=by
 rw[Nf]
 refine NM fun p hp=>?_
 exact h.gs p.1 p.2 hp
theorem kiR{l l':List (Nat×Int)}{i:Nat}:(l++l').lookup i=(l.lookup i).or (l'.lookup i):=by
 induction l with
 |nil=>simp
 |cons p l ih=>
  obtain⟨a,b⟩:=p
  rw[MK,Nu,Nu,ih]
  split <;> rfl
theorem kfv{l:List (Nat×Int)}{i:Nat}(h:∀p∈l,p.1≠i):l.lookup i=none:=by
 induction l with
 |nil=>rfl
 | cons p l ih=>
  obtain⟨a,b⟩:=p
  have h1:(i==a)=false:=by
   have:=h (a,b) Na
   simpa using fun z=>this z.symm
  rw[Nu,h1]
  exact ih fun q hq=>h q (J5 _ hq)
section
variable {f:Nat→Nat} {is:List Nat} {D:List Nat→List Int}
theorem klS{l i:Nat}{vs:List Int}(h:f i≠l):((is.filter fun i=>f i==l).zip vs).lookup i=none:=
 kfv fun p hp=>by
  have h1:=(Me (show(p.1,p.2)∈_ from hp)).1
  have h2:f p.1=l:=by simpa using(Np.mp h1).2
  intro z
  rw[z] at h2
  exact h h2
theorem kd3(hD:∀g,(D g).length=g.length)(i:Nat):∀(ks:List Nat),ks.Nodup→
  (((ks.map fun l=>is.filter fun i=>f i==l).flatten).zip ((ks.map fun l=>D (is.filter fun i=>f i==l)).flatten)).lookup i=if f i∈ks then((is.filter fun j=>f j==f i).zip (D (is.filter fun j=>f j==f i))).lookup i else none
 |[],_=>by simp
 | l::ks,hn=>by
  rw[NW] at hn
  have ih:=kd3 hD i ks hn.2
  rw[J0,J0,Nm,Nm,List.zip_append (hD _).symm,kiR,ih]
  by_cases h:f i=l
  ·subst h
   rw[if_neg hn.1,if_pos Na,Option.or_none]
  ·rw[klS h,Option.none_or]
   by_cases hm:f i∈ks
   ·rw[if_pos hm,if_pos (J5 _ hm)]
   ·rw[if_neg hm,if_neg (by rw[Nd,not_or];exact⟨h,hm⟩)]
theorem kiL(hD:∀g,(D g).length=g.length){n:Nat}{ks ks':List Nat}(hn:ks.Nodup)(hn':ks'.Nodup)(h:∀i∈is,f i∈ks)(h':∀i∈is,f i∈ks'):
  spr n (ks.map fun l=>is.filter fun i=>f i==l).flatten (ks.map fun l=>D (is.filter fun i=>f i==l)).flatten=spr n (ks'.map fun l=>is.filter fun i=>f i==l).flatten (ks'.map fun l=>D (is.filter fun i=>f i==l)).flatten:=by
 unfold spr
 refine NM fun i _=>?_
 have key:∀ks:List Nat,ks.Nodup→(∀i∈is,f i∈ks)→(((ks.map fun l=>is.filter fun i=>f i==l).flatten).zip ((ks.map fun l=>D (is.filter fun i=>f i==l)).flatten)).lookup i=((is.filter fun j=>f j==f i).zip (D (is.filter fun j=>f j==f i))).lookup i:=fun ks hn hk=>by
  rw[kd3 hD i ks hn]
  by_cases hm:f i∈ks
  ·rw[if_pos hm]
  ·rw[if_neg hm,kfv fun p hp=>?_]
   have h1:=(Me (show(p.1,p.2)∈_ from hp)).1
   obtain⟨h2,h3⟩:=Np.mp h1
   exact fun _=>hm (by rw[←(show f p.1=f i by simpa using h3)];exact hk _ h2)
 rw[key ks hn h,key ks' hn' h']
theorem keG(hi:is.Nodup):∀{ks:List Nat},ks.Nodup→(ks.map fun l=>is.filter fun i=>f i==l).flatten.Nodup
 |[],_=>by simp
 |l::ks,hn=>by
  rw[NW] at hn
  rw[J0,Nm]
  refine EK.mpr ⟨hi.filter _,keG hi hn.2,fun x hx y hy z=>?_⟩
  subst z
  have h1:f x=l:=by simpa using(Np.mp hx).2
  obtain⟨g,hg,hy⟩:=NZ.mp hy
  obtain⟨l',hl',rfl⟩:=Nb.mp hg
  have h2:f x=l':=by simpa using(Np.mp hy).2
  exact hn.1 (by rw[←h1,h2];exact hl')
end
theorem kiM{n N:Nat}{ow ab:List Nat}{pr:List Int}(cut:Int→Int)(hn:ab.Nodup)(hN:∀i∈ab,ow.getD i 0<N):
  spr n ((parted (fun i=>ow.getD i 0) ab).map Prod.snd).flatten (((parted (fun i=>ow.getD i 0) ab).map Prod.snd).map fun g=>dl (cut (qs pr g).sum) (qs pr g)).flatten=spr n ab (gdl cut (kbf N (ab.map fun i=>ow.getD i 0)) (qs pr ab)):=by
 have ok:=kcO (fun i=>ow.getD i 0) ab
 rw[khF cut hn,ok.snds]
 generalize hks:(parted (fun i=>ow.getD i 0) ab).map Prod.fst=ks at *
 have nd:ks.Nodup:=by rw[←hks];exact ok.nd
 have al:∀i∈ab,ow.getD i 0∈ks:=by rw[←hks];exact ok.all
 unfold owns
 rw[Nf,Nf]
 exact kiL (f:=fun i=>ow.getD i 0) (is:=ab) (D:=fun g=>dl (cut (qs pr g).sum) (qs pr g)) (fun g=>by rw[keY,kbl]) nd Mx al fun i hi=>by simpa using hN i hi
def kfq(f:Nat→Nat):∀(is:List Nat),(parted f is).length≤is.length:=by
 intro is
 have key:∀(is:List Nat)(G:List (Nat×List Nat)),(is.foldl (fun G a=>ins G (f a) a) G).length≤G.length+is.length:=by
  intro is
  induction is with
  |nil=>intro G;simp
  | cons a is ih=>
   intro G
   have h1:=ih (ins G (f a) a)
   have h2:(ins G (f a) a).length≤G.length+1:=by
    have:=congrArg Mf (kep G (f a) a)
    rw[JM] at this
    rw[this]
    split <;> simp
   rw[Mi,Nq]
   omega
 simpa[parted] using key is []
end Vs
namespace Vs
open Kin Deal
noncomputable def fallP(pr:List Int)(is:List Nat):List Nat:=(ordQ (qs pr is)).map fun j=>is.getD j 0
def range_getD(is:List Nat):(JQ is.length).map (fun j=>is.getD j 0)=is:=by
 apply Mo
 ·simp
 ·intro j h1 h2
  simp[J8,h2]
def kbz(pr:List Int)(is:List Nat):(fallP pr is).Perm is:=by
 have h:=(kcP (qs pr is)).map fun j=>is.getD j 0
 rw[kbl,range_getD] at h
 exact h
noncomputable def befP(pr:List Int)(a b:Nat):Prop:=pr.getD b 0<pr.getD a 0∨(pr.getD a 0=pr.getD b 0∧a<b)
def kk8{pr:List Int}{is:List Nat}(hs:is.Pairwise (· < ·)):(fallP pr is).Pairwise (befP pr):=by
 have h:=(kdu (qs pr is)).2
 have hm:=(kdu (qs pr is)).1
 unfold fallP
 rw[Ef]
 refine h.imp_of_mem fun {a b} ha hb hab=>?_
 have la:a<is.length:=by simpa[kbl] using hm.mem_iff.mp ha
 have lb:b<is.length:=by simpa[kbl] using hm.mem_iff.mp hb
 have ea:(qs pr is).getD a 0=pr.getD (is.getD a 0) 0:=by simp[qs,J8,la]
 have eb:(qs pr is).getD b 0=pr.getD (is.getD b 0) 0:=by simp[qs,J8,lb]
 unfold bef at hab
 unfold befP
 rw[ea,eb] at hab
 rcases hab with z|⟨z1,z2⟩
 ·exact .inl z
 ·refine .inr ⟨z1,?_⟩
  have:=Mm.mp hs a b la lb z2
  simpa[J8,la,lb] using this
def kiT{pr:List Int}{is ks:List Nat}(hs:is.Pairwise (· < ·))(hp:ks.Perm is)(hk:ks.Pairwise (befP pr)):ks=fallP pr is:=
 keE (R:=befP pr) (fun a b h h'=>by unfold befP at h h';omega) (hp.trans (kbz pr is).symm) hk (kk8 hs)
def kj8(m:Nat)(f:Nat→Nat)(r:List Nat):grp m (r.map f)=(grp m r).map fun g=>g.map f:=by
 unfold grp
 rw[JM,Nf]
 refine NM fun g _=>?_
 show((r.map f).drop _).take _=((r.drop _).take _).map f
 rw[MZ,EB]
def khx{m:Nat}{r g:List Nat}(h:g∈grp m r):∀j∈g,j∈r:=fun j hj=>by
 obtain⟨i,_,rfl⟩:=Nb.mp h
 exact List.mem_of_mem_drop (EL hj)
theorem kj9{n:Nat}{ab:List Nat}{pr:List Int}(cut:Int→Int)(hn:ab.Nodup)(gs:List (List Nat))(hg:∀g∈gs,∀j∈g,j<ab.length):
  spr n ab (gdl cut gs (qs pr ab))=spr n (gs.map fun g=>g.map fun j=>ab.getD j 0).flatten ((gs.map fun g=>g.map fun j=>ab.getD j 0).map fun o=>dl (cut (qs pr o).sum) (qs pr o)).flatten:=by
 unfold gdl
 rw[kbl,kg6 hn fun j hj=>?_,List.map_flatten,Nf]
 ·congr 2
  refine NM fun g hg'=>?_
  have e:=qs_qs (pr:=pr) (ab:=ab) (g:=g) (hg g hg')
  show dl (cut (qs (qs pr ab) g).sum) (qs (qs pr ab) g)=dl (cut (qs pr (g.map fun j=>ab.getD j 0)).sum) (qs pr (g.map fun j=>ab.getD j 0))
  rw[e]
 ·obtain⟨g,hg',hj'⟩:=NZ.mp hj
  exact hg g hg' j hj'
def klC{pr:List Int}{is:List Nat}{m:Nat}{g:List Nat}(h:g∈grp m (ordQ (qs pr is))):∀j∈g,j<is.length:=fun j hj=>by
 have:=khq (khx h j hj)
 rwa [kbl] at this
theorem klg{n m:Nat}{is:List Nat}{pr:List Int}(cut:Int→Int)(hn:is.Nodup):
  spr n is (gdl cut (grp m (ordQ (qs pr is))) (qs pr is))=spr n (grp m (fallP pr is)).flatten ((grp m (fallP pr is)).map fun o=>dl (cut (qs pr o).sum) (qs pr o)).flatten:=by
 rw[kj9 cut hn _ fun g hg=>klC hg]
 unfold fallP
 rw[kj8]
def kjW{f:Nat→Nat}{gs:List (List Nat)}(h:∀g∈gs,g≠[]):lasts (gs.map fun g=>g.map f)=(lasts gs).map f:=by
 unfold lasts
 rw[Nf,Nf]
 refine NM fun g hg=>?_
 show(g.map f).getLastD 0=f (g.getLastD 0)
 have hne:=h g hg
 rw[EM,EM,List.getLast?_map,Da hne]
 rfl
def kna(c:Int):dl c [c]=[c]:=by
 unfold dl
 by_cases h:[c].sum=0
 ·rw[if_pos h]
  have:c=0:=by simpa using h
  simp[this]
 ·rw[if_neg h]
  have hc:c≠0:=by simpa using h
  have e:part c [c] 0=c:=by
   unfold part pre
   simp[Int.mul_ediv_cancel _ hc]
  simp[NG,e]
theorem kju(f:Nat→Int):∀(l:List Nat),(l.map fun i=>[i]).flatten=l∧(l.map fun i=>[f i]).flatten=l.map f
 |[]=>⟨rfl,rfl⟩
 |a::l=>by
  obtain⟨h1,h2⟩:=kju f l
  simp[h1,h2]
theorem kkn{n m:Nat}{is:List Nat}{pr:List Int}(hm:0<m)(hn:is.Nodup):
  spr n is (spr (qs pr is).length (lasts (grp m (ordQ (qs pr is)))) (qs (qs pr is) (lasts (grp m (ordQ (qs pr is))))))=spr n (lasts (grp m (fallP pr is))) ((lasts (grp m (fallP pr is))).map fun i=>pr.getD i 0):=by
 have ne:∀g∈grp m (ordQ (qs pr is)),g≠[]:=fun g hg z=>by
  obtain⟨i,hi⟩:=N4.mp hg
  have:=(kgN hi).2.1
  rw[z] at this
  simp at this
  omega
 have hl:∀j∈lasts (grp m (ordQ (qs pr is))),j<is.length:=fun j hj=>by
  obtain⟨g,hg,rfl⟩:=Nb.mp hj
  refine klC hg _ ?_
  rw[EM,Da (ne g hg)]
  exact List.getLast_mem _
 rw[kbl,kg6 hn hl,qs_qs hl]
 have e:lasts (grp m (fallP pr is))=(lasts (grp m (ordQ (qs pr is)))).map fun j=>is.getD j 0:=by
  unfold fallP
  rw[kj8,kjW ne]
 rw[e]
 rfl
def spr_zero{n k:Nat}{is:List Nat}:spr n is (JS k 0)=JS n 0:=by
 unfold spr
 apply Mo
 ·simp
 ·intro j h1 h2
  simp only[ML,M7,List.getElem_replicate]
  cases e:(is.zip (JS k (0:Int))).lookup j with
  |none=>rfl
  |some v=>
   obtain⟨i,_,hv⟩:=kc5 e
   have:=List.eq_of_mem_replicate (JT hv)
   rw[this]
   rfl
def keX{pr:List Int}{is:List Nat}(hn:is.Nodup):(fallP pr is).Nodup:=(kbz pr is).nodup_iff.mpr hn
def khy(m:Nat)(r:List Nat):(grp m r).length≤r.length:=by
 unfold grp
 rw[JM,List.length_range]
 exact Nat.div_le_self _ _
end Vs
namespace Vs
open Kin Deal
noncomputable def atMost(m:Option Int)(n:Int):Int:=match m with
 |none=>n
 |some z=>min z n
noncomputable def rwm(so:Srt)(cg s:Int):Int:=match so with
 | .off a=>min a s
 | .share h _=>s*h/1000
 | .cheap m=>s/m
 | .bund _ _=>s
 | .carr=>cg
noncomputable def kbL(V:Vch)(ps:List (Option Nat))(kk:List Nat)(S:Stnd):Int:=
 atMost V.ms.most (rwm V.so S.cg (qs S.pr (abt ps kk V.ms.kind V.ms.lone S)).sum)
theorem sum_set:∀{l:List Int}{i:Nat}{u v:Int},l[i]?=some u→(l.set i v).sum=l.sum-u+v
 |[],i,u,v,h=>by simp at h
 |a::l,0,u,v,h=>by
  have e:a=u:=by simpa using h
  subst e
  simp only[List.set_cons_zero,Ng]
  omega
 |a::l,i+1,u,v,h=>by
  have e:l[i]?=some u:=by simpa using h
  simp only[EN,Ng]
  rw[sum_set e]
  omega
def kc3{n:Nat}{is:List Nat}(hn:is.Nodup)(hl:∀i∈is,i<n){vs:List Int}(he:is.length=vs.length):(spr n is vs).sum=vs.sum:=by
 have h:∀k,k≤is.length→(spr n (is.take k) (vs.take k)).sum=(vs.take k).sum:=by
  intro k
  induction k with
  |zero=>intro _;rw[EO,EO,kjb];simp
  | succ k ih=>
   intro hk
   obtain⟨i,ei⟩:∃i,is[k]?=some i:=⟨is[k]'(by omega),by simp⟩
   obtain⟨v,ev⟩:∃v,vs[k]?=some v:=⟨vs[k]'(by omega),by simp⟩
   have hi:=hl i (JT ei)
   rw[←kja hn ei ev hi]
   have e0:(spr n (is.take k) (vs.take k))[i]?=some 0:=by
    unfold spr
    rw[JY,Mz hi]
    show some _=some _
    congr 1
    cases e:((is.take k).zip (vs.take k)).lookup i with
    |none=>simp only[e];rfl
    | some w=>
     obtain⟨j,h1,_⟩:=kc5 e
     rw[ER] at h1
     split at h1
     ·rename_i hj
      have a1:=JX.mp h1
      have a2:=JX.mp ei
      exact absurd ((En hn).mp (a1.2.trans a2.2.symm)) (by omega)
     ·cases h1
   rw[sum_set e0,ih (by omega),NY,ev,NO]
   simp
 have e:=h is.length (JO _)
 rw[NB,he,NB] at e
 exact e
def kjD{q:List Int}(hq:Nn q){is:List Nat}(hn:is.Nodup)(hl:∀i∈is,i<q.length):(qs q is).sum≤q.sum:=by
 have h:=(kfh hq (Le2.self (qs_nn hq is))).sum
 rw[kc3 hn hl (kbl _ _).symm] at h
 exact h.2
theorem kfH:∀(xs:List (List Int)),xs.flatten.sum=(xs.map List.sum).sum
 |[]=>rfl
 |x::xs=>by simp only[Nm,NO,J0,Ng];rw[kfH xs]
theorem kjE(q:List Int):∀(gs:List (List Nat)),qs q gs.flatten=(gs.map fun g=>qs q g).flatten
 |[]=>rfl
 |g::gs=>by rw[Nm,kgr,J0,Nm,kjE q gs]
def kdE{c:Int}{ws:List Int}(h0:0≤c)(hn:Nn ws):(dl c ws).sum≤c:=by
 have hs:=kbe hn
 by_cases e:ws.sum=0
 ·rw[kl1 e];exact h0
 ·rw[kmL (by omega)];exact Int.le_refl _
theorem kms{cut:Int→Int}{gs:List (List Nat)}{q:List Int}(hg:gs.flatten.Nodup)(hl:∀i∈gs.flatten,i<q.length):
  (gdl cut gs q).sum=(gs.map fun g=>(dl (cut (qs q g).sum) (qs q g)).sum).sum:=by
 unfold gdl
 rw[kc3 hg hl ?_,kfH,Nf]
 ·rfl
 ·clear hg hl
  induction gs with
  |nil=>rfl
  |cons g gs ih=>rw[J0,Nm,Nm,JZ,JZ,keY,kbl,ih]
def kfy{gs:List (List Nat)}{q:List Int}(hq:Nn q)(hg:gs.flatten.Nodup)(hl:∀i∈gs.flatten,i<q.length):(gs.map fun g=>(qs q g).sum).sum≤q.sum:=by
 have h:=kjD hq hg hl
 rw[kjE,kfH,Nf] at h
 exact h
theorem kdI{α:Type}{f g: α→Int}:∀{l:List α},(∀x∈l,f x≤g x)→(l.map f).sum≤(l.map g).sum
 |[],_=>Int.le_refl _
 |a::l,h=>by
  have h1:=h a Na
  have h2:=kdI (l:=l) fun x hx=>h x (J5 _ hx)
  simp only[J0,Ng]
  omega
theorem kgk{s:Int}(h0:0≤s):∀{xs:List Int},Nn xs→(xs.map fun z=>z*s/1000).sum≤xs.sum*s/1000
 |[],_=>by simp
 |x::xs,hn=>by
  have ih:=kgk h0 (xs:=xs) fun w hw=>hn w (J5 _ hw)
  simp only[J0,Ng]
  have e:(x+xs.sum)*s=x*s+xs.sum*s:=Int.add_mul _ _ _
  rw[e]
  generalize x*s=u at *
  generalize xs.sum*s=v at *
  omega
def kcq{n:Nat}{lines:List Nat}:(kbf n lines).flatten.Nodup:=by
 refine List.pairwise_flatten.mpr ⟨fun l hl=>?_,?_⟩
 ·obtain⟨k,_,rfl⟩:=Nb.mp hl
  exact Ms.filter _ Mx
 ·unfold kbf
  refine Ef.mpr (Ec.imp fun {p q} hlt x hx y hy e=>?_)
  have h1:=(Np.mp hx).2
  have h2:=(Np.mp hy).2
  subst e
  have h1':lines.getD x 0=p:=by simpa using h1
  have h2':lines.getD x 0=q:=by simpa using h2
  omega
def kfg{n:Nat}{lines:List Nat}:∀i∈(kbf n lines).flatten,i<lines.length:=fun i hi=>by
 obtain⟨g,hg,h⟩:=NZ.mp hi
 exact ke2 hg h
def khz{m:Nat}{q:List Int}:∀i∈(grp m (ordQ q)).flatten,i<q.length:=fun i hi=>by
 obtain⟨g,hg,h⟩:=NZ.mp hi
 exact khq (khx hg i h)
theorem least_le{c:Int}:∀{l:List Int},(∀z∈l,c≤z)→c*(l.length:Int)≤l.sum
 |[],_=>by simp
 |a::l,h=>by
  have h1:=h a Na
  have h2:=least_le (l:=l) fun x hx=>h x (J5 _ hx)
  rw[Ng,Nq]
  have e:c*((l.length+1:Nat):Int)=c*l.length+c:=by rw[Int.natCast_add,Int.mul_add];simp
  omega
def kiS{m:Nat}(hm:0<m){q:List Int}{g:List Nat}(hg:g∈grp m (ordQ q)):q.getD (g.getLastD 0) 0*(m:Int)≤(qs q g).sum:=by
 obtain⟨i,ei⟩:=N4.mp hg
 obtain⟨h1,h2,h3⟩:=kgN ei
 have h4:=keS hm ei
 have hpw:=(kdu q).2
 have key:∀z∈qs q g,q.getD (g.getLastD 0) 0≤z:=fun z hz=>by
  obtain⟨a,ha,rfl⟩:=Nb.mp hz
  obtain⟨j,ej⟩:=N4.mp ha
  have hj:j<m:=by
   have:=(JX.mp ej).1
   omega
  rw[h3 j hj] at ej
  by_cases e:j=m-1
  ·subst e
   rw[ej] at h4
   cases h4
   exact Int.le_refl _
  ·have a1:=JX.mp ej
   have a2:=JX.mp h4
   have hb:=Mm.mp hpw (i*m+j) (i*m+(m-1)) a1.1 a2.1 (by omega)
   rw[a1.2,a2.2] at hb
   unfold bef at hb
   show q.getD (g.getLastD 0) 0≤q.getD a 0
   omega
 have:=least_le key
 rw[kbl,h2] at this
 exact this
theorem kkz{so:Srt}{n:Nat}{lines:List Nat}{q:List Int}{cg:Int}(hn:Nn q)(ho:SrtOk so)(hll:lines.length=q.length)(hc:0≤cg):(want so n lines q).sum+fee so cg≤rwm so cg q.sum:=by
 have hs:=kbe hn
 cases so with
 |off a=>
  have ho:0≤a∧_:=ho
  show(dl (min a q.sum) q).sum+0≤min a q.sum
  have:=kdE (c:=min a q.sum) (ws:=q) (by omega) hn
  omega
 | share s e=>
  have ho:1≤s∧s≤1000:=ho
  have hsh:=kdo hs ho.1 ho.2
  cases e with
  |false=>
   show(dl (q.sum*s/1000) q).sum+0≤q.sum*s/1000
   have:=kdE (c:=q.sum*s/1000) (ws:=q) hsh.1 hn
   omega
  | true=>
   show(gdl (fun z=>z*s/1000) (kbf n lines) q).sum+0≤q.sum*s/1000
   have hlt:∀i∈(kbf n lines).flatten,i<q.length:=fun i hi=>by rw[←hll];exact kfg i hi
   rw[kms kcq hlt]
   have h1:((kbf n lines).map fun g=>(dl ((qs q g).sum*s/1000) (qs q g)).sum).sum≤((kbf n lines).map fun g=>(qs q g).sum*s/1000).sum:=
    kdI fun g _=>kdE (kdo (kbe (qs_nn hn g)) ho.1 ho.2).1 (qs_nn hn g)
   have h2:=kgk (s:=s) (by omega) (xs:=(kbf n lines).map fun g=>(qs q g).sum) fun z hz=>by
    obtain⟨g,_,rfl⟩:=Nb.mp hz
    exact kbe (qs_nn hn g)
   rw[Nf] at h2
   have h3:=kfy hn kcq hlt
   have h4:((kbf n lines).map fun g=>(qs q g).sum).sum*s≤q.sum*s:=Int.mul_le_mul_of_nonneg_right h3 (by omega)
   have h5:((kbf n lines).map ((fun z=>z*s/1000)∘fun g=>(qs q g).sum))=(kbf n lines).map fun g=>(qs q g).sum*s/1000:=rfl
   rw[h5] at h2
   show((kbf n lines).map fun g=>(dl ((qs q g).sum*s/1000) (qs q g)).sum).sum+0≤_
   generalize ((kbf n lines).map fun g=>(dl ((qs q g).sum*s/1000) (qs q g)).sum).sum=A at *
   generalize ((kbf n lines).map fun g=>(qs q g).sum*s/1000).sum=B at *
   generalize ((kbf n lines).map fun g=>(qs q g).sum).sum*s=C at *
   generalize q.sum*s=D at *
   omega
 | cheap m=>
  have ho:2≤m∧m≤20:=ho
  show(spr q.length (lasts (grp m.toNat (ordQ q))) (qs q (lasts (grp m.toNat (ordQ q))))).sum+0≤q.sum/m
  obtain⟨k,rfl⟩:∃k:Nat,m=(k:Int):=⟨m.toNat,by omega⟩
  rw[Int.toNat_natCast]
  have hk:0<k:=by omega
  have hlt:∀i∈lasts (grp k (ordQ q)),i<q.length:=fun i hi=>by
   obtain⟨g,hg,rfl⟩:=Nb.mp hi
   obtain⟨j,ej⟩:=N4.mp hg
   exact khq (JT (keS hk ej))
  rw[kc3 (keR hk (kfr q)) hlt (kbl _ _).symm]
  have e:qs q (lasts (grp k (ordQ q)))=(grp k (ordQ q)).map fun g=>q.getD (g.getLastD 0) 0:=by
   unfold qs lasts
   rw[Nf]
   rfl
  rw[e]
  have h1:((grp k (ordQ q)).map fun g=>q.getD (g.getLastD 0) 0*(k:Int)).sum≤((grp k (ordQ q)).map fun g=>(qs q g).sum).sum:=kdI fun g hg=>kiS hk hg
  have h2:=kfy hn (kgM (kfr q)) (khz (m:=k))
  have h3:∀(l:List (List Nat)),(l.map fun g=>q.getD (g.getLastD 0) 0*(k:Int)).sum=(l.map fun g=>q.getD (g.getLastD 0) 0).sum*(k:Int):=by
   intro l
   induction l with
   |nil=>simp
   |cons a l ih=>simp only[J0,Ng];rw[ih,Int.add_mul]
  rw[h3] at h1
  rw[Int.add_zero]
  exact(Int.le_ediv_iff_mul_le (by omega)).mpr (by omega)
 |bund m p=>
  have ho:2≤m∧m≤20∧0≤p∧_:=ho
  show(gdl (fun z=>max 0 (z-p)) (grp m.toNat (ordQ q)) q).sum+0≤q.sum
  have:=(kdX (m:=m) (p:=p) (n:=n) (lines:=lines) hn ho.2.2.1).sum
  have e:want (.bund m p) n lines q=gdl (fun z=>max 0 (z-p)) (grp m.toNat (ordQ q)) q:=rfl
  rw[e] at this
  omega
 |carr=>
  show(JS q.length (0:Int)).sum+cg≤cg
  simp
theorem kmC{most:Option Int}{w:List Int}{f:Int}(hw:Nn w)(hf:0≤f)(hm:∀m,most=some m→0≤m)(hz:f=0∨w.sum=0):(cap most w f).1.sum+(cap most w f).2≤atMost most (w.sum+f):=by
 have hs:=kbe hw
 unfold cap atMost
 cases most with
 |none=>exact Int.le_refl _
 | some m=>
  have h0:=hm m rfl
  simp only
  split
  ·have:=kdE (c:=min m w.sum) (ws:=w) (by omega) hw
   simp only
   omega
  ·simp only
   omega
theorem kgS{V:Vch}{ps:List (Option Nat)}{kk:List Nat}{S:Stnd}(hl:S.pr.length=S.ow.length)(hn:Nn S.pr)(hc:0≤S.cg)(ho:SrtOk V.so)(hm:∀m,V.ms.most=some m→0≤m):(cutM V ps kk S).1.sum+(cutM V ps kk S).2≤kbL V ps kk S:=by
 have hnn:=qs_nn hn (abt ps kk V.ms.kind V.ms.lone S)
 have hw:=kg4 (n:=S.mkd.length) (lines:=(abt ps kk V.ms.kind V.ms.lone S).map fun i=>S.ow.getD i 0) hnn ho
 have hws:=kkz (n:=S.mkd.length) (lines:=(abt ps kk V.ms.kind V.ms.lone S).map fun i=>S.ow.getD i 0) (cg:=S.cg) hnn ho (by rw[JM,kbl]) hc
 have hf:0≤fee V.so S.cg:=by unfold fee;split <;> omega
 have hz:fee V.so S.cg=0∨(want V.so S.mkd.length ((abt ps kk V.ms.kind V.ms.lone S).map fun i=>S.ow.getD i 0) (qs S.pr (abt ps kk V.ms.kind V.ms.lone S))).sum=0:=by
  cases e:V.so with
  |carr=>
   right
   show(JS _ (0:Int)).sum=0
   simp
  |_=>left;rfl
 have hcs:=kmC hw.nn hf hm hz
 have hcl:=(klP (cg:=fee V.so S.cg) hw ⟨hf,Int.le_refl _⟩ hm).1.1
 show(spr S.pr.length (abt ps kk V.ms.kind V.ms.lone S) (cap V.ms.most (want V.so S.mkd.length ((abt ps kk V.ms.kind V.ms.lone S).map fun i=>S.ow.getD i 0) (qs S.pr (abt ps kk V.ms.kind V.ms.lone S))) (fee V.so S.cg)).1).sum+(cap V.ms.most (want V.so S.mkd.length ((abt ps kk V.ms.kind V.ms.lone S).map fun i=>S.ow.getD i 0) (qs S.pr (abt ps kk V.ms.kind V.ms.lone S))) (fee V.so S.cg)).2≤_
 rw[kc3 (ke4 _ _ _ _ _) (fun i hi=>by rw[hl];exact kfD hi) (by rw[hcl,kbl])]
 refine Int.le_trans hcs ?_
 unfold kbL atMost
 cases V.ms.most with
 |none=>exact hws
 |some m=>simp only;omega
structure Later (S S':Stnd):Prop where
 ow:S'.ow=S.ow
 pr:Le2 S'.pr S.pr
 cg:0≤S'.cg∧S'.cg≤S.cg
 mg:∀l,S.mkd.getD l false=true→S'.mkd.getD l false=true
def Later.refl{S:Stnd}(hn:Nn S.pr)(hc:0≤S.cg):Later S S:=⟨rfl,Le2.self hn,⟨hc,Int.le_refl _⟩,fun _ h=>h⟩
def Later.trans{S S' S'':Stnd}(h:Later S S')(h':Later S' S''):Later S S'':=⟨h'.ow.trans h.ow,h'.pr.trans h.pr,⟨h'.cg.1,Int.le_trans h'.cg.2 h.cg.2⟩,fun l e=>h'.mg l (h.mg l e)⟩
def Later.aft{V:Vch}{ps:List (Option Nat)}{kk:List Nat}{S:Stnd}(hn:Nn S.pr)(hc:0≤S.cg)(ho:SrtOk V.so)(hm:∀m,V.ms.most=some m→0≤m):Later S (aftM V ps kk S):=by
 have h:=klR (V:=V) (ps:=ps) (kk:=kk) hn hc ho hm
 refine⟨rfl,h.1,h.2,fun l e=>?_⟩
 unfold aftM
 simp only
 by_cases hl:l<S.mkd.length
 ·rw[J8] at e⊢
  rw[JY,Mz hl]
  show(S.mkd.getD l false||_)=true
  rw[J8,e]
  rfl
 ·rw[J8,My (by omega)] at e
  cases e
theorem kdl{f f':Nat→Int}{p p':Nat→Bool}:∀{l:List Nat},(∀i∈l,p' i=true→p i=true)→(∀i∈l,0≤f' i∧f' i≤f i)→((l.filter p').map f').sum≤((l.filter p).map f).sum
 |[],_,_=>Int.le_refl _
 | a::l,h1,h2=>by
  have ih:=kdl (l:=l) (fun i hi=>h1 i (J5 _ hi)) (fun i hi=>h2 i (J5 _ hi))
  have g1:=h1 a Na
  have g2:=h2 a Na
  rw[MA,MA]
  cases e':p' a with
  |true=>
   rw[g1 e',if_pos rfl,if_pos rfl]
   simp only[J0,Ng]
   omega
  | false=>
   rw[if_neg JV]
   split
   ·simp only[J0,Ng]
    omega
   ·exact ih
def kjV{ps:List (Option Nat)}{kk:List Nat}{kind:Option Nat}{lone:Bool}{S S':Stnd}(h:Later S S'):(qs S'.pr (abt ps kk kind lone S')).sum≤(qs S.pr (abt ps kk kind lone S)).sum:=by
 unfold qs abt
 rw[h.ow]
 refine kdl (fun i _ e=>?_) (fun i _=>?_)
 ·unfold hits at e⊢
  rw[NR] at e⊢
  refine⟨e.1,?_⟩
  cases hl:lone with
  |false=>rfl
  |true=>
   rw[hl] at e
   have e2:(!S'.mkd.getD (S.ow.getD i 0) false)=true:=by simpa using e.2
   cases hm:S.mkd.getD (S.ow.getD i 0) false with
   |false=>rfl
   |true=>rw[h.mg _ hm] at e2;cases e2
 ·have hl:=h.pr.1
  rw[J8,J8]
  by_cases hi:i<S.pr.length
  ·have e1:S'.pr[i]?=some (S'.pr[i]'(by omega)):=by simp
   have e2:S.pr[i]?=some S.pr[i]:=by simp
   have:=h.pr.2 i _ _ e1 e2
   rw[e1,e2]
   exact this
  ·rw[My (by omega),My (by omega)]
   exact⟨Int.le_refl _,Int.le_refl _⟩
theorem khu{V:Vch}{ps:List (Option Nat)}{kk:List Nat}{S S':Stnd}(h:Later S S')(hn:Nn S'.pr)(ho:SrtOk V.so):kbL V ps kk S'≤kbL V ps kk S:=by
 have hs:=kjV (ps:=ps) (kk:=kk) (kind:=V.ms.kind) (lone:=V.ms.lone) h
 have h0:=kbe (qs_nn hn (abt ps kk V.ms.kind V.ms.lone S'))
 have hr:rwm V.so S'.cg (qs S'.pr (abt ps kk V.ms.kind V.ms.lone S')).sum≤rwm V.so S.cg (qs S.pr (abt ps kk V.ms.kind V.ms.lone S)).sum:=by
  generalize (qs S'.pr (abt ps kk V.ms.kind V.ms.lone S')).sum=s' at *
  generalize (qs S.pr (abt ps kk V.ms.kind V.ms.lone S)).sum=s at *
  unfold rwm
  revert ho
  cases V.so with
  |off a=>intro ho;simp only;omega
  |share t e=>
   intro ho
   have ho:1≤t∧t≤1000:=ho
   have:s'*t≤s*t:=Int.mul_le_mul_of_nonneg_right hs (by omega)
   simp only
   generalize s'*t=u at *
   generalize s*t=v at *
   omega
  |cheap m=>
   intro ho
   have ho:2≤m∧m≤20:=ho
   exact Int.ediv_le_ediv (by omega) hs
  |bund m p=>intro _;exact hs
  |carr=>intro _;exact h.cg.2
 unfold kbL atMost
 cases V.ms.most with
 |none=>exact hr
 |some m=>simp only;omega
end Vs
namespace Vs
open PySem L2
noncomputable def top(i:Nat):Stmt:=PySem.Challenge.pw_voucherstack_k52_whole_none_is_cheaper.main.body.getD i (.Pass ⟨0,0,0,0⟩)
noncomputable abbrev khj:Stmt:=top 1
noncomputable abbrev khg:Stmt:=top 3
noncomputable abbrev kbG:Stmt:=top 15
noncomputable abbrev keA:Stmt:=top 18
noncomputable abbrev kjw:Stmt:=top 19
noncomputable abbrev kdd:Stmt:=top 20
noncomputable abbrev kjx:Stmt:=top 21
noncomputable abbrev khk:Stmt:=top 22
noncomputable abbrev khh:Stmt:=top 23
noncomputable abbrev kbg:Stmt:=top 24
noncomputable abbrev kbI:Stmt:=top 25
noncomputable abbrev kbv:Stmt:=top 26
noncomputable abbrev kbb:Stmt:=top 27
noncomputable abbrev kbH:Stmt:=top 28
noncomputable abbrev kaF:Stmt:=top 29
noncomputable abbrev kbS:Stmt:=top 30
noncomputable abbrev kcr:Stmt:=top 31
noncomputable abbrev kbR:Stmt:=top 32
noncomputable abbrev kez:Stmt:=top 33
noncomputable abbrev khi:Stmt:=top 36
noncomputable abbrev kfM:Stmt:=top 37
noncomputable abbrev kbQ:Stmt:=top 38
noncomputable abbrev kcc:Stmt:=top 39
noncomputable abbrev kcd:Stmt:=top 40
noncomputable abbrev kbu:Stmt:=top 41
noncomputable abbrev kjy:Stmt:=top 43
noncomputable abbrev kcb:Stmt:=top 45
noncomputable abbrev kca:Stmt:=top 46
noncomputable abbrev kfN:Stmt:=top 54
noncomputable abbrev kcJ:Stmt:=top 58
noncomputable abbrev kci:Stmt:=top 59
noncomputable abbrev kdN:Stmt:=top 60
noncomputable abbrev kch:Stmt:=top 61
noncomputable abbrev kcg:Stmt:=top 62
noncomputable abbrev kce:Stmt:=top 63
noncomputable abbrev kbU:Stmt:=top 64
noncomputable abbrev kbw:Stmt:=top 65
noncomputable abbrev kbx:Stmt:=top 66
noncomputable abbrev kcf:Stmt:=top 67
noncomputable abbrev kbT:Stmt:=top 68
noncomputable abbrev kcL:Stmt:=top 69
noncomputable abbrev kcK:Stmt:=top 70
noncomputable abbrev s_law:Stmt:=top 71
noncomputable abbrev kaZ:Stmt:=inClass (top 5) 0
noncomputable abbrev kaN:Stmt:=inClass (top 6) 0
noncomputable abbrev kbk:Stmt:=inClass (top 7) 0
noncomputable abbrev kaY:Stmt:=inClass (top 8) 0
noncomputable abbrev kaH:Stmt:=inClass (top 9) 0
noncomputable abbrev kaR:Stmt:=inClass (top 10) 0
noncomputable abbrev kaI:Stmt:=inClass (top 11) 0
noncomputable abbrev ka5:Stmt:=inClass (top 13) 0
noncomputable abbrev kaS:Stmt:=inClass (top 14) 0
noncomputable abbrev kbW:Stmt:=inClass (top 16) 0
noncomputable abbrev kbJ:Stmt:=inClass (top 16) 1
noncomputable abbrev kdO:Stmt:=inClass (top 35) 0
noncomputable abbrev kck:Stmt:=inClass (top 35) 1
noncomputable abbrev kcM:Stmt:=inClass (top 35) 2
noncomputable abbrev kbp:Stmt:=inClass (top 35) 3
noncomputable abbrev kbV:Stmt:=inClass (top 35) 4
noncomputable abbrev kct:Stmt:=inClass (top 44) 0
noncomputable abbrev kcs:Stmt:=inClass (top 44) 1
noncomputable abbrev kde:Stmt:=inClass (top 53) 0
noncomputable abbrev ka4:Stmt:=inClass (top 56) 0
noncomputable abbrev kcu:Stmt:=inClass (top 49) 0
set_option genInjectivity false
set_option genSizeOf false
structure D where
 XD:Addr
 XE:FuncData
 XF:Addr
 XG:FuncData
 XH:Addr
 XI:FuncData
 XJ:Addr
 XM:FuncData
 XO:Addr
 XQ:FuncData
 XR:Addr
 XS:FuncData
 XT:Addr
 XU:FuncData
 XW:Addr
 XX:FuncData
 XY:Addr
 XZ:FuncData
 X0:Addr
 X2:FuncData
 X3:Addr
 X4:FuncData
 X5:Addr
 X6:FuncData
 X7:Addr
 X8:FuncData
 X9:Addr
 Ya:FuncData
 Yb:Addr
 QL:FuncData
 Yc:Addr
 Yd:FuncData
 Ye:Addr
 Yf:FuncData
 Yg:Addr
 Yh:FuncData
 Yi:Addr
 Yj:FuncData
 Yk:Addr
 Yl:FuncData
 Ym:Addr
 Yn:FuncData
 Yo:Addr
 Yp:FuncData
 Yq:Addr
 Yr:FuncData
 Ys:Addr
 Yt:FuncData
 Yu:Addr
 Yv:FuncData
 Yw:Addr
 Yx:FuncData
 Yy:Addr
 Yz:FuncData
 YA:Addr
 YB:FuncData
 YC:Addr
 YD:FuncData
 YE:Addr
 YF:FuncData
 YG:Addr
 YH:FuncData
 YI:Addr
 YJ:FuncData
 YK:Addr
 YL:FuncData
 YM:Addr
 YN:FuncData
 YO:Addr
 YQ:FuncData
 YR:Addr
 YS:FuncData
 YT:Addr
 YU:FuncData
 YV:Addr
 YW:FuncData
 YX:Addr
 YY:FuncData
 YZ:Addr
 Y0:FuncData
 Qa:Addr
 Qb:FuncData
 Y1:Addr
 Y2:FuncData
 f_law:Addr
 Y3:FuncData
 qe:Addr
 Y5:Addr
 qH:FuncData
 tok1_Marks_init:Nat
 qA:Addr
 QM:Addr
 QN:FuncData
 c_Off:Addr
 Y7:Addr
 QO:FuncData
 qj:Addr
 Za:Addr
 Qs:FuncData
 ql:Addr
 Zb:Addr
 QP:FuncData
 qk:Addr
 Zc:Addr
 QQ:FuncData
 qo:Addr
 Zd:Addr
 QR:FuncData
 qf:Addr
 Ze:Addr
 QS:FuncData
 qh:Addr
 Zf:Addr
 Qt:FuncData
 tok0_Basket_init:Nat
 qc:Addr
 Zg:Addr
 Zh:FuncData
 Zi:Addr
 Zj:FuncData
 c_Way:Addr
 Zk:Addr
 Zl:FuncData
 Zm:Addr
 Zn:FuncData
 Zo:Addr
 Zp:FuncData
 Zq:Addr
 Zr:FuncData
 Zs:Addr
 Zt:FuncData
 qg:Addr
 Zu:Addr
 Zv:FuncData
 Qc:Addr
 Qd:FuncData
 qi:Addr
 Zw:Addr
 Zx:FuncData
 qd:Addr
 Zy:Addr
 QT:FuncData
 tok0_Till_init:Nat
 cc_falling_groups:Addr
 tP_falling_groups:Addr
 qm:Addr
 qT:Addr
 QU:Addr
 QV:Addr
 Zz:Addr
 ZA:FuncData
structure Wld (K:JN) (mg:Str→Option Value) (d:D):Prop where
 B:TxtB mg
 QW:Dn K mg "dealt" khj ["cut","weights"] d.XD d.XE
 ZC:Dn K mg "under" khg ["parents","one","other"] d.XF d.XG
 ZD:Dn K mg "price_of_piece" kbG ["line","member"] d.XH d.XI
 Qu:Dn K mg "about" keA ["voucher","parents","basket","standing"] d.XJ d.XM
 ZE:Dn K mg "fits" kjw ["marks","parents","kind","marked"] d.XO d.XQ
 ZF:Dn K mg "hindrance" kdd ["voucher","parents","basket","standing"] d.XR d.XS
 ZG:Dn K mg "cuts" kjx ["voucher","parents","basket","standing"] d.XT d.XU
 ZH:Dn K mg "after" khk ["voucher","parents","basket","standing"] d.XW d.XX
 ZI:Dn K mg "reach" khh ["voucher","parents","basket","standing"] d.XY d.XZ
 ZJ:Dn K mg "reach_without_most" kbg ["voucher","standing","together"] d.X0 d.X2
 QX:Dn K mg "cuts_of_pieces" kbI ["voucher","parents","basket","standing"] d.X3 d.X4
 QY:Dn K mg "cut_of_carriage" kbv ["voucher","standing"] d.X5 d.X6
 ZK:Dn K mg "wanted_cuts" kbb ["voucher","standing","pieces"] d.X7 d.X8
 ZL:Dn K mg "parted_by_line" kbH ["standing","pieces"] d.X9 d.Ya
 QZ:Dn K mg "falling_groups" kaF ["standing","pieces","many"] d.Yb d.QL
 ZM:Dn K mg "marked_behind" kbS ["voucher","standing","piece_cuts"] d.Yc d.Yd
 Q0:Dn K mg "prices_of" kcr ["standing","pieces"] d.Ye d.Yf
 qU:Dn K mg "sum_of_prices" kbR ["standing","pieces"] d.Yg d.Yh
 Q1:Dn K mg "at_most" kez ["most","number"] d.Yi d.Yj
 ZN:Dn K mg "fault" khi ["till","basket","hand","order"] d.Yk d.Yl
 ZO:Dn K mg "way_by" kfM ["till","basket","hand","order"] d.Ym d.Yn
 ZP:Dn K mg "word_of_order" kbQ ["till","hand","used","number"] d.Yo d.Yp
 ZQ:Dn K mg "breaks_never" kcc ["rules","used","number"] d.Yq d.Yr
 ZR:Dn K mg "breaks_ahead" kcd ["rules","used","number"] d.Ys d.Yt
 ZS:Dn K mg "without_company" kbu ["rules","order"] d.Yu d.Yv
 ZT:Dn K mg "best" kjy ["till","basket","hand"] d.Yw d.Yx
 ZU:Dn K mg "least_behind" kcb ["way"] d.Yy d.Yz
 ZV:Dn K mg "many_to_come" kca ["way","number"] d.YA d.YB
 Qv:Dn K mg "priced" kfN ["till","basket","hand","order"] d.YC d.YD
 Q2:Dn K mg "_law_whole" kcJ ["_law_found"] d.YE d.YF
 qV:Dn K mg "_law_cell_at" kci ["_law_script","_law_k"] d.YG d.YH
 qB:Dn K mg "_law_mix" kdN ["_law_cell","_law_factor","_law_prime"] d.YI d.YJ
 ZW:Dn K mg "_law_coin_by" kch ["_law_cell"] d.YK d.YL
 qI:Dn K mg "_law_coin_of" kcg ["_law_cell","_law_scale"] d.YM d.YN
 ZX:Dn K mg "_law_line_by" kce ["_law_cell","_law_kinds","_law_scale","_law_most"] d.YO d.YQ
 ZY:Dn K mg "_law_marks_by" kbU ["_law_cell","_law_kinds","_law_scale"] d.YR d.YS
 ZZ:Dn K mg "_law_voucher_by" kbw ["_law_cell","_law_kinds","_law_scale"] d.YT d.YU
 Z9:Dn K mg "_law_parents_by" kbx ["_law_cell"] d.YV d.YW
 Va:Dn K mg "_law_hand_by" kcf ["_law_more_held","_law_vouchers","_law_most_held","_law_first"] d.YX d.YY
 Q3:Dn K mg "_law_world_by" kbT ["_law_script","_law_most_vouchers","_law_most_held"] d.YZ d.Y0
 Qe:Dn K mg "_law_lists" kcL ["_law_hand","_law_ahead","_law_out"] d.Qa d.Qb
 Vb:Dn K mg "_law_price" kcK ["_law_till","_law_basket","_law_hand","_law_order"] d.Y1 d.Y2
 d_law:Dn K mg "law" s_law ["_law_script"] d.f_law d.Y3
 qe:ClsT K mg "Marks" d.qe
 Qw:NoAttr K d.qe "kind"
 Vd:NoAttr K d.qe "needs"
 Qx:NoAttr K d.qe "most"
 Ve:NoAttr K d.qe "member"
 Q4:NoAttr K d.qe "once"
 Q5:NoAttr K d.qe "lone"
 Qy:MthT K d.qe "__init__" "Marks.__init__" kaZ ["self","kind","needs","most","member","once","lone"] d.Y5 d.qH
 b1_Marks_init:Binds K d.qH ["self","kind","needs","most","member","once","lone"] [.bool false]
 b2_Marks_init:Binds K d.qH ["self","kind","needs","most","member","once","lone"] [.bool false, .bool false]
 b3_Marks_init:Binds K d.qH ["self","kind","needs","most","member","once","lone"] [.bool false, .bool false, .bool false]
 b4_Marks_init:Binds K d.qH ["self","kind","needs","most","member","once","lone"] [.none, .bool false, .bool false, .bool false]
 b5_Marks_init:Binds K d.qH ["self","kind","needs","most","member","once","lone"] [.int 0 d.tok1_Marks_init, .none, .bool false, .bool false, .bool false]
 b6_Marks_init:Binds K d.qH ["self","kind","needs","most","member","once","lone"] [.none, .int 0 d.tok1_Marks_init, .none, .bool false, .bool false, .bool false]
 qA:ClsT K mg "Voucher" d.qA
 qu:MthT K d.qA "__init__" "Voucher.__init__" kaN ["self","marks"] d.QM d.QN
 b1_Voucher_init:Binds K d.QN ["self","marks"] [.none]
 g_Off:mg "Off"=some (.ref d.c_Off)
 c_Off:ClsT K mg "Off" d.c_Off
 Q6:NoAttr K d.c_Off "amount"
 Vf:NoAttr K d.c_Off "marks"
 Q7:MthT K d.c_Off "__init__" "Off.__init__" kbk ["self","amount","marks"] d.Y7 d.QO
 b1_Off_init:Binds K d.QO ["self","amount","marks"] [.none]
 Vg:mg "Share"=some (.ref d.qj)
 qj:ClsT K mg "Share" d.qj
 Q8:NoAttr K d.qj "share"
 Vh:NoAttr K d.qj "by_line"
 Vi:NoAttr K d.qj "marks"
 Q9:MthT K d.qj "__init__" "Share.__init__" kaY ["self","share","by_line","marks"] d.Za d.Qs
 b1_Share_init:Binds K d.Qs ["self","share","by_line","marks"] [.none]
 b2_Share_init:Binds K d.Qs ["self","share","by_line","marks"] [.bool false, .none]
 Vj:mg "Cheapest"=some (.ref d.ql)
 ql:ClsT K mg "Cheapest" d.ql
 Xa:NoAttr K d.ql "many"
 Vk:NoAttr K d.ql "marks"
 Xb:MthT K d.ql "__init__" "Cheapest.__init__" kaH ["self","many","marks"] d.Zb d.QP
 b1_Cheapest_init:Binds K d.QP ["self","many","marks"] [.none]
 Vl:mg "Bundle"=some (.ref d.qk)
 qk:ClsT K mg "Bundle" d.qk
 Vm:NoAttr K d.qk "many"
 Vn:NoAttr K d.qk "price"
 Vo:NoAttr K d.qk "marks"
 Xc:MthT K d.qk "__init__" "Bundle.__init__" kaR ["self","many","price","marks"] d.Zc d.QQ
 b1_Bundle_init:Binds K d.QQ ["self","many","price","marks"] [.none]
 VH:mg "Carriage"=some (.ref d.qo)
 qo:ClsT K mg "Carriage" d.qo
 Vp:NoAttr K d.qo "marks"
 Xd:MthT K d.qo "__init__" "Carriage.__init__" kaI ["self","marks"] d.Zd d.QR
 b1_Carriage_init:Binds K d.QR ["self","marks"] [.none]
 qf:ClsT K mg "Line" d.qf
 Vq:NoAttr K d.qf "kind"
 Xe:NoAttr K d.qf "price"
 Qf:NoAttr K d.qf "many"
 Xf:NoAttr K d.qf "special"
 Xg:MthT K d.qf "__init__" "Line.__init__" ka5 ["self","kind","price","many","special"] d.Ze d.QS
 b1_Line_init:Binds K d.QS ["self","kind","price","many","special"] [.none]
 qh:ClsT K mg "Basket" d.qh
 Qz:NoAttr K d.qh "lines"
 Vr:NoAttr K d.qh "carriage"
 Xh:NoAttr K d.qh "member"
 Xi:MthT K d.qh "__init__" "Basket.__init__" kaS ["self","lines","carriage","member"] d.Zf d.Qt
 b1_Basket_init:Binds K d.Qt ["self","lines","carriage","member"] [.bool false]
 b2_Basket_init:Binds K d.Qt ["self","lines","carriage","member"] [.int 0 d.tok0_Basket_init, .bool false]
 qc:ClsT K mg "Standing" d.qc
 qL:NoAttr K d.qc "owners"
 qx:NoAttr K d.qc "prices"
 qM:NoAttr K d.qc "carriage"
 Qg:NoAttr K d.qc "marked"
 Qh:MthT K d.qc "__init__" "Standing.__init__" kbW ["self","basket"] d.Zg d.Zh
 qC:MthT K d.qc "whole" "Standing.whole" kbJ ["self"] d.Zi d.Zj
 c_Way:ClsT K mg "Way" d.c_Way
 qt:NoAttr K d.c_Way "till"
 Qi:NoAttr K d.c_Way "basket"
 QA:NoAttr K d.c_Way "hand"
 qw:NoAttr K d.c_Way "used"
 qy:NoAttr K d.c_Way "standing"
 qD:MthT K d.c_Way "__init__" "Way.__init__" kdO ["self","till","basket","hand"] d.Zk d.Zl
 qN:MthT K d.c_Way "word_for" "Way.word_for" kck ["self","number"] d.Zm d.Zn
 qO:MthT K d.c_Way "behind" "Way.behind" kcM ["self","number"] d.Zo d.Zp
 Xj:MthT K d.c_Way "followers" "Way.followers" kbp ["self"] d.Zq d.Zr
 Qj:MthT K d.c_Way "is_let_by" "Way.is_let_by" kbV ["self"] d.Zs d.Zt
 qg:ClsT K mg "Search" d.qg
 Xk:NoAttr K d.qg "order"
 Qk:NoAttr K d.qg "total"
 Xl:NoAttr K d.qg "paper"
 Xm:MthT K d.qg "__init__" "Search.__init__" kct ["self","way"] d.Zu d.Zv
 Ql:MthT K d.qg "meet" "Search.meet" kcs ["self","way"] d.Qc d.Qd
 qi:ClsT K mg "Bill" d.qi
 VI:NoAttr K d.qi "order"
 VJ:NoAttr K d.qi "steps"
 VL:NoAttr K d.qi "prices"
 VM:NoAttr K d.qi "carriage"
 Vt:NoAttr K d.qi "total"
 Xn:MthT K d.qi "__init__" "Bill.__init__" kde ["self","order","steps","standing"] d.Zw d.Zx
 qd:ClsT K mg "Till" d.qd
 Qm:NoAttr K d.qd "parents"
 qJ:NoAttr K d.qd "vouchers"
 qW:NoAttr K d.qd "rules"
 VN:NoAttr K d.qd "back"
 Xo:MthT K d.qd "__init__" "Till.__init__" ka4 ["self","parents","vouchers","rules","back"] d.Zy d.QT
 b1_Till_init:Binds K d.QT ["self","parents","vouchers","rules","back"] [.str "again" d.tok0_Till_init]
 Qn:BaseT K d.qA "__init__" d.QM
 VO:J4 K (.ref d.qj) (.ref d.c_Off)=some false
 VP:J4 K (.ref d.ql) (.ref d.c_Off)=some false
 VQ:J4 K (.ref d.qk) (.ref d.c_Off)=some false
 VR:J4 K (.ref d.qo) (.ref d.c_Off)=some false
 VS:J4 K (.ref d.c_Off) (.ref d.qj)=some false
 VT:J4 K (.ref d.ql) (.ref d.qj)=some false
 VU:J4 K (.ref d.qk) (.ref d.qj)=some false
 VV:J4 K (.ref d.qo) (.ref d.qj)=some false
 VW:J4 K (.ref d.c_Off) (.ref d.ql)=some false
 VX:J4 K (.ref d.qj) (.ref d.ql)=some false
 VY:J4 K (.ref d.qk) (.ref d.ql)=some false
 VZ:J4 K (.ref d.qo) (.ref d.ql)=some false
 V1:J4 K (.ref d.c_Off) (.ref d.qk)=some false
 V2:J4 K (.ref d.qj) (.ref d.qk)=some false
 V3:J4 K (.ref d.ql) (.ref d.qk)=some false
 V4:J4 K (.ref d.qo) (.ref d.qk)=some false
 V5:J4 K (.ref d.c_Off) (.ref d.qo)=some false
 V6:J4 K (.ref d.qj) (.ref d.qo)=some false
 V7:J4 K (.ref d.ql) (.ref d.qo)=some false
 V8:J4 K (.ref d.qk) (.ref d.qo)=some false
 code_falling_groups:d.QL.code=.ref d.cc_falling_groups
 ck_falling_groups:CodeK K d.cc_falling_groups d.tP_falling_groups
 Vu:mg "NotLet"=some (.ref d.qm)
 V9:mg "TillError"=some (.ref d.qT)
 Ua:mg "NoPieces"=some (.ref d.QU)
 Ub:mg "LineError"=some (.ref d.QV)
 w_NotLet:ExcW K d.qm d.qT
 x_NotLet:ExcK K d.qm
 kp_NotLet:J6 K (.ref d.qm)=true
 QB:MthT K d.qm "__init__" "NotLet.__init__" kcu ["self","place","word"] d.Zz d.ZA
 Uc:NoAttr K d.qm "place"
 Ud:NoAttr K d.qm "word"
 xm_NotLet_TillError:EG K (.ref d.qm) (.ref d.qT)=some true
 ki_NotLet_NoPieces:J4 K (.ref d.qm) (.ref d.QU)=some false
 ki_NotLet_LineError:J4 K (.ref d.qm) (.ref d.QV)=some false
 ki_NotLet_ValueError:J4 K (.ref d.qm) (.type "ValueError")=some true
 zVE:mg "ValueError"=none
structure WB (K:JN) (mg:Str→Option Value) (d:D) (base:Heap):Prop extends Wld K mg d where
 blt:BltM mg base
 kin:K.In base
end Vs
namespace Vs
open PySem L2 War Kin Deal
noncomputable def LineAt(C:Addr)(H:Hp)(x:Addr)(r:Row):Prop:=∃(dx:Addr)(fs:List (Str×V)),H x=some (.ins C dx fs)∧fs.lookup ("kind" :Str)=some (.int r.kd)∧fs.lookup ("price" :Str)=some (.int r.pr)∧fs.lookup ("many" :Str)=some (.int r.mn)∧fs.lookup ("special" :Str)=some (oV r.ex)
noncomputable abbrev Lines(C:Addr)(H:Hp)(ls:List Addr)(rs:List Row):Prop:=P2 (LineAt C H) ls rs
noncomputable def BaskAt(C:Addr)(H:Hp)(b l:Addr)(cg:Int)(m:Bool):Prop:=∃(dx:Addr)(fs:List (Str×V)),H b=some (.ins C dx fs)∧fs.lookup ("lines" :Str)=some (.ref l)∧fs.lookup ("carriage" :Str)=some (.int cg)∧fs.lookup ("member" :Str)=some (.bl m)
noncomputable def StandAt(C:Addr)(H:Hp)(x o p mk:Addr)(cg:Int):Prop:=∃(dx:Addr)(fs:List (Str×V)),H x=some (.ins C dx fs)∧fs.lookup ("owners" :Str)=some (.ref o)∧fs.lookup ("prices" :Str)=some (.ref p)∧fs.lookup ("carriage" :Str)=some (.int cg)∧fs.lookup ("marked" :Str)=some (.ref mk)∧fs.lookup ("whole" :Str)=none
section
variable {C:Addr} {H H':Hp}
theorem LineAt.same{x:Addr}{r:Row}(s:Same H H'):LineAt C H x r→LineAt C H' x r:=fun⟨dx,fs,h,q⟩=>⟨dx,fs,s _ _ h,q⟩
theorem Lines.same{ls:List Addr}{rs:List Row}(s:Same H H')(h:Lines C H ls rs):Lines C H' ls rs:=h.mono fun _ _ q=>q.same s
theorem BaskAt.same{b l:Addr}{cg:Int}{m:Bool}(s:Same H H'):BaskAt C H b l cg m→BaskAt C H' b l cg m:=fun⟨dx,fs,h,q⟩=>⟨dx,fs,s _ _ h,q⟩
theorem StandAt.same{x o p mk:Addr}{cg:Int}(s:Same H H'):StandAt C H x o p mk cg→StandAt C H' x o p mk cg:=fun⟨dx,fs,h,q⟩=>⟨dx,fs,s _ _ h,q⟩
end
section
variable {H:Hp} {hd:Addr} {xs:List V} {o:HO}
theorem BaskAt.set{C b l:Addr}{cg:Int}{m:Bool}(h:H hd=some (.lst xs)):BaskAt C H b l cg m→BaskAt C (upd H hd o) b l cg m:=fun⟨dx,fs,e,q⟩=>⟨dx,fs,by rw[kaj (ne_of e h (by intro z;cases z))];exact e,q⟩
theorem StandAt.set{C x a b c:Addr}{cg:Int}(h:H hd=some (.lst xs)):StandAt C H x a b c cg→StandAt C (upd H hd o) x a b c cg:=fun⟨dx,fs,e,q⟩=>⟨dx,fs,by rw[kaj (ne_of e h (by intro z;cases z))];exact e,q⟩
theorem LineAt.set{C x:Addr}{r:Row}(h:H hd=some (.lst xs)):LineAt C H x r→LineAt C (upd H hd o) x r:=fun⟨dx,fs,e,q⟩=>⟨dx,fs,by rw[kaj (ne_of e h (by intro z;cases z))];exact e,q⟩
theorem Lines.set{C:Addr}{ls:List Addr}{rs:List Row}(h:H hd=some (.lst xs))(L:Lines C H ls rs):Lines C (upd H hd o) ls rs:=L.mono fun _ _ q=>q.set h
end
structure Bask where
 rs:List Row
 cg:Int
 m:Bool
inductive BaskIs (CL CB:Addr) (H:Hp) (b:Addr) (B:Bask):Prop
 |ct (l:Addr)(ls:List Addr)(_:BaskAt CB H b l B.cg B.m)(_:H l=some (.lst (ls.map V.ref)))(_:Lines CL H ls B.rs):BaskIs CL CB H b B
def BaskIs.same{CL CB:Addr}{H H':Hp}{b:Addr}{B:Bask}(s:Same H H'):BaskIs CL CB H b B→BaskIs CL CB H' b B:=fun⟨l,ls,h1,h2,h3⟩=>⟨l,ls,h1.same s,s _ _ h2,h3.same s⟩
noncomputable def iV(k:Nat):V:=.int (k:Int)
inductive StndIs (CS:Addr) (H:Hp) (x:Addr) (S:Stnd):Prop
 |ct (o p mk:Addr)(_:StandAt CS H x o p mk S.cg)(_:H o=some (.lst (S.ow.map iV)))(_:H p=some (.lst (S.pr.map V.int)))(_:H mk=some (.lst (S.mkd.map V.bl))):StndIs CS H x S
def StndIs.same{CS:Addr}{H H':Hp}{x:Addr}{S:Stnd}(s:Same H H'):StndIs CS H x S→StndIs CS H' x S:=fun⟨o,p,mk,h1,h2,h3,h4⟩=>⟨o,p,mk,h1.same s,s _ _ h2,s _ _ h3,s _ _ h4⟩
def kb3(ns:List Nat):(ns.map iV).all flatV=true:=by
 rw[MY]
 intro x hx
 obtain⟨n,_,rfl⟩:=Nb.mp hx
 rfl
noncomputable def ownN(rs:List Row):List Nat:=(rs.zipIdx.map fun p=>JS p.1.mn.toNat p.2).flatten
theorem kfT(rs:List Row):(own rs).map V.int=(ownN rs).map iV:=by
 unfold own ownN
 generalize rs.zipIdx=l
 induction l with
 |nil=>rfl
 |cons p l ih=>
  rw[J0,Nm,JW,ih,J0,Nm,JW]
  congr 1
  simp[iV]
def kmf(rs:List Row){l:Nat}(h:l∈ownN rs):l<rs.length:=by
 unfold ownN at h
 obtain⟨xs,h1,h2⟩:=NZ.mp h
 obtain⟨p,h3,rfl⟩:=Nb.mp h1
 have e:l=p.2:=(ES.mp h2).2
 have q:=List.mem_zipIdx h3
 omega
def kkN(rs:List Row)(h:∀r∈rs,r.Ok):(ownN rs).length≤60*rs.length:=by
 have e:(ownN rs).length=(own rs).length:=by
  have:=congrArg Mf (kfT rs)
  simpa using this.symm
 rw[e]
 exact kjN rs h
noncomputable def pV:Option Nat→V
 |none=>.non
 |some k=>.int (k:Int)
def eq_int(a b:Nat):decide (V.int (a:Int)=V.int (b:Int))=decide (a=b):=by
 by_cases h:a=b
 ·subst h;simp
 ·have:¬(V.int (a:Int)=V.int (b:Int)):=by
   intro e
   injection e with e
   omega
  simp[h,this]
theorem kkV{c:Int}{ws:List Int}(h:ws.sum=0):(dl c ws).map V.int=JS ws.length (V.int 0):=by
 unfold dl
 rw[if_pos h]
 clear h
 induction ws with
 |nil=>rfl
 |cons w ws ih=>simpa[N9] using ih
def kjS{c:Int}{ws:List Int}(h:¬ws.sum=0):dl c ws=(JQ ws.length).map (part c ws):=by
 unfold dl
 rw[if_neg h]
inductive kjp (K:JN) (vs:List V) (H:Hp) (Q:VK) (E_:XK):Prop
 |ct (c:Int)(a:Addr)(ws:List Int)(_:vs=[.int c, .ref a])(_:SqL K H a (ws.map V.int))(_:Nn ws)(_:ws.sum<2 ^ 100)(_:0≤c)(_:c<2 ^ 64)(_:ws.length≤1000)(_:∀p,H p=none→Q (.ref p) (upd H p (.lst ((dl c ws).map V.int)))):kjp K vs H Q E_
inductive kjg (K:JN) (vs:List V) (H:Hp) (Q:VK) (E_:XK):Prop
 |ct (a:Addr)(ps:List (Option Nat))(one other:Nat)(_:vs=[.ref a, .int one, .int other])(_:SqL K H a (ps.map pV))(_:Good ps)(_:one<ps.length)(_:Q (.bl (decide (other∈up ps one))) H):kjg K vs H Q E_
inductive kg9 (C:Addr) (vs:List V) (H:Hp) (Q:VK) (E_:XK):Prop
 |ct (x dx:Addr)(r:Row)(_:vs=[.ref x, .int r.kd, .int r.pr, .int r.mn,oV r.ex])(_:H x=some (.ins C dx []))(_:∀H',But x H H'→LineAt C H' x r→Q .non H'):kg9 C vs H Q E_
inductive khb (K:JN) (C:Addr) (vs:List V) (H:Hp) (Q:VK) (E_:XK):Prop
 |ct (x dx l:Addr)(cg:Int)(m:Bool)(xs:List V)(_:vs=[.ref x, .ref l, .int cg, .bl m])(_:H x=some (.ins C dx []))(_:SqL K H l xs)(_:∀(H':Hp)(l':Addr),But x H H'→H l'=none→H' l'=some (.lst xs)→BaskAt C H' x l' cg m→Q .non H'):khb K C vs H Q E_
inductive kjj (CL:Addr) (vs:List V) (H:Hp) (Q:VK) (E_:XK):Prop
 |ct (x:Addr)(m:Bool)(r:Row)(_:vs=[.ref x, .bl m])(_:LineAt CL H x r)(_:Q (.int (prc m r)) H):kjj CL vs H Q E_
inductive kdn (CL CB CS:Addr) (vs:List V) (H:Hp) (Q:VK) (E_:XK):Prop
 |ct (x dx b l:Addr)(cg:Int)(m:Bool)(ls:List Addr)(rs:List Row)(_:vs=[.ref x, .ref b])(_:H x=some (.ins CS dx []))(_:BaskAt CB H b l cg m)(_:H l=some (.lst (ls.map V.ref)))(_:Lines CL H ls rs)(_:rs.length≤12)(_:(∀r∈rs,r.Ok))(_:∀(H':Hp)(o p mk:Addr),But x H H'→H o=none→H p=none→H mk=none→StandAt CS H' x o p mk cg→H' o=some (.lst ((own rs).map V.int))→H' p=some (.lst ((prs m rs).map V.int))→H' mk=some (.lst (JS rs.length (.bl false)))→(∃dx fs,H' x=some (.ins CS dx fs)∧fs.length≤10)→Q .non H'):kdn CL CB CS vs H Q E_
inductive kjd (CS:Addr) (vs:List V) (H:Hp) (Q:VK) (E_:XK):Prop
 |ct (x o p mk:Addr)(cg:Int)(ns:List Int)(_:vs=[.ref x])(_:StandAt CS H x o p mk cg)(_:H p=some (.lst (ns.map V.int)))(_:Q (.int (ns.sum+cg)) H):kjd CS vs H Q E_
structure S3 (H0:Hp) (x C dx:Addr) (fs:List (Str×V)) (o p mk:Addr) (a b c:List V) (H:Hp):Prop where
 bt:But x H0 H
 ob:H x=some (.ins C dx fs)
 ho:H o=some (.lst a)
 hp:H p=some (.lst b)
 hm:H mk=some (.lst c)
structure Ds (H0:Hp) (x o p mk:Addr):Prop where
 fo:H0 o=none
 fp:H0 p=none
 fm:H0 mk=none
 ox:o≠x
 px:p≠x
 mx:mk≠x
 op:o≠p
 om:o≠mk
 pm:p≠mk
section
variable {H0 H H':Hp} {x C dx o p mk:Addr} {fs:List (Str×V)} {a b c d:List V}
theorem S3.same(h:S3 H0 x C dx fs o p mk a b c H)(s:Same H H'):S3 H0 x C dx fs o p mk a b c H':=⟨h.bt.same s,s _ _ h.ob,s _ _ h.ho,s _ _ h.hp,s _ _ h.hm⟩
theorem S3.setO(h:S3 H0 x C dx fs o p mk a b c H)(D:Ds H0 x o p mk):S3 H0 x C dx fs o p mk d b c (upd H o (.lst d)):=
 ⟨fun y u n e=>kbA (h.bt y u n e) fun u' e'=>ev_eq (by rw[kaj (kag e D.fo)];exact e') fun t=>kdY t (kag e D.fo) (nx h.ho),by rw[kaj D.ox.symm];exact h.ob,kad,by rw[kaj D.op.symm];exact h.hp,by rw[kaj D.om.symm];exact h.hm⟩
theorem S3.setP(h:S3 H0 x C dx fs o p mk a b c H)(D:Ds H0 x o p mk):S3 H0 x C dx fs o p mk a d c (upd H p (.lst d)):=
 ⟨fun y u n e=>kbA (h.bt y u n e) fun u' e'=>ev_eq (by rw[kaj (kag e D.fp)];exact e') fun t=>kdY t (kag e D.fp) (nx h.hp),by rw[kaj D.px.symm];exact h.ob,by rw[kaj D.op];exact h.ho,kad,by rw[kaj D.pm.symm];exact h.hm⟩
theorem S3.setM(h:S3 H0 x C dx fs o p mk a b c H)(D:Ds H0 x o p mk):S3 H0 x C dx fs o p mk a b d (upd H mk (.lst d)):=
 ⟨fun y u n e=>kbA (h.bt y u n e) fun u' e'=>ev_eq (by rw[kaj (kag e D.fm)];exact e') fun t=>kdY t (kag e D.fm) (nx h.hm),by rw[kaj D.mx.symm];exact h.ob,by rw[kaj D.om];exact h.ho,by rw[kaj D.pm];exact h.hp,kad⟩
end
end Vs
namespace Vs
open PySem L2 War Kin Deal
noncomputable def MksIs(C:Addr)(H:Hp)(x:Addr)(M:Mks):Prop:=∃(dx:Addr)(fs:List (Str×V)),H x=some (.ins C dx fs)∧fs.lookup ("kind" :Str)=some (pV M.kind)∧fs.lookup ("needs" :Str)=some (.int M.needs)∧fs.lookup ("most" :Str)=some (oV M.most)∧fs.lookup ("member" :Str)=some (.bl M.member)∧fs.lookup ("once" :Str)=some (.bl M.once)∧fs.lookup ("lone" :Str)=some (.bl M.lone)
def MksIs.same{C:Addr}{H H':Hp}{x:Addr}{M:Mks}(s:Same H H'):MksIs C H x M→MksIs C H' x M:=fun⟨dx,fs,h,q⟩=>⟨dx,fs,s _ _ h,q⟩
noncomputable def SrtIs(fs:List (Str×V)):Srt→Prop
 | .off a=>fs.lookup ("amount" :Str)=some (.int a)
 | .share s b=>fs.lookup ("share" :Str)=some (.int s)∧fs.lookup ("by_line" :Str)=some (.bl b)
 | .cheap n=>fs.lookup ("many" :Str)=some (.int n)
 | .bund n p=>fs.lookup ("many" :Str)=some (.int n)∧fs.lookup ("price" :Str)=some (.int p)
 | .carr=>True
noncomputable def clsOf(d:D):Srt→Addr
 | .off _=>d.c_Off
 | .share _ _=>d.qj
 | .cheap _=>d.ql
 | .bund _ _=>d.qk
 | .carr=>d.qo
noncomputable def here:Srt→Bool
 | .off _=>true
 | .share _ _=>true
 | .cheap _=>true
 | .bund _ _=>true
 | .carr=>true
noncomputable def kmD:Srt→Bool
 | .off _=>true
 | .share _ _=>false
 | .cheap _=>false
 | .bund _ _=>false
 | .carr=>false
noncomputable def kks:Srt→Bool
 | .off _=>false
 | .share _ _=>true
 | .cheap _=>false
 | .bund _ _=>false
 | .carr=>false
noncomputable def kg1:Srt→Bool
 | .off _=>false
 | .share _ _=>false
 | .cheap _=>true
 | .bund _ _=>false
 | .carr=>false
noncomputable def kiX:Srt→Bool
 | .off _=>false
 | .share _ _=>false
 | .cheap _=>false
 | .bund _ _=>true
 | .carr=>false
noncomputable def kbF:Srt→Bool
 | .off _=>false
 | .share _ _=>false
 | .cheap _=>false
 | .bund _ _=>false
 | .carr=>true
noncomputable def Tbs(d:D)(H:Hp):Prop:=TbAt d.tP_falling_groups H
def Tbs.same{d:D}{H H':Hp}(s:Same H H')(h:Tbs d H):Tbs d H':=s.tb h
inductive VchIs (d:D) (H:Hp) (v:Addr) (V:Vch):Prop
 |ct (mA dx:Addr)(fs:List (Str×L2.V))(_:H v=some (.ins (clsOf d V.so) dx fs))(_:fs.lookup ("marks" :Str)=some (.ref mA))(_:SrtIs fs V.so)(_:MksIs d.qe H mA V.ms)(_:here V.so=true)(_:Tbs d H):VchIs d H v V
def VchIs.same{d:D}{H H':Hp}{v:Addr}{V:Vch}(s:Same H H'):VchIs d H v V→VchIs d H' v V:=fun⟨mA,dx,fs,h1,h2,h3,h4,h5,h6⟩=>⟨mA,dx,fs,s _ _ h1,h2,h3,h4.same s,h5,h6.same s⟩
noncomputable def kds(B:Bask):List Nat:=B.rs.map fun r=>r.kd.toNat
structure Wf (ps:List (Option Nat)) (B:Bask) (S:Stnd):Prop where
 good:Good ps
 pl:ps.length≤20
 kd:∀r∈B.rs,0≤r.kd∧r.kd<(ps.length:Int)
 ok:∀r∈B.rs,r.Ok
 nl:B.rs.length≤12
 bc:0≤B.cg∧B.cg≤1000000000000
 ow:S.ow=ownN B.rs
 lp:S.pr.length=S.ow.length
 lm:S.mkd.length=B.rs.length
 pr:∀z∈S.pr,0≤z∧z≤1000000000000
 cg:0≤S.cg∧S.cg≤1000000000000
 n64:S.ow.length<64
def Wf.np{ps:List (Option Nat)}{B:Bask}{S:Stnd}(W:Wf ps B S):S.ow.length≤720:=by
 have:=kkN B.rs W.ok
 have:=W.nl
 rw[W.ow]
 omega
def Wf.line{ps:List (Option Nat)}{B:Bask}{S:Stnd}(W:Wf ps B S){i l:Nat}(h:S.ow[i]?=some l):l<B.rs.length:=by
 have hm:=JT h
 rw[W.ow] at hm
 exact kmf _ hm
structure MksOk (ps:List (Option Nat)) (M:Mks):Prop where
 kind:∀k,M.kind=some k→k<ps.length
 needs:0≤M.needs∧M.needs≤1000000000000
 most:∀m,M.most=some m→0≤m∧m≤1000000000000
noncomputable def mks0:Mks:=⟨none,0,none,false,false,false⟩
noncomputable def ki9:Srt→List V
 | .off a=>[.int a]
 | .share s b=>[.int s, .bl b]
 | .cheap n=>[.int n]
 | .bund n p=>[.int n, .int p]
 | .carr=>[]
noncomputable def Mrk(CM:Addr)(H:Hp)(mv:V)(H':Hp)(mA:Addr):Prop:=mv=.ref mA∨(mv=.non∧H mA=none∧MksIs CM H' mA mks0)
def MksIs.but{C x mA:Addr}{H H':Hp}{M:Mks}(n:mA≠x)(b:But x H H'):MksIs C H mA M→MksIs C H' mA M:=fun⟨dx,fs,h,q⟩=>⟨dx,fs,b _ _ n h,q⟩
theorem Mrk.but{CM x mA:Addr}{H H1 H2:Hp}{mv:V}{o:HO}(hx:H x=some o)(b:But x H1 H2):Mrk CM H mv H1 mA→Mrk CM H mv H2 mA
 | .inl e=>.inl e
 | .inr ⟨e,f,h⟩=>.inr ⟨e,f,h.but (kag hx f).symm b⟩
inductive kej (C:Addr) (vs:List V) (H:Hp) (Q:VK) (E_:XK):Prop
 |ct (x dx:Addr)(M:Mks)(_:vs=[.ref x,pV M.kind, .int M.needs,oV M.most, .bl M.member, .bl M.once, .bl M.lone])(_:H x=some (.ins C dx []))(_:∀H',But x H H'→MksIs C H' x M→Q .non H'):kej C vs H Q E_
inductive kfi (K:JN) (CM:Addr) (vs:List V) (H:Hp) (Q:VK) (E_:XK):Prop
 |ct (x C dx:Addr)(fs:List (Str×V))(mv:V)(_:vs=[.ref x,mv])(_:H x=some (.ins C dx fs))(_:Cls K C)(_:NoAttr K C "marks")(_:fs.length≤5)(_:(mv=.non∨∃mA,mv=.ref mA))(_:∀(H':Hp)(mA:Addr),But x H H'→Mrk CM H mv H' mA→H' x=some (.ins C dx (putF "marks" (.ref mA) fs))→Q .non H'):kfi K CM vs H Q E_
inductive kdZ (C CM:Addr) (is:Srt→Prop) (vs:List V) (H:Hp) (Q:VK) (E_:XK):Prop
 |ct (x dx:Addr)(so:Srt)(mv:V)(_:is so)(_:vs=.ref x::(ki9 so++[mv]))(_:H x=some (.ins C dx []))(_:(mv=.non∨∃mA,mv=.ref mA))(_:∀(H':Hp)(mA:Addr)(fs:List (Str×V)),But x H H'→Mrk CM H mv H' mA→H' x=some (.ins C dx fs)→fs.lookup ("marks" :Str)=some (.ref mA)→SrtIs fs so→Q .non H'):kdZ C CM is vs H Q E_
theorem kij{C:Addr}{H:Hp}{M:Mks}{R:Addr→Hp→Prop}{E:XK}(k:∀(H':Hp)(x:Addr),Same H H'→H x=none→MksIs C H' x M→R x H'):
  ∀x dx,H x=none→H dx=none→dx≠x→kej C [.ref x,pV M.kind, .int M.needs,oV M.most, .bl M.member, .bl M.once, .bl M.lone] (upd (upd H dx (.own x)) x (.ins C dx [])) (fun v H2=>v=.non∧R x H2) E:=
 fun x dx nx nd _=>⟨x,dx,M,rfl,kad,fun H' b l=>⟨rfl,k H' x (kbC nx nd b) nx l⟩⟩
def kgB{d:D}{H:Hp}{so:Srt}{mA:Addr}{M:Mks}{is:Srt→Prop}{R:Addr→Hp→Prop}{E:XK}(hi:is so)(hh:here so=true)(hM:MksIs d.qe H mA M)(k:∀(H':Hp)(x:Addr),Same H H'→H x=none→VchIs d H' x ⟨so,M⟩→R x H')(htb:Tbs d H:=by assumption):
  ∀x dx,H x=none→H dx=none→dx≠x→kdZ (clsOf d so) d.qe is (.ref x::(ki9 so++[.ref mA])) (upd (upd H dx (.own x)) x (.ins (clsOf d so) dx [])) (fun v H2=>v=.non∧R x H2) E:=
 fun x dx nx nd _=>⟨x,dx,so, .ref mA,hi,rfl,kad, .inr ⟨mA,rfl⟩,fun H' mA' fs b hm h1 h2 h3=>by
  have e:mA'=mA:=by
   rcases hm with e|⟨e,_⟩
   ·injection e with e
    exact e.symm
   ·cases e
  subst e
  exact⟨rfl,k H' x (kbC nx nd b) nx ⟨mA',dx,fs,h1,h2,h3,hM.same (kbC nx nd b),hh,htb.same (kbC nx nd b)⟩⟩⟩
inductive spMix (vs:List V) (H:Hp) (Q:VK) (E_:XK):Prop
 |ct (c f p:Int)(_:vs=[.int c, .int f, .int p])(_:(-(2 ^ 64)<f∧f<2 ^ 64))(_:0<p)(_:Q (.int (c*f%p)) H):spMix vs H Q E_
inductive khQ (vs:List V) (H:Hp) (Q:VK) (E_:XK):Prop
 |ct (n:Int)(_:vs=[.int n])(_:Q (.bl true) H):khQ vs H Q E_
end Vs
namespace Vs
open PySem L2 War Kin Deal
def sN{t u:TS}{D:Ends}{σ:St}{H:Hp}(h:∀N:St→Hp→Prop,(∀σ' H',u D σ' H'→N σ' H')→t {D with nx:=N} σ H):tSeq t u D σ H:=h (u D) fun _ _ q=>q
theorem kmm{CL:Addr}{H:Hp}{r:Row}{R:Addr→Hp→Prop}{E:XK}(k:∀(H':Hp)(x:Addr),Same H H'→H x=none→LineAt CL H' x r→R x H'):
  ∀x dx,H x=none→H dx=none→dx≠x→kg9 CL [.ref x, .int r.kd, .int r.pr, .int r.mn,oV r.ex] (upd (upd H dx (.own x)) x (.ins CL dx [])) (fun v H2=>v=.non∧R x H2) E:=
 fun x dx nx nd _=>⟨x,dx,r,rfl,kad,fun H' b l=>⟨rfl,k H' x (kbC nx nd b) nx l⟩⟩
theorem kmo{K:JN}{CB:Addr}{H:Hp}{l:Addr}{cg:Int}{m:Bool}{xs:List V}{R:Addr→Hp→Prop}{E:XK}(hl:SqL K H l xs)(k:∀(H':Hp)(x l':Addr),Same H H'→H x=none→H l'=none→H' l'=some (.lst xs)→BaskAt CB H' x l' cg m→R x H'):
  ∀x dx,H x=none→H dx=none→dx≠x→khb K CB [.ref x, .ref l, .int cg, .bl m] (upd (upd H dx (.own x)) x (.ins CB dx [])) (fun v H2=>v=.non∧R x H2) E:=
 fun x dx nx nd _=>⟨x,dx,l,cg,m,xs,rfl,kad,(ka2 nx nd).seq hl,fun H' l' b n h1 h2=>⟨rfl,k H' x l' (kbC nx nd b) nx (kdA n) h1 h2⟩⟩
theorem kkU{CL CB CS:Addr}{H:Hp}{b l:Addr}{cg:Int}{m:Bool}{ls:List Addr}{rs:List Row}{R:Addr→Hp→Prop}{E:XK}(hb:BaskAt CB H b l cg m)(hl:H l=some (.lst (ls.map V.ref)))(hL:Lines CL H ls rs)(hn:rs.length≤12)(hok:∀r∈rs,r.Ok)
  (k:∀(H':Hp)(x o p mk:Addr),Same H H'→H x=none→H o=none→H p=none→H mk=none→StandAt CS H' x o p mk cg→H' o=some (.lst ((own rs).map V.int))→H' p=some (.lst ((prs m rs).map V.int))→H' mk=some (.lst (JS rs.length (.bl false)))→R x H'):
  ∀x dx,H x=none→H dx=none→dx≠x→kdn CL CB CS [.ref x, .ref b] (upd (upd H dx (.own x)) x (.ins CS dx [])) (fun v H2=>v=.non∧R x H2) E:=
 fun x dx nx nd _=>⟨x,dx,b,l,cg,m,ls,rs,rfl,kad,hb.same (ka2 nx nd),kgD nx nd hl,hL.same (ka2 nx nd),hn,hok,fun H' o p mk bt n1 n2 n3 S h1 h2 h3 _=>⟨rfl,k H' x o p mk (kbC nx nd bt) nx (kdA n1) (kdA n2) (kdA n3) S h1 h2 h3⟩⟩
structure VchOk (ps:List (Option Nat)) (V:Vch):Prop where
 so:SrtOk V.so
 ms:MksOk ps V.ms
noncomputable def stnd0(B:Bask):Stnd:=⟨ownN B.rs,prs B.m B.rs,B.cg,JS B.rs.length false⟩
theorem kml{CL CB CS:Addr}{H:Hp}{b:Addr}{B:Bask}{R:Addr→Hp→Prop}{E:XK}(hb:BaskIs CL CB H b B)(hn:B.rs.length≤12)(hok:∀r∈B.rs,r.Ok)(k:∀(H':Hp)(x:Addr),Same H H'→H x=none→StndIs CS H' x (stnd0 B)→R x H'):
  ∀x dx,H x=none→H dx=none→dx≠x→kdn CL CB CS [.ref x, .ref b] (upd (upd H dx (.own x)) x (.ins CS dx [])) (fun v H2=>v=.non∧R x H2) E:=by
 obtain⟨l,ls,h1,h2,h3⟩:=hb
 refine kkU h1 h2 h3 hn hok fun H' x o p mk s f1 _ _ _ hS ho hp hm=>k H' x s f1 ⟨o,p,mk,hS,?_,hp,?_⟩
 ·rw[ho,kfT]
  rfl
 ·rw[hm]
  show _=some (HO.lst ((JS B.rs.length false).map V.bl))
  rw[List.map_replicate]
def klz{m:Bool}{r:Row}(h:r.Ok):0≤prc m r∧prc m r≤1000000000000:=by
 unfold prc
 split
 ·cases e:r.ex with
  |none=>exact⟨h.pr0,h.pr1⟩
  |some z=>exact h.ex0 z e
 ·exact⟨h.pr0,h.pr1⟩
theorem kh9(m:Bool):∀(rs:List Row)(k:Nat),(rs.map fun r=>JS r.mn.toNat (prc m r)).flatten.length=((rs.zipIdx k).map fun p=>JS p.1.mn.toNat (p.2:Int)).flatten.length
 |[],_=>by simp
 |r::rs,k=>by
  rw[EI,J0,Nm,JZ,Mg,J0,Nm,JZ,Mg,kh9 m rs (k+1)]
def kmb(m:Bool)(rs:List Row):(prs m rs).length=(ownN rs).length:=by
 have e:(ownN rs).length=(own rs).length:=by
  have:=congrArg Mf (kfT rs)
  simpa using this.symm
 rw[e]
 exact kh9 m rs 0
def Wf.start{ps:List (Option Nat)}{B:Bask}(g:Good ps)(pl:ps.length≤20)(kd:∀r∈B.rs,0≤r.kd∧r.kd<(ps.length:Int))(ok:∀r∈B.rs,r.Ok)(nl:B.rs.length≤12)(bc:0≤B.cg∧B.cg≤1000000000000)(n64:(ownN B.rs).length<64):Wf ps B (stnd0 B):=by
 refine⟨g,pl,kd,ok,nl,bc,rfl,kmb _ _,by simp[stnd0],fun z hz=>?_,bc,n64⟩
 obtain⟨xs,h1,h2⟩:=NZ.mp hz
 obtain⟨r,hr,rfl⟩:=Nb.mp h1
 rw[(ES.mp h2).2]
 exact klz (ok r hr)
def Wf.nn{ps:List (Option Nat)}{B:Bask}{S:Stnd}(W:Wf ps B S):Nn S.pr:=fun z hz=>(W.pr z hz).1
def Wf.after{ps:List (Option Nat)}{B:Bask}{S:Stnd}{V:Vch}(W:Wf ps B S)(O:VchOk ps V):Wf ps B (aftM V ps (kds B) S):=by
 have h:=klR (V:=V) (ps:=ps) (kk:=kds B) W.nn W.cg.1 O.so fun m e=>(O.ms.most m e).1
 refine⟨W.good,W.pl,W.kd,W.ok,W.nl,W.bc,W.ow,h.1.1.trans W.lp,by rw[←W.lm];simp[aftM],fun z hz=>?_,⟨h.2.1,Int.le_trans h.2.2 W.cg.2⟩,W.n64⟩
 obtain⟨j,e1⟩:=N4.mp hz
 have hj:j<S.pr.length:=by
  rw[←h.1.1]
  exact(JX.mp e1).1
 have e2:S.pr[j]?=some S.pr[j]:=by simp[hj]
 have b:=h.1.2 j z _ e1 e2
 have c:=W.pr _ (JT e2)
 exact⟨b.1,Int.le_trans b.2 c.2⟩
inductive kjs (K:JN) (d:D) (vs:List V) (H:Hp) (Q:VK) (E_:XK):Prop
 |ct (v a b x:Addr)(V:Vch)(ps:List (Option Nat))(B:Bask)(S:Stnd)(_:vs=[.ref v, .ref a, .ref b, .ref x])(_:VchIs d H v V)(_:SqL K H a (ps.map pV))(_:BaskIs d.qf d.qh H b B)(_:StndIs d.qc H x S)(_:Wf ps B S)(_:VchOk ps V)(_:∀(H':Hp)(p:Addr),Same H H'→H p=none→H' p=some (.lst ((abt ps (kds B) V.ms.kind V.ms.lone S).map iV))→Q (.ref p) H'):kjs K d vs H Q E_
inductive klu (K:JN) (d:D) (vs:List V) (H:Hp) (Q:VK) (E_:XK):Prop
 |ct (v a b x:Addr)(V:Vch)(ps:List (Option Nat))(B:Bask)(S:Stnd)(_:vs=[.ref v, .ref a, .ref b, .ref x])(_:VchIs d H v V)(_:SqL K H a (ps.map pV))(_:BaskIs d.qf d.qh H b B)(_:StndIs d.qc H x S)(_:Wf ps B S)(_:VchOk ps V)(_:∀(H':Hp)(t p:Addr),Same H H'→H t=none→H p=none→H' t=some (.tup [.ref p, .int (cutM V ps (kds B) S).2])→H' p=some (.lst ((cutM V ps (kds B) S).1.map L2.V.int))→Q (.ref t) H'):klu K d vs H Q E_
theorem cl_of{K:JN}{mg:Str→Option Value}{d:D}{base:Heap}(W:WB K mg d base):∀{so:Srt},here so=true→Cls K (clsOf d so)
 | .off _,h=>W.c_Off.cl
 | .share _ _,h=>W.qj.cl
 | .cheap _,h=>W.ql.cl
 | .bund _ _,h=>W.qk.cl
 | .carr,h=>W.qo.cl
theorem na_of{K:JN}{mg:Str→Option Value}{d:D}{base:Heap}(W:WB K mg d base):∀{so:Srt},here so=true→NoAttr K (clsOf d so) "marks"
 | .off _,h=>W.Vf
 | .share _ _,h=>W.Vi
 | .cheap _,h=>W.Vk
 | .bund _ _,h=>W.Vo
 | .carr,h=>W.Vp
theorem kj3{K:JN}{mg:Str→Option Value}{d:D}{base:Heap}(W:WB K mg d base):∀{so:Srt},here so=true→Isi K (clsOf d so)
 | .off _,h=>W.c_Off.isi
 | .share _ _,h=>W.qj.isi
 | .cheap _,h=>W.ql.isi
 | .bund _ _,h=>W.qk.isi
 | .carr,h=>W.qo.isi
theorem kjZ{K:JN}{mg:Str→Option Value}{d:D}{base:Heap}(W:WB K mg d base):∀{so:Srt},here so=true→J4 K (.ref (clsOf d so)) (.ref d.c_Off)=some (kmD so)
 | .off _,h=>kb9 _ _
 | .share _ _,h=>W.VO
 | .cheap _,h=>W.VP
 | .bund _ _,h=>W.VQ
 | .carr,h=>W.VR
theorem kbD{K:JN}{mg:Str→Option Value}{d:D}{base:Heap}(W:WB K mg d base):∀{so:Srt},here so=true→J4 K (.ref (clsOf d so)) (.ref d.qj)=some (kks so)
 | .off _,h=>W.VS
 | .share _ _,h=>kb9 _ _
 | .cheap _,h=>W.VT
 | .bund _ _,h=>W.VU
 | .carr,h=>W.VV
theorem kbn{K:JN}{mg:Str→Option Value}{d:D}{base:Heap}(W:WB K mg d base):∀{so:Srt},here so=true→J4 K (.ref (clsOf d so)) (.ref d.ql)=some (kg1 so)
 | .off _,h=>W.VW
 | .share _ _,h=>W.VX
 | .cheap _,h=>kb9 _ _
 | .bund _ _,h=>W.VY
 | .carr,h=>W.VZ
theorem kc6{K:JN}{mg:Str→Option Value}{d:D}{base:Heap}(W:WB K mg d base):∀{so:Srt},here so=true→J4 K (.ref (clsOf d so)) (.ref d.qk)=some (kiX so)
 | .off _,h=>W.V1
 | .share _ _,h=>W.V2
 | .cheap _,h=>W.V3
 | .bund _ _,h=>kb9 _ _
 | .carr,h=>W.V4
theorem kgK{K:JN}{mg:Str→Option Value}{d:D}{base:Heap}(W:WB K mg d base):∀{so:Srt},here so=true→J4 K (.ref (clsOf d so)) (.ref d.qo)=some (kbF so)
 | .off _,h=>W.V5
 | .share _ _,h=>W.V6
 | .cheap _,h=>W.V7
 | .bund _ _,h=>W.V8
 | .carr,h=>kb9 _ _
theorem kdJ{b:Int}:∀{q:List Int},(∀z∈q,z≤b)→q.sum≤b*q.length
 |[],_=>by simp
 |z::q,h=>by
  have h1:=h z Na
  have h2:=kdJ (q:=q) fun x hx=>h x (J5 _ hx)
  rw[Ng,Nq]
  have e:b*((q.length+1:Nat):Int)=b*q.length+b:=by rw[Int.natCast_add,Int.mul_add];simp
  omega
def kh8{ps:List (Option Nat)}{B:Bask}{S:Stnd}(wf:Wf ps B S){ab:List Nat}(hl:ab.length≤720)(hb:∀i∈ab,i<S.pr.length):(qs S.pr ab).sum≤720000000000000:=by
 have h:=kdJ (b:=1000000000000) (q:=qs S.pr ab) fun z hz=>by
  obtain⟨i,hi,rfl⟩:=Nb.mp hz
  obtain⟨w,ew⟩:=at_of (hb i hi)
  rw[J8,ew]
  exact(wf.pr w (JT ew)).2
 rw[kbl] at h
 omega
def kmB(xs:List V)(i k:Nat):cutV xs (some (i:Int)) (some ((i+k:Nat):Int))=(xs.drop i).take k:=by
 unfold cutV
 rw[HT.sIx_nat,HT.sIx_nat]
 by_cases h:i≤xs.length
 ·rw[Eg h,List.take_eq_take_iff,MU]
  omega
 ·rw[Dc (by omega),Dc (by omega)]
  simp
def kkr{α:Type}{xs:List α}{v: α}(h:xs[xs.length-1]?=some v)(h0:0<xs.length):atI xs (-1)=some v:=by
 unfold atI ixN
 rw[if_neg (by omega),if_pos (by omega)]
 show xs[(-1+(xs.length:Int)).toNat]?=some v
 rw[show(-1+(xs.length:Int)).toNat=xs.length-1 by omega]
 exact h
def kh5{H0 H1 H2:Hp}{x:Addr}(f:H0 x=none)(s:Same H0 H1)(b:But x H1 H2):Same H0 H2:=fun y u e=>kbA (s y u e) fun u' e'=>b y u' (kag e f) e'
noncomputable def hindM(V:Vch)(ps:List (Option Nat))(B:Bask)(S:Stnd):L2.V:=
 if(V.ms.member&& !B.m)=true then .str "member" else if(abt ps (kds B) V.ms.kind V.ms.lone S).length=0 then .str "nothing" else if(qs S.pr (abt ps (kds B) V.ms.kind V.ms.lone S)).sum<V.ms.needs then .str "needs" else .non
inductive klr (K:JN) (d:D) (vs:List V) (H:Hp) (Q:VK) (E_:XK):Prop
 |ct (v a b x:Addr)(V:Vch)(ps:List (Option Nat))(B:Bask)(S:Stnd)(_:vs=[.ref v, .ref a, .ref b, .ref x])(_:VchIs d H v V)(_:SqL K H a (ps.map pV))(_:BaskIs d.qf d.qh H b B)(_:StndIs d.qc H x S)(_:Wf ps B S)(_:VchOk ps V)(_:∀(H':Hp),Same H H'→Q (hindM V ps B S) H'):klr K d vs H Q E_
noncomputable def atM(m:Option Int)(n:Int):Int:=match m with
 |none=>n
 |some m=>min m n
def none_of{H H':Hp}(s:Same H H'){p:Addr}(h:H' p=none):H p=none:=s.free h
def kko{x:Addr}{H H':Hp}(b:But x H H')(n:H x=none):Same H H':=fun y u e=>b y u (kag e n) e
theorem kjQ{CL CB CS:Addr}{H:Hp}{b l:Addr}{cg:Int}{m:Bool}{ls:List Addr}{rs:List Row}{R:Addr→Hp→Prop}{E:XK}(hb:BaskAt CB H b l cg m)(hl:H l=some (.lst (ls.map V.ref)))(hL:Lines CL H ls rs)(hn:rs.length≤12)(hok:∀r∈rs,r.Ok)
  (k:∀(H':Hp)(x:Addr),Same H H'→H x=none→∀(dx:Addr)(fs:List (Str×V)),H' x=some (.ins CS dx fs)→fs.length≤10→fs.lookup ("whole" :Str)=none→R x H'):
  ∀x dx,H x=none→H dx=none→dx≠x→kdn CL CB CS [.ref x, .ref b] (upd (upd H dx (.own x)) x (.ins CS dx [])) (fun v H2=>v=.non∧R x H2) E:=
 fun x dx nx nd _=>⟨x,dx,b,l,cg,m,ls,rs,rfl,kad,hb.same (ka2 nx nd),kgD nx nd hl,hL.same (ka2 nx nd),hn,hok,fun H' o p mk bt n1 n2 n3 S h1 h2 h3 fw=>by
  obtain⟨dx',fs,e,hf⟩:=fw
  obtain⟨dx2,fs2,e2,_,_,_,_,hw⟩:=S
  rw[e] at e2
  injection e2 with e2
  injection e2 with _ e3 e4
  subst e4
  exact⟨rfl,k H' x (kbC nx nd bt) nx dx' fs e hf hw⟩⟩
theorem kkf{V:Vch}{ps:List (Option Nat)}{kk:List Nat}{S:Stnd}(vo:VchOk ps V):(cutM V ps kk S).2=if kbF V.so=true then atM V.ms.most S.cg else 0:=by
 have hm:=vo.ms.most
 unfold cutM
 simp only
 cases e:V.ms.most with
 |none=>
  unfold cap atM
  simp only
  unfold fee kbF
  cases V.so <;> rfl
 | some m=>
  have h0:=(hm m e).1
  unfold cap atM
  simp only
  cases eso:V.so with
  | carr=>
   have hz:(want .carr S.mkd.length ((abt ps kk V.ms.kind V.ms.lone S).map fun i=>S.ow.getD i 0) (qs S.pr (abt ps kk V.ms.kind V.ms.lone S))).sum=0:=by
    unfold want
    simp
   show(if m<_+S.cg then _ else _:List Int×Int).2=min m S.cg
   rw[hz,Int.zero_add]
   split
   ·show min S.cg m=_
    omega
   ·show S.cg=_
    omega
  | _=>
   show(if m<_+0 then(_,min 0 m) else(_,0):List Int×Int).2=0
   split
   ·show min 0 m=0
    omega
   ·rfl
def km4{B:Bask}{l:Nat}{r:Row}(h:B.rs[l]?=some r):(kds B).getD l 0=r.kd.toNat:=by
 unfold kds
 rw[J8,JY,h]
 rfl
theorem kll{ps:List (Option Nat)}{kk:List Nat}{kind:Option Nat}{lone:Bool}{S:Stnd}{i:Nat}:
  (JQ (i+1)).filter (fun i=>hits ps kk kind lone S.mkd (S.ow.getD i 0))=(JQ i).filter (fun i=>hits ps kk kind lone S.mkd (S.ow.getD i 0))++(if hits ps kk kind lone S.mkd (S.ow.getD i 0)=true then [i] else []):=by
 rw[NG,Mb]
 congr 1
 simp only[MA,Eh]
noncomputable def GrpAt(H H':Hp)(pa:Addr)(t:Addr)(q:Int×List Nat):Prop:=∃ga,H' t=some (.tup [.int q.1, .ref ga])∧H' ga=some (.lst (q.2.map iV))∧(ga=pa∨H ga=none)
inductive khR (d:D) (vs:List V) (H:Hp) (Q:VK) (E_:XK):Prop
 |ct (v x pa:Addr) (V:Vch) (ps:List (Option Nat)) (B:Bask) (S:Stnd) (_:vs=[.ref v, .ref x, .ref pa]) (_:VchIs d H v V) (_:StndIs d.qc H x S) (_:H pa=some (.lst ((abt ps (kds B) V.ms.kind V.ms.lone S).map iV))) (_:Wf ps B S) (_:VchOk ps V) (_:∀(H':Hp) (p:Addr) (tl:List Addr) (gl:List (Int×List Nat)),Same H H'→H p=none→H' p=some (.lst (tl.map L2.V.ref))→P2 (GrpAt H H' pa) tl gl→(∀c g,(c,g)∈gl→0≤c∧c≤(qs S.pr g).sum∧g.length≤720)→(gl.map Prod.snd).flatten.Nodup→(∀i∈(gl.map Prod.snd).flatten,i<S.pr.length)→gl.length≤720→
  spr S.pr.length (gl.map Prod.snd).flatten (gl.map fun p=>dl p.1 (qs S.pr p.2)).flatten=spr S.pr.length (abt ps (kds B) V.ms.kind V.ms.lone S) (want V.so S.mkd.length ((abt ps (kds B) V.ms.kind V.ms.lone S).map fun i=>S.ow.getD i 0) (qs S.pr (abt ps (kds B) V.ms.kind V.ms.lone S)))→Q (.ref p) H'):khR d vs H Q E_
def kaT{H H':Hp}{p:Addr}{o:HO}(h:upd H p o=H')(f:H p=none):Same H H'∧H' p=some o:=by
 subst h
 exact⟨kam f,kad⟩
theorem But.free{x l:Addr}{H H':Hp}{o:HO}(b:But x H H')(hx:H' x=some o)(h:H' l=none):H l=none:=by
 cases q:H l with
 |none=>rfl
 |some u=>
  obtain⟨o',e'⟩:=kf4 (b l u (kag hx h).symm q)
  rw[e'] at h
  cases h
structure Rul where
 w:Str
 a:Nat
 b:Nat
structure TillD where
 ps:List (Option Nat)
 vs:List Vch
 rs:List Rul
 bk:Str
noncomputable def RulIs(H:Hp)(a:Addr)(r:Rul):Prop:=H a=some (.tup [.str r.w,iV r.a,iV r.b])
inductive TillIs (d:D) (H:Hp) (t:Addr) (T:TillD):Prop
 |ct (dx:Addr)(fs:List (Str×V))(p vl rl:Addr)(va ra:List Addr)(_:H t=some (.ins d.qd dx fs))(_:fs.lookup ("parents" :Str)=some (.ref p))(_:fs.lookup ("vouchers" :Str)=some (.ref vl))(_:fs.lookup ("rules" :Str)=some (.ref rl))(_:fs.lookup ("back" :Str)=some (.str T.bk))(_:H p=some (.lst (T.ps.map pV)))(_:H vl=some (.lst (va.map V.ref)))(_:P2 (fun a V=>VchIs d H a V) va T.vs)(_:H rl=some (.lst (ra.map V.ref)))(_:P2 (fun a r=>RulIs H a r) ra T.rs):TillIs d H t T
def TillIs.same{d:D}{H H':Hp}{t:Addr}{T:TillD}(s:Same H H'):TillIs d H t T→TillIs d H' t T:=fun⟨dx,fs,p,vl,rl,va,ra,h1,h2,h3,h4,h5,h6,h7,h8,h9,h10⟩=>
 ⟨dx,fs,p,vl,rl,va,ra,s _ _ h1,h2,h3,h4,h5,s _ _ h6,s _ _ h7,h8.mono fun a V h=>h.same s,s _ _ h9,h10.mono fun a r h=>s _ _ h⟩
structure kb7 (T:TillD):Prop where
 vs:∀V∈T.vs,VchOk T.ps V
 nv:T.vs.length≤8
inductive WayAt (d:D) (m:Nat) (H:Hp) (w t b x:Addr) (hand:List Int) (used:List Nat):Prop
 |ct (dx:Addr)(fs:List (Str×V))(h u:Addr)(_:H w=some (.ins d.c_Way dx fs))(_:fs.lookup ("till" :Str)=some (.ref t))(_:fs.lookup ("basket" :Str)=some (.ref b))(_:fs.lookup ("hand" :Str)=some (.ref h))(_:fs.lookup ("used" :Str)=some (.ref u))(_:fs.lookup ("standing" :Str)=some (.ref x))(_:fs.lookup ("word_for" :Str)=none)(_:fs.lookup ("behind" :Str)=none)(_:fs.lookup ("is_let_by" :Str)=none)(_:fs.lookup ("followers" :Str)=none)(_:fs.length≤m)(_:H h=some (.lst (hand.map V.int)))(_:H u=some (.lst (used.map iV))):WayAt d m H w t b x hand used
noncomputable abbrev WayIs(d:D)(H:Hp)(w t b x:Addr)(hand:List Int)(used:List Nat):Prop:=WayAt d 7 H w t b x hand used
def WayAt.most{d:D}{m m':Nat}{H:Hp}{w t b x:Addr}{hand:List Int}{used:List Nat}(hm:m≤m'):WayAt d m H w t b x hand used→WayAt d m' H w t b x hand used:=fun⟨dx,fs,h,u,h1,h2,h3,h4,h5,h6,h7,h8,h9,h10,h11,h12,h13⟩=>
 ⟨dx,fs,h,u,h1,h2,h3,h4,h5,h6,h7,h8,h9,h10,JR h11 hm,h12,h13⟩
def WayAt.same{d:D}{m:Nat}{H H':Hp}{w t b x:Addr}{hand:List Int}{used:List Nat}(s:Same H H'):WayAt d m H w t b x hand used→WayAt d m H' w t b x hand used:=fun⟨dx,fs,h,u,h1,h2,h3,h4,h5,h6,h7,h8,h9,h10,h11,h12,h13⟩=>
 ⟨dx,fs,h,u,s _ _ h1,h2,h3,h4,h5,h6,h7,h8,h9,h10,h11,s _ _ h12,s _ _ h13⟩
noncomputable def nevR(used:List Nat)(n:Nat)(r:Rul):Bool:=decide (r.w=("never" :Str))&&((decide (r.a=n)&&used.contains r.b)||(decide (r.b=n)&&used.contains r.a))
noncomputable def kfu(rs:List Rul)(used:List Nat)(n:Nat):Bool:=rs.any (nevR used n)
noncomputable def ahdR(used:List Nat)(n:Nat)(r:Rul):Bool:=decide (r.w=("ahead" :Str))&&(decide (r.a=n)&&used.contains r.b)
noncomputable def kfC(rs:List Rul)(used:List Nat)(n:Nat):Bool:=rs.any (ahdR used n)
noncomputable def loneM(order:List Nat)(r:Rul):Bool:=decide (r.w=("only" :Str))&&(order.contains r.a&& !order.contains r.b)
noncomputable def onlyM(rs:List Rul)(order:List Nat):Option Nat:=(rs.find? (loneM order)).map Rul.a
noncomputable def sV:Option Str→V
 |none=>.non
 |some z=>.str z
noncomputable def wordM(V:Vch)(rs:List Rul)(hand:List Int)(used:List Nat)(n:Nat):Option Str:=
 if hand.getD n 0<(used.count n:Int)+1 then some "held" else if(V.ms.once&&used.contains n)=true then some "once" else if kfu rs used n=true then some "never" else if kfC rs used n=true then some "ahead" else none
noncomputable def dueM(V:Vch)(T:TillD)(B:Bask)(hand:List Int)(used:List Nat)(S:Stnd)(n:Nat):L2.V:=match wordM V T.rs hand used n with
 |some z=>.str z
 |none=>hindM V T.ps B S
theorem kcy{n:Nat}:∀(l:List Nat),inV (iV n) (l.map iV)=l.contains n
 |[]=>rfl
 | m::l=>by
  have ih:=kcy (n:=n) l
  unfold inV at ih⊢
  rw[J0,Mr,ih,List.contains_cons]
  congr 1
  show eqV (V.int (m:Int)) (V.int (n:Int))=(n==m)
  by_cases h:n=m
  ·subst h
   simp[eqV]
  ·have h1:¬((m:Int)=(n:Int)):=by omega
   have e2:(n==m)=false:=beq_eq_false_iff_ne.mpr h
   rw[e2]
   simp[eqV,h1]
theorem khE(l:List Nat)(n:Nat):(l.map fun(i:Nat)=>(i:Int)).count (n:Int)=l.count n:=by
 induction l with
 |nil=>rfl
 | cons m l ih=>
  rw[J0,EF,EF,ih]
  congr 1
  by_cases h:m=n
  ·subst h;simp
  ·have h1:¬((m:Int)=(n:Int)):=by omega
   have e1:((m:Int)==(n:Int))=false:=beq_eq_false_iff_ne.mpr h1
   have e2:(m==n)=false:=beq_eq_false_iff_ne.mpr h
   rw[e1,e2]
def kgQ(a b:Nat):decide (iV a=iV b)=decide (a=b):=by
 by_cases h:a=b
 ·subst h;simp
 ·have n:¬(iV a=iV b):=fun e=>h (by have:=V.int.inj e;omega)
  rw[decide_eq_false h,decide_eq_false n]
def eq_str(a b:Str):decide (V.str a=V.str b)=decide (a=b):=by
 by_cases h:a=b
 ·subst h;simp
 ·have n:¬(V.str a=V.str b):=fun e=>h (V.str.inj e)
  rw[decide_eq_false h,decide_eq_false n]
section
variable {P:Program} {w:World} {K:JN} {mg:Str→Option Value} {base:Heap} {d:D}
abbrev FO{K:JN}{mg:Str→Option Value}{d:D}{base:Heap}(P:Program)(w:World)(_:WB K mg d base):=FnOk P w K mg base CX0
theorem Xp:kar ["parents","one","other","kind"] ["parents","one","other"] (kai khg):=by ac_rfl
theorem kkP(W:WB K mg d base):FO P w W 1 d.XF d.XG ["parents","one","other"] (kjg K):=by
 exists W.ZC.F,Xp
 ·obtain⟨a,ps,one,other,rfl,hS,hg,ho,k⟩:=h
  refine⟨_,kac (psl (i:=3) Xp.nd (pv 1))
   (kac (kkG PassesOwn.never (kan kdh (pv 3) ka3 (kat _))
   (kac (ps_if (kan op_eq (pv 3) (pv 2) (kat _)) (kaf (kap pe_bl)) (kaq))
   (kaf (psl (i:=3) Xp.nd (pe_ix (r:=rIxL K) kaQ (pv 0) (pv 3) (fun _ _=>rfl))))))
   (kaf (kap pe_bl))),?_⟩
  refine⟨_,rfl,?_⟩
  refine kky (fun σ H'=>∃o:Option Nat,σ=[some (.ref a),some (.int one),some (.int other),some (pV o)]∧H'=H∧(∀i,o=some i→i<ps.length)∧decide (other∈up ps one)=decide (other∈rest ps o))
   (fun σ _=>match σ with|[_,_,_,some (.int i)]=>i.toNat+1|_=>0) ⟨some one,rfl,rfl,fun i e=>by cases e;exact ho,rfl⟩ ?_ ?_
  ·rintro σ H' ⟨o,rfl,rfl,hb,he⟩
   refine⟨_,rfl,rfl,_,rfl,?_⟩
   cases o with
   |none=>
    show if(!decide (V.non=V.non))=true then _ else _
    rw[klF]
    refine iteF ?_
    show Q (.bl false) _
    have e:decide (other∈up ps one)=false:=by rw[he];simp[Kin.rest]
    rw[e] at k
    exact k
   | some i=>
    show if(!decide (V.int i=V.non))=true then _ else _
    rw[klG]
    refine iteT ?_
    have hi:=hb i rfl
    refine⟨_,rfl,_,rfl,rfl,_,rfl,?_⟩
    show if decide (V.int i=V.int other)=true then _ else _
    rw[eq_int]
    obtain⟨o,eo⟩:∃o,ps[i]?=some o:=⟨ps[i],by simp[hi]⟩
    refine ite2 (fun h=>?_) (fun h=>?_)
    ·have h':i=other:=of_decide_eq_true h
     subst h'
     have e:decide (i∈up ps one)=true:=by
      rw[he]
      show decide (i∈up ps i)=true
      rw[up_eq hg eo]
      simp
     rw[e] at k
     exact k
    ·have h':¬i=other:=fun z=>h (decide_eq_true z)
     refine⟨_,rfl,_,rfl,a,_,_,pV o,rfl,rfl,hS,kaX (by simp[eo]),?_⟩
     refine⟨⟨o,rfl,rfl,fun j e=>?_,?_⟩,?_⟩
     ·subst e
      have:=hg i j eo
      omega
     ·rw[he]
      show decide (other∈up ps i)=_
      rw[up_eq hg eo]
      have:¬other=i:=fun z=>h' z.symm
      simp[this]
     ·cases o with
      |none=>exact Nat.succ_pos _
      |some j=>
       have:=hg i j eo
       show((j:Int)).toNat+1<((i:Int)).toNat+1
       omega
  ·rintro σ H' Q' Q'' hq ⟨v,h1,h2,h3⟩
   exact⟨v,h1,h2,by obtain⟨b,e,q⟩:=h3;exact⟨b,e,hq _ _ q⟩⟩
theorem qE:kar ["cut","weights","total","parts","reached","given","weight","share"] ["cut","weights"] (kai khj):=by ac_rfl
theorem kkS(W:WB K mg d base):FO P w W 1 d.XD d.XE ["cut","weights"] (kjp K):=by
 exists W.QW.F,qE
 ·obtain⟨c,a,ws,rfl,hS,hn,hs,hc0,hc1,hl,k⟩:=h
  refine⟨_,kac (psl (i:=2) qE.nd (kao (r:=rSum K) (kcC rfl) (by rfl) W.B.sum b_sum (kaa (pv 1) kae)))
   (kac (ps_if (kan op_eq (pv 2) kah (kat _)) (kaf (kap (kbY (N:=["weight"]) (CompScope.plain rfl (by decide +kernel) (by decide +kernel) (by decide +kernel) (nd1 _)) rfl (kaG (K:=K) (pv 1)) (fun _ _ _ _=>pgn (i:=0) (nd1 _)) (fun _ _ _ _=>kah)))) (kaq))
   (kac (psl (i:=3) qE.nd (kaW kae))
   (kac (psl (i:=4) qE.nd kah)
   (kac (psl (i:=5) qE.nd kah)
   (kac (kbm PassesOwn.never rfl (kaG (K:=K) (pv 1)) (pgn (i:=6) qE.nd)
   (kac (kly (i:=4) qE.nd rfl (Or.inl rfl) (pv 6) klJ)
   (kac (psl (i:=7) qE.nd (pe_op kif (pe_op kcQ (pv 0) (pv 4)) (pv 2)))
   (kac (kaP (pe_bm NI NT NU ka1 (pv 3) (kaa (pe_op kd1 (pv 7) (pv 5)) kae)))
   (kaf (psl (i:=5) qE.nd (pv 7)))))))
   (kaf (kap (pv 3)))))))),?_⟩
  refine⟨_,rfl,a,ws,rfl,hS,_,rfl,rfl,_,rfl,?_⟩
  refine ite2 (fun h=>?_) (fun h=>?_)
  ·have h0:ws.sum=0:=by
    have e:V.int ws.sum=V.int 0:=of_decide_eq_true h
    injection e
   refine⟨_,rfl,a,rfl,⟨_,hS⟩,kba (xs:=ws.map V.int) (fun i σ ys H'=>H'=H∧ys=JS i (V.int 0)∧∃v,σ=[v]) ⟨rfl,rfl,none,rfl⟩ ?_ ?_ ?_ ?_⟩
   ·rw[JM]
    exact Nc (kaw hl)
   ·rintro i σ ys H' hi ⟨rfl,rfl,v,rfl⟩
    exact⟨hS,by simp⟩
   ·rintro i x σ ys H' hx ⟨rfl,rfl,v,rfl⟩
    exact⟨rfl,by rw[Ei],_,rfl⟩
   ·rintro σ ys H' ⟨rfl,rfl,v,rfl⟩ D hD
    have:=k D hD
    rw[kkV h0] at this
    rw[JM]
    exact this
  ·have h0:¬ws.sum=0:=fun e=>h (by rw[e];simp)
   have hpos:0<ws.sum:=by
    have:=kbe hn
    omega
   refine⟨by decide,fun p hp=>?_⟩
   have s1:∀o,Same H (upd H p o):=fun o=>kam hp
   refine⟨_,rfl,a,rfl,⟨_,(s1 _).seq hS⟩,kbd (K:=K) (a:=a) (xs:=ws.map V.int) (fun i σ H'=>H'=upd H p (.lst (((JQ i).map (part c ws)).map V.int))∧
    ∃(v6 v7:Option V),σ=[some (.int c),some (.ref a),some (.int ws.sum),some (.ref p),some (.int (pre ws i)),some (.int (c*pre ws i/ws.sum)),v6,v7])
    ⟨rfl,none,none,by simp[kia];rfl⟩ (fun i σ H' _ ⟨e,_⟩=>by rw[e];exact(s1 _).seq hS) ?_ ?_⟩
   ·rintro i x σ H' hi ⟨rfl,v6,v7,rfl⟩
    have hil:i<(ws.map V.int).length:=(JX.mp hi).1
    rw[JM] at hil
    obtain⟨z,ez,rfl⟩:∃z,ws[i]?=some z∧x=V.int z:=by
     rw[JY] at hi
     cases e:ws[i]? with
     |none=>rw[e] at hi;cases hi
     |some z=>rw[e] at hi;exact⟨z,rfl,(Option.some.inj hi).symm⟩
    have ep:=kem ez
    refine⟨_,rfl,_,rfl,_,_,rfl,rfl,?_⟩
    refine⟨_,rfl,_,rfl,_,_,rfl,rfl, .inl ⟨by omega,by omega⟩,_,rfl,_,_,rfl,rfl,⟨hpos,by omega⟩,?_⟩
    refine⟨_,rfl, .inl ⟨rfl,_,SqL.of kad⟩,_,rfl,_,rfl,_,_,rfl,rfl,p,_,_,rfl,rfl,kad,kaw (by simp;omega),?_⟩
    refine⟨_,rfl,?_,some (.int z),some (.int (c*(pre ws i+z)/ws.sum)),?_⟩
    ·rw[klW,NG,JW,JW]
     show upd H p (.lst (_++[V.int (c*(pre ws i+z)/ws.sum-c*pre ws i/ws.sum)]))=upd H p (.lst (_++[V.int (part c ws i)]))
     unfold part
     rw[ep]
    ·rw[ep]
     rfl
   ·rintro σ H' ⟨rfl,v6,v7,rfl⟩
    refine⟨_,rfl,?_⟩
    have:=k p hp
    rw[kjS h0] at this
    rw[JM]
    exact this
theorem kfL:kar ["self","kind","needs","most","member","once","lone"] ["self","kind","needs","most","member","once","lone"] (kai kaZ):=by ac_rfl
theorem kdy(W:WB K mg d base):FO P w W 1 d.Y5 d.qH ["self","kind","needs","most","member","once","lone"] (kej d.qe):=by
 exists W.Qy.F,kfL
 ·obtain⟨x,dx,M,rfl,hx,k⟩:=h
  refine⟨_,kac (kaD (pv 0) (pv 1) rfl)
   (kac (kaD (pv 0) (pv 2) rfl)
   (kac (kaD (pv 0) (pv 3) rfl)
   (kac (kaD (pv 0) (pv 4) rfl)
   (kac (kaD (pv 0) (pv 5) rfl)
   (kaf (kaD (pv 0) (pv 6) rfl)))))),?_⟩
  refine⟨_,rfl,_,rfl,x,d.qe,dx,[],rfl,hx,W.qe.cl,W.Qw,by decide,?_⟩
  refine⟨_,rfl,_,rfl,x,d.qe,dx,_,rfl,kad,W.qe.cl,W.Vd,few (JR (kal (n:=0) (JO _)) (by decide)),?_⟩
  refine⟨_,rfl,_,rfl,x,d.qe,dx,_,rfl,kad,W.qe.cl,W.Qx,few (JR (kal (kal (n:=0) (JO _))) (by decide)),?_⟩
  refine⟨_,rfl,_,rfl,x,d.qe,dx,_,rfl,kad,W.qe.cl,W.Ve,few (JR (kal (kal (kal (n:=0) (JO _)))) (by decide)),?_⟩
  refine⟨_,rfl,_,rfl,x,d.qe,dx,_,rfl,kad,W.qe.cl,W.Q4,few (JR (kal (kal (kal (kal (n:=0) (JO _))))) (by decide)),?_⟩
  refine⟨_,rfl,_,rfl,x,d.qe,dx,_,rfl,kad,W.qe.cl,W.Q5,few (JR (kal (kal (kal (kal (kal (n:=0) (JO _)))))) (by decide)),?_⟩
  refine k _ (But.trans (But.trans (But.trans (But.trans (But.trans kav kav) kav) kav) kav) kav) ⟨dx,_,kad,?_,?_,?_,?_,?_,?_⟩ <;> ac_nf
theorem kex:kar ["self","marks"] ["self","marks"] (kai kaN):=by ac_rfl
theorem ka9(W:WB K mg d base):FO P w W 3 d.QM d.QN ["self","marks"] (kfi K d.qe):=by
 exists W.qu.F,kex
 ·obtain⟨x,C,dx,fs,mv,rfl,hx,hC,hN,hl,hm,k⟩:=h
  exists Xq,kdy,W
  refine⟨_,kaf (kaD (pv 0) (ken (kan kfs (pv 1) ka3 (kat _)) (kkJ (W.Qy.mk' W.qe) Xq hr rfl W.qe.m W.b6_Marks_init (show Vals [.non, .int 0, .non, .bl false, .bl false, .bl false] [.none, .int 0 d.tok1_Marks_init, .none, .bool false, .bool false, .bool false] from(.cons rfl (.cons ⟨_,rfl⟩ (.cons rfl (.cons rfl (.cons rfl (.cons rfl .nil))))))) pass0) (pv 1)) rfl),?_⟩
  rcases hm with rfl|⟨mA,rfl⟩
  ·refine⟨_,rfl,rfl,_,rfl,iteT ?_⟩
   refine kij (M:=mks0) fun H1 mA s1 f1 hM=>?_
   refine⟨_,rfl,x,C,dx,fs,rfl,s1 _ _ hx,hC,hN,by omega,?_⟩
   have hne:mA≠x:=(kag hx f1).symm
   refine k _ mA ((But.of_same s1).trans (kav (nx (s1 _ _ hx)))) (.inr ⟨rfl,f1,?_⟩) kad
   exact hM.but hne (kav (nx (s1 _ _ hx)))
  ·refine⟨_,rfl,rfl,_,rfl,iteF ?_⟩
   refine⟨_,rfl,_,rfl,x,C,dx,fs,rfl,hx,hC,hN,by omega,?_⟩
   exact k _ mA kav (.inl rfl) kad
theorem khf:kar ["self","amount","marks"] ["self","amount","marks"] (kai kbk):=by ac_rfl
theorem khr(W:WB K mg d base):FO P w W 4 d.Y7 d.QO ["self","amount","marks"] (kdZ d.c_Off d.qe (fun so=>∃(a:Int),so=.off a)):=by
 refine FunD.ok W.Q7.F khf (fun vs H Q E h=>?_) (fun cdv A outer s H vs Q E hr h=>?_)
 ·obtain⟨x,dx,so,mv,⟨a,rfl⟩,rfl,_⟩:=h
  rfl
 ·obtain⟨x,dx,so,mv,⟨a,rfl⟩,rfl,hx,hm,k⟩:=h
  exists qF,ka9,W
  refine⟨_,kac (kaP (keF W.Qn qF hr rfl W.qA.m W.qu.F.kp W.qu.b .nil pass0 (kaa (pv 0) (kaa (pv 2) kae))))
   (kaf (kaD (pv 0) (pv 1) rfl)),?_⟩
  refine⟨_,rfl,_,rfl,x,d.c_Off,dx,[],mv,rfl,hx,W.c_Off.cl,W.Vf,by decide,hm,fun H1 mA b1 hM h1=>?_⟩
  refine⟨_,rfl,_,rfl,x,d.c_Off,dx,_,rfl,h1,W.c_Off.cl,W.Q6,few (JR (kal (n:=0) (JO _)) (by decide)),?_⟩
  refine k _ mA _ (b1.trans kav) ?_ kad ?_ ?_
  ·exact hM.but hx kav
  ·ac_nf
  ·show NP _ _=_
   ac_nf
theorem kfK:kar ["self","share","by_line","marks"] ["self","share","by_line","marks"] (kai kaY):=by ac_rfl
theorem kfY(W:WB K mg d base):FO P w W 4 d.Za d.Qs ["self","share","by_line","marks"] (kdZ d.qj d.qe (fun so=>∃(sh:Int)(bb:Bool),so=.share sh bb)):=by
 refine FunD.ok W.Q9.F kfK (fun vs H Q E h=>?_) (fun cdv A outer s H vs Q E hr h=>?_)
 ·obtain⟨x,dx,so,mv,⟨sh,bb,rfl⟩,rfl,_⟩:=h
  rfl
 ·obtain⟨x,dx,so,mv,⟨sh,bb,rfl⟩,rfl,hx,hm,k⟩:=h
  exists qF,ka9,W
  refine⟨_,kac (kaP (keF W.Qn qF hr rfl W.qA.m W.qu.F.kp W.qu.b .nil pass0 (kaa (pv 0) (kaa (pv 3) kae))))
   (kac (kaD (pv 0) (pv 1) rfl)
   (kaf (kaD (pv 0) (pv 2) rfl))),?_⟩
  refine⟨_,rfl,_,rfl,x,d.qj,dx,[],mv,rfl,hx,W.qj.cl,W.Vi,by decide,hm,fun H1 mA b1 hM h1=>?_⟩
  refine⟨_,rfl,_,rfl,x,d.qj,dx,_,rfl,h1,W.qj.cl,W.Q8,few (JR (kal (n:=0) (JO _)) (by decide)),?_⟩
  refine⟨_,rfl,_,rfl,x,d.qj,dx,_,rfl,kad,W.qj.cl,W.Vh,few (JR (kal (kal (n:=0) (JO _))) (by decide)),?_⟩
  refine k _ mA _ ((b1.trans kav).trans kav) ?_ kad ?_ ?_
  ·exact hM.but hx (But.trans kav kav)
  ·ac_nf
  ·exact⟨by ac_nf,by ac_nf⟩
theorem kea:kar ["self","many","marks"] ["self","many","marks"] (kai kaH):=by ac_rfl
theorem keh(W:WB K mg d base):FO P w W 4 d.Zb d.QP ["self","many","marks"] (kdZ d.ql d.qe (fun so=>∃(n:Int),so=.cheap n)):=by
 refine FunD.ok W.Xb.F kea (fun vs H Q E h=>?_) (fun cdv A outer s H vs Q E hr h=>?_)
 ·obtain⟨x,dx,so,mv,⟨n,rfl⟩,rfl,_⟩:=h
  rfl
 ·obtain⟨x,dx,so,mv,⟨n,rfl⟩,rfl,hx,hm,k⟩:=h
  exists qF,ka9,W
  refine⟨_,kac (kaP (keF W.Qn qF hr rfl W.qA.m W.qu.F.kp W.qu.b .nil pass0 (kaa (pv 0) (kaa (pv 2) kae))))
   (kaf (kaD (pv 0) (pv 1) rfl)),?_⟩
  refine⟨_,rfl,_,rfl,x,d.ql,dx,[],mv,rfl,hx,W.ql.cl,W.Vk,by decide,hm,fun H1 mA b1 hM h1=>?_⟩
  refine⟨_,rfl,_,rfl,x,d.ql,dx,_,rfl,h1,W.ql.cl,W.Xa,few (JR (kal (n:=0) (JO _)) (by decide)),?_⟩
  refine k _ mA _ (b1.trans kav) ?_ kad ?_ ?_
  ·exact hM.but hx kav
  ·ac_nf
  ·show NP _ _=_
   ac_nf
theorem ke7:kar ["self","many","price","marks"] ["self","many","price","marks"] (kai kaR):=by ac_rfl
theorem kfd(W:WB K mg d base):FO P w W 4 d.Zc d.QQ ["self","many","price","marks"] (kdZ d.qk d.qe (fun so=>∃(n:Int)(pp:Int),so=.bund n pp)):=by
 refine FunD.ok W.Xc.F ke7 (fun vs H Q E h=>?_) (fun cdv A outer s H vs Q E hr h=>?_)
 ·obtain⟨x,dx,so,mv,⟨n,pp,rfl⟩,rfl,_⟩:=h
  rfl
 ·obtain⟨x,dx,so,mv,⟨n,pp,rfl⟩,rfl,hx,hm,k⟩:=h
  exists qF,ka9,W
  refine⟨_,kac (kaP (keF W.Qn qF hr rfl W.qA.m W.qu.F.kp W.qu.b .nil pass0 (kaa (pv 0) (kaa (pv 3) kae))))
   (kac (kaD (pv 0) (pv 1) rfl)
   (kaf (kaD (pv 0) (pv 2) rfl))),?_⟩
  refine⟨_,rfl,_,rfl,x,d.qk,dx,[],mv,rfl,hx,W.qk.cl,W.Vo,by decide,hm,fun H1 mA b1 hM h1=>?_⟩
  refine⟨_,rfl,_,rfl,x,d.qk,dx,_,rfl,h1,W.qk.cl,W.Vm,few (JR (kal (n:=0) (JO _)) (by decide)),?_⟩
  refine⟨_,rfl,_,rfl,x,d.qk,dx,_,rfl,kad,W.qk.cl,W.Vn,few (JR (kal (kal (n:=0) (JO _))) (by decide)),?_⟩
  refine k _ mA _ ((b1.trans kav).trans kav) ?_ kad ?_ ?_
  ·exact hM.but hx (But.trans kav kav)
  ·ac_nf
  ·exact⟨by ac_nf,by ac_nf⟩
theorem keb:kar ["self","marks"] ["self","marks"] (kai kaI):=by ac_rfl
theorem kei(W:WB K mg d base):FO P w W 4 d.Zd d.QR ["self","marks"] (kdZ d.qo d.qe (fun so=>so=.carr)):=by
 exists W.Xd.F,keb
 ·obtain⟨x,dx,so,mv,rfl,rfl,hx,hm,k⟩:=h
  exists qF,ka9,W
  refine⟨_,kaf (kaP (keF W.Qn qF hr rfl W.qA.m W.qu.F.kp W.qu.b .nil pass0 (kaa (pv 0) (kaa (pv 1) kae)))),?_⟩
  refine⟨_,rfl,_,rfl,x,d.qo,dx,[],mv,rfl,hx,W.qo.cl,W.Vp,by decide,hm,fun H1 mA b1 hM h1=>?_⟩
  refine k _ mA _ b1 hM h1 ?_ trivial
  ac_nf
theorem kgn:kar ["self","kind","price","many","special"] ["self","kind","price","many","special"] (kai ka5):=by ac_rfl
theorem kgy(W:WB K mg d base):FO P w W 1 d.Ze d.QS ["self","kind","price","many","special"] (kg9 d.qf):=by
 exists W.Xg.F,kgn
 ·obtain⟨x,dx,r,rfl,hx,k⟩:=h
  refine⟨_,kac (kaD (pv 0) (pv 1) rfl)
   (kac (kaD (pv 0) (pv 2) rfl)
   (kac (kaD (pv 0) (pv 3) rfl)
   (kaf (kaD (pv 0) (pv 4) rfl)))),?_⟩
  refine⟨_,rfl,_,rfl,x,d.qf,dx,[],rfl,hx,W.qf.cl,W.Vq,by decide,?_⟩
  refine⟨_,rfl,_,rfl,x,d.qf,dx,_,rfl,kad,W.qf.cl,W.Xe,few (JR (kal (n:=0) (JO _)) (by decide)),?_⟩
  refine⟨_,rfl,_,rfl,x,d.qf,dx,_,rfl,kad,W.qf.cl,W.Qf,few (JR (kal (kal (n:=0) (JO _))) (by decide)),?_⟩
  refine⟨_,rfl,_,rfl,x,d.qf,dx,_,rfl,kad,W.qf.cl,W.Xf,few (JR (kal (kal (kal (n:=0) (JO _)))) (by decide)),?_⟩
  refine k _ (But.trans (But.trans (But.trans kav kav) kav) kav) ⟨dx,_,kad,?_,?_,?_,?_⟩
  ·rw[kab,if_neg (by decide +kernel),kab,if_neg (by decide +kernel),kab,if_neg (by decide +kernel),kab,if_pos rfl]
  ·rw[kab,if_neg (by decide +kernel),kab,if_neg (by decide +kernel),kab,if_pos rfl]
  ·rw[kab,if_neg (by decide +kernel),kab,if_pos rfl]
  ·rw[kab,if_pos rfl]
theorem ke8:kar ["self","lines","carriage","member"] ["self","lines","carriage","member"] (kai kaS):=by ac_rfl
theorem kfe(W:WB K mg d base):FO P w W 1 d.Zf d.Qt ["self","lines","carriage","member"] (khb K d.qh):=by
 exists W.Xi.F,ke8
 ·obtain⟨x,dx,l,cg,m,xs,rfl,hx,hl,k⟩:=h
  refine⟨_,kac (kaD (pv 0) (kaJ (r:=ka6 K) kaB (by rfl) W.B.list kbt (kaa (pv 1) kae)) rfl)
   (kac (kaD (pv 0) (pv 2) rfl)
   (kaf (kaD (pv 0) (pv 3) rfl))),?_⟩
  refine⟨_,rfl,l,_,rfl, .inl hl,fun l' hl'=>?_⟩
  have s1:=kam (o:=.lst xs) hl'
  have nlx:l'≠x:=fun e=>by
   rw[e,hx] at hl'
   cases hl'
  refine⟨_,rfl,x,d.qh,dx,[],rfl,s1 _ _ hx,W.qh.cl,W.Qz,by decide,?_⟩
  refine⟨_,rfl,_,rfl,x,d.qh,dx,_,rfl,kad,W.qh.cl,W.Vr,few (JR (kal (n:=0) (JO _)) (by decide)),?_⟩
  refine⟨_,rfl,_,rfl,x,d.qh,dx,_,rfl,kad,W.qh.cl,W.Xh,few (JR (kal (kal (n:=0) (JO _))) (by decide)),?_⟩
  refine k _ l' ((((But.of_same s1).trans kav).trans kav).trans kav) hl' ?_ ⟨dx,_,kad,?_,?_,?_⟩
  ·rw[kaj nlx,kaj nlx,kaj nlx,kad]
  ·rw[kab,if_neg (by decide +kernel),kab,if_neg (by decide +kernel),kab,if_pos rfl]
  ·rw[kab,if_neg (by decide +kernel),kab,if_pos rfl]
  ·rw[kab,if_pos rfl]
theorem kdL:kar ["line","member"] ["line","member"] (kai kbG):=by ac_rfl
theorem kdR(W:WB K mg d base):FO P w W 1 d.XH d.XI ["line","member"] (kjj d.qf):=by
 exists W.ZD.F,kdL
 ·obtain⟨x,m,r,rfl,⟨dx,fs,hx,lk,lp,lm,ls⟩,k⟩:=h
  refine⟨_,kac (ps_if (PW.pt (ka7 (kaO (pv 1)) (kaV (kan kdh (kak (K:=K) (pv 0) rfl) ka3 (kat _))))) (kaf (kap (kak (K:=K) (pv 0) rfl))) (kaq))
   (kaf (kap (kak (K:=K) (pv 0) rfl))),?_⟩
  refine⟨_,rfl,m,rfl,?_⟩
  cases m with
  |false=>
   refine iteF (iteF ⟨_,rfl,x,d.qf,dx,fs,_,rfl,hx,W.qf.cl,W.Xe,lp,?_⟩)
   exact k
  | true=>
   refine iteT ⟨_,rfl,x,d.qf,dx,fs,_,rfl,hx,W.qf.cl,W.Xf,ls,rfl,_,rfl,?_⟩
   cases e:r.ex with
   | none=>
    rw[e] at ls
    show if(!decide (V.non=V.non))=true then _ else _
    rw[show(!decide (V.non=V.non))=false by simp]
    refine iteF ⟨_,rfl,x,d.qf,dx,fs,_,rfl,hx,W.qf.cl,W.Xe,lp,?_⟩
    have ep:prc true r=r.pr:=by
     unfold prc
     rw[if_pos rfl,e]
     rfl
    rw[ep] at k
    exact k
   | some z=>
    rw[e] at ls
    show if(!decide (V.int z=V.non))=true then _ else _
    rw[show(!decide (V.int z=V.non))=true by simp]
    refine iteT ⟨_,rfl,x,d.qf,dx,fs,_,rfl,hx,W.qf.cl,W.Xf,ls,?_⟩
    have ep:prc true r=z:=by
     unfold prc
     rw[if_pos rfl,e]
     rfl
    rw[ep] at k
    exact k
theorem QC:kar ["self","basket","number","line","price"] ["self","basket"] (kai kbW):=by ac_rfl
theorem kcF(W:WB K mg d base):FO P w W 2 d.Zg d.Zh ["self","basket"] (kdn d.qf d.qh d.qc):=by
 exists W.Qh.F,QC
 ·obtain⟨x,dx,b,l,cg,m,ls,rs,rfl,hx,⟨dxb,fsb,hb,lbl,lbc,lbm⟩,hl,hL,hn,hok,k⟩:=h
  exists Ue,kdR,W
  refine⟨_,kac (kaD (pv 0) (kaW kae) rfl)
   (kac (kaD (pv 0) (kaW kae) rfl)
   (kac (kaD (pv 0) (kak (K:=K) (pv 1) rfl) rfl)
   (kac (kaD (pv 0) (kaW kae) rfl)
   (kaf (kbm PassesOwn.never rfl (kho rfl W.B.enum (kaa (kak (K:=K) (pv 1) rfl) kae)) (kbi (K:=K) (n:=2) rfl (kax (pgn (i:=2) QC.nd) (kax (pgn (i:=3) QC.nd) kbh)))
   (kac (psl (i:=4) QC.nd (pcl Ue hr W.ZD (kaa (pv 3) (kaa (kak (K:=K) (pv 1) rfl) kae))))
   (kac (kaP (pe_bm NI Dd De kgA (kak (K:=K) (pv 0) rfl) (kaa (pe_op klD (kaW (kaa (pv 2) kae)) (kak (K:=K) (pv 3) rfl)) kae)))
   (kac (kaP (pe_bm NI Dd De kgA (kak (K:=K) (pv 0) rfl) (kaa (pe_op klD (kaW (kaa (pv 4) kae)) (kak (K:=K) (pv 3) rfl)) kae)))
   (kaf (kaP (pe_bm NI NT NU ka1 (kak (K:=K) (pv 0) rfl) (kaa pe_bl kae)))))))))))),?_⟩
  have nbx:b≠x:=ne_of hb hx (by
   intro z
   injection z with _ _ z
   rw[z] at lbl
   cases lbl)
  have nlx:l≠x:=ne_of hl hx (by intro z;cases z)
  exists Y4
  refine⟨by decide,fun o ho=>?_⟩
  have nox:o≠x:=(kag hx ho).symm
  symm
  exists Y4
  refine⟨_,rfl,x,d.qc,dx,[],rfl,kam ho _ _ hx,W.qc.cl,W.qL,by decide,?_⟩
  have b1:But x H (upd (upd H o (.lst [])) x (.ins d.qc dx (putF "owners" (.ref o) []))):=(But.of_same (kam ho)).trans kav
  symm
  exists Y4
  refine⟨by decide,fun p hp=>?_⟩
  have npx:p≠x:=fun e=>by
   rw[e,kad] at hp
   cases hp
  have nop:o≠p:=fun e=>by
   rw[←e,kaj nox,kad] at hp
   cases hp
  have hp0:H p=none:=by
   cases e:H p with
   |none=>rfl
   |some u=>
    obtain⟨u',e'⟩:=kf4 (b1 p u npx e)
    rw[e'] at hp
    cases hp
  symm
  exists Y4
  refine⟨_,rfl,x,d.qc,dx,_,rfl,kam hp _ _ kad,W.qc.cl,W.qx,few (JR (kal (n:=0) (JO _)) (by decide)),?_⟩
  have b2:=(b1.same (kam (o:=.lst []) hp)).trans (kav (o:=.ins d.qc dx (putF "prices" (.ref p) (putF "owners" (.ref o) []))))
  symm
  exists Y4
  refine⟨_,rfl,b,d.qh,dxb,fsb,_,rfl,b2 b _ nbx hb,W.qh.cl,W.Vr,lbc,_,rfl,x,d.qc,dx,_,rfl,kad,W.qc.cl,W.qM,few (JR (kal (kal (n:=0) (JO _))) (by decide)),?_⟩
  have b3:=b2.trans (kav (o:=.ins d.qc dx (putF "carriage" (.int cg) (putF "prices" (.ref p) (putF "owners" (.ref o) [])))))
  symm
  exists Y4
  refine⟨by decide,fun mk hm=>?_⟩
  have nmx:mk≠x:=fun e=>by
   rw[e,kad] at hm
   cases hm
  have hm0:H mk=none:=by
   cases e:H mk with
   |none=>rfl
   |some u=>
    obtain⟨u',e'⟩:=kf4 (b3 mk u nmx e)
    rw[e'] at hm
    cases hm
  have nom:o≠mk:=fun e=>by
   rw[←e,kaj nox,kaj nox,kaj nop,kaj nox,kad] at hm
   cases hm
  have npm:p≠mk:=fun e=>by
   rw[←e,kaj npx,kaj npx,kad] at hm
   cases hm
  symm
  exists Y4
  refine⟨_,rfl,x,d.qc,dx,_,rfl,kam hm _ _ kad,W.qc.cl,W.Qg,few (JR (kal (kal (kal (n:=0) (JO _)))) (by decide)),?_⟩
  have b4:=(b3.same (kam (o:=.lst []) hm)).trans (kav (o:=.ins d.qc dx (putF "marked" (.ref mk) (putF "carriage" (.int cg) (putF "prices" (.ref p) (putF "owners" (.ref o) []))))))
  have Di:Ds H x o p mk:=⟨ho,hp0,hm0,nox,npx,nmx,nop,nom,npm⟩
  have Z0:S3 H x d.qc dx (putF "marked" (.ref mk) (putF "carriage" (.int cg) (putF "prices" (.ref p) (putF "owners" (.ref o) [])))) o p mk [] [] [] (upd (upd (upd (upd (upd (upd (upd H o (.lst [])) x (.ins d.qc dx (putF "owners" (.ref o) []))) p (.lst [])) x (.ins d.qc dx (putF "prices" (.ref p) (putF "owners" (.ref o) []))))
    x (.ins d.qc dx (putF "carriage" (.int cg) (putF "prices" (.ref p) (putF "owners" (.ref o) []))))) mk (.lst [])) x (.ins d.qc dx (putF "marked" (.ref mk) (putF "carriage" (.int cg) (putF "prices" (.ref p) (putF "owners" (.ref o) [])))))):=by
   symm
   exists Y6
   refine⟨b4,kad,?_,?_,?_⟩
   ·rw[kaj nox,kaj nom,kaj nox,kaj nox,kaj nop,kaj nox,kad]
   ·rw[kaj npx,kaj npm,kaj npx,kaj npx,kad]
   ·rw[kaj nmx,kad]
  have l1:(putF "marked" (.ref mk) (putF "carriage" (.int cg) (putF "prices" (.ref p) (putF "owners" (.ref o) [])))).lookup ("owners" :Str)=some (.ref o):=by
   rw[kab,if_neg (by decide +kernel),kab,if_neg (by decide +kernel),kab,if_neg (by decide +kernel),kab,if_pos rfl]
  have l2:(putF "marked" (.ref mk) (putF "carriage" (.int cg) (putF "prices" (.ref p) (putF "owners" (.ref o) [])))).lookup ("prices" :Str)=some (.ref p):=by
   rw[kab,if_neg (by decide +kernel),kab,if_neg (by decide +kernel),kab,if_pos rfl]
  have l3:(putF "marked" (.ref mk) (putF "carriage" (.int cg) (putF "prices" (.ref p) (putF "owners" (.ref o) [])))).lookup ("carriage" :Str)=some (.int cg):=by
   rw[kab,if_neg (by decide +kernel),kab,if_pos rfl]
  have l4:(putF "marked" (.ref mk) (putF "carriage" (.int cg) (putF "prices" (.ref p) (putF "owners" (.ref o) [])))).lookup ("marked" :Str)=some (.ref mk):=by
   rw[kab,if_pos rfl]
  have l5:(putF "marked" (.ref mk) (putF "carriage" (.int cg) (putF "prices" (.ref p) (putF "owners" (.ref o) [])))).lookup ("whole" :Str)=none:=by
   rw[kab,if_neg (by decide +kernel),kab,if_neg (by decide +kernel),kab,if_neg (by decide +kernel),kab,if_neg (by decide +kernel)]
   rfl
  have lfs:(putF "marked" (.ref mk) (putF "carriage" (.int cg) (putF "prices" (.ref p) (putF "owners" (.ref o) [])))).length≤10:=JR (kal (kal (kal (kal (n:=0) (JO _))))) (by decide)
  generalize putF "marked" (.ref mk) (putF "carriage" (.int cg) (putF "prices" (.ref p) (putF "owners" (.ref o) [])))=fs at *
  generalize (upd (upd (upd (upd (upd (upd (upd H o (.lst [])) x (.ins d.qc dx (putF "owners" (.ref o) []))) p (.lst [])) x (.ins d.qc dx (putF "prices" (.ref p) (putF "owners" (.ref o) []))))
    x (.ins d.qc dx (putF "carriage" (.int cg) (putF "prices" (.ref p) (putF "owners" (.ref o) []))))) mk (.lst [])) x (.ins d.qc dx fs))=Hs at *
  symm
  exists Y4
  refine⟨_,rfl,b,d.qh,dxb,fsb,_,rfl,Z0.bt b _ nbx hb,W.qh.cl,W.Qz,lbl,l,_,rfl,Z0.bt l _ nlx hl,kir (xs:=ls.map V.ref) (fun i σ H'=>(∃v2 v3 v4:Option V,σ=[some (.ref x),some (.ref b),v2,v3,v4])∧
   S3 H x d.qc dx fs o p mk ((own (rs.take i)).map V.int) ((prs m (rs.take i)).map V.int) (JS i (.bl false)) H') ⟨⟨none,none,none,rfl⟩,Z0⟩ (fun i σ H' _ ⟨_,Z⟩=>Z.bt l _ nlx hl) ?_ ?_⟩
  ·rintro i y t σ H1 hy ⟨⟨v2,v3,v4,rfl⟩,Z⟩ ht
   have hll:=hL.len
   have hil:i<(ls.map V.ref).length:=(JX.mp hy).1
   rw[JM] at hil
   obtain⟨lx,el,rfl⟩:∃lx,ls[i]?=some lx∧y=V.ref lx:=by
    rw[JY] at hy
    cases e:ls[i]? with
    |none=>rw[e] at hy;cases hy
    |some z=>rw[e] at hy;exact⟨z,rfl,(Option.some.inj hy).symm⟩
   obtain⟨r,er⟩:∃r,rs[i]?=some r:=⟨rs[i]'(by omega),by simp[show i<rs.length by omega]⟩
   have hr':r.Ok:=hok r (JT er)
   obtain⟨dxl,fsl,hlx,lk1,lk2,lk3,lk4⟩:=hL.get el er
   have nlxx:lx≠x:=ne_of hlx hx (by
    intro z
    injection z with _ _ z
    rw[z] at lk1
    cases lk1)
   have hmn0:=hr'.mn0
   have hmn1:=hr'.mn1
   have Z1:=Z.same (kam (o:=.tup [.int (i:Nat),V.ref lx]) ht)
   have lo1:((own (rs.take i)).map V.int).length≤720:=by
    rw[JM]
    have:=kjN (rs.take i) fun r hr=>hok r (EL hr)
    rw[Nl] at this
    omega
   have lp1:((prs m (rs.take i)).map V.int).length≤720:=by
    rw[JM]
    have:=kjH m (rs.take i) fun r hr=>hok r (EL hr)
    rw[Nl] at this
    omega
   symm
   exists Y6
   refine⟨t,_,rfl,SqT.of kad,rfl,_,_,rfl,_,_,rfl,rfl,?_⟩
   nofun
   exists Y6
   refine⟨_,rfl,_,rfl,b,d.qh,dxb,fsb,_,rfl,Z1.bt b _ nbx hb,W.qh.cl,W.Xh,lbm,lx,m,r,rfl,⟨dxl,fsl,Z1.bt lx _ nlxx hlx,lk1,lk2,lk3,lk4⟩,?_⟩
   nofun
   exists Y6
   refine⟨_,rfl,x,d.qc,dx,fs,_,rfl,Z1.ob,W.qc.cl,W.qL,l1, .inl ⟨rfl,_,SqL.of Z1.ho⟩,_,rfl,(by show 1≤sizeLine;decide),fun t1 ht1=>?_⟩
   have Z2:=Z1.same (kam (o:=.lst [V.int (i:Nat)]) ht1)
   nofun
   exists Y6
   refine⟨_,rfl,lx,d.qf,dxl,fsl,_,rfl,Z2.bt lx _ nlxx hlx,W.qf.cl,W.Qf,lk3,t1,_,_,rfl,rfl,kad,by omega,by omega,Nc (kaw (by simp;omega)),fun t2 ht2=>?_⟩
   have Z3:=Z2.same (kam (o:=.lst (JS r.mn.toNat [V.int (i:Nat)]).flatten) ht2)
   nofun
   exists Y6
   refine⟨o,t2,_,_,rfl,rfl,Z3.ho,kad,Nc (kaw (by rw[rep1,Mg];omega)),?_⟩
   have Z4:=Z3.setO (d:=(own (rs.take i)).map V.int++(JS r.mn.toNat [V.int (i:Nat)]).flatten) Di
   nofun
   exists Y6
   refine⟨_,rfl,x,d.qc,dx,fs,_,rfl,Z4.ob,W.qc.cl,W.qx,l2, .inl ⟨rfl,_,SqL.of Z4.hp⟩,_,rfl,(by show 1≤sizeLine;decide),fun t3 ht3=>?_⟩
   have Z5:=Z4.same (kam (o:=.lst [V.int (prc m r)]) ht3)
   nofun
   exists Y6
   refine⟨_,rfl,lx,d.qf,dxl,fsl,_,rfl,Z5.bt lx _ nlxx hlx,W.qf.cl,W.Qf,lk3,t3,_,_,rfl,rfl,kad,by omega,by omega,Nc (kaw (by simp;omega)),fun t4 ht4=>?_⟩
   have Z6:=Z5.same (kam (o:=.lst (JS r.mn.toNat [V.int (prc m r)]).flatten) ht4)
   nofun
   exists Y6
   refine⟨p,t4,_,_,rfl,rfl,Z6.hp,kad,Nc (kaw (by rw[rep1,Mg];omega)),?_⟩
   have Z7:=Z6.setP (d:=(prs m (rs.take i)).map V.int++(JS r.mn.toNat [V.int (prc m r)]).flatten) Di
   nofun
   exists Y6
   refine⟨_,rfl,x,d.qc,dx,fs,_,rfl,Z7.ob,W.qc.cl,W.Qg,l4, .inl ⟨rfl,_,SqL.of Z7.hm⟩,mk,_,_,rfl,rfl,Z7.hm,kaw (by simp;omega),?_⟩
   have Z8:=Z7.setM (d:=JS i (V.bl false)++[V.bl false]) Di
   nofun
   exists Y6
   refine⟨⟨_,_,_,rfl⟩,?_⟩
   have e1:(own (rs.take i)).map V.int++(JS r.mn.toNat [V.int (i:Nat)]).flatten=(own (rs.take (i+1))).map V.int:=by
    rw[take_snoc er,kkL,JW,rep1,kjB,Nl,Eg (by omega)]
   have e2:(prs m (rs.take i)).map V.int++(JS r.mn.toNat [V.int (prc m r)]).flatten=(prs m (rs.take (i+1))).map V.int:=by
    rw[take_snoc er,kkH,JW,rep1,kjB]
   have e3:JS i (V.bl false)++[V.bl false]=JS (i+1) (V.bl false):=by rw[Ei]
   rw[←e1,←e2,←e3]
   nofun
   exact Z8
  ·rintro σ H' ⟨⟨v2,v3,v4,rfl⟩,Z⟩
   have hll:=hL.len
   have e:(ls.map V.ref).length=rs.length:=by rw[JM,hll]
   rw[e,NB] at Z
   nofun
   exact k H' o p mk Z.bt ho hp0 hm0 ⟨dx,fs,Z.ob,l1,l2,l3,l4,l5⟩ Z.ho Z.hp Z.hm ⟨dx,fs,Z.ob,lfs⟩
theorem kdM:kar ["self"] ["self"] (kai kbJ):=by ac_rfl
theorem kbc(W:WB K mg d base):FO P w W 1 d.Zi d.Zj ["self"] (kjd d.qc):=by
 exists W.qC.F,kdM
 ·obtain⟨x,o,p,mk,cg,ns,rfl,⟨dx,fs,hx,l1,l2,l3,l4,l5⟩,hp,k⟩:=h
  refine⟨_,kaf (kap (pe_op kcR (kao (r:=rSum K) (kcC rfl) (by rfl) W.B.sum b_sum (kaa (kak (K:=K) (pv 0) rfl) kae)) (kak (K:=K) (pv 0) rfl))),?_⟩
  exact⟨_,rfl,x,d.qc,dx,fs,_,rfl,hx,W.qc.cl,W.qx,l2,p,ns,rfl,SqL.of hp,_,rfl,x,d.qc,dx,fs,_,rfl,hx,W.qc.cl,W.qM,l3,_,_,rfl,rfl,k⟩
inductive kls (K:JN) (CM:Addr) (vs:List V) (H:Hp) (Q:VK) (E_:XK):Prop
 |ct (mA a:Addr)(M:Mks)(ps:List (Option Nat))(kn:Nat)(mk:Bool)(_:vs=[.ref mA, .ref a, .int kn, .bl mk])(_:MksIs CM H mA M)(_:SqL K H a (ps.map pV))(_:Good ps)(_:kn<ps.length)(_:Q (.bl (kHit ps M.kind kn&&(!M.lone|| !mk))) H):kls K CM vs H Q E_
theorem kl3:kar ["marks","parents","kind","marked"] ["marks","parents","kind","marked"] (kai kjw):=by ac_rfl
theorem kmg(W:WB K mg d base):FO P w W 2 d.XO d.XQ ["marks","parents","kind","marked"] (kls K d.qe):=by
 exists W.ZE.F,kl3
 ·obtain⟨mA,a,M,ps,kn,mk,rfl,⟨dx,fs,hm,l1,l2,l3,l4,l5,l6⟩,hS,hg,hk,k⟩:=h
  exists Ug,kkP,W
  refine⟨_,kac (kbX (ps_if (PW.pt (ka7 (kaO (kak (K:=K) (pv 0) rfl)) (kaV (kaO (pv 3))))) (kaf (kap pe_bl)) (kaq)))
   (kaf (kap (pe_or (kdg kfs (kak (K:=K) (pv 0) rfl) ka3 (kat _)) (klA (pcl Ug hr W.ZC (kaa (pv 1) (kaa (pv 2) (kaa (kak (K:=K) (pv 0) rfl) kae)))))))),?_⟩
  refine⟨fun σ' H'=>σ'=[some (.ref mA),some (.ref a),some (.int kn),some (.bl mk)]∧H'=H∧(!M.lone|| !mk)=true,⟨_,rfl,mA,d.qe,dx,fs,_,rfl,hm,W.qe.cl,W.Q5,l6,M.lone,rfl,?_⟩,?_⟩
  ·cases e:M.lone with
   |false=>exact iteF (iteF ⟨rfl,rfl,rfl⟩)
   | true=>
    refine iteT ⟨_,rfl,mk,rfl,?_⟩
    cases mk with
    |false=>exact iteF ⟨rfl,rfl,rfl⟩
    |true=>
     refine iteT ?_
     rw[e,show(kHit ps M.kind kn&&(!true|| !true))=false by simp] at k
     exact k
  ·rintro σ' H' ⟨rfl,rfl,hh⟩
   rw[hh,EC] at k
   cases ek:M.kind with
   |none=>
    rw[ek] at l1 k
    refine⟨_,rfl,mA,d.qe,dx,fs,_,rfl,hm,W.qe.cl,W.Qw,l1,rfl,_,rfl,?_⟩
    show if decide (V.non=V.non)=true then _ else _
    rw[show decide (V.non=V.non)=true by simp]
    exact iteT k
   |some kk=>
    rw[ek] at l1 k
    refine⟨_,rfl,mA,d.qe,dx,fs,_,rfl,hm,W.qe.cl,W.Qw,l1,rfl,_,rfl,?_⟩
    show if decide (V.int (kk:Nat)=V.non)=true then _ else _
    rw[show decide (V.int (kk:Nat)=V.non)=false by simp]
    exact iteF ⟨_,rfl,_,rfl,_,rfl,mA,d.qe,dx,fs,_,rfl,hm,W.qe.cl,W.Qw,l1,a,ps,kn,kk,rfl,hS,hg,hk,k⟩
theorem Vv:kar ["voucher","parents","basket","standing","fitting"] ["voucher","parents","basket","standing"] (kai keA):=by ac_rfl
theorem kfU(W:WB K mg d base):FO P w W 3 d.XJ d.XM ["voucher","parents","basket","standing"] (kjs K d):=by
 exists W.Qu.F,Vv
 ·obtain⟨v,a,b,x,Vc,ps,B,S,rfl,hV,hA,hB,hS,wf,vo,k⟩:=h
  obtain⟨mA,dxv,fsv,hv,lvm,_,hM,hh,htb⟩:=id hV
  obtain⟨l,ls,⟨dxb,fsb,hb,lb1,lb2,lb3⟩,hl,hL⟩:=id hB
  obtain⟨o,p,mk,⟨dxs,fss,hx,l1,l2,l3,l4,l5⟩,ho,hp,hmk⟩:=id hS
  exists Uh,kmg,W
  refine⟨_,kac (psl (i:=4) Vv.nd (kbY (N:=["line","marked","voucher","parents"]) (CompScope.of (N:=["line","marked","voucher","parents"]) (cap:=[none,none,some 0,some 1]) (kai keA).names ["voucher","parents","basket","standing","fitting"] rfl rfl (by decide +kernel)) rfl (kfR rfl W.B.zip (kaa (kak (K:=K) (pv 2) rfl) (kaa (kak (K:=K) (pv 3) rfl) kae))) (fun _ _ _ _=>kbi (K:=K) (n:=2) rfl (kax (pgn (i:=0) (show(["line","marked","voucher","parents"]:List Str).Nodup by decide +kernel)) (kax (pgn (i:=1) (show(["line","marked","voucher","parents"]:List Str).Nodup by decide +kernel)) kbh))) (fun _ _ _ _=>(pcl Uh hr W.ZE (kaa (kak (K:=K) (pv 2) rfl) (kaa (pv 3) (kaa (kak (K:=K) (pv 0) rfl) (kaa (pv 1) kae))))))))
   (kaf (kap (kid (N:=["piece","owner","fitting"]) (CompScope.of (N:=["piece","owner","fitting"]) (cap:=[none,none,some 4]) (kai keA).names ["voucher","parents","basket","standing","fitting"] rfl rfl (by decide +kernel)) rfl (kho rfl W.B.enum (kaa (kak (K:=K) (pv 3) rfl) kae)) (fun _ _ _ _=>kbi (K:=K) (n:=2) rfl (kax (pgn (i:=0) (show(["piece","owner","fitting"]:List Str).Nodup by decide +kernel)) (kax (pgn (i:=1) (show(["piece","owner","fitting"]:List Str).Nodup by decide +kernel)) kbh))) (fun _ _ _ _=>kjJ (kaO (pe_ix (r:=rIxL K) kaQ (pv 2) (pv 1) (fun _ _=>rfl)))) (fun _ _ _ _=>(pv 0))))),?_⟩
  have np:=wf.np
  have nl:=wf.nl
  have lenL:=hL.len
  have lenM:=wf.lm
  have emin:min (ls.map V.ref).length (S.mkd.map V.bl).length=B.rs.length:=by rw[JM,JM,lenL,lenM,MJ]
  refine⟨_,rfl,b,d.qh,dxb,fsb,_,rfl,hb,W.qh.cl,W.Qz,lb1,_,rfl,x,d.qc,dxs,fss,_,rfl,hx,W.qc.cl,W.Qg,l4,l,mk,_,_,rfl,hl,hmk,
   kiz (xs:=ls.map V.ref) (ys:=S.mkd.map V.bl) (fun i σ zs H'=>Same H H'∧zs=((JQ i).map fun l=>hits ps (kds B) Vc.ms.kind Vc.ms.lone S.mkd l).map V.bl∧∃v0 v1:Option V,σ=[v0,v1,some (.ref v),some (.ref a)])
    ⟨Same.refl _,rfl,none,none,rfl⟩ (by rw[emin];exact Nc (kaw (by omega))) (fun i σ zs H' _ h=>⟨h.1 _ _ hl,h.1 _ _ hmk,by rw[h.2.1];simp⟩) ?_ ?_⟩
  ·rintro i y m t σ zs H1 hy hm ⟨s1,rfl,v0,v1,rfl⟩ ht
   obtain⟨lx,elx,rfl⟩:=kcl hy
   obtain⟨mv,emv,rfl⟩:=kbB hm
   obtain⟨r,er,hr⟩:=hL.at elx
   have s2:=s1.trans (kam (o:=.tup [V.ref lx,V.bl mv]) ht)
   obtain⟨dxl,fsl,hlx,lk1,_⟩:=hr.same s2
   have hkd:=wf.kd r (JT er)
   obtain⟨kn,ekn⟩:=Int.eq_ofNat_of_zero_le hkd.1
   have hkn:kn<ps.length:=by omega
   refine⟨t,_,rfl,SqT.of kad,rfl,_,_,rfl,_,_,rfl,rfl,?_⟩
   refine⟨_,rfl,v,clsOf d Vc.so,dxv,fsv,_,rfl,s2 _ _ hv,cl_of W hh,na_of W hh,lvm,_,rfl,_,rfl,lx,d.qf,dxl,fsl,_,rfl,hlx,W.qf.cl,W.Vq,lk1,_,rfl,mA,a,Vc.ms,ps,kn,mv,by rw[ekn];rfl,hM.same s2,s2.seq hA,wf.good,hkn,s2,?_,_,_,rfl⟩
   have e1:hits ps (kds B) Vc.ms.kind Vc.ms.lone S.mkd i=(kHit ps Vc.ms.kind kn&&(!Vc.ms.lone|| !mv)):=by
    unfold hits
    have e2:S.mkd.getD i false=mv:=by rw[J8,emv];rfl
    rw[e2,km4 er,ekn,Int.toNat_natCast]
   rw[NG,JW,JW,←e1]
   rfl
  rintro σ zs H1 ⟨s1,rfl,v0,v1,rfl⟩ D hD
  rw[emin]
  have s2:=s1.trans (kam (o:=.lst (((JQ B.rs.length).map fun l=>hits ps (kds B) Vc.ms.kind Vc.ms.lone S.mkd l).map V.bl)) hD)
  have eD:(upd H1 D (.lst (((JQ B.rs.length).map fun l=>hits ps (kds B) Vc.ms.kind Vc.ms.lone S.mkd l).map V.bl))) D=some (.lst (((JQ B.rs.length).map fun l=>hits ps (kds B) Vc.ms.kind Vc.ms.lone S.mkd l).map V.bl)):=kad
  generalize upd H1 D (.lst (((JQ B.rs.length).map fun l=>hits ps (kds B) Vc.ms.kind Vc.ms.lone S.mkd l).map V.bl))=H2 at *
  refine⟨_,rfl,x,d.qc,dxs,fss,_,rfl,s2 _ _ hx,W.qc.cl,W.qL,l1,o,_,rfl,s2 _ _ ho,
   kiU (xs:=S.ow.map iV) (fun i σ ys H'=>Same H2 H'∧ys=((JQ i).filter fun i=>hits ps (kds B) Vc.ms.kind Vc.ms.lone S.mkd (S.ow.getD i 0)).map iV∧∃v0 v1:Option V,σ=[v0,v1,some (.ref D)])
    ⟨Same.refl _,rfl,none,none,rfl⟩ (by rw[JM];exact Nc (kaw (by omega))) (fun i σ zs H' _ h=>⟨h.1 _ _ (s2 _ _ ho),by rw[h.2.1,JM];have:=MM (fun i=>hits ps (kds B) Vc.ms.kind Vc.ms.lone S.mkd (S.ow.getD i 0)) (JQ i);simpa using this⟩) ?_ ?_⟩
  ·rintro i y t σ zs H3 hy ⟨s3,rfl,v0,v1,rfl⟩ ht
   obtain⟨ln,eln,rfl⟩:=kbB hy
   have hln:=wf.line eln
   have s4:=s3.trans (kam (o:=.tup [V.int (i:Nat),iV ln]) ht)
   refine⟨t,_,rfl,SqT.of kad,rfl,_,_,rfl,_,_,rfl,rfl,?_⟩
   refine⟨_,rfl,_,rfl,D,_,_,_,rfl,rfl,SqL.of (s4 _ _ eD),kaX (v:=.bl (hits ps (kds B) Vc.ms.kind Vc.ms.lone S.mkd ln)) (by rw[JY,JY,Mz hln];rfl),_,rfl,?_⟩
   have e1:S.ow.getD i 0=ln:=by rw[J8,eln];rfl
   have st:=kll (ps:=ps) (kk:=kds B) (kind:=Vc.ms.kind) (lone:=Vc.ms.lone) (S:=S) (i:=i)
   rw[e1] at st
   cases hh2:hits ps (kds B) Vc.ms.kind Vc.ms.lone S.mkd ln with
   |false=>exact iteF ⟨s4,by rw[st,hh2];simp,_,_,rfl⟩
   |true=>exact iteT ⟨_,rfl,s4,by rw[st,hh2,if_pos rfl,JW];rfl,_,_,rfl⟩
  ·rintro σ zs H3 ⟨s3,rfl,v0,v1,rfl⟩ D2 hD2
   rw[JM]
   have s4:=(s2.trans s3).trans (kam (o:=.lst ((abt ps (kds B) Vc.ms.kind Vc.ms.lone S).map iV)) hD2)
   exact k _ D2 s4 (none_of (s2.trans s3) hD2) kad
inductive kfj (CS:Addr) (vs:List V) (H:Hp) (Q:VK) (E_:XK):Prop
 |ct (x g:Addr)(S:Stnd)(is:List Nat)(_:vs=[.ref x, .ref g])(_:StndIs CS H x S)(_:H g=some (.lst (is.map iV)))(_:(∀i∈is,i<S.pr.length))(_:is.length≤720)(_:∀p,H p=none→Q (.ref p) (upd H p (.lst ((qs S.pr is).map V.int)))):kfj CS vs H Q E_
theorem kgl:kar ["standing","pieces"] ["standing","pieces"] (kai kcr):=by ac_rfl
theorem kd2(W:WB K mg d base):FO P w W 1 d.Ye d.Yf ["standing","pieces"] (kfj d.qc):=by
 exists W.Q0.F,kgl
 ·obtain⟨x,g,S,is,rfl,⟨o,p,mk,⟨dxs,fss,hx,l1,l2,l3,l4,l5⟩,ho,hp,hmk⟩,hg,hi,hl,k⟩:=h
  refine⟨_,kaf (kap (kbY (N:=["piece","standing"]) (CompScope.of (N:=["piece","standing"]) (cap:=[none,some 0]) (kai kcr).names ["standing","pieces"] rfl rfl (by decide +kernel)) rfl (kaG (K:=K) (pv 1)) (fun _ _ _ _=>pgn (i:=0) (show(["piece","standing"]:List Str).Nodup by decide +kernel)) (fun _ _ _ _=>(pe_ix (r:=rIxL K) kaQ (kak (K:=K) (pv 1) rfl) (pv 0) (fun _ _=>rfl))))),?_⟩
  refine⟨_,rfl,g,rfl,⟨_,SqL.of hg⟩,kba (xs:=is.map iV) (fun j σ ys H'=>H'=H∧ys=(qs S.pr (is.take j)).map V.int∧∃v,σ=[v,some (.ref x)]) ⟨rfl,rfl,none,rfl⟩ ?_ ?_ ?_ ?_⟩
  ·rw[JM]
   exact Nc (kaw (by omega))
  ·rintro j σ ys H' hj ⟨rfl,rfl,_⟩
   exact⟨SqL.of hg,by rw[JM,kbl,Nl];rw[JM] at hj;omega⟩
  ·rintro j y σ ys H' hy ⟨rfl,rfl,v,rfl⟩
   obtain⟨n,en,rfl⟩:∃n,is[j]?=some n∧y=iV n:=kbB hy
   obtain⟨z,ez⟩:=at_of (hi n (JT en))
   refine⟨_,rfl,x,d.qc,dxs,fss,_,rfl,hx,W.qc.cl,W.qx,l2,_,rfl,p,_,_,_,rfl,rfl,SqL.of hp,kaX (by rw[JY,ez];rfl),rfl,?_,_,rfl⟩
   rw[NY,en]
   simp[qs,ez]
  ·rintro σ ys H' ⟨rfl,rfl,v,rfl⟩ D hD
   rw[JM,NB]
   exact k D hD
inductive kjh (CS:Addr) (vs:List V) (H:Hp) (Q:VK) (E_:XK):Prop
 |ct (x g:Addr)(S:Stnd)(is:List Nat)(_:vs=[.ref x, .ref g])(_:StndIs CS H x S)(_:H g=some (.lst (is.map iV)))(_:(∀i∈is,i<S.pr.length))(_:is.length≤720)(_:∀H',Same H H'→Q (.int (qs S.pr is).sum) H'):kjh CS vs H Q E_
theorem kd7:kar ["standing","pieces"] ["standing","pieces"] (kai kbR):=by ac_rfl
theorem kbK(W:WB K mg d base):FO P w W 2 d.Yg d.Yh ["standing","pieces"] (kjh d.qc):=by
 exists W.qU.F,kd7
 ·obtain⟨x,g,S,is,rfl,hS,hg,hi,hl,k⟩:=h
  exists Xr,kd2,W
  refine⟨_,kaf (kap (kao (r:=rSum K) (kcC rfl) (by rfl) W.B.sum b_sum (kaa (pcl Xr hr W.Q0 (kaa (pv 0) (kaa (pv 1) kae))) kae))),?_⟩
  exact⟨_,rfl,_,rfl,x,g,S,is,rfl,hS,hg,hi,hl,fun p hp=>⟨p,_,rfl,SqL.of kad,k _ (kam hp)⟩⟩
theorem Xs:kar ["voucher","parents","basket","standing","marks","pieces"] ["voucher","parents","basket","standing"] (kai kdd):=by ac_rfl
theorem kgw(W:WB K mg d base):FO P w W 4 d.XR d.XS ["voucher","parents","basket","standing"] (klr K d):=by
 exists W.ZF.F,Xs
 ·obtain⟨v,a,b,x,Vc,ps,B,S,rfl,hV,hA,hB,hS,wf,vo,k⟩:=h
  obtain⟨mA,dxv,fsv,hv,lvm,_,hM,hh,htb⟩:=id hV
  obtain⟨dxm,fsm,hm,m1,m2,m3,m4,m5,m6⟩:=id hM
  obtain⟨l,ls,⟨dxb,fsb,hb,lb1,lb2,lb3⟩,hl,hL⟩:=id hB
  exists Qo,kfU,W
  exists qP,kbK,W
  exists hr2,2,hr,0
  refine⟨_,kac (psl (i:=4) Xs.nd (kak (K:=K) (pv 0) rfl))
   (kac (kbX (ps_if (PW.pt (ka7 (kaO (kak (K:=K) (pv 4) rfl)) (kaV (kd0 (kaO (kak (K:=K) (pv 2) rfl)))))) (kaf (kap kbM)) (kaq)))
   (kac (psl (i:=5) Xs.nd (pcl Qo hr W.Qu (kaa (pv 0) (kaa (pv 1) (kaa (pv 2) (kaa (pv 3) kae))))))
   (kac (ps_if (kan op_eq (kao (r:=kaL K) kau (by rfl) W.B.len b_len (kaa (pv 5) kae)) kah (kat _)) (kaf (kap kbM)) (kaq))
   (kac (ps_if (kan op_lt (pcl qP hr2 W.qU (kaa (pv 3) (kaa (pv 5) kae))) (kak (K:=K) (pv 4) rfl) (kat _)) (kaf (kap kbM)) (kaq))
   (kaf (kap ka3)))))),?_⟩
  have np:=wf.np
  have habl:∀i∈abt ps (kds B) Vc.ms.kind Vc.ms.lone S,i<S.pr.length:=fun i hi=>by rw[wf.lp];exact kfD hi
  have lab:(abt ps (kds B) Vc.ms.kind Vc.ms.lone S).length≤720:=JR (kdW _ _ _ _ _) np
  refine⟨_,rfl,v,clsOf d Vc.so,dxv,fsv,_,rfl,hv,cl_of W hh,na_of W hh,lvm,?_⟩
  refine⟨fun σ' H'=>σ'=[some (.ref v),some (.ref a),some (.ref b),some (.ref x),some (.ref mA),none]∧H'=H∧(Vc.ms.member&& !B.m)=false,⟨_,rfl,mA,d.qe,dxm,fsm,_,rfl,hm,W.qe.cl,W.Ve,m4,Vc.ms.member,rfl,?_⟩,?_⟩
  ·cases e:Vc.ms.member with
   |false=>exact iteF (iteF ⟨rfl,rfl,rfl⟩)
   | true=>
    refine iteT ⟨_,rfl,b,d.qh,dxb,fsb,_,rfl,hb,W.qh.cl,W.Xh,lb3,B.m,rfl,?_⟩
    cases e2:B.m with
    |true=>exact iteF ⟨rfl,rfl,rfl⟩
    |false=>
     refine iteT ?_
     have z:=k H (Same.refl _)
     unfold hindM at z
     rw[e,e2,if_pos (by decide)] at z
     exact z
  ·rintro σ' H' ⟨rfl,rfl,hh2⟩
   refine⟨_,rfl,_,rfl,_,rfl,_,rfl,v,a,b,x,Vc,ps,B,S,rfl,hV,hA,hB,hS,wf,vo,fun H1 pa s1 f1 h1=>?_⟩
   refine⟨_,rfl,pa,_,rfl, .inl (SqL.of h1),rfl,_,rfl,?_⟩
   have ed:decide (V.int (((abt ps (kds B) Vc.ms.kind Vc.ms.lone S).map iV).length:Nat)=V.int 0)=decide ((abt ps (kds B) Vc.ms.kind Vc.ms.lone S).length=0):=by
    rw[JM]
    by_cases h0:(abt ps (kds B) Vc.ms.kind Vc.ms.lone S).length=0
    ·rw[h0]
     rfl
    ·rw[decide_eq_false h0]
     refine decide_eq_false fun z=>h0 ?_
     injection z with z
     omega
   show if decide (V.int (((abt ps (kds B) Vc.ms.kind Vc.ms.lone S).map iV).length:Nat)=V.int 0)=true then _ else _
   rw[ed]
   by_cases h0:(abt ps (kds B) Vc.ms.kind Vc.ms.lone S).length=0
   ·rw[decide_eq_true h0]
    refine iteT ?_
    have z:=k H1 s1
    unfold hindM at z
    rw[hh2,if_neg (by decide),if_pos h0] at z
    exact z
   ·rw[decide_eq_false h0]
    refine iteF ⟨_,rfl,_,rfl,x,pa,S,_,rfl,hS.same s1,h1,habl,lab,fun H2 s2=>?_⟩
    have z:=k H2 (s1.trans s2)
    unfold hindM at z
    rw[hh2,if_neg (by decide),if_neg h0] at z
    refine⟨_,rfl,mA,d.qe,dxm,fsm,_,rfl,(s1.trans s2) _ _ hm,W.qe.cl,W.Vd,m2,_,_,rfl,rfl,_,rfl,?_⟩
    by_cases h2:(qs S.pr (abt ps (kds B) Vc.ms.kind Vc.ms.lone S)).sum<Vc.ms.needs
    ·rw[if_pos h2] at z
     rw[decide_eq_true h2]
     exact iteT z
    ·rw[if_neg h2] at z
     rw[decide_eq_false h2]
     exact iteF z
inductive kh2 (vs:List V) (H:Hp) (Q:VK) (E_:XK):Prop
 |ct (m:Option Int)(n:Int)(_:vs=[oV m, .int n])(_:Q (.int (atM m n)) H):kh2 vs H Q E_
theorem kiH:kar ["most","number"] ["most","number"] (kai kez):=by ac_rfl
theorem kft(W:WB K mg d base):FO P w W 1 d.Yi d.Yj ["most","number"] kh2:=by
 exists W.Q1.F,kiH
 ·obtain⟨m,n,rfl,k⟩:=h
  refine⟨_,kac (ps_if (kan kfs (pv 0) ka3 (kat _)) (kaf (kap (pv 1))) (kaq))
   (kaf (kap (kao (kb5 rfl) (by rfl) W.B.min b_min (kaa (pv 0) (kaa (pv 1) kae))))),?_⟩
  cases m with
  |none=>
   refine⟨_,rfl,rfl,_,rfl,?_⟩
   show if decide (V.non=V.non)=true then _ else _
   rw[show decide (V.non=V.non)=true by simp]
   exact iteT ⟨_,rfl,k⟩
  | some z=>
   refine⟨_,rfl,rfl,_,rfl,?_⟩
   show if decide (V.int z=V.non)=true then _ else _
   rw[show decide (V.int z=V.non)=false by simp]
   refine iteF ⟨_,rfl,_,rfl,_,_,rfl,?_⟩
   have e:atM (some z) n=if n<z then n else z:=by
    show min z n=_
    split <;> omega
   rw[e] at k
   exact k
inductive kgg (d:D) (vs:List V) (H:Hp) (Q:VK) (E_:XK):Prop
 |ct (v x:Addr)(V:Vch)(S:Stnd)(_:vs=[.ref v, .ref x])(_:VchIs d H v V)(_:StndIs d.qc H x S)(_:Q (.int (if kbF V.so=true then atM V.ms.most S.cg else 0)) H):kgg d vs H Q E_
theorem kdp:kar ["voucher","standing"] ["voucher","standing"] (kai kbv):=by ac_rfl
theorem kb8(W:WB K mg d base):FO P w W 2 d.X5 d.X6 ["voucher","standing"] (kgg d):=by
 exists W.QY.F,kdp
 ·obtain⟨v,x,Vc,S,rfl,⟨mA,dxv,fsv,hv,lvm,_,⟨dxm,fsm,hm,m1,m2,m3,m4,m5,m6⟩,hh,htb⟩,⟨o,p,mk,⟨dxs,fss,hx,l1,l2,l3,l4,l5⟩,ho,hp,hmk⟩,k⟩:=h
  exists Xt,kft,W
  refine⟨_,kac (ps_if (kaO (kao (r:=rIsi K) kaM (by rfl) W.B.isi b_isi (kaa (pv 0) (kaa (kby (v:=.ref d.qo) (by rfl) W.VH rfl) kae)))) (kaf (kap (pcl Xt hr W.Q1 (kaa (kak (K:=K) (kak (K:=K) (pv 0) rfl) rfl) (kaa (kak (K:=K) (pv 1) rfl) kae))))) (kaq))
   (kaf (kap kah)),?_⟩
  have I:=kj3 W hh
  refine⟨_,rfl,_,_,_,_,rfl, .inr ⟨_,rfl⟩,TyOf.ins hv (cl_of W hh) I.ha I.hn I.ht I.hm,kgK W hh,_,rfl,?_⟩
  cases e:kbF Vc.so with
  |false=>
   rw[e,if_neg JV] at k
   exact iteF k
  |true=>
   rw[e,if_pos rfl] at k
   exact iteT ⟨_,rfl,v,clsOf d Vc.so,dxv,fsv,_,rfl,hv,cl_of W hh,na_of W hh,lvm,mA,d.qe,dxm,fsm,_,rfl,hm,W.qe.cl,W.Qx,m3,_,rfl,x,d.qc,dxs,fss,_,rfl,hx,W.qc.cl,W.qM,l3,_,_,rfl,k⟩
noncomputable def kvOf(G:List (Nat×List Nat))(gl:List Addr):List (Key×V):=NH (fun p r=>(Sum.inl (p.1:Int),V.ref r)) G gl
theorem kio:∀{G:List (Nat×List Nat)}{gl:List Addr},gl.length=G.length→(kvOf G gl).map Prod.snd=gl.map V.ref
 |[],[],_=>rfl
 |[],r::gl,h=>by cases h
 |p::G,[],h=>by cases h
 |p::G,r::gl,h=>by
  have ih:=kio (G:=G) (gl:=gl) (by simpa using h)
  show V.ref r::(kvOf G gl).map Prod.snd=V.ref r::gl.map V.ref
  rw[ih]
theorem khw:∀{G:List (Nat×List Nat)}{gl:List Addr}(o a:Nat),gl.length=G.length→
  (atK (kvOf G gl) (Sum.inl (o:Int))=none∧ins G o a=G++[(o,[a])])∨∃(j:Nat)(g:List Nat)(r:Addr),G[j]?=some (o,g)∧gl[j]?=some r∧atK (kvOf G gl) (Sum.inl (o:Int))=some (.ref r)∧ins G o a=G.set j (o,g++[a])
 |[],gl,o,a,h=>.inl ⟨rfl,rfl⟩
 |(l,g)::G,[],o,a,h=>by cases h
 | (l,g)::G,r::gl,o,a,h=>by
  have hl:gl.length=G.length:=by simpa using h
  unfold ins
  by_cases e:l=o
  ·subst e
   exact .inr ⟨0,g,r,rfl,rfl,by simp[kvOf,atK],by rw[if_pos rfl];rfl⟩
  ·rw[if_neg e]
   have e':¬((l:Int)=(o:Int)):=fun z=>e (by omega)
   have ea:atK (kvOf ((l,g)::G) (r::gl)) (Sum.inl (o:Int))=atK (kvOf G gl) (Sum.inl (o:Int)):=by
    simp[kvOf,atK,MI,e']
   rcases khw o a hl with⟨h1,h2⟩|⟨j,g',r',h1,h2,h3,h4⟩
   ·exact .inl ⟨by rw[ea];exact h1,by rw[h2];rfl⟩
   ·exact .inr ⟨j+1,g',r',by simpa using h1,by simpa using h2,by rw[ea];exact h3,by rw[h4];rfl⟩
theorem kk0{G:List (Nat×List Nat)}{gl:List Addr}{j o:Nat}{g g':List Nat}(h:G[j]?=some (o,g)):kvOf (G.set j (o,g')) gl=kvOf G gl:=by
 unfold kvOf
 apply List.ext_getElem?
 intro i
 rw[Eb,Eb]
 by_cases e:j=i
 ·subst e
  have hj:=at_lt h
  rw[ME hj,h]
  cases gl[j]? <;> rfl
 ·rw[MF e]
theorem kjY{G:List (Nat×List Nat)}{gl:List Addr}{o:Nat}{g:List Nat}{e:Addr}(h:gl.length=G.length):kvOf (G++[(o,g)]) (gl++[e])=kvOf G gl++[(Sum.inl (o:Int), .ref e)]:=by
 unfold kvOf
 rw[List.zipWith_append h.symm]
 rfl
structure Ptd (H H':Hp) (dd:Addr) (gl:List Addr) (G:List (Nat×List Nat)):Prop where
 sm:Same H H'
 nd:gl.Nodup
 fg:∀r∈gl,H r=none∧r≠dd
 dk:H' dd=some (.dK (kvOf G gl))
 ls:P2 (fun r p=>H' r=some (.lst (p.2.map iV))) gl G
theorem Ptd.more{H H':Hp}{dd e:Addr}{gl:List Addr}{G:List (Nat×List Nat)}(h:Ptd H H' dd gl G)(fd:H dd=none)(he:H' e=none){o a:Nat}:
  Ptd H (upd (upd (upd H' e (.lst [])) dd (.dK (kvOf G gl++[(Sum.inl (o:Int), .ref e)]))) e (.lst [iV a])) dd (gl++[e]) (G++[(o,[a])]):=by
 have e0:H e=none:=none_of h.sm he
 have ned:e≠dd:=fun z=>by rw[z,h.dk] at he;cases he
 refine⟨kas e0 (kas fd (h.sm.trans (kam he)) (kda (nx h.dk)))  (kda (nx kad)),?_,fun r hr=>?_,?_,?_⟩
 ·refine EK.mpr ⟨h.nd,by simp,fun x hx y hy z=>?_⟩
  rw[N3] at hy
  subst hy z
  obtain⟨i,hi⟩:=N4.mp hx
  obtain⟨p,_,hp⟩:=h.ls.at hi
  rw[hp] at he
  cases he
 ·rcases Nr.mp hr with hr|hr
  ·exact h.fg r hr
  ·rw[N3] at hr
   subst hr
   exact⟨e0,ned⟩
 ·rw[kaj ned.symm,kad,kjY h.ls.len]
 ·refine P2.snoc (P2.of h.ls.len fun i r p e1 e2=>?_) kad
  have hp:=h.ls.get e1 e2
  rw[kaj (kag hp he),kaj (h.fg r (JT e1)).2,kaj (kag hp he)]
  exact hp
theorem Ptd.put{H H':Hp}{dd e r:Addr}{gl:List Addr}{G:List (Nat×List Nat)}(h:Ptd H H' dd gl G)(he:H' e=none){j o a:Nat}{g:List Nat}(h1:G[j]?=some (o,g))(h2:gl[j]?=some r):
  Ptd H (upd (upd H' e (.lst [])) r (.lst (g.map iV++[iV a]))) dd gl (G.set j (o,g++[a])):=by
 have hr:=h.fg r (JT h2)
 have hrv:=h.ls.get h2 h1
 refine⟨kas hr.1 (h.sm.trans (kam he)),h.nd,h.fg,?_,P2.of (by rw[N8];exact h.ls.len) fun i r' p e1 e2=>?_⟩
 ·rw[kaj hr.2.symm,kaj (kag h.dk he),h.dk,kk0 h1]
 ·by_cases eji:j=i
  ·subst eji
   rw[h2] at e1
   cases e1
   rw[ME (at_lt h1)] at e2
   cases e2
   rw[kad,JW]
   rfl
  ·rw[MF eji] at e2
   have hp:=h.ls.get e1 e2
   have hne:r'≠r:=fun z=>by
    subst z
    exact eji ((List.getElem?_inj (at_lt h2) h.nd).mp (h2.trans e1.symm))
   rw[kaj hne,kaj (kag hp he)]
   exact hp
inductive khT (CS:Addr) (vs:List V) (H:Hp) (Q:VK) (E_:XK):Prop
 |ct (x pa:Addr)(S:Stnd)(is:List Nat)(_:vs=[.ref x, .ref pa])(_:StndIs CS H x S)(_:H pa=some (.lst (is.map iV)))(_:(∀i∈is,i<S.ow.length))(_:is.length≤720)(_:∀(H':Hp)(p:Addr)(gl:List Addr),Same H H'→H p=none→H' p=some (.lst (gl.map V.ref))→P2 (fun r g=>H' r=some (.lst (g.map iV))) gl ((parted (fun i=>S.ow.getD i 0) is).map Prod.snd)→(∀r∈gl,H r=none)→Q (.ref p) H'):khT CS vs H Q E_
theorem P2.mapR{α β γ:Type}{R: α→γ→Prop}{f: β→γ}{as:List α}{bs:List β}(h:P2 (fun a b=>R a (f b)) as bs):P2 R as (bs.map f):=by
 induction h with
 |nil=>exact .nil
 |cons r t ih=>exact .cons r ih
theorem Xu:kar ["standing","pieces","by_line","piece"] ["standing","pieces"] (kai kbH):=by ac_rfl
theorem kdS(W:WB K mg d base):FO P w W 1 d.X9 d.Ya ["standing","pieces"] (khT d.qc):=by
 exists W.ZL.F,Xu
 ·obtain⟨x,pa,S,is,rfl,⟨o,p,mk,⟨dxs,fss,hx,l1,l2,l3,l4,l5⟩,ho,hp,hmk⟩,hpa,hi,hl,k⟩:=h
  refine⟨_,kac (psl (i:=2) Xu.nd kkK)
   (kac (kbm PassesOwn.never rfl (kaG (K:=K) (pv 1)) (pgn (i:=3) Xu.nd)
   (kaf (kaP (pe_bm NI NT NU ka1 (pe_bm E3 E2 PySem.F.type_dict_setdefault kf0 (pv 2) (kaa (pe_ix (r:=rIxL K) kaQ (kak (K:=K) (pv 0) rfl) (pv 3) (fun _ _=>rfl)) (kaa (kaW kae) kae))) (kaa (pv 3) kae)))))
   (kaf (kap (khp rfl (by rfl) W.B.list (pv 2))))),?_⟩
  refine fun dd hd=>?_
  have s1:=kam (o:=.dK []) hd
  refine⟨_,rfl,pa,rfl,⟨_,SqL.of (s1 _ _ hpa)⟩,kbd (K:=K) (a:=pa) (xs:=is.map iV) (fun i σ H'=>(∃v3:Option V,σ=[some (.ref x),some (.ref pa),some (.ref dd),v3])∧∃gl,Ptd H H' dd gl (parted (fun i=>S.ow.getD i 0) (is.take i)))
   ⟨⟨none,rfl⟩,[],s1,by simp,fun r hr=>by simp at hr,kad, .nil⟩ (fun i σ H' _ h=>SqL.of (h.2.choose_spec.sm _ _ hpa)) ?_ ?_⟩
  ·rintro i y σ H1 hy ⟨⟨v3,rfl⟩,gl,Z⟩
   obtain⟨a,ea,rfl⟩:=kbB hy
   have hil:=at_lt ea
   obtain⟨ln,eln⟩:=at_of (hi a (JT ea))
   have eg:S.ow.getD a 0=ln:=by rw[J8,eln];rfl
   have enext:parted (fun i=>S.ow.getD i 0) (is.take (i+1))=ins (parted (fun i=>S.ow.getD i 0) (is.take i)) ln a:=by
    rw[kbP ea,keH,eg]
   have lenG:=kfq (fun i=>S.ow.getD i 0) (is.take i)
   rw[Nl] at lenG
   have lenK:(kvOf (parted (fun i=>S.ow.getD i 0) (is.take i)) gl).length<sizeLine:=by
    refine kaw ?_
    unfold kvOf
    rw[Ea]
    omega
   refine⟨_,rfl, .inr (.inr (.inl ⟨rfl, .inl ⟨_,Z.dk⟩⟩)),_,rfl,x,d.qc,dxs,fss,_,rfl,Z.sm _ _ hx,W.qc.cl,W.qL,l1,_,rfl,o,_,_,_,rfl,rfl,SqL.of (Z.sm _ _ ho),kaX (v:=.int (ln:Nat)) (by rw[JY,eln];rfl),by decide,fun e he=>?_⟩
   have ned:dd≠e:=kag Z.dk he
   refine⟨dd,kvOf (parted (fun i=>S.ow.getD i 0) (is.take i)) gl,(ln:Nat), .ref e,rfl,rfl,by rw[kaj ned];exact Z.dk,lenK,fun v hv=>?_,fun hn=>?_⟩
   ·rcases khw (G:=parted (fun i=>S.ow.getD i 0) (is.take i)) ln a Z.ls.len with⟨h1,_⟩|⟨j,g,r,h1,h2,h3,h4⟩
    ·rw[h1] at hv
     cases hv
    ·rw[h3] at hv
     cases hv
     have hrv:=Z.ls.get h2 h1
     have gl20:g.length≤720:=by
      have eg':=(kcO (fun i=>S.ow.getD i 0) (is.take i)).gs ln g (JT h1)
      rw[eg']
      refine JR (MM _ _) ?_
      rw[Nl]
      omega
     have hr2:(upd H1 e (.lst [])) r=some (.lst (g.map iV)):=by rw[kaj (kag hrv he)];exact hrv
     refine⟨.inl ⟨rfl,_,SqL.of hr2⟩,_,rfl,r,_,_,rfl,rfl,hr2,kaw (by rw[JM];omega),⟨_,rfl⟩,gl,?_⟩
     rw[enext,h4]
     exact Z.put he h1 h2
   ·rcases khw (G:=parted (fun i=>S.ow.getD i 0) (is.take i)) ln a Z.ls.len with⟨_,h4⟩|⟨j,g,r,h1,h2,h3,h4⟩
    ·have he2:(upd (upd H1 e (.lst [])) dd (.dK (kvOf (parted (fun i=>S.ow.getD i 0) (is.take i)) gl++[(Sum.inl ((ln:Nat):Int), .ref e)]))) e=some (.lst []):=by rw[kaj ned.symm,kad]
     refine⟨.inl ⟨rfl,_,SqL.of he2⟩,_,rfl,e,[],_,rfl,rfl,he2,by decide,⟨_,rfl⟩,gl++[e],?_⟩
     rw[enext,h4]
     exact Z.more hd he
    ·rw[h3] at hn
     cases hn
  ·rintro σ H1 ⟨⟨v3,rfl⟩,gl,Z⟩
   rw[JM,NB] at Z
   refine⟨_,rfl,dd,_,rfl,Z.dk,fun l hl2=>?_⟩
   rw[kio Z.ls.len]
   refine k _ l gl (Z.sm.trans (kam hl2)) (none_of Z.sm hl2) kad (P2.mapR (f:=Prod.snd) (R:=fun r g=>(upd H1 l (.lst (gl.map V.ref))) r=some (.lst (g.map iV))) (Z.ls.mono fun r p h=>kam hl2 _ _ h)) fun r hr=>(Z.fg r hr).1
inductive kgf (d:D) (vs:List V) (H:Hp) (Q:VK) (E_:XK):Prop
 |ct (x pa:Addr)(S:Stnd)(is:List Nat)(m:Nat)(_:vs=[.ref x, .ref pa, .int m])(_:StndIs d.qc H x S)(_:H pa=some (.lst (is.map iV)))(_:is.Pairwise (· < ·))(_:(∀i∈is,i<S.pr.length))(_:is.length<64)(_:2≤m)(_:m≤20)(_:Tbs d H)(_:∀(H':Hp)(p:Addr)(gl:List Addr),Same H H'→H p=none→H' p=some (.lst (gl.map V.ref))→P2 (fun r g=>H' r=some (.lst (g.map iV))) gl (grp m (fallP S.pr is))→(∀r∈gl,H r=none)→Q (.ref p) H'):kgf d vs H Q E_
theorem kmp{pr:List Int}{is:List Nat}{ms:List Int}(hs:is.Pairwise (· < ·))(hp:ms.Perm (is.map fun(i:Nat)=>(i:Int)))(hk:ms.Pairwise fun a b=> -(pr.getD a.toNat 0)< -(pr.getD b.toNat 0)∨(-(pr.getD a.toNat 0)= -(pr.getD b.toNat 0)∧a<b)):ms.map V.int=(fallP pr is).map iV:=by
 have e:ms=(ms.map Int.toNat).map fun(i:Nat)=>(i:Int):=by
  rw[Nf]
  conv=>lhs;rw[←List.map_id ms]
  refine NM fun z hz=>?_
  obtain⟨i,_,rfl⟩:=Nb.mp (hp.mem_iff.mp hz)
  simp
 have hp2:(ms.map Int.toNat).Perm is:=by
  have:=hp.map Int.toNat
  rw[Nf] at this
  have e2:is.map (Int.toNat∘fun(i:Nat)=>(i:Int))=is:=by
   conv=>rhs;rw[←List.map_id is]
   exact NM fun i _=>rfl
  rwa [e2] at this
 have hk2:(ms.map Int.toNat).Pairwise (befP pr):=by
  rw[Ef]
  refine hk.imp_of_mem fun {a b} ha hb h=>?_
  obtain⟨i,_,rfl⟩:=Nb.mp (hp.mem_iff.mp ha)
  obtain⟨j,_,rfl⟩:=Nb.mp (hp.mem_iff.mp hb)
  unfold befP
  simp only[Int.toNat_natCast] at h⊢
  omega
 rw[e,kiT hs hp2 hk2,Nf]
 rfl
theorem Vw:kar ["standing","pieces","many","falling"] ["standing","pieces","many"] (kai kaF):=by ac_rfl
theorem kdT(W:WB K mg d base):FO P w W 1 d.Yb d.QL ["standing","pieces","many"] (kgf d):=by
 refine FunD.okC W.QZ.F Vw (fun vs H Q E h=>?_) (fun A outer s H vs Q E hr h=>?_)
 ·obtain⟨x,pa,S,is,m,rfl,_⟩:=h
  rfl
 ·obtain⟨x,pa,S,is,m,rfl,hS,hpa,hs,hi,h64,hm2,hm20,htb,k⟩:=h
  obtain⟨o,p,mk,⟨dxs,fss,hx,l1,l2,l3,l4,l5⟩,ho,hp,hmk⟩:=id hS
  refine⟨_,kac (psl (i:=3) Vw.nd (kiK (N:=["piece","standing"]) (cap:=[some 0]) (pv 1) ⟨CompScope.of (N:=["piece","standing"]) (cap:=[none,some 0]) (kai kaF).names ["standing","pieces","many","falling"] rfl rfl (by decide +kernel),rfl,rfl,rfl,rfl,by decide +kernel⟩ rfl hr.depth W.code_falling_groups W.ck_falling_groups W.blt (by rfl) W.B.sorted (fun _ _ _ _ _=>rfl) (fun _ _ _ _ _=>(pe_un khN (pe_ix (r:=rIxL K) kaQ (kak (K:=K) (pv 1) rfl) (pv 0) (fun _ _=>rfl)))) (by rfl)))
   (kaf (kap (kbY (N:=["start","falling","many"]) (CompScope.of (N:=["start","falling","many"]) (cap:=[none,some 3,some 2]) (kai kaF).names ["standing","pieces","many","falling"] rfl rfl (by decide +kernel)) rfl (kiJ rfl W.B.range (kaa kah (kaa (pe_op kcR (pe_op kd1 (kao (r:=kaL K) kau (by rfl) W.B.len b_len (kaa (pv 3) kae)) (pv 2)) kah) (kaa (pv 2) kae)))) (fun _ _ _ _=>pgn (i:=0) (show(["start","falling","many"]:List Str).Nodup by decide +kernel)) (fun _ _ _ _=>(kic (r:=rSlL K) kjt (pv 1) (khn (pv 0)) (khn (pe_op kcR (pv 0) (pv 2)))))))),?_⟩
  have htb':TbAt d.tP_falling_groups H:=htb
  obtain⟨qs0,eT,_⟩:=id htb'
  have npT:∀{b:Addr}{u:HO},H b=some u→(∀ps,u≠.tbl ps)→b≠d.tP_falling_groups:=fun {b u} e hn z=>by
   rw[z,eT] at e
   cases e
   exact hn _ rfl
  have ei:is.map iV=(is.map fun(i:Nat)=>(i:Int)).map V.int:=by rw[Nf];rfl
  refine⟨_,rfl,pa,is.map fun(i:Nat)=>(i:Int),fun a=> -(S.pr.getD a.toNat 0),rfl,SqL.of (by rw[←ei];exact hpa),by rw[JM];exact h64,?_,htb',npT hpa (fun ps z=>by cases z),fun H2 G n hn=>?_,fun H2 l ms G f1 f2 hpm hpw=>?_⟩
  ·rw[Ef]
   exact hs.imp fun {a b} h=>by omega
  ·obtain⟨i,hin,rfl⟩:=Nb.mp hn
   obtain⟨z,ez⟩:=at_of (hi i hin)
   have hx2:=G.kp _ _ (npT hx (fun ps z=>by cases z)) hx
   have hp2:=G.kp _ _ (npT hp (fun ps z=>by cases z)) hp
   refine⟨_,rfl,x,d.qc,dxs,fss,_,rfl,hx2,W.qc.cl,W.qx,l2,_,rfl,p,_,_,_,rfl,rfl,SqL.of hp2,kaX (v:=.int z) (by rw[JY,ez];rfl),_,rfl,?_,rfl⟩
   show V.int (-z)=V.int (-(S.pr.getD ((i:Int)).toNat 0))
   rw[Int.toNat_natCast,J8,ez]
   rfl
  have s2:=G.same htb'
  rw[kmp hs hpm hpw]
  have lf:(fallP S.pr is).length=is.length:=(kbz S.pr is).length_eq
  have s3:=s2.trans (kam (o:=.lst ((fallP S.pr is).map iV)) f2)
  have el:(upd H2 l (.lst ((fallP S.pr is).map iV))) l=some (.lst ((fallP S.pr is).map iV)):=kad
  generalize upd H2 l (.lst ((fallP S.pr is).map iV))=H3 at *
  have ecnt:(Builtin.Range.rangeSize 0 ((((fallP S.pr is).map iV).length:Int)-(m:Int)+1) (m:Int)).toNat=(fallP S.pr is).length/m:=by
   rw[JM]
   exact khc (by omega)
  have lg:=khy m (fallP S.pr is)
  refine⟨_,rfl,l,_,rfl, .inl (SqL.of el),_,rfl,_,_,rfl,rfl,_,_,rfl,rfl,_,rfl,0,_,_,rfl,by omega,?_,by omega,by omega,?_⟩
  ·rw[JM]
   omega
  rw[ecnt]
  refine kkk (n:=(fallP S.pr is).length/m) (fun i σ ys H'=>Same H3 H'∧(∃v0:Option V,σ=[v0,some (.ref l),some (.int m)])∧∃gl,ys=gl.map V.ref∧P2 (fun r g=>H' r=some (.lst (g.map iV))) gl ((grp m (fallP S.pr is)).take i)∧∀r∈gl,H r=none)
   ⟨Same.refl _,⟨none,rfl⟩,[],rfl, .nil,fun r hr=>by simp at hr⟩ ?_ ?_ ?_ ?_
  ·have:(grp m (fallP S.pr is)).length=(fallP S.pr is).length/m:=by simp[grp]
   exact Nc (kaw (by omega))
  ·rintro i σ ys H' hi' ⟨_,_,gl,rfl,hP,_⟩
   rw[JM,hP.len,Nl]
   have:(grp m (fallP S.pr is)).length=(fallP S.pr is).length/m:=by simp[grp]
   omega
  ·rintro i σ ys H' hi' ⟨s4,⟨v0,rfl⟩,gl,rfl,hP,hfr⟩
   have eg:(grp m (fallP S.pr is))[i]?=some (((fallP S.pr is).drop (i*m)).take m):=by
    unfold grp
    rw[JY,Mz hi']
    rfl
   have ecut:cutV ((fallP S.pr is).map iV) (some (0+(i:Int)*(m:Int))) (some (0+(i:Int)*(m:Int)+(m:Int)))=(((fallP S.pr is).drop (i*m)).take m).map iV:=by
    have:=kmB ((fallP S.pr is).map iV) (i*m) m
    rw[show(0:Int)+(i:Int)*(m:Int)=((i*m:Nat):Int) by rw[Int.zero_add,Int.natCast_mul],show((i*m:Nat):Int)+(m:Int)=((i*m+m:Nat):Int) by rw[Int.natCast_add],this,MZ,EB]
   refine⟨_,rfl,_,rfl,_,rfl,_,rfl,_,rfl,_,_,rfl,rfl,_,rfl,l,_,rfl,SqL.of (s4 _ _ el),fun r hr=>?_⟩
   refine⟨s4.trans (kam hr),⟨_,rfl⟩,gl++[r],by rw[JW];rfl,?_,fun r' hr'=>?_⟩
   ·rw[kbP eg,ecut]
    exact P2.snoc (hP.mono fun r' g e=>kam hr _ _ e) kad
   ·rcases Nr.mp hr' with h|h
    ·exact hfr r' h
    ·rw[N3] at h
     rw[h]
     exact(s3.trans s4).free hr
  ·rintro σ ys H' ⟨s4,⟨v0,rfl⟩,gl,rfl,hP,hfr⟩ D hD
   have el2:(grp m (fallP S.pr is)).length=(fallP S.pr is).length/m:=by simp[grp]
   rw[Mj (by omega)] at hP
   exact k _ D gl ((s3.trans s4).trans (kam hD)) ((s3.trans s4).free hD) kad (hP.mono fun r g e=>kam hD _ _ e) hfr
theorem QD:kar ["voucher","standing","pieces","groups","lasts"] ["voucher","standing","pieces"] (kai kbb):=by ac_rfl
theorem ke9(W:WB K mg d base):FO P w W 3 d.X7 d.X8 ["voucher","standing","pieces"] (khR d):=by
 exists W.ZK.F,QD
 ·obtain⟨v,x,pa,⟨so,ms⟩,ps,B,S,rfl,⟨mA,dxv,fsv,hv,lvm,hso,hM,hh,htb⟩,hS,hpa,wf,vo,k⟩:=h
  exists qP,kbK,W
  exists Ui,kdS,W
  exists Vx,kdT,W
  exists hr1,1,hr,0
  refine⟨_,kac (ps_if (kaO (kao (r:=rIsi K) kaM (by rfl) W.B.isi b_isi (kaa (pv 0) (kaa (kby (v:=.ref d.c_Off) (by rfl) W.g_Off rfl) kae)))) (kaf (kap (kaW (kaa (kcm (kaa (kao (kb5 rfl) (by rfl) W.B.min b_min (kaa (kak (K:=K) (pv 0) rfl) (kaa (pcl qP hr W.qU (kaa (pv 1) (kaa (pv 2) kae))) kae))) (kaa (pv 2) kae))) kae)))) (kaq))
   (kac (ps_if (kaO (kao (r:=rIsi K) kaM (by rfl) W.B.isi b_isi (kaa (pv 0) (kaa (kby (v:=.ref d.qj) (by rfl) W.Vg rfl) kae)))) (kac (psl (i:=3) QD.nd (klB (ken (kaO (kak (K:=K) (pv 0) rfl)) (pcl Ui hr1 W.ZL (kaa (pv 1) (kaa (pv 2) kae))) (kaW (kaa (pv 2) kae)))))
   (kaf (kap (kbY (N:=["group","standing","voucher"]) (CompScope.of (N:=["group","standing","voucher"]) (cap:=[none,some 1,some 0]) (kai kbb).names ["voucher","standing","pieces","groups","lasts"] rfl rfl (by decide +kernel)) rfl (kaG (K:=K) (pv 3)) (fun _ _ _ _=>pgn (i:=0) (show(["group","standing","voucher"]:List Str).Nodup by decide +kernel)) (fun _ _ _ _=>(kcm (kaa (pe_op kaz (pe_op kcQ (pcl qP hr W.qU (kaa (pv 1) (kaa (pv 0) kae))) (kak (K:=K) (pv 2) rfl)) kah) (kaa (pv 0) kae)))))))) (kaq))
   (kac (ps_if (kaO (kao (r:=rIsi K) kaM (by rfl) W.B.isi b_isi (kaa (pv 0) (kaa (kby (v:=.ref d.ql) (by rfl) W.Vj rfl) kae)))) (kac (khl (N:=["group"]) (CompScope.plain rfl (by decide +kernel) (by decide +kernel) (by decide +kernel) (nd1 _)) rfl (kaG (K:=K) (pcl Vx hr1 W.QZ (kaa (pv 1) (kaa (pv 2) (kaa (kak (K:=K) (pv 0) rfl) kae))))) (fun _ _ _ _=>pgn (i:=0) (nd1 _)) (fun _ _ _ _=>(pe_ix (r:=rIxL K) kaQ (pv 0) (pe_un khN kah) (fun _ _=>rfl))) (pgn (i:=4) QD.nd))
   (kaf (kap (kbY (N:=["last","standing"]) (CompScope.of (N:=["last","standing"]) (cap:=[none,some 1]) (kai kbb).names ["voucher","standing","pieces","groups","lasts"] rfl rfl (by decide +kernel)) rfl (kaG (K:=K) (pv 4)) (fun _ _ _ _=>pgn (i:=0) (show(["last","standing"]:List Str).Nodup by decide +kernel)) (fun _ _ _ _=>(kcm (kaa (pe_ix (r:=rIxL K) kaQ (kak (K:=K) (pv 1) rfl) (pv 0) (fun _ _=>rfl)) (kaa (kaW (kaa (pv 0) kae)) kae)))))))) (kaq))
   (kac (ps_if (kaO (kao (r:=rIsi K) kaM (by rfl) W.B.isi b_isi (kaa (pv 0) (kaa (kby (v:=.ref d.qk) (by rfl) W.Vl rfl) kae)))) (kac (psl (i:=3) QD.nd (pcl Vx hr1 W.QZ (kaa (pv 1) (kaa (pv 2) (kaa (kak (K:=K) (pv 0) rfl) kae)))))
   (kaf (kap (kbY (N:=["group","standing","voucher"]) (CompScope.of (N:=["group","standing","voucher"]) (cap:=[none,some 1,some 0]) (kai kbb).names ["voucher","standing","pieces","groups","lasts"] rfl rfl (by decide +kernel)) rfl (kaG (K:=K) (pv 3)) (fun _ _ _ _=>pgn (i:=0) (show(["group","standing","voucher"]:List Str).Nodup by decide +kernel)) (fun _ _ _ _=>(kcm (kaa (kao (ke0 rfl) (by rfl) W.B.max b_max (kaa (pe_op kd1 (pcl qP hr W.qU (kaa (pv 1) (kaa (pv 0) kae))) (kak (K:=K) (pv 2) rfl)) (kaa kah kae))) (kaa (pv 0) kae)))))))) (kaq))
   (kaf (kap (kaW kae)))))),?_⟩
  have I:=kj3 W hh
  exists Y4
  refine⟨_,rfl,_,_,_,_,rfl, .inr ⟨_,rfl⟩,TyOf.ins hv (cl_of W hh) I.ha I.hn I.ht I.hm,kjZ W hh,_,rfl,?_⟩
  have lp:=wf.lp
  have np:=wf.np
  have habl:∀i∈abt ps (kds B) ms.kind ms.lone S,i<S.pr.length:=fun i hi=>by rw[lp];exact kfD hi
  have habo:∀i∈abt ps (kds B) ms.kind ms.lone S,i<S.ow.length:=fun i hi=>kfD hi
  have hand:=ke4 ps (kds B) ms.kind ms.lone S
  have lab:(abt ps (kds B) ms.kind ms.lone S).length≤720:=JR (kdW _ _ _ _ _) np
  cases so with
  | off am=>
   have qn:=kbe (qs_nn wf.nn (abt ps (kds B) ms.kind ms.lone S))
   have ha:0≤am∧am≤1000000000000:=vo.so
   refine iteT ?_
   symm
   exists Y6
   refine⟨_,rfl,v,d.c_Off,dxv,fsv,_,rfl,hv,W.c_Off.cl,W.Q6,hso,_,rfl,_,rfl,x,pa,S,_,rfl,hS,hpa,habl,lab,fun H1 s1=>?_⟩
   nofun
   exists Y6
   refine⟨_,_,rfl,_,rfl,(by show 2≤sizeLine;decide),fun t ht=>⟨(by show 1≤sizeLine;decide),fun l hl=>?_⟩⟩
   have emin:(if(qs S.pr (abt ps (kds B) ms.kind ms.lone S)).sum<am then(qs S.pr (abt ps (kds B) ms.kind ms.lone S)).sum else am)=min am (qs S.pr (abt ps (kds B) ms.kind ms.lone S)).sum:=by
    split <;> omega
   rw[emin] at hl⊢
   have s2:=s1.trans (kam (o:=.tup [.int (min am (qs S.pr (abt ps (kds B) ms.kind ms.lone S)).sum), .ref pa]) ht)
   have s3:=s2.trans (kam (o:=.lst [.ref t]) hl)
   nofun
   refine k _ l [t] [(min am (qs S.pr (abt ps (kds B) ms.kind ms.lone S)).sum,abt ps (kds B) ms.kind ms.lone S)] s3 (none_of s2 hl) kad (.cons ⟨pa,kam hl _ _ kad,s3 _ _ hpa, .inl rfl⟩ .nil) ?_ ?_ ?_ (by simp) ?_
   ·intro c g hc
    rw[N3] at hc
    cases hc
    nofun
    exact⟨by omega,by omega,lab⟩
   ·simpa using hand
   ·simpa using habl
   ·simp[want]
  | share sh bl=>
   have hsh:1≤sh∧sh≤1000:=vo.so
   refine iteF ?_
   symm
   exists Y6
   refine⟨_,rfl,_,_,_,_,rfl, .inr ⟨_,rfl⟩,TyOf.ins hv (cl_of W hh) I.ha I.hn I.ht I.hm,kbD W hh,_,rfl,iteT ?_⟩
   nofun
   exists Y6
   refine⟨fun gv H1=>∃(gp:Addr)(gl:List Addr)(gs:List (List Nat)),gv=.ref gp∧Same H H1∧H gp=none∧H1 gp=some (.lst (gl.map V.ref))∧P2 (fun r g=>H1 r=some (.lst (g.map iV))) gl gs∧(∀r∈gl,r=pa∨H r=none)∧gs.length≤720∧(∀g∈gs,g.length≤720)∧gs.flatten.Nodup∧(∀i∈gs.flatten,i<S.pr.length)∧
    spr S.pr.length gs.flatten (gs.map fun g=>dl ((qs S.pr g).sum*sh/1000) (qs S.pr g)).flatten=spr S.pr.length (abt ps (kds B) ms.kind ms.lone S) (want (.share sh bl) S.mkd.length ((abt ps (kds B) ms.kind ms.lone S).map fun i=>S.ow.getD i 0) (qs S.pr (abt ps (kds B) ms.kind ms.lone S))),?_,?_⟩
   ·refine⟨_,rfl,v,d.qj,dxv,fsv,_,rfl,hv,W.qj.cl,W.Vh,hso.2,bl,rfl,?_⟩
    cases bl with
    | true=>
     refine iteT ?_
     nofun
     exists Y10
     refine⟨_,rfl,_,rfl,x,pa,S,_,rfl,hS,hpa,habo,lab,fun H1 p gl s1 f1 h1 hP hg=>⟨p,gl,_,rfl,s1,f1,h1,hP,fun r hr=>.inr (hg r hr),?_,?_,?_,?_,?_⟩⟩
     ·rw[JM]
      exists 4
      exact JR (kfq _ _) lab
     ·intro g hg'
      rw[(kcO (fun i=>S.ow.getD i 0) (abt ps (kds B) ms.kind ms.lone S)).snds] at hg'
      obtain⟨l,_,rfl⟩:=Nb.mp hg'
      exists 4
      exact JR (MM _ _) lab
     ·have ok:=kcO (fun i=>S.ow.getD i 0) (abt ps (kds B) ms.kind ms.lone S)
      rw[ok.snds]
      exists 4
      exact keG (f:=fun i=>S.ow.getD i 0) hand ok.nd
     ·intro i hi
      rw[(kcO (fun i=>S.ow.getD i 0) (abt ps (kds B) ms.kind ms.lone S)).snds] at hi
      obtain⟨g,hg',hi'⟩:=NZ.mp hi
      obtain⟨l,_,rfl⟩:=Nb.mp hg'
      exists 4
      exact habl i (Np.mp hi').1
     ·refine kiM (fun z=>z*sh/1000) hand fun i hi=>?_
      obtain⟨ln,eln⟩:=at_of (habo i hi)
      rw[J8,eln,wf.lm]
      exists 4
      exact wf.line eln
    |false=>
     refine iteF ?_
     nofun
     exists Y10
     refine⟨_,rfl,(by show 1≤sizeLine;decide),fun p hp=>⟨p,[pa],[abt ps (kds B) ms.kind ms.lone S],rfl,kam hp,hp,kad, .cons (kam hp _ _ hpa) .nil,fun r hr=>.inl (by simpa using hr),by simp,fun g hg=>?_,by simpa using hand,by simpa using habl,by simp[want]⟩⟩
     rw[N3] at hg
     rw[hg]
     exists 4
     exact lab
   rintro gv H1 ⟨gp,gl,gs,rfl,s1,f1,h1,hP,hor,lgs,lg,gnd,glt,gsp⟩
   have lgl:=hP.len
   have gok:∀g∈gs,∀i∈g,i<S.pr.length:=fun g hg i hi=>glt i (NZ.mpr ⟨g,hg,hi⟩)
   nofun
   exists Y6
   refine⟨_,rfl,gp,rfl,⟨_,SqL.of h1⟩,kba (xs:=gl.map V.ref) (fun i σ ys H'=>Same H1 H'∧(∃v0:Option V,σ=[v0,some (.ref x),some (.ref v)])∧∃tl,ys=tl.map V.ref∧P2 (GrpAt H H' pa) tl ((gs.take i).map fun g=>((qs S.pr g).sum*sh/1000,g)))
    ⟨Same.refl _,⟨none,rfl⟩,[],rfl, .nil⟩ (by rw[JM];exact Nc (kaw (by omega))) ?_ ?_ ?_⟩
   ·rintro i σ ys H2 hi ⟨s2,_,tl,rfl,hT⟩
    nofun
    exists Y8
    refine⟨SqL.of (s2 _ _ h1),?_⟩
    rw[JM,hT.len,JM,Nl]
    rw[JM] at hi
    omega
   ·rintro i y σ ys H2 hy ⟨s2,⟨v0,rfl⟩,tl,rfl,hT⟩
    obtain⟨r,er,rfl⟩:=kcl hy
    obtain⟨g,eg,hr⟩:=hP.at er
    have s12:=s1.trans s2
    have hg:=JT eg
    have sn:=kbe (qs_nn wf.nn g)
    have sl:=kh8 wf (lg g hg) (gok g hg)
    exists 3
    exists Y8
    refine⟨_,rfl,_,rfl,x,r,S,g,rfl,hS.same s12,s2 _ _ hr,gok g hg,lg g hg,fun H3 s3=>?_⟩
    have s13:=s12.trans s3
    exists 3
    exists Y8
    refine⟨_,rfl,v,d.qj,dxv,fsv,_,rfl,s13 _ _ hv,W.qj.cl,W.Q8,hso.1,_,_,rfl,rfl, .inl ⟨by omega,by omega⟩,_,_,rfl,rfl,⟨by decide,by decide⟩,_,rfl,(by show 2≤sizeLine;decide),fun t ht=>?_⟩
    have s4:=kam (o:=.tup [.int ((qs S.pr g).sum*sh/1000), .ref r]) ht
    exists 3
    exists Y8
    refine⟨(s2.trans s3).trans s4,⟨_,rfl⟩,tl++[t],by rw[JW];rfl,?_⟩
    rw[kbP eg,JW]
    exists 3
    refine P2.snoc (hT.mono fun t' q ⟨ga,a1,a2,a3⟩=>⟨ga,(s3.trans s4) _ _ a1,(s3.trans s4) _ _ a2,a3⟩) ⟨r,kad,((s2.trans s3).trans s4) _ _ hr,hor r (JT er)⟩
   ·rintro σ ys H2 ⟨s2,⟨v0,rfl⟩,tl,rfl,hT⟩ D hD
    rw[JM,lgl,NB] at hT
    have s3:=kam (o:=.lst (tl.map V.ref)) hD
    have e1:(gs.map fun g=>((qs S.pr g).sum*sh/1000,g)).map Prod.snd=gs:=by
     rw[Nf]
     exists 3
     exact List.map_id' gs
    exists 3
    refine k _ D tl _ ((s1.trans s2).trans s3) (none_of (s1.trans s2) hD) kad (hT.mono fun t' q ⟨ga,a1,a2,a3⟩=>⟨ga,s3 _ _ a1,s3 _ _ a2,a3⟩) ?_ (by rw[e1];exact gnd) (by rw[e1];exact glt) (by rw[JM];exact lgs) ?_
    ·intro c g hc
     obtain⟨g',hg',e⟩:=Nb.mp hc
     cases e
     have sn:=kbe (qs_nn wf.nn g)
     have:=kdo sn hsh.1 hsh.2
     exists 3
     exact⟨this.1,this.2,lg g hg'⟩
    ·rw[e1,Nf]
     exists 3
     exact gsp
  | cheap n=>
   have hn:2≤n∧n≤20:=vo.so
   obtain⟨m,rfl⟩:∃m:Nat,n=m:=⟨n.toNat,by omega⟩
   refine iteF ?_
   symm
   refine⟨_,rfl,_,_,_,_,rfl, .inr ⟨_,rfl⟩,TyOf.ins hv (cl_of W hh) I.ha I.hn I.ht I.hm,kbD W hh,_,rfl,iteF ⟨_,rfl,_,_,_,_,rfl, .inr ⟨_,rfl⟩,TyOf.ins hv (cl_of W hh) I.ha I.hn I.ht I.hm,kbn W hh,_,rfl,iteT ?_⟩⟩
   have hpw:(abt ps (kds B) ms.kind ms.lone S).Pairwise (· < ·):=Ms.filter _ Ec
   have l64:(abt ps (kds B) ms.kind ms.lone S).length<64:=Ma (kdW _ _ _ _ _) wf.n64
   symm
   exists Y6
   refine⟨_,rfl,_,rfl,_,rfl,v,d.ql,dxv,fsv,_,rfl,hv,W.ql.cl,W.Xa,hso,x,pa,S,_,m,rfl,hS,hpa,hpw,habl,l64,by omega,by omega,htb,fun H1 gp gl s1 f1 h1 hP0 hg=>?_⟩
   have hP:P2 (fun r g=>H1 r=some (.lst (g.map iV))) gl (grp m (fallP S.pr (abt ps (kds B) ms.kind ms.lone S))):=hP0
   clear hP0
   have lgl:=hP.len
   have lG:=khy m (fallP S.pr (abt ps (kds B) ms.kind ms.lone S))
   have lf:(fallP S.pr (abt ps (kds B) ms.kind ms.lone S)).length=(abt ps (kds B) ms.kind ms.lone S).length:=(kbz _ _).length_eq
   have hgr:∀{i:Nat}{g:List Nat},(grp m (fallP S.pr (abt ps (kds B) ms.kind ms.lone S)))[i]?=some g→0<g.length∧g[g.length-1]?=some (g.getLastD 0)∧g.getLastD 0∈abt ps (kds B) ms.kind ms.lone S:=fun {i g} eg=>by
    obtain⟨h1,h2,h3⟩:=kgN eg
    have h4:=keS (by omega) eg
    nofun
    exists Y8
    refine⟨by omega,?_,(kbz _ _).mem_iff.mp (JT h4)⟩
    rw[h2,h3 _ (by omega)]
    exists 3
    exact h4
   have hla:∀a∈lasts (grp m (fallP S.pr (abt ps (kds B) ms.kind ms.lone S))),a∈abt ps (kds B) ms.kind ms.lone S:=fun a ha=>by
    obtain⟨g,hg',rfl⟩:=Nb.mp ha
    obtain⟨j,hj⟩:=N4.mp hg'
    nofun
    exact(hgr hj).2.2
   nofun
   exists Y6
   refine⟨gp,rfl,⟨_,SqL.of h1⟩,kba (xs:=gl.map V.ref) (fun i σ ys H'=>Same H1 H'∧(∃v0:Option V,σ=[v0])∧ys=((lasts (grp m (fallP S.pr (abt ps (kds B) ms.kind ms.lone S)))).take i).map iV)
    ⟨Same.refl _,⟨none,rfl⟩,rfl⟩ (by rw[JM];exact Nc (kaw (by omega))) ?_ ?_ ?_⟩
   ·rintro i σ ys H2 hi ⟨s2,_,rfl⟩
    nofun
    exists Y8
    refine⟨SqL.of (s2 _ _ h1),?_⟩
    rw[JM,Nl,kdC]
    rw[JM] at hi
    omega
   ·rintro i y σ ys H2 hy ⟨s2,⟨v0,rfl⟩,rfl⟩
    obtain⟨r,er,rfl⟩:=kcl hy
    obtain⟨g,eg,hr⟩:=hP.at er
    obtain⟨g0,g1,g2⟩:=hgr eg
    have al:atI (g.map iV) (-1)=some (iV (g.getLastD 0)):=kkr (by rw[JM,JY,g1];rfl) (by rw[JM];exact g0)
    exists 3
    exists Y8
    refine⟨_,rfl,1,rfl,r,_,_,_,rfl,rfl,SqL.of (s2 _ _ hr),al,s2,⟨_,rfl⟩,?_⟩
    rw[kbP (r:=g.getLastD 0) (by unfold lasts;rw[JY,eg];rfl),JW]
    rfl
   rintro σ ys H2 ⟨s2,⟨v0,rfl⟩,rfl⟩ D hD
   rw[JM,lgl,Mj (by rw[kdC];exact JO _)]
   have s3:=s2.trans (kam (o:=.lst ((lasts (grp m (fallP S.pr (abt ps (kds B) ms.kind ms.lone S)))).map iV)) hD)
   have fD:H D=none:=none_of (s1.trans s2) hD
   have eD:(upd H2 D (.lst ((lasts (grp m (fallP S.pr (abt ps (kds B) ms.kind ms.lone S)))).map iV))) D=some (.lst ((lasts (grp m (fallP S.pr (abt ps (kds B) ms.kind ms.lone S)))).map iV)):=kad
   generalize upd H2 D (.lst ((lasts (grp m (fallP S.pr (abt ps (kds B) ms.kind ms.lone S)))).map iV))=H3 at *
   obtain⟨o,p,mk,⟨dxs,fss,hx,l1,l2,l3,l4,l5⟩,ho,hp,hmk⟩:=id hS
   have s13:=s1.trans s3
   have lL:=kdC (grp m (fallP S.pr (abt ps (kds B) ms.kind ms.lone S)))
   nofun
   exists Y6
   refine⟨_,rfl,D,rfl,⟨_,SqL.of eD⟩,kba (xs:=(lasts (grp m (fallP S.pr (abt ps (kds B) ms.kind ms.lone S)))).map iV) (fun i σ ys H'=>Same H3 H'∧(∃v0:Option V,σ=[v0,some (.ref x)])∧∃tl,ys=tl.map V.ref∧P2 (GrpAt H H' pa) tl (((lasts (grp m (fallP S.pr (abt ps (kds B) ms.kind ms.lone S)))).take i).map fun a=>(S.pr.getD a 0,[a])))
    ⟨Same.refl _,⟨none,rfl⟩,[],rfl, .nil⟩ (by rw[JM];exact Nc (kaw (by omega))) ?_ ?_ ?_⟩
   ·rintro i σ ys H4 hi ⟨s4,_,tl,rfl,hT⟩
    nofun
    exists Y8
    refine⟨SqL.of (s4 _ _ eD),?_⟩
    rw[JM,hT.len,JM,Nl]
    rw[JM] at hi
    omega
   ·rintro i y σ ys H4 hy ⟨s4,⟨v0,rfl⟩,tl,rfl,hT⟩
    obtain⟨a,ea,rfl⟩:=kbB hy
    have ha:=hla a (JT ea)
    obtain⟨z,ez⟩:=at_of (habl a ha)
    have ez':S.pr.getD a 0=z:=by rw[J8,ez];rfl
    have s14:=s13.trans s4
    exists 3
    exists Y8
    refine⟨_,rfl,x,d.qc,dxs,fss,_,rfl,s14 _ _ hx,W.qc.cl,W.qx,l2,_,rfl,p,_,_,_,rfl,rfl,SqL.of (s14 _ _ hp),kaX (v:=.int z) (by rw[JY,ez];rfl),_,rfl,(by show 1≤sizeLine;decide),fun q hq=>⟨(by show 2≤sizeLine;decide),fun t ht=>?_⟩⟩
    have s5:=(kam (o:=.lst [iV a]) hq).trans (kam (o:=.tup [.int z, .ref q]) ht)
    exists 3
    exists Y8
    refine⟨s4.trans s5,⟨_,rfl⟩,tl++[t],by rw[JW];rfl,?_⟩
    rw[kbP ea,JW]
    exists 3
    exact P2.snoc (hT.mono fun t' q' ⟨ga,a1,a2,a3⟩=>⟨ga,s5 _ _ a1,s5 _ _ a2,a3⟩) ⟨q,by show upd _ _ _ _=some (.tup [.int (S.pr.getD a 0), .ref q]);rw[ez'];exact kad,kam ht _ _ kad, .inr (none_of s14 hq)⟩
   ·rintro σ ys H4 ⟨s4,⟨v0,rfl⟩,tl,rfl,hT⟩ D2 hD2
    rw[JM,NB] at hT
    have s5:=kam (o:=.lst (tl.map V.ref)) hD2
    have e1:((lasts (grp m (fallP S.pr (abt ps (kds B) ms.kind ms.lone S)))).map fun a=>(S.pr.getD a 0,[a])).map Prod.snd=(lasts (grp m (fallP S.pr (abt ps (kds B) ms.kind ms.lone S)))).map fun a=>[a]:=by
     rw[Nf]
     rfl
    have e2:=kju (fun i=>S.pr.getD i 0) (lasts (grp m (fallP S.pr (abt ps (kds B) ms.kind ms.lone S))))
    exists 3
    refine k _ D2 tl _ ((s13.trans s4).trans s5) (none_of (s13.trans s4) hD2) kad (hT.mono fun t' q ⟨ga,a1,a2,a3⟩=>⟨ga,s5 _ _ a1,s5 _ _ a2,a3⟩) ?_ (by rw[e1,e2.1];exact keR (by omega) (keX hand)) (by rw[e1,e2.1];exact fun i hi=>habl i (hla i hi)) (by rw[JM];omega) ?_
    ·intro c g hc
     obtain⟨a,ha,e⟩:=Nb.mp hc
     cases e
     have q0:(qs S.pr [a]).sum=S.pr.getD a 0:=by simp[qs]
     have q1:=kbe (qs_nn wf.nn [a])
     rw[q0] at q1⊢
     exists 3
     exact⟨q1,Int.le_refl _,by simp⟩
    ·rw[e1,e2.1,Nf]
     have e3:(lasts (grp m (fallP S.pr (abt ps (kds B) ms.kind ms.lone S)))).map ((fun p=>dl p.1 (qs S.pr p.2))∘fun a=>(S.pr.getD a 0,[a]))=(lasts (grp m (fallP S.pr (abt ps (kds B) ms.kind ms.lone S)))).map fun a=>[S.pr.getD a 0]:=
      NM fun a _=>kna _
     rw[e3,e2.2]
     exists 3
     exact(kkn (by omega) hand).symm
  | bund n pc=>
   have hn:2≤n∧n≤20∧0≤pc∧pc≤1000000000000:=vo.so
   obtain⟨m,rfl⟩:∃m:Nat,n=m:=⟨n.toNat,by omega⟩
   refine iteF ?_
   symm
   refine⟨_,rfl,_,_,_,_,rfl, .inr ⟨_,rfl⟩,TyOf.ins hv (cl_of W hh) I.ha I.hn I.ht I.hm,kbD W hh,_,rfl,iteF ⟨_,rfl,_,_,_,_,rfl, .inr ⟨_,rfl⟩,TyOf.ins hv (cl_of W hh) I.ha I.hn I.ht I.hm,kbn W hh,_,rfl,iteF ⟨_,rfl,_,_,_,_,rfl, .inr ⟨_,rfl⟩,TyOf.ins hv (cl_of W hh) I.ha I.hn I.ht I.hm,kc6 W hh,_,rfl,iteT ?_⟩⟩⟩
   have hpw:(abt ps (kds B) ms.kind ms.lone S).Pairwise (· < ·):=Ms.filter _ Ec
   have l64:(abt ps (kds B) ms.kind ms.lone S).length<64:=Ma (kdW _ _ _ _ _) wf.n64
   symm
   exists Y6
   refine⟨_,rfl,_,rfl,_,rfl,v,d.qk,dxv,fsv,_,rfl,hv,W.qk.cl,W.Vm,hso.1,x,pa,S,_,m,rfl,hS,hpa,hpw,habl,l64,by omega,by omega,htb,fun H1 gp gl s1 f1 h1 hP0 hg=>?_⟩
   have hP:P2 (fun r g=>H1 r=some (.lst (g.map iV))) gl (grp m (fallP S.pr (abt ps (kds B) ms.kind ms.lone S))):=hP0
   clear hP0
   have lgl:=hP.len
   have lG:=khy m (fallP S.pr (abt ps (kds B) ms.kind ms.lone S))
   have lf:(fallP S.pr (abt ps (kds B) ms.kind ms.lone S)).length=(abt ps (kds B) ms.kind ms.lone S).length:=(kbz _ _).length_eq
   have gin:∀g∈grp m (fallP S.pr (abt ps (kds B) ms.kind ms.lone S)),∀i∈g,i∈abt ps (kds B) ms.kind ms.lone S:=fun g hg' i hi=>(kbz _ _).mem_iff.mp (khx hg' i hi)
   have gok:∀g∈grp m (fallP S.pr (abt ps (kds B) ms.kind ms.lone S)),∀i∈g,i<S.pr.length:=fun g hg' i hi=>habl i (gin g hg' i hi)
   have lg:∀g∈grp m (fallP S.pr (abt ps (kds B) ms.kind ms.lone S)),g.length≤720:=fun g hg'=>by
    obtain⟨j,hj⟩:=N4.mp hg'
    have:=(kgN hj).2.1
    omega
   generalize egs:grp m (fallP S.pr (abt ps (kds B) ms.kind ms.lone S))=gs at *
   nofun
   exists Y6
   refine⟨_,rfl,gp,rfl,⟨_,SqL.of h1⟩,kba (xs:=gl.map V.ref) (fun i σ ys H'=>Same H1 H'∧(∃v0:Option V,σ=[v0,some (.ref x),some (.ref v)])∧∃tl,ys=tl.map V.ref∧P2 (GrpAt H H' pa) tl ((gs.take i).map fun g=>(max 0 ((qs S.pr g).sum-pc),g)))
    ⟨Same.refl _,⟨none,rfl⟩,[],rfl, .nil⟩ (by rw[JM];exact Nc (kaw (by omega))) ?_ ?_ ?_⟩
   ·rintro i σ ys H2 hi ⟨s2,_,tl,rfl,hT⟩
    nofun
    exists Y8
    refine⟨SqL.of (s2 _ _ h1),?_⟩
    rw[JM,hT.len,JM,Nl]
    rw[JM] at hi
    omega
   ·rintro i y σ ys H2 hy ⟨s2,⟨v0,rfl⟩,tl,rfl,hT⟩
    obtain⟨r,er,rfl⟩:=kcl hy
    obtain⟨g,eg,hr⟩:=hP.at er
    have s12:=s1.trans s2
    have hg':=JT eg
    have sn:=kbe (qs_nn wf.nn g)
    exists 3
    exists Y8
    refine⟨_,rfl,_,rfl,x,r,S,g,rfl,hS.same s12,s2 _ _ hr,gok g hg',lg g hg',fun H3 s3=>?_⟩
    have s13:=s12.trans s3
    exists 3
    exists Y8
    refine⟨_,rfl,v,d.qk,dxv,fsv,_,rfl,s13 _ _ hv,W.qk.cl,W.Vn,hso.2,_,_,rfl,rfl,?_⟩
    exists 3
    exists Y8
    refine⟨_,_,rfl,_,rfl,(by show 2≤sizeLine;decide),fun t ht=>?_⟩
    have emax:(if(0:Int) > (qs S.pr g).sum-pc then 0 else(qs S.pr g).sum-pc)=max 0 ((qs S.pr g).sum-pc):=by
     split <;> omega
    rw[emax]
    have s4:=kam (o:=.tup [.int (max 0 ((qs S.pr g).sum-pc)), .ref r]) ht
    exists 3
    exists Y8
    refine⟨(s2.trans s3).trans s4,⟨_,rfl⟩,tl++[t],by rw[JW];rfl,?_⟩
    rw[kbP eg,JW]
    exists 3
    refine P2.snoc (hT.mono fun t' q ⟨ga,a1,a2,a3⟩=>⟨ga,(s3.trans s4) _ _ a1,(s3.trans s4) _ _ a2,a3⟩) ⟨r,kad,((s2.trans s3).trans s4) _ _ hr, .inr (hg r (JT er))⟩
   ·rintro σ ys H2 ⟨s2,⟨v0,rfl⟩,tl,rfl,hT⟩ D hD
    rw[JM,lgl,NB] at hT
    have s3:=kam (o:=.lst (tl.map V.ref)) hD
    have e1:(gs.map fun g=>(max 0 ((qs S.pr g).sum-pc),g)).map Prod.snd=gs:=by
     rw[Nf]
     exists 3
     exact List.map_id' gs
    exists 3
    refine k _ D tl _ ((s1.trans s2).trans s3) (none_of (s1.trans s2) hD) kad (hT.mono fun t' q ⟨ga,a1,a2,a3⟩=>⟨ga,s3 _ _ a1,s3 _ _ a2,a3⟩) ?_ (by rw[e1,←egs];exact kgM (keX hand)) (by rw[e1];intro i hi;obtain⟨g,hg',hi'⟩:=NZ.mp hi;exact gok g hg' i hi') (by rw[JM];omega) ?_
    ·intro c g hc
     obtain⟨g',hg',e⟩:=Nb.mp hc
     cases e
     have sn:=kbe (qs_nn wf.nn g)
     exists 3
     exact⟨by omega,by omega,lg g hg'⟩
    ·rw[e1,Nf,←egs]
     exists 3
     exact(klg (fun z=>max 0 (z-pc)) hand).symm
  |carr=>
   refine iteF ?_
   symm
   refine⟨_,rfl,_,_,_,_,rfl, .inr ⟨_,rfl⟩,TyOf.ins hv (cl_of W hh) I.ha I.hn I.ht I.hm,kbD W hh,_,rfl,iteF ⟨_,rfl,_,_,_,_,rfl, .inr ⟨_,rfl⟩,TyOf.ins hv (cl_of W hh) I.ha I.hn I.ht I.hm,kbn W hh,_,rfl,iteF ⟨_,rfl,_,_,_,_,rfl, .inr ⟨_,rfl⟩,TyOf.ins hv (cl_of W hh) I.ha I.hn I.ht I.hm,kc6 W hh,_,rfl,iteF ?_⟩⟩⟩
   symm
   refine⟨by decide,fun l hl=>?_⟩
   symm
   refine k _ l [] [] (kam hl) hl kad .nil (fun c g hc=>by simp at hc) (by simp) (by simp) (by simp) ?_
   symm
   exact(spr_zero (k:=0)).trans spr_zero.symm
inductive kjq (K:JN) (d:D) (vs:List V) (H:Hp) (Q:VK) (E_:XK):Prop
 |ct (v a b x:Addr)(V:Vch)(ps:List (Option Nat))(B:Bask)(S:Stnd)(_:vs=[.ref v, .ref a, .ref b, .ref x])(_:VchIs d H v V)(_:SqL K H a (ps.map pV))(_:BaskIs d.qf d.qh H b B)(_:StndIs d.qc H x S)(_:Wf ps B S)(_:VchOk ps V)(_:∀(H':Hp)(p:Addr),Same H H'→H p=none→H' p=some (.lst ((cutM V ps (kds B) S).1.map L2.V.int))→Q (.ref p) H'):kjq K d vs H Q E_
theorem qK:kar ["voucher","parents","basket","standing","pieces","wanted","cut","group","piece","part","most"] ["voucher","parents","basket","standing"] (kai kbI):=by ac_rfl
theorem kco(W:WB K mg d base):FO P w W 4 d.X3 d.X4 ["voucher","parents","basket","standing"] (kjq K d):=by
 exists W.QX.F,qK
 ·obtain⟨v,a,b,x,Vc,ps,B,S,rfl,hV,hA,hB,hS,wf,vo,k⟩:=h
  exists Qo,kfU,W
  exists Uj,ke9,W
  exists Vy,kkS,W
  exists Xr,kd2,W
  exists hr1,1,hr,0
  refine⟨_,kac (psl (i:=4) qK.nd (pcl Qo hr W.Qu (kaa (pv 0) (kaa (pv 1) (kaa (pv 2) (kaa (pv 3) kae))))))
   (kac (khl (N:=["price"]) (CompScope.plain rfl (by decide +kernel) (by decide +kernel) (by decide +kernel) (nd1 _)) rfl (kaG (K:=K) (kak (K:=K) (pv 3) rfl)) (fun _ _ _ _=>pgn (i:=0) (nd1 _)) (fun _ _ _ _=>kah) (pgn (i:=5) qK.nd))
   (kac (kbm PassesOwn.never rfl (kaG (K:=K) (pcl Uj hr W.ZK (kaa (pv 0) (kaa (pv 3) (kaa (pv 4) kae))))) (kbi (K:=K) (n:=2) rfl (kax (pgn (i:=6) qK.nd) (kax (pgn (i:=7) qK.nd) kbh)))
   (kaf (kbm PassesOwn.never rfl (kfR rfl W.B.zip (kaa (pv 7) (kaa (pcl Vy hr1 W.QW (kaa (pv 6) (kaa (pcl Xr hr1 W.Q0 (kaa (pv 3) (kaa (pv 7) kae))) kae))) kae))) (kbi (K:=K) (n:=2) rfl (kax (pgn (i:=8) qK.nd) (kax (pgn (i:=9) qK.nd) kbh)))
   (kaf (kdr (pv 9) (kfo (pv 5) (pv 8) set_list))))))
   (kac (psl (i:=10) qK.nd (kak (K:=K) (kak (K:=K) (pv 0) rfl) rfl))
   (kac (ps_if (PW.pt (ka7 (kan kdh (pv 10) ka3 (kat _)) (kaV (kan op_gt (kao (r:=rSum K) (kcC rfl) (by rfl) W.B.sum b_sum (kaa (pv 5) kae)) (pv 10) (kat _))))) (kaf (kap (pcl Vy hr1 W.QW (kaa (pv 10) (kaa (pv 5) kae))))) (kaq))
   (kaf (kap (pv 5))))))),?_⟩
  have np:=wf.np
  have lp:=wf.lp
  exists Y4
  refine⟨_,rfl,_,rfl,_,rfl,_,rfl,v,a,b,x,Vc,ps,B,S,rfl,hV,hA,hB,hS,wf,vo,fun H1 pa s1 f1 h1=>?_⟩
  have habl:∀i∈abt ps (kds B) Vc.ms.kind Vc.ms.lone S,i<S.pr.length:=fun i hi=>by rw[lp];exact kfD hi
  have hand:=ke4 ps (kds B) Vc.ms.kind Vc.ms.lone S
  have lab:(abt ps (kds B) Vc.ms.kind Vc.ms.lone S).length≤720:=JR (kdW _ _ _ _ _) np
  obtain⟨o,p,mk,⟨dxs,fss,hx,l1,l2,l3,l4,l5⟩,ho,hp,hmk⟩:=id (hS.same s1)
  symm
  exists Y4
  refine⟨_,rfl,x,d.qc,dxs,fss,_,rfl,hx,W.qc.cl,W.qx,l2,p,rfl,⟨_,SqL.of hp⟩,kba (xs:=S.pr.map V.int) (fun i σ ys H'=>H'=H1∧ys=(JS i (0:Int)).map V.int∧∃v,σ=[v]) ⟨rfl,rfl,none,rfl⟩ ?_ ?_ ?_ ?_⟩
  ·rw[JM]
   symm
   exact Nc (kaw (by omega))
  ·rintro i σ ys H' hi ⟨rfl,rfl,_⟩
   symm
   exact⟨SqL.of hp,by simp⟩
  ·rintro i y σ ys H' hy ⟨rfl,rfl,v,rfl⟩
   symm
   exact⟨rfl,by rw[Ei,JW];rfl,_,rfl⟩
  rintro σ ys H' ⟨rfl,rfl,v0,rfl⟩ w hw
  rw[JM]
  have s2:=s1.trans (kam (o:=.lst ((JS S.pr.length (0:Int)).map V.int)) hw)
  have hw0:H w=none:=none_of s1 hw
  have ew:(upd H' w (.lst ((JS S.pr.length (0:Int)).map V.int))) w=some (.lst ((JS S.pr.length (0:Int)).map V.int)):=kad
  have h1o:=h1
  have h1:=kam (o:=.lst ((JS S.pr.length (0:Int)).map V.int)) hw _ _ h1
  have nw:pa≠w:=kag h1o hw
  generalize upd H' w (.lst ((JS S.pr.length (0:Int)).map V.int))=H2 at *
  symm
  exists Y4
  refine⟨_,rfl,_,rfl,_,rfl,v,x,pa,Vc,ps,B,S,rfl,hV.same s2,hS.same s2,h1,wf,vo,fun H3 gp tl gl s3 f3 h3 hP hc hnd hlt hgl hsp=>?_⟩
  have s03:=s2.trans s3
  have e3:=s3 _ _ ew
  have ngw:gp≠w:=fun e=>by rw[e,ew] at f3;cases f3
  symm
  exists Y4
  refine⟨gp,rfl,⟨_,SqL.of h3⟩,kbd (K:=K) (a:=gp) (xs:=tl.map V.ref) (fun i σ H'=>(∃v8 v9 v10 v11 v12:Option V,σ=[some (.ref v),some (.ref a),some (.ref b),some (.ref x),some (.ref pa),some (.ref w),v8,v9,v10,v11,v12])∧But w H3 H'∧
    H' w=some (.lst ((spr S.pr.length ((gl.take i).map Prod.snd).flatten ((gl.take i).map fun p=>dl p.1 (qs S.pr p.2)).flatten).map V.int)))
   ⟨⟨none,none,none,none,none,rfl⟩,But.refl,by rw[e3];simp[kjb]⟩ (fun i σ H' _ h=>SqL.of (h.2.1 _ _ ngw h3)) ?_ ?_⟩
  ·rintro i y σ H4 hy ⟨⟨v8,v9,v10,v11,v12,rfl⟩,b4,h4⟩
   obtain⟨t,et,rfl⟩:=kcl hy
   obtain⟨⟨c,g⟩,eg,ga,ht,hga,hor⟩:=hP.at et
   have hcg:=hc c g (JT eg)
   have hgl':∀i∈g,i<S.pr.length:=fun j hj=>hlt j (NZ.mpr ⟨g,Nb.mpr ⟨(c,g),JT eg,rfl⟩,hj⟩)
   have ngaw:ga≠w:=by
    rcases hor with rfl|hor
    ·exact nw
    ·exact fun e=>by rw[e,ew] at hor;cases hor
   have ntw:t≠w:=ne_of ht e3 (by intro z;cases z)
   have htt:H4 t=some (.tup [.int c, .ref ga]):=b4 _ _ ntw ht
   have hgg:H4 ga=some (.lst (g.map iV)):=b4 _ _ ngaw hga
   symm
   exists Y6
   refine⟨t,_,rfl,SqT.of htt,rfl,_,_,rfl,_,_,rfl,rfl,?_⟩
   have hS4:StndIs d.qc H4 x S:=by
    nofun
    exact StndIs.same (H:=H) (kh5 hw0 s03 b4) hS
   have gnn:=qs_nn wf.nn g
   have gsum:=kh8 wf hcg.2.2 hgl'
   have hg720:=hcg.2.2
   nofun
   exists Y6
   refine⟨_,rfl,_,rfl,_,rfl,_,rfl,x,ga,S,g,rfl,hS4,hgg,hgl',hg720,fun p5 hp5=>?_⟩
   have s5:=kam (o:=.lst ((qs S.pr g).map V.int)) hp5
   nofun
   exists Y6
   refine⟨c,p5,qs S.pr g,rfl,SqL.of kad,gnn,by omega,hcg.1,by omega,by rw[kbl];omega,fun p6 hp6=>?_⟩
   have s6:=s5.trans (kam (o:=.lst ((dl c (qs S.pr g)).map V.int)) hp6)
   have h6:(upd (upd H4 p5 (.lst ((qs S.pr g).map V.int))) p6 (.lst ((dl c (qs S.pr g)).map V.int))) p6=some (.lst ((dl c (qs S.pr g)).map V.int)):=kad
   have n6:H4 p6=none:=none_of s5 hp6
   generalize upd (upd H4 p5 (.lst ((qs S.pr g).map V.int))) p6 (.lst ((dl c (qs S.pr g)).map V.int))=H6 at *
   have b6:=b4.same s6
   have w6:=s6 _ _ h4
   have n6w:p6≠w:=fun e=>by rw[e,h4] at n6;cases n6
   have ldl:(dl c (qs S.pr g)).length=g.length:=by rw[keY,kbl]
   have emin:min (g.map iV).length ((dl c (qs S.pr g)).map V.int).length=g.length:=by rw[JM,JM,ldl,MJ]
   have ndt:∀(j n:Nat),g[j]?=some n→(((gl.take i).map Prod.snd).flatten++g.take j++[n]).Nodup:=fun j n hj=>by
    rw[MZ]
    nofun
    exact kes hnd (i:=i) (by rw[JY,eg];rfl) hj
   have lfl:((gl.take i).map Prod.snd).flatten.length=((gl.take i).map fun p=>dl p.1 (qs S.pr p.2)).flatten.length:=by
    rw[List.length_flatten,List.length_flatten,Nf,Nf]
    congr 1
    nofun
    refine NM fun q _=>?_
    show q.2.length=(dl q.1 (qs S.pr q.2)).length
    rw[keY,kbl]
   nofun
   exists Y6
   refine⟨ga,p6,_,_,rfl,s6 _ _ hgg,h6,kkb (xs:=g.map iV) (ys:=(dl c (qs S.pr g)).map V.int) (fun j σ H'=>(∃v8 v9 v10 v11 v12:Option V,σ=[some (.ref v),some (.ref a),some (.ref b),some (.ref x),some (.ref pa),some (.ref w),v8,v9,v10,v11,v12])∧But w H3 H'∧H' ga=some (.lst (g.map iV))∧H' p6=some (.lst ((dl c (qs S.pr g)).map V.int))∧
     H' w=some (.lst ((spr S.pr.length (((gl.take i).map Prod.snd).flatten++g.take j) (((gl.take i).map fun p=>dl p.1 (qs S.pr p.2)).flatten++(dl c (qs S.pr g)).take j)).map V.int)))
    ⟨⟨_,_,_,_,_,rfl⟩,b6,s6 _ _ hgg,h6,by rw[w6];simp⟩ (fun j σ H' _ h=>⟨h.2.2.1,h.2.2.2.1⟩) ?_ ?_⟩
   ·rintro j y1 y2 t2 σ H7 hy1 hy2 ⟨⟨v8,v9,v10,v11,v12,rfl⟩,b7,g7,d7,w7⟩ ht2
    obtain⟨n,en,rfl⟩:=kbB hy1
    obtain⟨z,ez,rfl⟩:=kbB hy2
    have hn:=hgl' n (JT en)
    have s8:=kam (o:=.tup [iV n,V.int z]) ht2
    nofun
    exists Y8
    refine⟨t2,_,rfl,SqT.of kad,rfl,_,_,rfl,_,_,rfl,rfl,?_⟩
    exists 3
    exists Y8
    refine⟨_,rfl,_,rfl,_,rfl,w,_,_,n,rfl,rfl,s8 _ _ w7,kdU (by rw[JM,kdc];exact hn),⟨_,_,_,_,_,rfl⟩,(b7.same s8).trans kav,?_,?_,?_⟩
    ·rw[kaj ngaw]
     exists 3
     exact s8 _ _ g7
    ·rw[kaj n6w]
     exists 3
     exact s8 _ _ d7
    ·rw[kad,←Mc,kbP en,kbP ez,←Nt,←Nt]
     rw[kkC (by rw[JZ,JZ,lfl,Nl,Nl,ldl]) (ndt j n en) hn]
   ·rintro σ H7 ⟨⟨v8,v9,v10,v11,v12,rfl⟩,b7,g7,d7,w7⟩
    exists 3
    exists Y8
    refine⟨⟨_,_,_,_,_,rfl⟩,b7,?_⟩
    rw[w7,emin,NB,Mj (MT ldl),kbP eg]
    simp
  rintro σ H4 ⟨⟨v8,v9,v10,v11,v12,rfl⟩,b4,h4⟩
  have ltl:(tl.map V.ref).length=gl.length:=by rw[JM,hP.len]
  rw[ltl,NB,hsp] at h4
  have s04:Same H H4:=kh5 hw0 s03 b4
  obtain⟨mA,dxv,fsv,hv,lvm,_,⟨dxm,fsm,hm,m1,m2,m3,m4,m5,m6⟩,hh,htb⟩:=id (hV.same s04)
  symm
  exists Y4
  refine⟨_,rfl,v,clsOf d Vc.so,dxv,fsv,_,rfl,hv,cl_of W hh,na_of W hh,lvm,mA,d.qe,dxm,fsm,_,rfl,hm,W.qe.cl,W.Qx,m3,?_⟩
  have wle:=kg4 (so:=Vc.so) (n:=S.mkd.length) (lines:=(abt ps (kds B) Vc.ms.kind Vc.ms.lone S).map fun i=>S.ow.getD i 0) (qs_nn wf.nn (abt ps (kds B) Vc.ms.kind Vc.ms.lone S)) vo.so
  have cn:=kld (V:=Vc) (ps:=ps) (kk:=kds B) (S:=S)
  have cs:=fun(m:Int)(e:Vc.ms.most=some m)(h0:0≤m)=>klc (V:=Vc) (ps:=ps) (kk:=kds B) (S:=S) lp wle e h0
  have sabs:=kh8 wf lab habl
  generalize ewant:want Vc.so S.mkd.length ((abt ps (kds B) Vc.ms.kind Vc.ms.lone S).map fun i=>S.ow.getD i 0) (qs S.pr (abt ps (kds B) Vc.ms.kind Vc.ms.lone S))=wn at *
  have fnn:Nn (spr S.pr.length (abt ps (kds B) Vc.ms.kind Vc.ms.lone S) wn):=(kfh wf.nn wle).nn
  have fsum:(spr S.pr.length (abt ps (kds B) Vc.ms.kind Vc.ms.lone S) wn).sum≤720000000000000:=by
   have h:=(kfh wf.nn wle).sum
   have h2:=kdJ (b:=1000000000000) (q:=S.pr) fun z hz=>(wf.pr z hz).2
   omega
  cases em:Vc.ms.most with
  |none=>
   symm
   refine⟨_,rfl,rfl,_,rfl,?_⟩
   show if(!decide (V.non=V.non))=true then _ else _
   rw[klF]
   refine iteF (iteF ⟨_,rfl,k _ w s04 hw0 ?_⟩)
   rw[h4,cn em]
  | some m=>
   have hm0:=vo.ms.most m em
   symm
   refine⟨_,rfl,rfl,_,rfl,?_⟩
   show if(!decide (V.int m=V.non))=true then _ else _
   rw[klG]
   refine iteT ?_
   symm
   exists Y6
   refine⟨_,rfl,w,_,rfl,SqL.of h4,_,rfl,_,_,rfl,rfl,_,rfl,?_⟩
   by_cases hgt:(spr S.pr.length (abt ps (kds B) Vc.ms.kind Vc.ms.lone S) wn).sum > m
   ·rw[decide_eq_true hgt]
    refine iteT ?_
    nofun
    exists Y8
    refine⟨_,rfl,_,rfl,m,w,_,rfl,SqL.of h4,fnn,by omega,hm0.1,by omega,by rw[kdc];omega,fun p7 hp7=>?_⟩
    exists 3
    refine k _ p7 (s04.trans (kam hp7)) (none_of s04 hp7) ?_
    rw[kad,cs m em hm0.1,if_pos hgt]
   ·rw[decide_eq_false hgt]
    refine iteF ?_
    exists 3
    refine⟨_,rfl,k _ w s04 hw0 ?_⟩
    rw[h4,cs m em hm0.1,if_neg hgt]
theorem kl4:kar ["voucher","parents","basket","standing"] ["voucher","parents","basket","standing"] (kai kjx):=by ac_rfl
theorem kmh(W:WB K mg d base):FO P w W 5 d.XT d.XU ["voucher","parents","basket","standing"] (klu K d):=by
 exists W.ZG.F,kl4
 ·obtain⟨v,a,b,x,Vc,ps,B,S,rfl,hV,hA,hB,hS,wf,vo,k⟩:=h
  exists Xv,kco,W
  exists Xw,kb8,W
  exists hr2,2,hr,0
  refine⟨_,kaf (kap (kcm (kaa (pcl Xv hr W.QX (kaa (pv 0) (kaa (pv 1) (kaa (pv 2) (kaa (pv 3) kae))))) (kaa (pcl Xw hr2 W.QY (kaa (pv 0) (kaa (pv 3) kae))) kae)))),?_⟩
  refine⟨_,rfl,_,rfl,_,rfl,_,rfl,v,a,b,x,Vc,ps,B,S,rfl,hV,hA,hB,hS,wf,vo,fun H1 p s1 f1 h1=>?_⟩
  refine⟨_,rfl,_,rfl,v,x,Vc,S,rfl,hV.same s1,hS.same s1,(by show 2≤sizeLine;decide),fun t ht=>?_⟩
  rw[←kkf (ps:=ps) (kk:=kds B) (S:=S) vo]
  refine k _ t p (s1.trans (kam ht)) (none_of s1 ht) f1 ?_ (kam ht _ _ h1)
  exact kad
theorem klj{l:List Nat}{f g:Nat→Bool}(h:∀x∈l,f x=g x):l.any f=l.any g:=by
 induction l with
 |nil=>rfl
 |cons a l ih=>rw[Mr,Mr,h a Na,ih fun x hx=>h x (J5 _ hx)]
theorem khC{ow:List Nat}{cs:List Int}{i o l:Nat}(h:ow[i]?=some o):kdF (ow.take (i+1)) cs l=(kdF (ow.take i) cs l||(o==l&&decide (0<cs.getD i 0))):=by
 have hi:=at_lt h
 unfold kdF
 rw[Nl,Nl,Eg (by omega),Eg (by omega),NG,List.any_append]
 congr 1
 ·refine klj fun j hj=>?_
  have hj':j<i:=by simpa using hj
  simp only[J8,ER]
  rw[if_pos (by omega),if_pos hj']
 ·simp only[Mr,List.any_nil,Bool.or_false]
  rw[J8,ER,if_pos (by omega),h]
  rfl
inductive kc7 (d:D) (vs:List V) (H:Hp) (Q:VK) (E_:XK):Prop
 |ct (v x c:Addr)(V:Vch)(S:Stnd)(cs:List Int)(_:vs=[.ref v, .ref x, .ref c])(_:VchIs d H v V)(_:StndIs d.qc H x S)(_:H c=some (.lst (cs.map L2.V.int)))(_:cs.length=S.ow.length)(_:S.ow.length≤720)(_:S.mkd.length≤12)(_:(∀l∈S.ow,l<S.mkd.length))(_:∀(H':Hp)(p:Addr),Same H H'→H p=none→H' p=some (.lst (((JQ S.mkd.length).map fun l=>S.mkd.getD l false||(V.ms.lone&&kdF S.ow cs l)).map L2.V.bl))→Q (.ref p) H'):kc7 d vs H Q E_
theorem QE:kar ["voucher","standing","piece_cuts","marked","owner","cut"] ["voucher","standing","piece_cuts"] (kai kbS):=by ac_rfl
theorem ked(W:WB K mg d base):FO P w W 1 d.Yc d.Yd ["voucher","standing","piece_cuts"] (kc7 d):=by
 exists W.ZM.F,QE
 ·obtain⟨v,x,c,Vc,S,cs,rfl,⟨mA,dxv,fsv,hv,lvm,_,⟨dxm,fsm,hm,m1,m2,m3,m4,m5,m6⟩,hh,htb⟩,⟨o,p,mk,⟨dxs,fss,hx,l1,l2,l3,l4,l5⟩,ho,hp,hmk⟩,hc,lc,lo,lmk,hw,k⟩:=h
  refine⟨_,kac (psl (i:=3) QE.nd (kaJ (r:=ka6 K) kaB (by rfl) W.B.list kbt (kaa (kak (K:=K) (pv 1) rfl) kae)))
   (kac (ps_if (kaO (kak (K:=K) (kak (K:=K) (pv 0) rfl) rfl)) (kaf (kbm PassesOwn.never rfl (kfR rfl W.B.zip (kaa (kak (K:=K) (pv 1) rfl) (kaa (pv 2) kae))) (kbi (K:=K) (n:=2) rfl (kax (pgn (i:=4) QE.nd) (kax (pgn (i:=5) QE.nd) kbh)))
   (kaf (ps_if (kan op_gt (pv 5) kah (kat _)) (kaf (kdr pe_bl (kfo (pv 3) (pv 4) set_list))) (kaq))))) (kaq))
   (kaf (kap (pv 3)))),?_⟩
  have e0:S.mkd.map V.bl=((JQ S.mkd.length).map fun l=>S.mkd.getD l false||kdF (S.ow.take 0) cs l).map V.bl:=by
   congr 1
   apply Mo
   ·simp
   ·intro j h1 h2
    simp[kdF,h1]
  exists Y4
  refine⟨_,rfl,x,d.qc,dxs,fss,_,rfl,hx,W.qc.cl,W.Qg,l4,mk,_,rfl, .inl (SqL.of hmk),fun q hq=>?_⟩
  have s1:=kam (o:=.lst (S.mkd.map V.bl)) hq
  symm
  exists Y4
  refine⟨_,rfl,v,clsOf d Vc.so,dxv,fsv,_,rfl,s1 _ _ hv,cl_of W hh,na_of W hh,lvm,mA,d.qe,dxm,fsm,_,rfl,s1 _ _ hm,W.qe.cl,W.Q5,m6,_,rfl,?_⟩
  cases e:Vc.ms.lone with
  |false=>
   refine iteF ?_
   symm
   exists Y6
   refine⟨_,rfl,k _ q s1 hq ?_⟩
   rw[e0]
   simp only[e,MQ,Bool.or_false]
   rw[kad]
   congr 2
   simp[kdF]
  | true=>
   refine iteT ?_
   have emin:min (S.ow.map iV).length (cs.map V.int).length=S.ow.length:=by rw[JM,JM,lc,MJ]
   symm
   exists Y6
   refine⟨_,rfl,x,d.qc,dxs,fss,_,rfl,s1 _ _ hx,W.qc.cl,W.qL,l1,_,rfl,o,c,_,_,rfl,s1 _ _ ho,s1 _ _ hc,
    kkb (xs:=S.ow.map iV) (ys:=cs.map V.int) (fun i σ H'=>(∃v4 v5:Option V,σ=[some (.ref v),some (.ref x),some (.ref c),some (.ref q),v4,v5])∧But q H H'∧H' q=some (.lst (((JQ S.mkd.length).map fun l=>S.mkd.getD l false||kdF (S.ow.take i) cs l).map V.bl)))
     ⟨⟨none,none,rfl⟩,But.of_same s1,by rw[kad,e0]⟩ (fun i σ H' _ h=>⟨h.2.1 _ _ (kag ho hq) ho,h.2.1 _ _ (kag hc hq) hc⟩) ?_ ?_⟩
   ·rintro i y z t σ H1 hy hz ⟨⟨v4,v5,rfl⟩,b1,h1⟩ ht
    obtain⟨ln,eln,rfl⟩:=kbB hy
    obtain⟨cz,ecz,rfl⟩:=kbB hz
    have hln:=hw ln (JT eln)
    have st:=fun l=>khC (cs:=cs) (l:=l) eln
    have eg:cs.getD i 0=cz:=by rw[J8,ecz];rfl
    have tq:q≠t:=kag h1 ht
    have b2:=b1.same (kam (o:=.tup [iV ln,V.int cz]) ht)
    have h2:=kam (o:=.tup [iV ln,V.int cz]) ht _ _ h1
    nofun
    exists Y8
    refine⟨t,_,rfl,SqT.of kad,rfl,_,_,rfl,_,_,rfl,rfl,?_⟩
    exists 3
    exists Y8
    refine⟨_,rfl,_,_,rfl,rfl,_,rfl,?_⟩
    by_cases hc0:cz > 0
    ·rw[decide_eq_true hc0]
     refine iteT ?_
     exists 3
     exists Y10
     refine⟨_,rfl,_,rfl,q,_,_,ln,rfl,rfl,h2,kdU (by simpa using hln),⟨_,_,rfl⟩,b2.trans kav,?_⟩
     rw[kad,←Mc]
     congr 3
     apply Mo
     ·simp
     ·intro j g1 g2
      have hj:j<S.mkd.length:=by simpa using g1
      rw[List.getElem_set]
      simp only[ML,M7]
      rw[st j,eg]
      by_cases hjl:ln=j
      ·subst hjl
       simp[hc0]
      ·rw[if_neg hjl,show(ln==j)=false by simpa using hjl]
       simp
    ·rw[decide_eq_false hc0]
     refine iteF ?_
     try first|apply Y10|apply Y8|apply Y6|apply Y4
     exists Y10
     refine⟨⟨_,_,rfl⟩,b2,?_⟩
     rw[h2]
     congr 3
     try first|apply Y10|apply Y8|apply Y6|apply Y4
     refine NM fun l _=>?_
     rw[st l,eg,show decide (0<cz)=false by simpa using hc0]
     simp
   ·rintro σ H1 ⟨⟨v4,v5,rfl⟩,b1,h1⟩
    rw[emin,NB] at h1
    exists 3
    exists Y8
    refine⟨_,rfl,k _ q (kko b1 hq) hq ?_⟩
    rw[h1]
    simp only[e,Bool.true_and]
noncomputable def rmv(x:Addr)(H:Hp):Hp:=fun a=>if a=x then none else H a
theorem kgp{x:Addr}{H:Hp}:rmv x H x=none:=if_pos rfl
theorem kc8{x a:Addr}{H:Hp}(n:a≠x):rmv x H a=H a:=if_neg n
theorem kfO{x a:Addr}{H:Hp}{o:HO}(h:rmv x H a=some o):H a=some o:=by
 by_cases e:a=x
 ·subst e
  rw[kgp] at h
  cases h
 ·rw[kc8 e] at h
  exact h
theorem keC{x:Addr}{H:Hp}(hx:NX H x):But x H (rmv x H):=fun b u n e=>ev_eq (by rw[kc8 n];exact e) fun⟨ps,e1,t,hor⟩=>⟨ps,by rw[kc8 n];exact e1,t,fun pos c ec=>by
 obtain⟨c',rfl,z2⟩:=hor pos c ec
 exact⟨c',rfl,by rw[kc8 fun e=>hx _ (e▸z2)];exact z2⟩⟩
theorem rmv_sub{x:Addr}{H:Hp}:Same (rmv x H) H:=fun b u e=>ev_eq (kfO e) fun⟨ps,e1,t,hor⟩=>⟨ps,kfO e1,t,fun pos c ec=>by
 obtain⟨c',rfl,z2⟩:=hor pos c ec
 exact⟨c',rfl,kfO z2⟩⟩
theorem kbO{Hs H H':Hp}{x:Addr}(s:Same Hs H)(b:But x H H')(f:Hs x=none):Same Hs H':=fun c u e=>kbA (s c u e) fun u' e'=>b c u' (kag e f) e'
inductive StndN (C:Addr) (H0 H:Hp) (x:Addr) (S:Stnd):Prop
 |ct (_:H0 x=none)(o p mk:Addr)(_:StandAt C H x o p mk S.cg)(_:H0 o=none)(_:H0 p=none)(_:H0 mk=none)(_:H o=some (.lst (S.ow.map iV)))(_:H p=some (.lst (S.pr.map V.int)))(_:H mk=some (.lst (S.mkd.map V.bl))):StndN C H0 H x S
theorem StndN.is{C x:Addr}{H0 H:Hp}{S:Stnd}:StndN C H0 H x S→StndIs C H x S:=fun⟨_,o,p,mk,h,_,_,_,h1,h2,h3⟩=>⟨o,p,mk,h,h1,h2,h3⟩
theorem keB{H0 H:Hp}{q a:Addr}(hq:H0 q≠none)(f:H0 a=none):rmv q H a=H a:=kc8 fun e=>hq (e▸f)
theorem StndN.rmv{C x q:Addr}{H0 H:Hp}{S:Stnd}(hq:H0 q≠none):StndN C H0 H x S→StndIs C (rmv q H) x S:=fun⟨f,o,p,mk,⟨dx,fs,hx,r⟩,f1,f2,f3,h1,h2,h3⟩=>⟨o,p,mk,⟨dx,fs,(keB hq f).trans hx,r⟩,(keB hq f1).trans h1,(keB hq f2).trans h2,(keB hq f3).trans h3⟩
inductive WayN (d:D) (m:Nat) (H0 H:Hp) (w t b x:Addr) (hand:List Int) (used:List Nat):Prop
 |ct (_:H0 w=none)(dx:Addr)(fs:List (Str×V))(h u:Addr)(_:H0 h=none)(_:H0 u=none)(_:H w=some (.ins d.c_Way dx fs))(_:fs.lookup ("till" :Str)=some (.ref t))(_:fs.lookup ("basket" :Str)=some (.ref b))(_:fs.lookup ("hand" :Str)=some (.ref h))(_:fs.lookup ("used" :Str)=some (.ref u))(_:fs.lookup ("standing" :Str)=some (.ref x))(_:fs.lookup ("word_for" :Str)=none)(_:fs.lookup ("behind" :Str)=none)(_:fs.lookup ("is_let_by" :Str)=none)(_:fs.lookup ("followers" :Str)=none)(_:fs.length≤m)(_:H h=some (.lst (hand.map V.int)))(_:H u=some (.lst (used.map iV))):WayN d m H0 H w t b x hand used
theorem WayN.at{d:D}{m:Nat}{H0 H:Hp}{w t b x:Addr}{hand:List Int}{used:List Nat}:WayN d m H0 H w t b x hand used→WayAt d m H w t b x hand used:=fun⟨_,dx,fs,h,u,_,_,h1,h2,h3,h4,h5,h6,h7,h8,h9,h10,h11,h12,h13⟩=>⟨dx,fs,h,u,h1,h2,h3,h4,h5,h6,h7,h8,h9,h10,h11,h12,h13⟩
theorem WayN.rmv{d:D}{m:Nat}{H0 H:Hp}{w t b x q:Addr}{hand:List Int}{used:List Nat}(hq:H0 q≠none):WayN d m H0 H w t b x hand used→WayAt d m (rmv q H) w t b x hand used:=fun⟨f,dx,fs,h,u,f1,f2,g,h2,h3,h4,h5,h6,h7,h8,h9,h10,h11,h12,h13⟩=>⟨dx,fs,h,u,(keB hq f).trans g,h2,h3,h4,h5,h6,h7,h8,h9,h10,h11,(keB hq f1).trans h12,(keB hq f2).trans h13⟩
inductive kh3 (K:JN) (d:D) (vs:List V) (H:Hp) (Q:VK) (E_:XK):Prop
 |ct (v a b x:Addr)(V:Vch)(ps:List (Option Nat))(B:Bask)(S:Stnd)(_:vs=[.ref v, .ref a, .ref b, .ref x])(_:VchIs d H v V)(_:SqL K H a (ps.map pV))(_:BaskIs d.qf d.qh H b B)(_:StndIs d.qc H x S)(_:Wf ps B S)(_:VchOk ps V)(_:∀(H':Hp)(x':Addr),Same H H'→H x'=none→StndN d.qc H H' x' (aftM V ps (kds B) S)→Q (.ref x') H'):kh3 K d vs H Q E_
theorem Xx:kar ["voucher","parents","basket","standing","piece_cuts","left"] ["voucher","parents","basket","standing"] (kai khk):=by ac_rfl
theorem kkT(W:WB K mg d base):FO P w W 5 d.XW d.XX ["voucher","parents","basket","standing"] (kh3 K d):=by
 exists W.ZH.F,Xx
 ·obtain⟨v,a,b,x,Vc,ps,B,S,rfl,hV,hA,hB,hS,wf,vo,k⟩:=h
  exists Xv,kco,W
  exists Xy,kcF,W
  exists Xw,kb8,W
  exists Uk,ked,W
  exists hr1,1,hr,0
  exists hr2,2,hr,0
  exists hr3,3,hr,0
  refine⟨_,kac (psl (i:=4) Xx.nd (pcl Xv hr W.QX (kaa (pv 0) (kaa (pv 1) (kaa (pv 2) (kaa (pv 3) kae))))))
   (kac (psl (i:=5) Xx.nd (ka8 (W.Qh.mk' W.qc) Xy hr3 rfl W.qc.m W.Qh.b .nil pass0 (kaa (pv 2) kae)))
   (kac (kaD (pv 5) (kaJ (r:=ka6 K) kaB (by rfl) W.B.list kbt (kaa (kak (K:=K) (pv 3) rfl) kae)) rfl)
   (kac (kaD (pv 5) (kbY (N:=["price","cut"]) (CompScope.plain rfl (by decide +kernel) (by decide +kernel) (by decide +kernel) (show(["price","cut"]:List Str).Nodup by decide +kernel)) rfl (kfR rfl W.B.zip (kaa (kak (K:=K) (pv 3) rfl) (kaa (pv 4) kae))) (fun _ _ _ _=>kbi (K:=K) (n:=2) rfl (kax (pgn (i:=0) (show(["price","cut"]:List Str).Nodup by decide +kernel)) (kax (pgn (i:=1) (show(["price","cut"]:List Str).Nodup by decide +kernel)) kbh))) (fun _ _ _ _=>(pe_op kd1 (pv 0) (pv 1)))) rfl)
   (kac (kaD (pv 5) (pe_op kd1 (kak (K:=K) (pv 3) rfl) (pcl Xw hr2 W.QY (kaa (pv 0) (kaa (pv 3) kae)))) rfl)
   (kac (kaD (pv 5) (pcl Uk hr1 W.ZM (kaa (pv 0) (kaa (pv 3) (kaa (pv 4) kae)))) rfl)
   (kaf (kap (pv 5)))))))),?_⟩
  have np:=wf.np
  have lp:=wf.lp
  have lcut:(cutM Vc ps (kds B) S).1.length=S.pr.length:=(kiy wf.nn wf.cg.1 vo.so fun m e=>(vo.ms.most m e).1).1.1
  exists Y4
  refine⟨_,rfl,_,rfl,_,rfl,_,rfl,v,a,b,x,Vc,ps,B,S,rfl,hV,hA,hB,hS,wf,vo,fun H1 pc s1 f1 h1=>?_⟩
  obtain⟨l,ls,hb1,hl1,hL1⟩:=id (hB.same s1)
  symm
  exists Y4
  refine⟨_,rfl,kjQ hb1 hl1 hL1 wf.nl wf.ok fun H2 y s2 f2 dxy fsy hy ly lyw=>?_⟩
  have fy:H y=none:=none_of s1 f2
  have s02:=s1.trans s2
  obtain⟨o,p,mk,⟨dxs,fss,hx,l1,l2,l3,l4,l5⟩,ho,hp,hmk⟩:=id hS
  symm
  exists Y4
  refine⟨_,rfl,x,d.qc,dxs,fss,_,rfl,s02 _ _ hx,W.qc.cl,W.qL,l1,o,_,rfl, .inl (SqL.of (s02 _ _ ho)),fun q1 hq1=>?_⟩
  have n1:q1≠y:=(kag hy hq1).symm
  symm
  exists Y4
  refine⟨_,rfl,y,d.qc,dxy,fsy,rfl,kam hq1 _ _ hy,W.qc.cl,W.qL,few (by omega),?_⟩
  have s3:Same H (upd (upd H2 q1 (.lst (S.ow.map iV))) y (.ins d.qc dxy (putF "owners" (.ref q1) fsy))):=kas fy (s02.trans (kam hq1))
  have e3:(upd (upd H2 q1 (.lst (S.ow.map iV))) y (.ins d.qc dxy (putF "owners" (.ref q1) fsy))) q1=some (.lst (S.ow.map iV)):=by rw[kaj n1,kad]
  have y3:(upd (upd H2 q1 (.lst (S.ow.map iV))) y (.ins d.qc dxy (putF "owners" (.ref q1) fsy))) y=some (.ins d.qc dxy (putF "owners" (.ref q1) fsy)):=kad
  have c3:(upd (upd H2 q1 (.lst (S.ow.map iV))) y (.ins d.qc dxy (putF "owners" (.ref q1) fsy))) pc=some (.lst ((cutM Vc ps (kds B) S).1.map V.int)):=by
   rw[kaj (kag h1 f2)]
   symm
   exact kam hq1 _ _ (s2 _ _ h1)
  have f3:=JR (kal (f:="owners") (v:=.ref q1) ly) (by decide:11≤20)
  generalize upd (upd H2 q1 (.lst (S.ow.map iV))) y (.ins d.qc dxy (putF "owners" (.ref q1) fsy))=H3 at *
  have emin:min (S.pr.map V.int).length ((cutM Vc ps (kds B) S).1.map V.int).length=S.pr.length:=by rw[JM,JM,lcut,MJ]
  symm
  exists Y4
  refine⟨_,rfl,x,d.qc,dxs,fss,_,rfl,s3 _ _ hx,W.qc.cl,W.qx,l2,_,rfl,p,pc,_,_,rfl,s3 _ _ hp,c3,
   kiz (xs:=S.pr.map V.int) (ys:=(cutM Vc ps (kds B) S).1.map V.int) (fun i σ zs H'=>Same H3 H'∧zs=((NH (· - ·) S.pr (cutM Vc ps (kds B) S).1).take i).map V.int∧∃v0 v1:Option V,σ=[v0,v1])
    ⟨Same.refl _,rfl,none,none,rfl⟩ (by rw[emin];exact Nc (kaw (by omega))) (fun i σ zs H' hi h=>⟨h.1 _ _ (s3 _ _ hp),h.1 _ _ c3,by rw[h.2.1,JM,Nl,Ea,lcut];rw[emin] at hi;omega⟩) ?_ ?_⟩
  ·rintro i y1 y2 t σ zs H4 hy1 hy2 ⟨s4,rfl,v0,v1,rfl⟩ ht
   obtain⟨z1,ez1,rfl⟩:=kbB hy1
   obtain⟨z2,ez2,rfl⟩:=kbB hy2
   symm
   exists Y6
   refine⟨t,_,rfl,SqT.of kad,rfl,_,_,rfl,_,_,rfl,rfl,_,rfl,_,rfl,_,_,rfl,rfl,s4.trans (kam ht),?_,_,_,rfl⟩
   rw[kbP (r:=z1-z2) (by rw[Eb,ez1,ez2]),JW]
   rfl
  rintro σ zs H4 ⟨s4,rfl,v0,v1,rfl⟩ q2 hq2
  rw[emin,Mj (by rw[Ea,lcut];omega)]
  have n2:q2≠y:=(kag (s4 _ _ y3) hq2).symm
  have n12:q1≠q2:=kag (s4 _ _ e3) hq2
  have s5:=kam (o:=.lst ((NH (· - ·) S.pr (cutM Vc ps (kds B) S).1).map V.int)) hq2
  symm
  exists Y4
  refine⟨_,rfl,y,d.qc,dxy,_,rfl,s5 _ _ (s4 _ _ y3),W.qc.cl,W.qx,few f3,?_⟩
  have s6:Same H (upd (upd H4 q2 (.lst ((NH (· - ·) S.pr (cutM Vc ps (kds B) S).1).map V.int))) y (.ins d.qc dxy (putF "prices" (.ref q2) (putF "owners" (.ref q1) fsy)))):=kas fy ((s3.trans s4).trans s5) (nx (s5 _ _ (s4 _ _ y3)))
  have e6:(upd (upd H4 q2 (.lst ((NH (· - ·) S.pr (cutM Vc ps (kds B) S).1).map V.int))) y (.ins d.qc dxy (putF "prices" (.ref q2) (putF "owners" (.ref q1) fsy)))) q1=some (.lst (S.ow.map iV)):=by
   rw[kaj n1]
   symm
   exact s5 _ _ (s4 _ _ e3)
  have p6:(upd (upd H4 q2 (.lst ((NH (· - ·) S.pr (cutM Vc ps (kds B) S).1).map V.int))) y (.ins d.qc dxy (putF "prices" (.ref q2) (putF "owners" (.ref q1) fsy)))) q2=some (.lst ((NH (· - ·) S.pr (cutM Vc ps (kds B) S).1).map V.int)):=by rw[kaj n2,kad]
  have y6:(upd (upd H4 q2 (.lst ((NH (· - ·) S.pr (cutM Vc ps (kds B) S).1).map V.int))) y (.ins d.qc dxy (putF "prices" (.ref q2) (putF "owners" (.ref q1) fsy)))) y=some (.ins d.qc dxy (putF "prices" (.ref q2) (putF "owners" (.ref q1) fsy))):=kad
  have c6:(upd (upd H4 q2 (.lst ((NH (· - ·) S.pr (cutM Vc ps (kds B) S).1).map V.int))) y (.ins d.qc dxy (putF "prices" (.ref q2) (putF "owners" (.ref q1) fsy)))) pc=some (.lst ((cutM Vc ps (kds B) S).1.map V.int)):=by
   rw[kaj (kag h1 f2)]
   symm
   exact s5 _ _ (s4 _ _ c3)
  have f6:=JR (kal (f:="prices") (v:=.ref q2) (kal (f:="owners") (v:=.ref q1) ly)) (by decide:12≤20)
  generalize upd (upd H4 q2 (.lst ((NH (· - ·) S.pr (cutM Vc ps (kds B) S).1).map V.int))) y (.ins d.qc dxy (putF "prices" (.ref q2) (putF "owners" (.ref q1) fsy)))=H6 at *
  symm
  exists Y4
  refine⟨_,rfl,x,d.qc,dxs,fss,_,rfl,s6 _ _ hx,W.qc.cl,W.qM,l3,_,rfl,_,rfl,v,x,Vc,S,rfl,hV.same s6,hS.same s6,_,_,rfl,rfl,?_⟩
  rw[←kkf (ps:=ps) (kk:=kds B) (S:=S) vo]
  symm
  exists Y4
  refine⟨_,rfl,y,d.qc,dxy,_,rfl,y6,W.qc.cl,W.qM,few f6,?_⟩
  have s7:Same H (upd H6 y (.ins d.qc dxy (putF "carriage" (.int (S.cg-(cutM Vc ps (kds B) S).2)) (putF "prices" (.ref q2) (putF "owners" (.ref q1) fsy))))):=kas fy s6
  have e7:(upd H6 y (.ins d.qc dxy (putF "carriage" (.int (S.cg-(cutM Vc ps (kds B) S).2)) (putF "prices" (.ref q2) (putF "owners" (.ref q1) fsy))))) q1=some (.lst (S.ow.map iV)):=by rw[kaj n1];exact e6
  have p7:(upd H6 y (.ins d.qc dxy (putF "carriage" (.int (S.cg-(cutM Vc ps (kds B) S).2)) (putF "prices" (.ref q2) (putF "owners" (.ref q1) fsy))))) q2=some (.lst ((NH (· - ·) S.pr (cutM Vc ps (kds B) S).1).map V.int)):=by rw[kaj n2];exact p6
  have y7:(upd H6 y (.ins d.qc dxy (putF "carriage" (.int (S.cg-(cutM Vc ps (kds B) S).2)) (putF "prices" (.ref q2) (putF "owners" (.ref q1) fsy))))) y=some (.ins d.qc dxy (putF "carriage" (.int (S.cg-(cutM Vc ps (kds B) S).2)) (putF "prices" (.ref q2) (putF "owners" (.ref q1) fsy)))):=kad
  have c7:(upd H6 y (.ins d.qc dxy (putF "carriage" (.int (S.cg-(cutM Vc ps (kds B) S).2)) (putF "prices" (.ref q2) (putF "owners" (.ref q1) fsy))))) pc=some (.lst ((cutM Vc ps (kds B) S).1.map V.int)):=by rw[kaj (kag h1 f2)];exact c6
  have f7:=JR (kal (f:="carriage") (v:=.int (S.cg-(cutM Vc ps (kds B) S).2)) (kal (f:="prices") (v:=.ref q2) (kal (f:="owners") (v:=.ref q1) ly))) (by decide:13≤20)
  generalize upd H6 y (.ins d.qc dxy (putF "carriage" (.int (S.cg-(cutM Vc ps (kds B) S).2)) (putF "prices" (.ref q2) (putF "owners" (.ref q1) fsy))))=H7 at *
  symm
  exists Y4
  refine⟨_,rfl,_,rfl,_,rfl,v,x,pc,Vc,S,_,rfl,hV.same s7,hS.same s7,c7,by rw[lcut,lp],np,by rw[wf.lm];exact wf.nl,fun l hl=>?_,fun H8 q3 s8 f8 h8=>?_⟩
  ·obtain⟨i,hi⟩:=N4.mp hl
   rw[wf.lm]
   symm
   exact wf.line hi
  have n3:q3≠y:=(kag y7 f8).symm
  symm
  exists Y4
  refine⟨_,rfl,y,d.qc,dxy,_,rfl,s8 _ _ y7,W.qc.cl,W.Qg,few f7,?_⟩
  symm
  exists Y4
  refine⟨_,rfl,k _ y (kas fy (s7.trans s8) (nx (s8 _ _ y7))) fy ⟨fy,q1,q2,q3,⟨dxy,_,kad,?_,?_,?_,?_,?_⟩,none_of s02 hq1,none_of (s3.trans s4) hq2,none_of s7 f8,?_,?_,?_⟩⟩
  ·ac_nf
  ·ac_nf
  ·ac_nf
   rfl
  ·ac_nf
  ·rw[kab,if_neg (by decide +kernel),kab,if_neg (by decide +kernel),kab,if_neg (by decide +kernel),kab,if_neg (by decide +kernel)]
   symm
   exact lyw
  ·rw[kaj n1]
   symm
   exact s8 _ _ e7
  ·rw[kaj n2]
   symm
   exact s8 _ _ p7
  ·rw[kaj n3]
   symm
   exact h8
inductive spRwm (d:D) (vs:List V) (H:Hp) (Q:VK) (E_:XK):Prop
 |ct (v x:Addr)(V:Vch)(S:Stnd)(s:Int)(_:vs=[.ref v, .ref x, .int s])(_:VchIs d H v V)(_:StndIs d.qc H x S)(_:SrtOk V.so)(_:0≤s)(_:s≤720000000000000)(_:Q (.int (rwm V.so S.cg s)) H):spRwm d vs H Q E_
theorem kcI:kar ["voucher","standing","together"] ["voucher","standing","together"] (kai kbg):=by ac_rfl
theorem kcT(W:WB K mg d base):FO P w W 1 d.X0 d.X2 ["voucher","standing","together"] (spRwm d):=by
 exists W.ZJ.F,kcI
 ·obtain⟨v,x,⟨so,ms⟩,S,z,rfl,⟨mA,dxv,fsv,hv,lvm,hso,hM,hh,htb⟩,⟨o,p,mk,⟨dxs,fss,hx,l1,l2,l3,l4,l5⟩,ho,hp,hmk⟩,hok,z0,z1,k⟩:=h
  refine⟨_,kac (ps_if (kaO (kao (r:=rIsi K) kaM (by rfl) W.B.isi b_isi (kaa (pv 0) (kaa (kby (v:=.ref d.c_Off) (by rfl) W.g_Off rfl) kae)))) (kaf (kap (kao (kb5 rfl) (by rfl) W.B.min b_min (kaa (kak (K:=K) (pv 0) rfl) (kaa (pv 2) kae))))) (kaq))
   (kac (ps_if (kaO (kao (r:=rIsi K) kaM (by rfl) W.B.isi b_isi (kaa (pv 0) (kaa (kby (v:=.ref d.qj) (by rfl) W.Vg rfl) kae)))) (kaf (kap (pe_op kaz (pe_op kcQ (pv 2) (kak (K:=K) (pv 0) rfl)) kah))) (kaq))
   (kac (ps_if (kaO (kao (r:=rIsi K) kaM (by rfl) W.B.isi b_isi (kaa (pv 0) (kaa (kby (v:=.ref d.ql) (by rfl) W.Vj rfl) kae)))) (kaf (kap (pe_op kif (pv 2) (kak (K:=K) (pv 0) rfl)))) (kaq))
   (kac (ps_if (kaO (kao (r:=rIsi K) kaM (by rfl) W.B.isi b_isi (kaa (pv 0) (kaa (kby (v:=.ref d.qk) (by rfl) W.Vl rfl) kae)))) (kaf (kap (pv 2))) (kaq))
   (kaf (kap (kak (K:=K) (pv 1) rfl)))))),?_⟩
  have I:=kj3 W hh
  refine⟨_,rfl,_,_,_,_,rfl, .inr ⟨_,rfl⟩,TyOf.ins hv (cl_of W hh) I.ha I.hn I.ht I.hm,kjZ W hh,_,rfl,?_⟩
  cases so with
  |off am=>
   refine iteT ⟨_,rfl,v,d.c_Off,dxv,fsv,_,rfl,hv,W.c_Off.cl,W.Q6,hso,_,rfl,_,_,rfl,?_⟩
   rw[show(if z<am then z else am)=min am z by split <;> omega]
   exact k
  |share sh bl=>
   have hsh:1≤sh∧sh≤1000:=hok
   exact iteF ⟨_,rfl,_,_,_,_,rfl, .inr ⟨_,rfl⟩,TyOf.ins hv (cl_of W hh) I.ha I.hn I.ht I.hm,kbD W hh,_,rfl,iteT ⟨_,rfl,_,rfl,v,d.qj,dxv,fsv,_,rfl,hv,W.qj.cl,W.Q8,hso.1,_,_,rfl,rfl, .inr ⟨by omega,by omega⟩,_,_,rfl,rfl,⟨by decide,by decide⟩,k⟩⟩
  |cheap m=>
   have hm:2≤m∧m≤20:=hok
   refine iteF ⟨_,rfl,_,_,_,_,rfl, .inr ⟨_,rfl⟩,TyOf.ins hv (cl_of W hh) I.ha I.hn I.ht I.hm,kbD W hh,_,rfl,iteF ?_⟩
   exact⟨_,rfl,_,_,_,_,rfl, .inr ⟨_,rfl⟩,TyOf.ins hv (cl_of W hh) I.ha I.hn I.ht I.hm,kbn W hh,_,rfl,iteT ⟨_,rfl,_,rfl,v,d.ql,dxv,fsv,_,rfl,hv,W.ql.cl,W.Xa,hso,_,_,rfl,rfl,⟨by omega,by omega⟩,k⟩⟩
  |bund m pz=>
   refine iteF ⟨_,rfl,_,_,_,_,rfl, .inr ⟨_,rfl⟩,TyOf.ins hv (cl_of W hh) I.ha I.hn I.ht I.hm,kbD W hh,_,rfl,iteF ?_⟩
   refine⟨_,rfl,_,_,_,_,rfl, .inr ⟨_,rfl⟩,TyOf.ins hv (cl_of W hh) I.ha I.hn I.ht I.hm,kbn W hh,_,rfl,iteF ?_⟩
   exact⟨_,rfl,_,_,_,_,rfl, .inr ⟨_,rfl⟩,TyOf.ins hv (cl_of W hh) I.ha I.hn I.ht I.hm,kc6 W hh,_,rfl,iteT ⟨_,rfl,k⟩⟩
  |carr=>
   refine iteF ⟨_,rfl,_,_,_,_,rfl, .inr ⟨_,rfl⟩,TyOf.ins hv (cl_of W hh) I.ha I.hn I.ht I.hm,kbD W hh,_,rfl,iteF ?_⟩
   refine⟨_,rfl,_,_,_,_,rfl, .inr ⟨_,rfl⟩,TyOf.ins hv (cl_of W hh) I.ha I.hn I.ht I.hm,kbn W hh,_,rfl,iteF ?_⟩
   refine⟨_,rfl,_,_,_,_,rfl, .inr ⟨_,rfl⟩,TyOf.ins hv (cl_of W hh) I.ha I.hn I.ht I.hm,kc6 W hh,_,rfl,iteF ?_⟩
   exact⟨_,rfl,x,d.qc,dxs,fss,_,rfl,hx,W.qc.cl,W.qM,l3,k⟩
inductive kji (K:JN) (d:D) (vs:List V) (H:Hp) (Q:VK) (E_:XK):Prop
 |ct (v a b x:Addr)(V:Vch)(ps:List (Option Nat))(B:Bask)(S:Stnd)(_:vs=[.ref v, .ref a, .ref b, .ref x])(_:VchIs d H v V)(_:SqL K H a (ps.map pV))(_:BaskIs d.qf d.qh H b B)(_:StndIs d.qc H x S)(_:Wf ps B S)(_:VchOk ps V)(_:∀(H':Hp),Same H H'→Q (.int (kbL V ps (kds B) S)) H'):kji K d vs H Q E_
theorem knf(m:Option Int)(n:Int):atM m n=atMost m n:=by cases m <;> rfl
theorem Vz:kar ["voucher","parents","basket","standing","pieces"] ["voucher","parents","basket","standing"] (kai khh):=by ac_rfl
theorem kkQ(W:WB K mg d base):FO P w W 4 d.XY d.XZ ["voucher","parents","basket","standing"] (kji K d):=by
 exists W.ZI.F,Vz
 ·obtain⟨v,a,b,x,Vc,ps,B,S,rfl,hV,hA,hB,hS,wf,vo,k⟩:=h
  obtain⟨mA,dxv,fsv,hv,lvm,_,hM,hh,htb⟩:=id hV
  obtain⟨dxm,fsm,hm,m1,m2,m3,m4,m5,m6⟩:=id hM
  exists Qo,kfU,W
  exists Xt,kft,W
  exists Ul,kcT,W
  exists qP,kbK,W
  exists hr1,1,hr,0
  exists hr2,2,hr,0
  refine⟨_,kac (psl (i:=4) Vz.nd (pcl Qo hr W.Qu (kaa (pv 0) (kaa (pv 1) (kaa (pv 2) (kaa (pv 3) kae))))))
   (kaf (kap (pcl Xt hr1 W.Q1 (kaa (kak (K:=K) (kak (K:=K) (pv 0) rfl) rfl) (kaa (pcl Ul hr1 W.ZJ (kaa (pv 0) (kaa (pv 3) (kaa (pcl qP hr2 W.qU (kaa (pv 3) (kaa (pv 4) kae))) kae)))) kae))))),?_⟩
  have np:=wf.np
  have habl:∀i∈abt ps (kds B) Vc.ms.kind Vc.ms.lone S,i<S.pr.length:=fun i hi=>by rw[wf.lp];exact kfD hi
  have lab:(abt ps (kds B) Vc.ms.kind Vc.ms.lone S).length≤720:=JR (kdW _ _ _ _ _) np
  have hs0:=kbe (qs_nn wf.nn (abt ps (kds B) Vc.ms.kind Vc.ms.lone S))
  have hsum:=kh8 wf lab habl
  refine⟨_,rfl,_,rfl,_,rfl,_,rfl,v,a,b,x,Vc,ps,B,S,rfl,hV,hA,hB,hS,wf,vo,fun H1 pa s1 f1 h1=>?_⟩
  refine⟨_,rfl,v,clsOf d Vc.so,dxv,fsv,_,rfl,s1 _ _ hv,cl_of W hh,na_of W hh,lvm,mA,d.qe,dxm,fsm,_,rfl,s1 _ _ hm,W.qe.cl,W.Qx,m3,?_⟩
  refine⟨_,rfl,_,rfl,_,rfl,_,rfl,x,pa,S,_,rfl,hS.same s1,h1,habl,lab,fun H2 s2=>?_⟩
  refine⟨v,x,Vc,S,_,rfl,(hV.same s1).same s2,(hS.same s1).same s2,vo.so,hs0,hsum,?_⟩
  refine⟨_,_,rfl,?_⟩
  have:=k H2 (s1.trans s2)
  rw[knf]
  exact this
inductive kg7 (d:D) (vs:List V) (H:Hp) (Q:VK) (E_:XK):Prop
 |ct (H0:Hp)(x dx p vl rl:Addr)(ps vs' rs:List V)(bk:Str)(_:vs=[.ref x, .ref p, .ref vl, .ref rl, .str bk])(_:H0 x=none)(_:Same H0 H)(_:H x=some (.ins d.qd dx []))(_:H0 p=some (.lst ps))(_:H0 vl=some (.lst vs'))(_:H0 rl=some (.lst rs))(_:∀(H':Hp)(p' vl' rl':Addr)(fs:List (Str×V)),Same H0 H'→H0 p'=none→H0 vl'=none→H0 rl'=none→H' p'=some (.lst ps)→H' vl'=some (.lst vs')→H' rl'=some (.lst rs)→H' x=some (.ins d.qd dx fs)→fs.lookup ("parents" :Str)=some (.ref p')→fs.lookup ("vouchers" :Str)=some (.ref vl')→fs.lookup ("rules" :Str)=some (.ref rl')→fs.lookup ("back" :Str)=some (.str bk)→Q .non H'):kg7 d vs H Q E_
theorem kgm:kar ["self","parents","vouchers","rules","back"] ["self","parents","vouchers","rules","back"] (kai ka4):=by ac_rfl
theorem kgx(W:WB K mg d base):FO P w W 1 d.Zy d.QT ["self","parents","vouchers","rules","back"] (kg7 d):=by
 exists W.Xo.F,kgm
 ·obtain⟨H0,x,dx,p,vl,rl,ps,vs',rs,bk,rfl,fx,s0,hx,hp,hvl,hrl,k⟩:=h
  refine⟨_,kac (kaD (pv 0) (kaJ (r:=ka6 K) kaB (by rfl) W.B.list kbt (kaa (pv 1) kae)) rfl)
   (kac (kaD (pv 0) (kaJ (r:=ka6 K) kaB (by rfl) W.B.list kbt (kaa (pv 2) kae)) rfl)
   (kac (kaD (pv 0) (kaJ (r:=ka6 K) kaB (by rfl) W.B.list kbt (kaa (pv 3) kae)) rfl)
   (kaf (kaD (pv 0) (pv 4) rfl)))),?_⟩
  exists Y4
  refine⟨_,rfl,p,_,rfl, .inl (SqL.of (s0 _ _ hp)),fun p' hp'=>?_⟩
  have n1:=kam (o:=.lst ps) hp'
  have fp:=s0.free hp'
  have np:p'≠x:=(kag hx hp').symm
  have e1:(upd H p' (.lst ps)) p'=some (.lst ps):=kad
  have s1:=s0.trans n1
  have hx1:=n1 _ _ hx
  clear n1
  generalize upd H p' (.lst ps)=H1 at *
  symm
  exists Y4
  refine⟨_,rfl,x,d.qd,dx,[],rfl,hx1,W.qd.cl,W.Qm,by decide,?_⟩
  have s2:Same H0 (upd H1 x (.ins d.qd dx (putF "parents" (.ref p') []))):=kas fx s1 (nx hx1)
  have e2:(upd H1 x (.ins d.qd dx (putF "parents" (.ref p') []))) p'=some (.lst ps):=by rw[kaj np];exact e1
  have hx2:(upd H1 x (.ins d.qd dx (putF "parents" (.ref p') []))) x=some (.ins d.qd dx (putF "parents" (.ref p') [])):=kad
  generalize upd H1 x (.ins d.qd dx (putF "parents" (.ref p') []))=H2 at *
  symm
  exists Y4
  refine⟨_,rfl,vl,_,rfl, .inl (SqL.of (s2 _ _ hvl)),fun v' hv'=>?_⟩
  have n3:=kam (o:=.lst vs') hv'
  have fv:=s2.free hv'
  have nv:v'≠x:=(kag hx2 hv').symm
  have s3:=s2.trans n3
  have e3:=n3 _ _ e2
  have ev3:(upd H2 v' (.lst vs')) v'=some (.lst vs'):=kad
  have hx3:=n3 _ _ hx2
  clear n3
  generalize upd H2 v' (.lst vs')=H3 at *
  symm
  exists Y4
  refine⟨_,rfl,x,d.qd,dx,_,rfl,hx3,W.qd.cl,W.qJ,few (JR (kal (n:=0) (JO _)) (by decide)),?_⟩
  have s4:Same H0 (upd H3 x (.ins d.qd dx (putF "vouchers" (.ref v') (putF "parents" (.ref p') [])))):=kas fx s3 (nx hx3)
  have e4:(upd H3 x (.ins d.qd dx (putF "vouchers" (.ref v') (putF "parents" (.ref p') [])))) p'=some (.lst ps):=by rw[kaj np];exact e3
  have ev4:(upd H3 x (.ins d.qd dx (putF "vouchers" (.ref v') (putF "parents" (.ref p') [])))) v'=some (.lst vs'):=by rw[kaj nv];exact ev3
  have hx4:(upd H3 x (.ins d.qd dx (putF "vouchers" (.ref v') (putF "parents" (.ref p') [])))) x=some (.ins d.qd dx (putF "vouchers" (.ref v') (putF "parents" (.ref p') []))):=kad
  generalize upd H3 x (.ins d.qd dx (putF "vouchers" (.ref v') (putF "parents" (.ref p') [])))=H4 at *
  symm
  exists Y4
  refine⟨_,rfl,rl,_,rfl, .inl (SqL.of (s4 _ _ hrl)),fun r' hr'=>?_⟩
  have n5:=kam (o:=.lst rs) hr'
  have fr:=s4.free hr'
  have nr:r'≠x:=(kag hx4 hr').symm
  have s5:=s4.trans n5
  have e5:=n5 _ _ e4
  have ev5:=n5 _ _ ev4
  have er5:(upd H4 r' (.lst rs)) r'=some (.lst rs):=kad
  have hx5:=n5 _ _ hx4
  clear n5
  generalize upd H4 r' (.lst rs)=H5 at *
  symm
  exists Y4
  refine⟨_,rfl,x,d.qd,dx,_,rfl,hx5,W.qd.cl,W.qW,few (JR (kal (kal (n:=0) (JO _))) (by decide)),?_⟩
  have s6:Same H0 (upd H5 x (.ins d.qd dx (putF "rules" (.ref r') (putF "vouchers" (.ref v') (putF "parents" (.ref p') []))))):=kas fx s5 (nx hx5)
  have hx6:(upd H5 x (.ins d.qd dx (putF "rules" (.ref r') (putF "vouchers" (.ref v') (putF "parents" (.ref p') []))))) x=some (.ins d.qd dx (putF "rules" (.ref r') (putF "vouchers" (.ref v') (putF "parents" (.ref p') [])))):=kad
  symm
  exists Y4
  refine⟨_,rfl,_,rfl,x,d.qd,dx,_,rfl,hx6,W.qd.cl,W.VN,few (JR (kal (kal (kal (n:=0) (JO _)))) (by decide)),?_⟩
  symm
  refine k _ p' v' r' _ (kas fx s6 (nx hx6)) fp fv fr ?_ ?_ ?_ kad ?_ ?_ ?_ ?_
  ·rw[kaj np,kaj np];exact e5
  ·rw[kaj nv,kaj nv];exact ev5
  ·rw[kaj nr,kaj nr];exact er5
  ·ac_nf
  ·ac_nf
  ·ac_nf
  ·ac_nf
theorem kmk{d:D}{H:Hp}{p vl rl:Addr}{T:TillD}{va ra:List Addr}{R:Addr→Hp→Prop}{E:XK}(hp:H p=some (.lst (T.ps.map pV)))(hvl:H vl=some (.lst (va.map V.ref)))(hv:P2 (fun a V=>VchIs d H a V) va T.vs)(hrl:H rl=some (.lst (ra.map V.ref)))(hr:P2 (fun a r=>RulIs H a r) ra T.rs)
  (k:∀(H':Hp)(x:Addr),Same H H'→H x=none→TillIs d H' x T→R x H'):
  ∀x dx,H x=none→H dx=none→dx≠x→kg7 d [.ref x, .ref p, .ref vl, .ref rl, .str T.bk] (upd (upd H dx (.own x)) x (.ins d.qd dx [])) (fun v H2=>v=.non∧R x H2) E:=
 fun x dx nx nd _=>⟨H,x,dx,p,vl,rl,_,_,_,_,rfl,nx,ka2 nx nd,kad,hp,hvl,hrl,fun H' p' vl' rl' fs s f1 f2 f3 h1 h2 h3 hx l1 l2 l3 l4=>⟨rfl,k H' x s nx ⟨dx,fs,p',vl',rl',va,ra,hx,l1,l2,l3,l4,h1,h2,hv.mono fun a V h=>h.same s,h3,hr.mono fun a r h=>s _ _ h⟩⟩⟩
inductive kg8 (f:List Rul→List Nat→Nat→Bool) (vs:List V) (H:Hp) (Q:VK) (E_:XK):Prop
 |ct (rl u:Addr)(ra:List Addr)(rs:List Rul)(used:List Nat)(n:Nat)(_:vs=[.ref rl, .ref u,iV n])(_:H rl=some (.lst (ra.map V.ref)))(_:P2 (fun a r=>RulIs H a r) ra rs)(_:H u=some (.lst (used.map iV)))(_:Q (.bl (f rs used n)) H):kg8 f vs H Q E_
theorem kkt{f:Rul→Bool}{rs:List Rul}{i:Nat}{r:Rul}(e:rs[i]?=some r)(h:f r=true):rs.any f=true:=List.any_eq_true.mpr ⟨r,JT e,h⟩
theorem klQ{f:Rul→Bool}{rs:List Rul}{n:Nat}(hn:n=rs.length)(h:∀r∈rs.take n,f r=false):rs.any f=false:=by
 rw[hn,NB] at h
 cases e:rs.any f with
 |false=>rfl
 |true=>
  obtain⟨r,hr,e2⟩:=List.any_eq_true.mp e
  rw[h r hr] at e2
  cases e2
theorem kb0{f:Rul→Bool}{rs:List Rul}{i:Nat}{r:Rul}(e:rs[i]?=some r)(h:∀q∈rs.take i,f q=false)(hr:f r=false):∀q∈rs.take (i+1),f q=false:=fun q hq=>by
 rw[NY,e] at hq
 rcases Nr.mp hq with z|z
 ·exact h q z
 ·have e2:q=r:=by simpa using z
  rw[e2]
  exact hr
theorem QF:kar ["rules","used","number","word","one","other"] ["rules","used","number"] (kai kcc):=by ac_rfl
theorem keK(W:WB K mg d base):FO P w W 1 d.Yq d.Yr ["rules","used","number"] (kg8 kfu):=by
 exists W.ZQ.F,QF
 ·obtain⟨rl,u,ra,rs,used,n,rfl,hrl,hr,hu,k⟩:=h
  refine⟨_,kac (kbm PassesOwn.never rfl (kaG (K:=K) (pv 0)) (kbi (K:=K) (n:=3) rfl (kax (pgn (i:=3) QF.nd) (kax (pgn (i:=4) QF.nd) (kax (pgn (i:=5) QF.nd) kbh))))
   (kaf (ps_if (PW.pt (ka7 (kan op_eq (pv 3) kbM (kat _)) (kaV (PW.pt (pw_or (PW.pt (ka7 (kan op_eq (pv 4) (pv 2) (kat _)) (kaV (kan kcn (pv 5) (pv 1) (by with_unfolding_all rfl))))) (kfn (PW.pt (ka7 (kan op_eq (pv 5) (pv 2) (kat _)) (kaV (kan kcn (pv 4) (pv 1) (by with_unfolding_all rfl))))))))))) (kaf (kap pe_bl)) (kaq))))
   (kaf (kap pe_bl)),?_⟩
  refine⟨_,rfl,rl,rfl,⟨_,SqL.of hrl⟩,kbd (xs:=ra.map V.ref) (fun i σ H'=>H'=H∧(∀r∈rs.take i,nevR used n r=false)∧∃v3 v4 v5:Option V,σ=[some (.ref rl),some (.ref u),some (iV n),v3,v4,v5])
   ⟨rfl,(fun r hr=>by simp at hr),none,none,none,rfl⟩ (fun i σ H' _ h=>by rw[h.1];exact SqL.of hrl) ?_ ?_⟩
  ·rintro i y σ H' hy ⟨rfl,hno,v3,v4,v5,rfl⟩
   obtain⟨a,ea,rfl⟩:=kcl hy
   obtain⟨r,er,hra⟩:=hr.at ea
   have yes:nevR used n r=true→Q (.bl true) H':=fun e=>by
    have z:=kkt (f:=nevR used n) er e
    unfold kfu at k
    rw[z] at k
    exact k
   refine⟨a,_,rfl,SqT.of hra,rfl,_,_,rfl,_,_,rfl,_,_,rfl,rfl,?_⟩
   refine⟨_,rfl,rfl,_,rfl,?_⟩
   show if decide (V.str r.w=V.str "never")=true then _ else _
   rw[eq_str]
   by_cases hw:r.w=("never" :Str)
   ·rw [decide_eq_true hw]
    refine iteT ⟨_,rfl,_,rfl,rfl,_,rfl,?_⟩
    show if decide (iV r.a=iV n)=true then _ else _
    rw[kgQ]
    by_cases ha:r.a=n
    ·rw[decide_eq_true ha]
     refine iteT ⟨_,rfl,_,rfl,u,_,rfl, .inl (SqL.of hu),rfl,kb3 _,_,rfl,?_⟩
     rw[if_neg JV,kcy]
     cases hb:used.contains r.b with
     |true=>exact iteT (iteT (yes (by unfold nevR;rw[decide_eq_true hw,decide_eq_true ha,hb];rfl)))
     | false=>
      refine iteF ⟨_,rfl,_,rfl,rfl,_,rfl,?_⟩
      show if decide (iV r.b=iV n)=true then _ else _
      rw[kgQ]
      by_cases hc:r.b=n
      ·rw[decide_eq_true hc]
       refine iteT ⟨_,rfl,_,rfl,u,_,rfl, .inl (SqL.of hu),rfl,kb3 _,_,rfl,?_⟩
       rw[if_neg JV,kcy]
       cases hd:used.contains r.a with
       |true=>exact iteT (yes (by unfold nevR;rw[decide_eq_true hw,decide_eq_true ha,hb,decide_eq_true hc,hd];rfl))
       |false=>exact iteF ⟨rfl,kb0 er hno (by unfold nevR;rw[decide_eq_true hw,decide_eq_true ha,hb,decide_eq_true hc,hd];rfl),_,_,_,rfl⟩
      ·rw[decide_eq_false hc]
       exact iteF (iteF ⟨rfl,kb0 er hno (by unfold nevR;rw[decide_eq_true hw,decide_eq_true ha,hb,decide_eq_false hc];rfl),_,_,_,rfl⟩)
    ·rw[decide_eq_false ha]
     refine iteF (iteF ⟨_,rfl,_,rfl,rfl,_,rfl,?_⟩)
     show if decide (iV r.b=iV n)=true then _ else _
     rw[kgQ]
     by_cases hc:r.b=n
     ·rw[decide_eq_true hc]
      refine iteT ⟨_,rfl,_,rfl,u,_,rfl, .inl (SqL.of hu),rfl,kb3 _,_,rfl,?_⟩
      rw[if_neg JV,kcy]
      cases hd:used.contains r.a with
      |true=>exact iteT (yes (by unfold nevR;rw[decide_eq_true hw,decide_eq_false ha,decide_eq_true hc,hd];rfl))
      |false=>exact iteF ⟨rfl,kb0 er hno (by unfold nevR;rw[decide_eq_true hw,decide_eq_false ha,decide_eq_true hc,hd];rfl),_,_,_,rfl⟩
     ·rw[decide_eq_false hc]
      exact iteF (iteF ⟨rfl,kb0 er hno (by unfold nevR;rw[decide_eq_true hw,decide_eq_false ha,decide_eq_false hc];rfl),_,_,_,rfl⟩)
   ·rw[decide_eq_false hw]
    refine iteF (iteF ⟨rfl,kb0 er hno ?_,_,_,_,rfl⟩)
    unfold nevR
    rw[decide_eq_false hw]
    rfl
  ·rintro σ H' ⟨rfl,hno,v3,v4,v5,rfl⟩
   have z:=klQ (by rw[JM];exact hr.len) hno
   unfold kfu at k
   rw[z] at k
   exact k
theorem QG:kar ["rules","used","number","word","one","other"] ["rules","used","number"] (kai kcd):=by ac_rfl
theorem keL(W:WB K mg d base):FO P w W 1 d.Ys d.Yt ["rules","used","number"] (kg8 kfC):=by
 exists W.ZR.F,QG
 ·obtain⟨rl,u,ra,rs,used,n,rfl,hrl,hr,hu,k⟩:=h
  refine⟨_,kac (kbm PassesOwn.never rfl (kaG (K:=K) (pv 0)) (kbi (K:=K) (n:=3) rfl (kax (pgn (i:=3) QG.nd) (kax (pgn (i:=4) QG.nd) (kax (pgn (i:=5) QG.nd) kbh))))
   (kaf (ps_if (PW.pt (ka7 (kan op_eq (pv 3) kbM (kat _)) (ka7 (kan op_eq (pv 4) (pv 2) (kat _)) (kaV (kan kcn (pv 5) (pv 1) (by with_unfolding_all rfl)))))) (kaf (kap pe_bl)) (kaq))))
   (kaf (kap pe_bl)),?_⟩
  refine⟨_,rfl,rl,rfl,⟨_,SqL.of hrl⟩,kbd (xs:=ra.map V.ref) (fun i σ H'=>H'=H∧(∀r∈rs.take i,ahdR used n r=false)∧∃v3 v4 v5:Option V,σ=[some (.ref rl),some (.ref u),some (iV n),v3,v4,v5])
   ⟨rfl,(fun r hr=>by simp at hr),none,none,none,rfl⟩ (fun i σ H' _ h=>by rw[h.1];exact SqL.of hrl) ?_ ?_⟩
  ·rintro i y σ H' hy ⟨rfl,hno,v3,v4,v5,rfl⟩
   obtain⟨a,ea,rfl⟩:=kcl hy
   obtain⟨r,er,hra⟩:=hr.at ea
   have yes:ahdR used n r=true→Q (.bl true) H':=fun e=>by
    have z:=kkt (f:=ahdR used n) er e
    unfold kfC at k
    rw[z] at k
    exact k
   refine⟨a,_,rfl,SqT.of hra,rfl,_,_,rfl,_,_,rfl,_,_,rfl,rfl,?_⟩
   refine⟨_,rfl,rfl,_,rfl,?_⟩
   show if decide (V.str r.w=V.str "ahead")=true then _ else _
   rw[eq_str]
   by_cases hw:r.w=("ahead" :Str)
   ·rw[decide_eq_true hw]
    refine iteT ⟨_,rfl,_,rfl,rfl,_,rfl,?_⟩
    show if decide (iV r.a=iV n)=true then _ else _
    rw[kgQ]
    by_cases ha:r.a=n
    ·rw[decide_eq_true ha]
     refine iteT ⟨_,rfl,_,rfl,u,_,rfl, .inl (SqL.of hu),rfl,kb3 _,_,rfl,?_⟩
     rw[if_neg JV,kcy]
     cases hb:used.contains r.b with
     |true=>exact iteT (yes (by unfold ahdR;rw[decide_eq_true hw,decide_eq_true ha,hb];rfl))
     |false=>exact iteF ⟨rfl,kb0 er hno (by unfold ahdR;rw[decide_eq_true hw,decide_eq_true ha,hb];rfl),_,_,_,rfl⟩
    ·rw[decide_eq_false ha]
     exact iteF (iteF ⟨rfl,kb0 er hno (by unfold ahdR;rw[decide_eq_true hw,decide_eq_false ha];rfl),_,_,_,rfl⟩)
   ·rw[decide_eq_false hw]
    refine iteF (iteF ⟨rfl,kb0 er hno ?_,_,_,_,rfl⟩)
    unfold ahdR
    rw[decide_eq_false hw]
    rfl
  ·rintro σ H' ⟨rfl,hno,v3,v4,v5,rfl⟩
   have z:=klQ (by rw[JM];exact hr.len) hno
   unfold kfC at k
   rw[z] at k
   exact k
inductive kgh (vs:List V) (H:Hp) (Q:VK) (E_:XK):Prop
 |ct (rl u:Addr)(ra:List Addr)(rs:List Rul)(order:List Nat)(_:vs=[.ref rl, .ref u])(_:H rl=some (.lst (ra.map V.ref)))(_:P2 (fun a r=>RulIs H a r) ra rs)(_:H u=some (.lst (order.map iV)))(_:Q (pV (onlyM rs order)) H):kgh vs H Q E_
theorem kiu{f:Rul→Bool}:∀{rs:List Rul}{i:Nat}{r:Rul},rs[i]?=some r→f r=true→(∀q∈rs.take i,f q=false)→rs.find? f=some r
 |[],i,r,e,_,_=>by simp at e
 |q::rs,0,r,e,h,_=>by
  have e2:q=r:=by simpa using e
  subst e2
  simp[h]
 |q::rs,i+1,r,e,h,hno=>by
  have h1:=hno q (by simp)
  rw[List.find?_cons_of_neg (by rw[h1];simp)]
  exact kiu (by simpa using e) h fun z hz=>hno z (by simp[hz])
theorem kmv{f:Rul→Bool}{rs:List Rul}{n:Nat}(hn:n=rs.length)(h:∀r∈rs.take n,f r=false):rs.find? f=none:=by
 rw[hn,NB] at h
 exact List.find?_eq_none.mpr fun r hr=>by rw[h r hr];simp
theorem QH:kar ["rules","order","word","one","other"] ["rules","order"] (kai kbu):=by ac_rfl
theorem kdv(W:WB K mg d base):FO P w W 1 d.Yu d.Yv ["rules","order"] kgh:=by
 exists W.ZS.F,QH
 ·obtain⟨rl,u,ra,rs,order,rfl,hrl,hr,hu,k⟩:=h
  refine⟨_,kac (kbm PassesOwn.never rfl (kaG (K:=K) (pv 0)) (kbi (K:=K) (n:=3) rfl (kax (pgn (i:=2) QH.nd) (kax (pgn (i:=3) QH.nd) (kax (pgn (i:=4) QH.nd) kbh))))
   (kaf (ps_if (PW.pt (ka7 (kan op_eq (pv 2) kbM (kat _)) (ka7 (kan kcn (pv 3) (pv 1) (by with_unfolding_all rfl)) (kaV (kan kgv (pv 4) (pv 1) (by with_unfolding_all rfl)))))) (kaf (kap (pv 3))) (kaq))))
   (kaf (kap ka3)),?_⟩
  refine⟨_,rfl,rl,rfl,⟨_,SqL.of hrl⟩,kbd (xs:=ra.map V.ref) (fun i σ H'=>H'=H∧(∀r∈rs.take i,loneM order r=false)∧∃v3 v4 v5:Option V,σ=[some (.ref rl),some (.ref u),v3,v4,v5])
   ⟨rfl,(fun r hr=>by simp at hr),none,none,none,rfl⟩ (fun i σ H' _ h=>by rw[h.1];exact SqL.of hrl) ?_ ?_⟩
  ·rintro i y σ H' hy ⟨rfl,hno,v3,v4,v5,rfl⟩
   obtain⟨a,ea,rfl⟩:=kcl hy
   obtain⟨r,er,hra⟩:=hr.at ea
   refine⟨a,_,rfl,SqT.of hra,rfl,_,_,rfl,_,_,rfl,_,_,rfl,rfl,?_⟩
   refine⟨_,rfl,rfl,_,rfl,?_⟩
   show if decide (V.str r.w=V.str "only")=true then _ else _
   rw[eq_str]
   by_cases hw:r.w=("only" :Str)
   ·rw[decide_eq_true hw]
    refine iteT ⟨_,rfl,_,rfl,u,_,rfl, .inl (SqL.of hu),rfl,kb3 _,_,rfl,?_⟩
    rw[if_neg JV,kcy]
    cases ha:order.contains r.a with
    | true=>
     refine iteT ⟨_,rfl,_,rfl,u,_,rfl, .inl (SqL.of hu),rfl,kb3 _,_,rfl,?_⟩
     rw[if_pos rfl,kcy]
     cases hb:order.contains r.b with
     |true=>exact iteF ⟨rfl,kb0 er hno (by unfold loneM;rw[decide_eq_true hw,ha,hb];rfl),_,_,_,rfl⟩
     |false=>
      refine iteT ⟨_,rfl,?_⟩
      have z:=kiu (f:=loneM order) er (by unfold loneM;rw[decide_eq_true hw,ha,hb];rfl) hno
      unfold onlyM at k
      rw[z] at k
      exact k
    |false=>exact iteF (iteF ⟨rfl,kb0 er hno (by unfold loneM;rw[decide_eq_true hw,ha];rfl),_,_,_,rfl⟩)
   ·rw[decide_eq_false hw]
    refine iteF (iteF ⟨rfl,kb0 er hno ?_,_,_,_,rfl⟩)
    unfold loneM
    rw[decide_eq_false hw]
    rfl
  ·rintro σ H' ⟨rfl,hno,v3,v4,v5,rfl⟩
   have z:=kmv (by rw[JM];exact hr.len) hno
   unfold onlyM at k
   rw[z] at k
   exact k
inductive khP (d:D) (vs:List V) (H:Hp) (Q:VK) (E_:XK):Prop
 |ct (t h u:Addr)(T:TillD)(hand:List Int)(used:List Nat)(n:Nat)(V:Vch)(_:vs=[.ref t, .ref h, .ref u,iV n])(_:TillIs d H t T)(_:H h=some (.lst (hand.map L2.V.int)))(_:H u=some (.lst (used.map iV)))(_:T.vs[n]?=some V)(_:hand.length=T.vs.length)(_:Q (sV (wordM V T.rs hand used n)) H):khP d vs H Q E_
theorem kd6:kar ["till","hand","used","number"] ["till","hand","used","number"] (kai kbQ):=by ac_rfl
theorem kec(W:WB K mg d base):FO P w W 2 d.Yo d.Yp ["till","hand","used","number"] (khP d):=by
 exists W.ZP.F,kd6
 ·obtain⟨t,h,u,T,hand,used,n,Vc,rfl,hT,hh,hu,hn,hl,k⟩:=h
  obtain⟨dx,fs,p,vl,rl,va,ra,ht,t1,t2,t3,t4,hp,hvl,hva,hrl,hra⟩:=hT
  exists Um,keK,W
  exists Uo,keL,W
  refine⟨_,kac (ps_if (kan op_gt (pe_op kcR (pe_bm NI ET EU kf1 (pv 2) (kaa (pv 3) kae)) kah) (pe_ix (r:=rIxL K) kaQ (pv 1) (pv 3) (fun _ _=>rfl)) (kat _)) (kaf (kap kbM)) (kaq))
   (kac (ps_if (PW.pt (ka7 (kaO (kak (K:=K) (kak (K:=K) (pe_ix (r:=rIxL K) kaQ (kak (K:=K) (pv 0) rfl) (pv 3) (fun _ _=>rfl)) rfl) rfl)) (kaV (kan kcn (pv 3) (pv 2) (by with_unfolding_all rfl))))) (kaf (kap kbM)) (kaq))
   (kac (ps_if (kaO (pcl Um hr W.ZQ (kaa (kak (K:=K) (pv 0) rfl) (kaa (pv 2) (kaa (pv 3) kae))))) (kaf (kap kbM)) (kaq))
   (kac (ps_if (kaO (pcl Uo hr W.ZR (kaa (kak (K:=K) (pv 0) rfl) (kaa (pv 2) (kaa (pv 3) kae))))) (kaf (kap kbM)) (kaq))
   (kaf (kap ka3))))),?_⟩
  obtain⟨v,ev⟩:=at_of (xs:=va) (i:=n) (by rw[hva.len];exact at_lt hn)
  obtain⟨Vc',eV',hV⟩:=hva.at ev
  rw[hn] at eV'
  cases eV'
  obtain⟨mA,dxv,fsv,hv,lvm,_,⟨dxm,fsm,hm,m1,m2,m3,m4,m5,m6⟩,hh',_⟩:=id hV
  obtain⟨z,ez⟩:=at_of (xs:=hand) (i:=n) (by rw[hl];exact at_lt hn)
  have eu:H u=some (.lst ((used.map fun(i:Nat)=>(i:Int)).map V.int)):=by rw[hu,Nf];rfl
  have eg:hand.getD n 0=z:=by rw[J8,ez];rfl
  refine⟨_,rfl, .inl ⟨rfl,_,SqL.of hu⟩,_,rfl,u,_,_,rfl,rfl,eu,_,_,rfl,rfl,_,rfl,_,rfl,h,_,_,_,rfl,rfl,SqL.of hh,kaX (v:=.int z) (by rw[JY,ez];rfl),_,_,rfl,rfl,_,rfl,?_⟩
  rw[khE]
  unfold wordM at k
  rw[eg] at k
  by_cases c1:z<(used.count n:Int)+1
  ·rw[if_pos c1] at k
   rw[show decide ((used.count n:Int)+1 > z)=true from decide_eq_true c1]
   exact iteT k
  rw[if_neg c1] at k
  rw[show decide ((used.count n:Int)+1 > z)=false from decide_eq_false c1]
  refine iteF ?_
  refine⟨_,rfl,t,d.qd,dx,fs,_,rfl,ht,W.qd.cl,W.qJ,t2,_,rfl,vl,_,_,_,rfl,rfl,SqL.of hvl,kaX (v:=.ref v) (by rw[JY,ev];rfl),v,clsOf d Vc.so,dxv,fsv,_,rfl,hv,cl_of W hh',na_of W hh',lvm,mA,d.qe,dxm,fsm,_,rfl,hm,W.qe.cl,W.Q4,m5,Vc.ms.once,rfl,?_⟩
  cases ho:Vc.ms.once with
  | true=>
   rw[ho,Bool.true_and] at k
   refine iteT ⟨_,rfl,_,rfl,u,_,rfl, .inl (SqL.of hu),rfl,kb3 _,_,rfl,?_⟩
   rw[if_neg JV,kcy]
   cases hc:used.contains n with
   |true=>
    rw[hc,if_pos rfl] at k
    exact iteT k
   | false=>
    rw[hc,if_neg JV] at k
    refine iteF ?_
    refine⟨_,rfl,t,d.qd,dx,fs,_,rfl,ht,W.qd.cl,W.qW,t3,_,rfl,_,rfl,rl,u,ra,T.rs,used,n,rfl,hrl,hra,hu,_,rfl,?_⟩
    cases h1:kfu T.rs used n with
    |true=>
     rw[h1,if_pos rfl] at k
     exact iteT k
    | false=>
     rw[h1,if_neg JV] at k
     refine iteF ⟨_,rfl,t,d.qd,dx,fs,_,rfl,ht,W.qd.cl,W.qW,t3,_,rfl,_,rfl,rl,u,ra,T.rs,used,n,rfl,hrl,hra,hu,_,rfl,?_⟩
     cases h2:kfC T.rs used n with
     |true=>
      rw[h2,if_pos rfl] at k
      exact iteT k
     |false=>
      rw[h2,if_neg JV] at k
      exact iteF k
  | false=>
   rw[ho,MQ,if_neg JV] at k
   refine iteF (iteF ?_)
   refine⟨_,rfl,t,d.qd,dx,fs,_,rfl,ht,W.qd.cl,W.qW,t3,_,rfl,_,rfl,rl,u,ra,T.rs,used,n,rfl,hrl,hra,hu,_,rfl,?_⟩
   cases h1:kfu T.rs used n with
   |true=>
    rw[h1,if_pos rfl] at k
    exact iteT k
   | false=>
    rw[h1,if_neg JV] at k
    refine iteF ⟨_,rfl,t,d.qd,dx,fs,_,rfl,ht,W.qd.cl,W.qW,t3,_,rfl,_,rfl,rl,u,ra,T.rs,used,n,rfl,hrl,hra,hu,_,rfl,?_⟩
    cases h2:kfC T.rs used n with
    |true=>
     rw[h2,if_pos rfl] at k
     exact iteT k
    |false=>
     rw[h2,if_neg JV] at k
     exact iteF k
inductive kje (d:D) (vs:List V) (H:Hp) (Q:VK) (E_:XK):Prop
 |ct (H0:Hp)(w dx t b h:Addr)(hand:List Int)(B:Bask)(_:vs=[.ref w, .ref t, .ref b, .ref h])(_:H0 w=none)(_:Same H0 H)(_:H w=some (.ins d.c_Way dx []))(_:H0 h=some (.lst (hand.map V.int)))(_:BaskIs d.qf d.qh H0 b B)(_:B.rs.length≤12)(_:(∀r∈B.rs,r.Ok))(_:∀(H':Hp)(x:Addr),Same H0 H'→H0 x=none→WayN d 5 H0 H' w t b x hand []→StndIs d.qc H' x (stnd0 B)→Q .non H'):kje d vs H Q E_
theorem khe:kar ["self","till","basket","hand"] ["self","till","basket","hand"] (kai kdO):=by ac_rfl
theorem kcw(W:WB K mg d base):FO P w W 4 d.Zk d.Zl ["self","till","basket","hand"] (kje d):=by
 exists W.qD.F,khe
 ·obtain⟨H0,wy,dx,t,b,h,hand,B,rfl,fw,s0,hw,hh,hb,hB,hok,k⟩:=h
  exists Xy,kcF,W
  refine⟨_,kac (kaD (pv 0) (pv 1) rfl)
   (kac (kaD (pv 0) (pv 2) rfl)
   (kac (kaD (pv 0) (kaJ (r:=ka6 K) kaB (by rfl) W.B.list kbt (kaa (pv 3) kae)) rfl)
   (kac (kaD (pv 0) (kaW kae) rfl)
   (kaf (kaD (pv 0) (ka8 (W.Qh.mk' W.qc) Xy hr rfl W.qc.m W.Qh.b .nil pass0 (kaa (pv 2) kae)) rfl))))),?_⟩
  exists Y4
  refine⟨_,rfl,_,rfl,wy,d.c_Way,dx,[],rfl,hw,W.c_Way.cl,W.qt,by decide,?_⟩
  have s1:Same H0 (upd H wy (.ins d.c_Way dx (putF "till" (.ref t) []))):=kas fw s0 (nx hw)
  have hw1:(upd H wy (.ins d.c_Way dx (putF "till" (.ref t) []))) wy=some (.ins d.c_Way dx (putF "till" (.ref t) [])):=kad
  generalize upd H wy (.ins d.c_Way dx (putF "till" (.ref t) []))=H1 at *
  symm
  exists Y4
  refine⟨_,rfl,_,rfl,wy,d.c_Way,dx,_,rfl,hw1,W.c_Way.cl,W.Qi,few (JR (kal (n:=0) (JO _)) (by decide)),?_⟩
  have s2:Same H0 (upd H1 wy (.ins d.c_Way dx (putF "basket" (.ref b) (putF "till" (.ref t) [])))):=kas fw s1 (nx hw1)
  have hw2:(upd H1 wy (.ins d.c_Way dx (putF "basket" (.ref b) (putF "till" (.ref t) [])))) wy=some (.ins d.c_Way dx (putF "basket" (.ref b) (putF "till" (.ref t) []))):=kad
  generalize upd H1 wy (.ins d.c_Way dx (putF "basket" (.ref b) (putF "till" (.ref t) [])))=H2 at *
  symm
  exists Y4
  refine⟨_,rfl,h,_,rfl, .inl (SqL.of (s2 _ _ hh)),fun h' hh'=>?_⟩
  have n3:=kam (o:=.lst (hand.map V.int)) hh'
  have nh:h'≠wy:=(kag hw2 hh').symm
  have s3:=s2.trans n3
  have e3:(upd H2 h' (.lst (hand.map V.int))) h'=some (.lst (hand.map V.int)):=kad
  have hw3:=n3 _ _ hw2
  clear n3
  generalize upd H2 h' (.lst (hand.map V.int))=H3 at *
  symm
  exists Y4
  refine⟨_,rfl,wy,d.c_Way,dx,_,rfl,hw3,W.c_Way.cl,W.QA,few (JR (kal (kal (n:=0) (JO _))) (by decide)),?_⟩
  have s4:Same H0 (upd H3 wy (.ins d.c_Way dx (putF "hand" (.ref h') (putF "basket" (.ref b) (putF "till" (.ref t) []))))):=kas fw s3 (nx hw3)
  have e4:(upd H3 wy (.ins d.c_Way dx (putF "hand" (.ref h') (putF "basket" (.ref b) (putF "till" (.ref t) []))))) h'=some (.lst (hand.map V.int)):=by rw[kaj nh];exact e3
  have hw4:(upd H3 wy (.ins d.c_Way dx (putF "hand" (.ref h') (putF "basket" (.ref b) (putF "till" (.ref t) []))))) wy=some (.ins d.c_Way dx (putF "hand" (.ref h') (putF "basket" (.ref b) (putF "till" (.ref t) [])))):=kad
  generalize upd H3 wy (.ins d.c_Way dx (putF "hand" (.ref h') (putF "basket" (.ref b) (putF "till" (.ref t) []))))=H4 at *
  symm
  exists Y4
  refine⟨by decide,fun u hu=>?_⟩
  have n5:=kam (o:=.lst []) hu
  have nu:u≠wy:=(kag hw4 hu).symm
  have s5:=s4.trans n5
  have e5:=n5 _ _ e4
  have eu5:(upd H4 u (.lst [])) u=some (.lst (([]:List Nat).map iV)):=kad
  have hw5:=n5 _ _ hw4
  clear n5
  generalize upd H4 u (.lst [])=H5 at *
  symm
  exists Y4
  refine⟨_,rfl,wy,d.c_Way,dx,_,rfl,hw5,W.c_Way.cl,W.qw,few (JR (kal (kal (kal (n:=0) (JO _)))) (by decide)),?_⟩
  have s6:Same H0 (upd H5 wy (.ins d.c_Way dx (putF "used" (.ref u) (putF "hand" (.ref h') (putF "basket" (.ref b) (putF "till" (.ref t) [])))))):=kas fw s5 (nx hw5)
  have e6:(upd H5 wy (.ins d.c_Way dx (putF "used" (.ref u) (putF "hand" (.ref h') (putF "basket" (.ref b) (putF "till" (.ref t) [])))))) h'=some (.lst (hand.map V.int)):=by rw[kaj nh];exact e5
  have eu6:(upd H5 wy (.ins d.c_Way dx (putF "used" (.ref u) (putF "hand" (.ref h') (putF "basket" (.ref b) (putF "till" (.ref t) [])))))) u=some (.lst (([]:List Nat).map iV)):=by rw[kaj nu];exact eu5
  have hw6:(upd H5 wy (.ins d.c_Way dx (putF "used" (.ref u) (putF "hand" (.ref h') (putF "basket" (.ref b) (putF "till" (.ref t) [])))))) wy=some (.ins d.c_Way dx (putF "used" (.ref u) (putF "hand" (.ref h') (putF "basket" (.ref b) (putF "till" (.ref t) []))))):=kad
  generalize upd H5 wy (.ins d.c_Way dx (putF "used" (.ref u) (putF "hand" (.ref h') (putF "basket" (.ref b) (putF "till" (.ref t) [])))))=H6 at *
  symm
  exists Y4
  refine⟨_,rfl,kml (hb.same s6) hB hok fun H7 x s7 f7 hx=>?_⟩
  have hw7:=s7 _ _ hw6
  have fx:H0 x=none:=s6.free f7
  have nxw:x≠wy:=(kag hw6 f7).symm
  symm
  exists Y4
  refine⟨_,rfl,wy,d.c_Way,dx,_,rfl,hw7,W.c_Way.cl,W.qy,few (JR (kal (kal (kal (kal (n:=0) (JO _))))) (by decide)),?_⟩
  symm
  refine k _ x (kas fw (s6.trans s7) (nx hw7)) fx ⟨fw,dx,_,h',u,none_of s2 hh',none_of s4 hu,kad,?_,?_,?_,?_,?_,?_,?_,?_,?_,?_,?_,?_⟩ ?_
  ·ac_nf
  ·ac_nf
  ·ac_nf
  ·ac_nf
  ·ac_nf
  ·ac_nf
   rfl
  ·ac_nf
   rfl
  ·ac_nf
   rfl
  ·ac_nf
   rfl
  ·exact JR (kal (kal (kal (kal (kal (n:=0) (JO _)))))) (by decide)
  ·rw[kaj nh];exact s7 _ _ e6
  ·rw[kaj nu];exact s7 _ _ eu6
  ·obtain⟨o,pp,mm,⟨dxs,fss,hxs,q⟩,ho,hpp,hmm⟩:=hx
   symm
   exact⟨o,pp,mm,⟨dxs,fss,by rw[kaj nxw];exact hxs,q⟩,by rw[kaj (ne_of ho hw7 (by intro z;cases z))];exact ho,by rw[kaj (ne_of hpp hw7 (by intro z;cases z))];exact hpp,by rw[kaj (ne_of hmm hw7 (by intro z;cases z))];exact hmm⟩
theorem kii{d:D}{H:Hp}{t b h:Addr}{hand:List Int}{B:Bask}{R:Addr→Hp→Prop}{E:XK}(hh:H h=some (.lst (hand.map V.int)))(hb:BaskIs d.qf d.qh H b B)(hB:B.rs.length≤12)(hok:∀r∈B.rs,r.Ok)
  (k:∀(H':Hp)(w x:Addr),Same H H'→H w=none→H x=none→WayN d 5 H H' w t b x hand []→StndIs d.qc H' x (stnd0 B)→R w H'):
  ∀w dx,H w=none→H dx=none→dx≠w→kje d [.ref w, .ref t, .ref b, .ref h] (upd (upd H dx (.own w)) w (.ins d.c_Way dx [])) (fun v H2=>v=.non∧R w H2) E:=
 fun w dx nw nd _=>⟨H,w,dx,t,b,h,hand,B,rfl,nw,ka2 nw nd,kad,hh,hb,hB,hok,fun H' x s f hW hx=>⟨rfl,k H' w x s nw f hW hx⟩⟩
inductive kgb (d:D) (vs:List V) (H:Hp) (Q:VK) (E_:XK):Prop
 |ct (wy t b x:Addr)(T:TillD)(B:Bask)(S:Stnd)(hand:List Int)(used:List Nat)(n:Nat)(V:Vch)(_:vs=[.ref wy,iV n])(_:WayIs d H wy t b x hand used)(_:TillIs d H t T)(_:BaskIs d.qf d.qh H b B)(_:StndIs d.qc H x S)(_:Wf T.ps B S)(_:VchOk T.ps V)(_:T.vs[n]?=some V)(_:hand.length=T.vs.length)(_:∀(H':Hp),Same H H'→Q (dueM V T B hand used S n) H'):kgb d vs H Q E_
theorem VA:kar ["self","number","word"] ["self","number"] (kai kck):=by ac_rfl
theorem kbZ(W:WB K mg d base):FO P w W 5 d.Zm d.Zn ["self","number"] (kgb d):=by
 exists W.qN.F,VA
 ·obtain⟨wy,t,b,x,T,B,S,hand,used,n,Vc,rfl,hW,hT,hB,hS,wf,vo,hn,hl,k⟩:=h
  obtain⟨dxw,fsw,h,u,hw,w1,w2,w3,w4,w5,w6,w7,w8,w9,w10,hh,hu⟩:=id hW
  obtain⟨dx,fs,p,vl,rl,va,ra,ht,t1,t2,t3,t4,hp,hvl,hva,hrl,hra⟩:=id hT
  exists Uq,kec,W
  exists Ur,kgw,W
  exists hr2,2,hr,0
  refine⟨_,kac (psl (i:=2) VA.nd (pcl Uq hr2 W.ZP (kaa (kak (K:=K) (pv 0) rfl) (kaa (kak (K:=K) (pv 0) rfl) (kaa (kak (K:=K) (pv 0) rfl) (kaa (pv 1) kae))))))
   (kac (ps_if (kan kdh (pv 2) ka3 (kat _)) (kaf (kap (pv 2))) (kaq))
   (kaf (kap (pcl Ur hr W.ZF (kaa (pe_ix (r:=rIxL K) kaQ (kak (K:=K) (kak (K:=K) (pv 0) rfl) rfl) (pv 1) (fun _ _=>rfl)) (kaa (kak (K:=K) (kak (K:=K) (pv 0) rfl) rfl) (kaa (kak (K:=K) (pv 0) rfl) (kaa (kak (K:=K) (pv 0) rfl) kae)))))))),?_⟩
  obtain⟨v,ev⟩:=at_of (xs:=va) (i:=n) (by rw[hva.len];exact at_lt hn)
  obtain⟨Vc',eV',hV⟩:=hva.at ev
  rw[hn] at eV'
  cases eV'
  refine⟨_,rfl,wy,d.c_Way,dxw,fsw,_,rfl,hw,W.c_Way.cl,W.qt,w1,_,rfl,wy,d.c_Way,dxw,fsw,_,rfl,hw,W.c_Way.cl,W.QA,w3,_,rfl,wy,d.c_Way,dxw,fsw,_,rfl,hw,W.c_Way.cl,W.qw,w4,_,rfl,t,h,u,T,hand,used,n,Vc,rfl,hT,hh,hu,hn,hl,?_⟩
  unfold dueM at k
  cases e:wordM Vc T.rs hand used n with
  |some z=>
   rw[e] at k
   refine⟨_,rfl,rfl,_,rfl,?_⟩
   show if(!decide (V.str z=V.non))=true then _ else _
   rw[show(!decide (V.str z=V.non))=true by simp]
   exact iteT ⟨_,rfl,k H (Same.refl _)⟩
  |none=>
   rw[e] at k
   refine⟨_,rfl,rfl,_,rfl,?_⟩
   show if(!decide (V.non=V.non))=true then _ else _
   rw[show(!decide (V.non=V.non))=false by simp]
   refine iteF ⟨_,rfl,wy,d.c_Way,dxw,fsw,_,rfl,hw,W.c_Way.cl,W.qt,w1,t,d.qd,dx,fs,_,rfl,ht,W.qd.cl,W.qJ,t2,_,rfl,vl,_,_,_,rfl,rfl,SqL.of hvl,kaX (v:=.ref v) (by rw[JY,ev];rfl),?_⟩
   refine⟨_,rfl,wy,d.c_Way,dxw,fsw,_,rfl,hw,W.c_Way.cl,W.qt,w1,t,d.qd,dx,fs,_,rfl,ht,W.qd.cl,W.Qm,t1,_,rfl,wy,d.c_Way,dxw,fsw,_,rfl,hw,W.c_Way.cl,W.Qi,w2,_,rfl,wy,d.c_Way,dxw,fsw,_,rfl,hw,W.c_Way.cl,W.qy,w5,?_⟩
   exact⟨v,p,b,x,Vc,T.ps,B,S,rfl,hV,SqL.of hp,hB,hS,wf,vo,k⟩
inductive kh1 (d:D) (vs:List V) (H:Hp) (Q:VK) (E_:XK):Prop
 |ct (wy t b x:Addr)(T:TillD)(B:Bask)(S:Stnd)(hand:List Int)(used:List Nat)(n:Nat)(V:Vch)(_:vs=[.ref wy,iV n])(_:WayIs d H wy t b x hand used)(_:TillIs d H t T)(_:BaskIs d.qf d.qh H b B)(_:StndIs d.qc H x S)(_:Wf T.ps B S)(_:VchOk T.ps V)(_:T.vs[n]?=some V)(_:used.length<64)(_:∀(H':Hp)(wy' x':Addr),Same H H'→H wy'=none→WayN d 7 H H' wy' t b x' hand (used++[n])→StndN d.qc H H' x' (aftM V T.ps (kds B) S)→Q (.ref wy') H'):kh1 d vs H Q E_
theorem VB:kar ["self","number","further"] ["self","number"] (kai kcM):=by ac_rfl
theorem kcx(W:WB K mg d base):FO P w W 6 d.Zo d.Zp ["self","number"] (kh1 d):=by
 exists W.qO.F,VB
 ·obtain⟨wy,t,b,x,T,B,S,hand,used,n,Vc,rfl,hW,hT,hB,hS,wf,vo,hn,hl,k⟩:=h
  obtain⟨dxw,fsw,h,u,hw,w1,w2,w3,w4,w5,w6,w7,w8,w9,w10,hh,hu⟩:=id hW
  obtain⟨dx,fs,p,vl,rl,va,ra,ht,t1,t2,t3,t4,hp,hvl,hva,hrl,hra⟩:=id hT
  exists qQ,kcw,W
  exists Us,kkT,W
  refine⟨_,kac (psl (i:=2) VB.nd (ka8 (W.qD.mk' W.c_Way) qQ hr rfl W.c_Way.m W.qD.b .nil pass0 (kaa (kak (K:=K) (pv 0) rfl) (kaa (kak (K:=K) (pv 0) rfl) (kaa (kak (K:=K) (pv 0) rfl) kae)))))
   (kac (kaD (pv 2) (pe_op klE (kak (K:=K) (pv 0) rfl) (kaW (kaa (pv 1) kae))) rfl)
   (kac (kaD (pv 2) (pcl Us hr W.ZH (kaa (pe_ix (r:=rIxL K) kaQ (kak (K:=K) (kak (K:=K) (pv 0) rfl) rfl) (pv 1) (fun _ _=>rfl)) (kaa (kak (K:=K) (kak (K:=K) (pv 0) rfl) rfl) (kaa (kak (K:=K) (pv 0) rfl) (kaa (kak (K:=K) (pv 0) rfl) kae))))) rfl)
   (kaf (kap (pv 2))))),?_⟩
  obtain⟨v,ev⟩:=at_of (xs:=va) (i:=n) (by rw[hva.len];exact at_lt hn)
  obtain⟨Vc',eV',hV⟩:=hva.at ev
  rw[hn] at eV'
  cases eV'
  exists Y4
  refine⟨_,rfl,wy,d.c_Way,dxw,fsw,_,rfl,hw,W.c_Way.cl,W.qt,w1,_,rfl,wy,d.c_Way,dxw,fsw,_,rfl,hw,W.c_Way.cl,W.Qi,w2,_,rfl,wy,d.c_Way,dxw,fsw,_,rfl,hw,W.c_Way.cl,W.QA,w3,kii hh hB wf.nl wf.ok fun H1 y x1 s1 fy fx1 hy hx1=>?_⟩
  obtain⟨_,dxy,fsy,h1,u1,fh1,_,hyy,y1,y2,y3,y4,y5,y6,y7,y8,y9,y10,hh1,hu1⟩:=hy
  symm
  exists Y4
  refine⟨_,rfl,wy,d.c_Way,dxw,fsw,_,rfl,s1 _ _ hw,W.c_Way.cl,W.qw,w4,_,rfl,(by show 1≤sizeLine;decide),fun q1 hq1=>?_⟩
  have n2:=kam (o:=.lst [iV n]) hq1
  have eq1:(upd H1 q1 (.lst [iV n])) q1=some (.lst [iV n]):=kad
  have s2:=s1.trans n2
  have hy2:=n2 _ _ hyy
  have hh2:=n2 _ _ hh1
  clear n2
  generalize upd H1 q1 (.lst [iV n])=H2 at *
  symm
  exists Y4
  refine⟨u,q1,_,_,rfl,rfl,s2 _ _ hu,eq1,Nc (kaw (by rw[JM];show _+1≤1000;omega)),fun q2 hq2=>?_⟩
  have n3:=kam (o:=.lst (used.map iV++[iV n])) hq2
  have eq2:(upd H2 q2 (.lst (used.map iV++[iV n]))) q2=some (.lst ((used++[n]).map iV)):=by rw[kad,JW];rfl
  have s3:=s2.trans n3
  have hy3:=n3 _ _ hy2
  have hh3:=n3 _ _ hh2
  have nq2:q2≠y:=(kag hy2 hq2).symm
  clear n3
  generalize upd H2 q2 (.lst (used.map iV++[iV n]))=H3 at *
  have nh1:h1≠y:=ne_of hh3 hy3 (by intro z;cases z)
  symm
  exists Y4
  refine⟨_,rfl,y,d.c_Way,dxy,fsy,rfl,hy3,W.c_Way.cl,W.qw,few (JR y10 (by decide)),?_⟩
  have s4:Same H (upd H3 y (.ins d.c_Way dxy (putF "used" (.ref q2) fsy))):=kas fy s3 (nx hy3)
  have eq4:(upd H3 y (.ins d.c_Way dxy (putF "used" (.ref q2) fsy))) q2=some (.lst ((used++[n]).map iV)):=by rw[kaj nq2];exact eq2
  have hh4:(upd H3 y (.ins d.c_Way dxy (putF "used" (.ref q2) fsy))) h1=some (.lst (hand.map V.int)):=by rw[kaj nh1];exact hh3
  have hy4:(upd H3 y (.ins d.c_Way dxy (putF "used" (.ref q2) fsy))) y=some (.ins d.c_Way dxy (putF "used" (.ref q2) fsy)):=kad
  generalize upd H3 y (.ins d.c_Way dxy (putF "used" (.ref q2) fsy))=H4 at *
  symm
  exists Y4
  refine⟨_,rfl,wy,d.c_Way,dxw,fsw,_,rfl,s4 _ _ hw,W.c_Way.cl,W.qt,w1,t,d.qd,dx,fs,_,rfl,s4 _ _ ht,W.qd.cl,W.qJ,t2,_,rfl,vl,_,_,_,rfl,rfl,SqL.of (s4 _ _ hvl),kaX (v:=.ref v) (by rw[JY,ev];rfl),?_⟩
  symm
  exists Y4
  refine⟨_,rfl,wy,d.c_Way,dxw,fsw,_,rfl,s4 _ _ hw,W.c_Way.cl,W.qt,w1,t,d.qd,dx,fs,_,rfl,s4 _ _ ht,W.qd.cl,W.Qm,t1,_,rfl,wy,d.c_Way,dxw,fsw,_,rfl,s4 _ _ hw,W.c_Way.cl,W.Qi,w2,_,rfl,wy,d.c_Way,dxw,fsw,_,rfl,s4 _ _ hw,W.c_Way.cl,W.qy,w5,?_⟩
  symm
  exists Y4
  refine⟨v,p,b,x,Vc,T.ps,B,S,rfl,hV.same s4,SqL.of (s4 _ _ hp),hB.same s4,hS.same s4,wf,vo,fun H5 x' s5 f5 ⟨_,o,pp,mm,⟨dxs,fss,hxs,q⟩,fo,fpp,fmm,ho,hpp,hmm⟩=>?_⟩
  have hy5:=s5 _ _ hy4
  have hh5:=s5 _ _ hh4
  have eq5:=s5 _ _ eq4
  have nx':x'≠y:=(kag hy4 f5).symm
  symm
  exists Y4
  refine⟨_,rfl,y,d.c_Way,dxy,_,rfl,hy5,W.c_Way.cl,W.qy,few (JR (kal y10) (by decide)),?_⟩
  symm
  exists Y4
  refine⟨_,rfl,k _ y x' (kas fy (s4.trans s5) (nx hy5)) fy ⟨fy,dxy,_,h1,q2,fh1,none_of s2 hq2,kad,?_,?_,?_,?_,?_,?_,?_,?_,?_,?_,?_,?_⟩ ?_⟩
  ·ac_nf
   symm
   exact y1
  ·ac_nf
   symm
   exact y2
  ·ac_nf
   symm
   exact y3
  ·ac_nf
  ·ac_nf
  ·ac_nf
   symm
   exact y6
  ·ac_nf
   symm
   exact y7
  ·ac_nf
   symm
   exact y8
  ·ac_nf
   symm
   exact y9
  ·exact JR (kal (kal y10)) (by decide)
  ·rw[kaj nh1];exact hh5
  ·rw[kaj nq2];exact eq5
  ·exact⟨none_of s4 f5,o,pp,mm,⟨dxs,fss,by rw[kaj nx'];exact hxs,q⟩,none_of s4 fo,none_of s4 fpp,none_of s4 fmm,by rw[kaj (ne_of ho hy5 (by intro z;cases z))];exact ho,by rw[kaj (ne_of hpp hy5 (by intro z;cases z))];exact hpp,by rw[kaj (ne_of hmm hy5 (by intro z;cases z))];exact hmm⟩
inductive kjm (d:D) (vs:List V) (H:Hp) (Q:VK) (E_:XK):Prop
 |ct (wy t b x:Addr)(T:TillD)(hand:List Int)(used:List Nat)(_:vs=[.ref wy])(_:WayIs d H wy t b x hand used)(_:TillIs d H t T)(_:Q (.bl (onlyM T.rs used).isNone) H):kjm d vs H Q E_
theorem kd8:kar ["self"] ["self"] (kai kbV):=by ac_rfl
theorem kcE(W:WB K mg d base):FO P w W 2 d.Zs d.Zt ["self"] (kjm d):=by
 exists W.Qj.F,kd8
 ·obtain⟨wy,t,b,x,T,hand,used,rfl,hW,hT,k⟩:=h
  obtain⟨dxw,fsw,h,u,hw,w1,w2,w3,w4,w5,w6,w7,w8,w9,w10,hh,hu⟩:=id hW
  obtain⟨dx,fs,p,vl,rl,va,ra,ht,t1,t2,t3,t4,hp,hvl,hva,hrl,hra⟩:=id hT
  exists Ut,kdv,W
  refine⟨_,kaf (kap (kdg kfs (pcl Ut hr W.ZS (kaa (kak (K:=K) (kak (K:=K) (pv 0) rfl) rfl) (kaa (kak (K:=K) (pv 0) rfl) kae))) ka3 (kat _))),?_⟩
  refine⟨_,rfl,wy,d.c_Way,dxw,fsw,_,rfl,hw,W.c_Way.cl,W.qt,w1,t,d.qd,dx,fs,_,rfl,ht,W.qd.cl,W.qW,t3,_,rfl,wy,d.c_Way,dxw,fsw,_,rfl,hw,W.c_Way.cl,W.qw,w4,rl,u,ra,T.rs,used,rfl,hrl,hra,hu,rfl,?_⟩
  cases e:onlyM T.rs used with
  |none=>
   rw[e] at k
   show Q (.bl (decide (V.non=V.non))) H
   rw[show decide (V.non=V.non)=true by simp]
   exact k
  |some z=>
   rw[e] at k
   show Q (.bl (decide (V.int (z:Int)=V.non))) H
   rw[show decide (V.int (z:Int)=V.non)=false by simp]
   exact k
noncomputable def canM(T:TillD)(B:Bask)(hand:List Int)(used:List Nat)(S:Stnd)(n:Nat):Bool:=match T.vs[n]? with
 |none=>false
 |some V=>decide (dueM V T B hand used S n=.non)
noncomputable def folM(T:TillD)(B:Bask)(hand:List Int)(used:List Nat)(S:Stnd):List Nat:=(JQ T.vs.length).filter (canM T B hand used S)
theorem kfl{p:Nat→Bool}{i:Nat}:(JQ (i+1)).filter p=(JQ i).filter p++(if p i=true then [i] else []):=by
 rw[NG,Mb,MA,Eh]
inductive khY (d:D) (vs:List V) (H:Hp) (Q:VK) (E_:XK):Prop
 |ct (wy t b x:Addr)(T:TillD)(B:Bask)(S:Stnd)(hand:List Int)(used:List Nat)(_:vs=[.ref wy])(_:WayIs d H wy t b x hand used)(_:TillIs d H t T)(_:kb7 T)(_:BaskIs d.qf d.qh H b B)(_:StndIs d.qc H x S)(_:Wf T.ps B S)(_:hand.length=T.vs.length)(_:∀(H':Hp)(p:Addr),Same H H'→H p=none→H' p=some (.lst ((folM T B hand used S).map iV))→Q (.ref p) H'):khY d vs H Q E_
theorem kd9:kar ["self"] ["self"] (kai kbp):=by ac_rfl
theorem keg(W:WB K mg d base):FO P w W 6 d.Zq d.Zr ["self"] (khY d):=by
 exists W.Xj.F,kd9
 ·obtain⟨wy,t,b,x,T,B,S,hand,used,rfl,hW,hT,tok,hB,hS,wf,hl,kk⟩:=h
  obtain⟨dxw,fsw,h,u,hw,w1,w2,w3,w4,w5,w6,w7,w8,w9,w10,hh,hu⟩:=id hW
  obtain⟨dx,fs,p,vl,rl,va,ra,ht,t1,t2,t3,t4,hp,hvl,hva,hrl,hra⟩:=id hT
  exists Qp,kbZ,W
  refine⟨_,kaf (kap (kid (N:=["number","self"]) (CompScope.of (N:=["number","self"]) (cap:=[none,some 0]) (kai kbp).names ["self"] rfl rfl (by decide +kernel)) rfl (kdt rfl W.B.range (kaa (kao (r:=kaL K) kau (by rfl) W.B.len b_len (kaa (kak (K:=K) (kak (K:=K) (pv 0) rfl) rfl) kae)) kae)) (fun _ _ _ _=>pgn (i:=0) (show(["number","self"]:List Str).Nodup by decide +kernel)) (fun _ _ _ _=>kjJ (kan kfs (kcN (pv 1) W.c_Way.cl W.qN.me Qp hr W.qN.b .nil pass0 (kaa (pv 0) kae)) ka3 (kat _))) (fun _ _ _ _=>(pv 0)))),?_⟩
  have nv:=tok.nv
  have lva:=hva.len
  refine⟨_,rfl,wy,d.c_Way,dxw,fsw,_,rfl,hw,W.c_Way.cl,W.qt,w1,t,d.qd,dx,fs,_,rfl,ht,W.qd.cl,W.qJ,t2,vl,_,rfl, .inl (SqL.of hvl),_,rfl,by omega,by rw[JM];omega,?_⟩
  rw[show(((va.map V.ref).length:Nat):Int).toNat=T.vs.length by rw[JM];omega]
  refine khD (fun i σ ys H'=>Same H H'∧ys=((JQ i).filter (canM T B hand used S)).map iV∧∃v0:Option V,σ=[v0,some (.ref wy)]) ⟨Same.refl _,rfl,none,rfl⟩ (Nc (kaw (by omega))) ?_ ?_ ?_
  ·rintro i σ ys H' hi ⟨_,rfl,_⟩
   rw[JM]
   exact JR (MM _ _) (by rw[List.length_range];exact JO _)
  ·rintro i σ ys H' hi ⟨s1,rfl,v0,rfl⟩
   rw[Int.zero_add]
   obtain⟨Vc,hV⟩:=at_of (xs:=T.vs) (i:=i) hi
   have vo:=tok.vs Vc (JT hV)
   refine⟨_,rfl,wy,dxw,fsw,rfl,s1 _ _ hw,w6,_,rfl,wy,t,b,x,T,B,S,hand,used,i,Vc,rfl,hW.same s1,hT.same s1,hB.same s1,hS.same s1,wf,vo,hV,hl,fun H2 s2=>⟨rfl,_,rfl,?_⟩⟩
   have ec:canM T B hand used S i=decide (dueM Vc T B hand used S i=.non):=by unfold canM;rw[hV]
   rw[kfl,ec]
   by_cases hn:dueM Vc T B hand used S i=.non
   ·rw[decide_eq_true hn]
    refine iteT ⟨_,rfl,s1.trans s2,?_,_,rfl⟩
    rw[if_pos rfl,JW]
    rfl
   ·rw[decide_eq_false hn]
    refine iteF ⟨s1.trans s2,?_,_,rfl⟩
    rw[if_neg JV,N6]
  ·rintro σ ys H' ⟨s1,rfl,v0,rfl⟩ q hq
   exact kk _ q (s1.trans (kam hq)) (s1.free hq) kad
noncomputable def remM(hand:List Int)(used:List Nat):Nat:=((JQ hand.length).map fun m=>(hand.getD m 0-(used.count m:Int)).toNat).sum
theorem khO{f g:Nat→Nat}{n:Nat}:∀{L:Nat},n<L→f n=g n+1→(∀m,m≠n→f m=g m)→((JQ L).map f).sum=((JQ L).map g).sum+1
 |0,h,_,_=>by omega
 | L+1,h,h1,h2=>by
  rw[NG,JW,JW,NO,NO]
  simp only[J0,Mh,Ng,MB]
  by_cases e:n=L
  ·subst e
   have:(JQ n).map f=(JQ n).map g:=NM fun m hm=>h2 m (by have:=MD.mp hm;omega)
   rw[this,h1]
   omega
  ·rw[khO (by omega) h1 h2,h2 L (Ne.symm e)]
   omega
theorem kel{hand:List Int}{used:List Nat}{n:Nat}(hn:n<hand.length)(h:(used.count n:Int)+1≤hand.getD n 0):remM hand used=remM hand (used++[n])+1:=by
 unfold remM
 refine khO hn ?_ fun m hm=>?_
 ·rw[MP,show List.count n [n]=1 by simp]
  generalize hand.getD n 0=g at *
  omega
 ·rw[MP]
  have:List.count m [n]=0:=by simp[Ne.symm hm]
  rw[this]
  simp
theorem kl6:∀(hand:List Int),(∀z∈hand,0≤z)→(remM hand []:Int)=hand.sum:=by
 intro hand h
 have key:∀(L:Nat),L≤hand.length→((((JQ L).map fun m=>(hand.getD m 0-((([]:List Nat).count m:Nat):Int)).toNat).sum:Nat):Int)=(hand.take L).sum:=by
  intro L
  induction L with
  |zero=>intro _;rfl
  |succ L ih=>
   intro hL
   have hz:hand[L]?=some hand[L]:=N1 (by omega)
   have e:hand.take (L+1)=hand.take L++[hand[L]]:=by rw[NY,hz];rfl
   have h0:=h hand[L] (Ey _)
   rw[NG,JW,NO,e,NO]
   simp only[J0,Mh,Ng,MB,List.count_nil]
   have eg:hand.getD L 0=hand[L]:=by rw[J8,hz];rfl
   rw[eg]
   have:=ih (by omega)
   simp only[List.count_nil] at this
   omega
 have:=key hand.length (JO _)
 rw[NB] at this
 exact this
theorem kkm{p:Nat→Bool}{f:Nat→Nat}(h:∀m,p m=true→1≤f m):∀L:Nat,((JQ L).filter p).length≤((JQ L).map f).sum
 |0=>JO _
 | L+1=>by
  have ih:=kkm h L
  rw[NG,Mb,JZ,JW,NO]
  simp only[J0,Mh,Ng,MB,MA,Eh]
  by_cases e:p L=true
  ·have:=h L e
   rw[if_pos e]
   simp
   omega
  ·rw[if_neg e]
   simp
   omega
noncomputable def fan:Nat→Nat
 |0=>1
 |r+1=>1+(r+1)*fan r
theorem kit{α:Type}{f:Nat→List α}{k:Nat}:∀{l:List Nat},(∀n∈l,(f n).length≤k)→(l.flatMap f).length≤l.length*k
 |[],_=>by simp
 |a::l,h=>by
  have ih:=kit (f:=f) (k:=k) (l:=l) fun n hn=>h n (J5 _ hn)
  rw[MC,JZ,Nq,MN,MO]
  have:=h a Na
  omega
theorem kdD:∀{r s:Nat},r≤s→fan r≤fan s
 |r,0,h=>by rw[Nat.le_zero.mp h];exact JO _
 | r,s+1,h=>by
  by_cases e:r=s+1
  ·rw[e];exact JO _
  ·have:=kdD (r:=r) (s:=s) (by omega)
   show fan r≤1+(s+1)*fan s
   have h2:fan s≤(s+1)*fan s:=Nat.le_mul_of_pos_left _ (by omega)
   omega
variable {T:TillD}{B:Bask}{hand:List Int}
theorem kcB{used:List Nat}{S:Stnd}{n:Nat}(h:canM T B hand used S n=true):n<T.vs.length∧(used.count n:Int)+1≤hand.getD n 0:=by
 unfold canM at h
 cases e:T.vs[n]? with
 |none=>rw[e] at h;cases h
 | some V=>
  rw[e] at h
  refine⟨at_lt e,?_⟩
  have h1:dueM V T B hand used S n=.non:=of_decide_eq_true h
  unfold dueM wordM at h1
  by_cases c1:hand.getD n 0<(used.count n:Int)+1
  ·rw[if_pos c1] at h1
   cases h1
  ·omega
theorem kkc{used:List Nat}{S:Stnd}(hl:hand.length=T.vs.length):(folM T B hand used S).length≤remM hand used:=by
 unfold folM remM
 rw[←hl]
 refine kkm (fun m hm=>?_) _
 have:=(kcB hm).2
 omega
noncomputable def walkM(T:TillD)(B:Bask)(hand:List Int):List Nat→List Nat→Stnd→List Nat×Stnd
 |[],used,S=>(used,S)
 |n::ns,used,S=>match T.vs[n]? with
  |none=>(used,S)
  |some V=>if dueM V T B hand used S n=.non then walkM T B hand ns (used++[n]) (aftM V T.ps (kds B) S) else(used,S)
inductive kjf (d:D) (vs:List V) (H:Hp) (Q:VK) (E_:XK):Prop
 |ct (t b h o:Addr)(T:TillD)(B:Bask)(hand:List Int)(order:List Nat)(_:vs=[.ref t, .ref b, .ref h, .ref o])(_:TillIs d H t T)(_:kb7 T)(_:BaskIs d.qf d.qh H b B)(_:Wf T.ps B (stnd0 B))(_:H h=some (.lst (hand.map V.int)))(_:H o=some (.lst (order.map iV)))(_:hand.length=T.vs.length)(_:(∀n∈order,n<T.vs.length))(_:order.length<64)(_:∀(H':Hp)(wy x:Addr),Same H H'→H wy=none→WayIs d H' wy t b x hand (walkM T B hand order [] (stnd0 B)).1→StndIs d.qc H' x (walkM T B hand order [] (stnd0 B)).2→Wf T.ps B (walkM T B hand order [] (stnd0 B)).2→Q (.ref wy) H'):kjf d vs H Q E_
theorem QI:kar ["till","basket","hand","order","way","number"] ["till","basket","hand","order"] (kai kfM):=by ac_rfl
theorem kjO(W:WB K mg d base):FO P w W 7 d.Ym d.Yn ["till","basket","hand","order"] (kjf d):=by
 exists W.ZO.F,QI
 ·obtain⟨t,b,h,o,T,B,hand,order,rfl,hT,tok,hB,wf0,hh,ho,hl,hlt,h64,k⟩:=h
  exists qQ,kcw,W
  exists Qp,kbZ,W
  exists Qq,kcx,W
  exists hr5,5,hr,0
  refine⟨_,kac (psl (i:=4) QI.nd (ka8 (W.qD.mk' W.c_Way) qQ hr5 rfl W.c_Way.m W.qD.b .nil pass0 (kaa (pv 0) (kaa (pv 1) (kaa (pv 2) kae)))))
   (kac (kbm PassesOwn.never rfl (kaG (K:=K) (pv 3)) (pgn (i:=5) QI.nd)
   (kac (ps_if (kan kdh (kcN (pv 4) W.c_Way.cl W.qN.me Qp hr5 W.qN.b .nil pass0 (kaa (pv 5) kae)) ka3 (kat _)) (kaf (kap (pv 4))) (kaq))
   (kaf (psl (i:=4) QI.nd (kcN (pv 4) W.c_Way.cl W.qO.me Qq hr W.qO.b .nil pass0 (kaa (pv 5) kae))))))
   (kaf (kap (pv 4)))),?_⟩
  generalize eR:walkM T B hand order [] (stnd0 B)=R at k
  exists Y4
  refine⟨_,rfl,_,rfl,_,rfl,kii hh hB wf0.nl wf0.ok fun H1 y0 x0 s1 fy0 fx0 hy0N hx0=>?_⟩
  have hy0:=hy0N.at
  symm
  exists Y4
  refine⟨_,rfl,o,rfl,⟨_,SqL.of (s1 _ _ ho)⟩,kbd (xs:=order.map iV) (fun i σ H'=>Same H H'∧∃(y x:Addr)(used:List Nat)(S:Stnd)(v5:Option V),WayIs d H' y t b x hand used∧H y=none∧StndIs d.qc H' x S∧Wf T.ps B S∧used.length=i∧walkM T B hand (order.drop i) used S=R∧σ=[some (.ref t),some (.ref b),some (.ref h),some (.ref o),some (.ref y),v5])
   ⟨s1,y0,x0,[],_,none,hy0.most (by decide),fy0,hx0,wf0,rfl,eR,rfl⟩ (fun i σ H' _ h=>SqL.of (h.1 _ _ ho)) ?_ ?_⟩
  ·rintro i yv σ H' hyv ⟨sI,y,x,used,S,v5,hY,fy,hx,wf,hul,hwalk,rfl⟩
   obtain⟨n,en,rfl⟩:∃n,order[i]?=some n∧yv=iV n:=kbB hyv
   have hi:=at_lt en
   obtain⟨Vc,hV⟩:=at_of (hlt n (JT en))
   have vo:=tok.vs Vc (JT hV)
   have ed:order.drop i=n::order.drop (i+1):=by
    obtain⟨h1,h2⟩:=JX.mp en
    rw[Df h1,h2]
   rw[ed] at hwalk
   have hwk:=hwalk
   unfold walkM at hwk
   rw[hV] at hwk
   simp only at hwk
   obtain⟨dxw,fsw,hd,u,hw,w1,w2,w3,w4,w5,w6,w7,w8,w9,w10,hh',hu⟩:=id hY
   symm
   exists Y6
   refine⟨_,rfl,y,dxw,fsw,rfl,hw,w6,_,rfl,y,t,b,x,T,B,S,hand,used,n,Vc,rfl,hY,hT.same sI,hB.same sI,hx,wf,vo,hV,hl,fun H2 s2=>⟨rfl,_,rfl,?_⟩⟩
   have s02:=sI.trans s2
   by_cases hn:dueM Vc T B hand used S n=.non
   ·rw[if_pos hn] at hwk
    rw[hn]
    rw[show(!decide (V.non=V.non))=false by simp]
    refine iteF ?_
    nofun
    exists Y8
    refine⟨_,rfl,y,dxw,fsw,rfl,s2 _ _ hw,w7,_,rfl,y,t,b,x,T,B,S,hand,used,n,Vc,rfl,hY.same s2,hT.same s02,hB.same s02,hx.same s2,wf,vo,hV,by omega,fun H3 y' x' s3 fy' hY1 hx1=>?_⟩
    have hY':=hY1.at
    have hx':=hx1.is
    exists 3
    exact⟨s02.trans s3,y',x',used++[n],_,_,hY',s02.free fy',hx',wf.after vo,by rw[JZ,hul];rfl,hwk,rfl⟩
   ·rw[if_neg hn] at hwk
    rw[show(!decide (dueM Vc T B hand used S n=V.non))=true by simp[hn]]
    refine iteT ?_
    exists 3
    exists Y8
    refine⟨_,rfl,k H2 y x s02 fy ?_ ?_ ?_⟩
    ·rw[←hwk];exact hY.same s2
    ·rw[←hwk];exact hx.same s2
    ·rw[←hwk];exact wf
  ·rintro σ H' ⟨sI,y,x,used,S,v5,hY,fy,hx,wf,hul,hwalk,rfl⟩
   rw[JM,List.drop_length] at hwalk
   have hwk:=hwalk
   unfold walkM at hwk
   nofun
   exists Y6
   refine⟨_,rfl,k H' y x sI fy ?_ ?_ ?_⟩
   ·rw[←hwk];exact hY
   ·rw[←hwk];exact hx
   ·rw[←hwk];exact wf
noncomputable def kbs(T:TillD)(B:Bask)(hand:List Int)(order:List Nat):Option (Nat×L2.V):=
 let r:=walkM T B hand order [] (stnd0 B)
 if r.1.length<order.length then match T.vs[order.getD r.1.length 0]? with
  |none=>none
  |some V=>some (r.1.length,dueM V T B hand r.1 r.2 (order.getD r.1.length 0))
 else if(onlyM T.rs r.1).isNone=true then none else some (r.1.length, .str "only")
noncomputable def FltIs(H:Hp)(v:L2.V):Option (Nat×L2.V)→Prop
 |none=>v=.non
 |some (k,z)=>∃a,v=.ref a∧H a=some (.tup [iV k,z])
inductive kjo (d:D) (vs:List V) (H:Hp) (Q:VK) (E_:XK):Prop
 |ct (t b h o:Addr)(T:TillD)(B:Bask)(hand:List Int)(order:List Nat)(_:vs=[.ref t, .ref b, .ref h, .ref o])(_:TillIs d H t T)(_:kb7 T)(_:BaskIs d.qf d.qh H b B)(_:Wf T.ps B (stnd0 B))(_:H h=some (.lst (hand.map V.int)))(_:H o=some (.lst (order.map iV)))(_:hand.length=T.vs.length)(_:(∀n∈order,n<T.vs.length))(_:order.length<64)(_:∀(H':Hp)(v:L2.V),Same H H'→FltIs H' v (kbs T B hand order)→Q v H'):kjo d vs H Q E_
theorem Xz:kar ["till","basket","hand","order","way","place"] ["till","basket","hand","order"] (kai khi):=by ac_rfl
theorem kkR(W:WB K mg d base):FO P w W 8 d.Yk d.Yl ["till","basket","hand","order"] (kjo d):=by
 exists W.ZN.F,Xz
 ·obtain⟨t,b,h,o,T,B,hand,order,rfl,hT,tok,hB,wf0,hh,ho,hl,hlt,h64,k⟩:=h
  exists Uu,kjO,W
  exists Qp,kbZ,W
  exists XA,kcE,W
  exists hr2,2,hr,0
  exists hr5,5,hr,0
  refine⟨_,kac (psl (i:=4) Xz.nd (pcl Uu hr W.ZO (kaa (pv 0) (kaa (pv 1) (kaa (pv 2) (kaa (pv 3) kae))))))
   (kac (psl (i:=5) Xz.nd (kao (r:=kaL K) kau (by rfl) W.B.len b_len (kaa (kak (K:=K) (pv 4) rfl) kae)))
   (kac (ps_if (kan op_lt (pv 5) (kao (r:=kaL K) kau (by rfl) W.B.len b_len (kaa (pv 3) kae)) (kat _)) (kaf (kap (kcm (kaa (pv 5) (kaa (kcN (pv 4) W.c_Way.cl W.qN.me Qp hr5 W.qN.b .nil pass0 (kaa (pe_ix (r:=rIxL K) kaQ (pv 3) (pv 5) (fun _ _=>rfl)) kae)) kae))))) (kaq))
   (kac (ps_if (kd0 (kaO (kcv (pv 4) W.c_Way.cl W.Qj.me XA hr2 W.Qj.b .nil pass0))) (kaf (kap (kcm (kaa (pv 5) (kaa kbM kae))))) (kaq))
   (kaf (kap ka3))))),?_⟩
  exists Y4
  refine⟨_,rfl,_,rfl,_,rfl,_,rfl,t,b,h,o,T,B,hand,order,rfl,hT,tok,hB,wf0,hh,ho,hl,hlt,h64,fun H1 y x s1 fy hY hx wf=>?_⟩
  unfold kbs at k
  simp only at k
  generalize walkM T B hand order [] (stnd0 B)=r at *
  obtain⟨used,S⟩:=r
  simp only at *
  obtain⟨dxw,fsw,hd,u,hw,w1,w2,w3,w4,w5,w6,w7,w8,w9,w10,hh',hu⟩:=id hY
  symm
  exists Y4
  refine⟨_,rfl,y,d.c_Way,dxw,fsw,_,rfl,hw,W.c_Way.cl,W.qw,w4,u,_,rfl, .inl (SqL.of hu),?_⟩
  rw[JM]
  symm
  exists Y4
  refine⟨_,rfl,_,rfl,o,_,rfl, .inl (SqL.of (s1 _ _ ho)),_,_,rfl,rfl,_,rfl,?_⟩
  rw[JM]
  by_cases hlen:used.length<order.length
  ·rw[if_pos hlen] at k
   rw[show decide ((used.length:Int)<(order.length:Int))=true by simp;exact hlen]
   obtain⟨n,en⟩:=at_of hlen
   have eg:order.getD used.length 0=n:=by rw[J8,en];rfl
   obtain⟨Vc,hV⟩:=at_of (hlt n (JT en))
   rw[eg,hV] at k
   have vo:=tok.vs Vc (JT hV)
   refine iteT ?_
   symm
   exists Y6
   refine⟨_,rfl,_,rfl,y,dxw,fsw,rfl,hw,w6,_,rfl,_,rfl,o,_,_,_,rfl,rfl,SqL.of (s1 _ _ ho),kaX (v:=iV n) (by rw[JY,en];rfl),y,t,b,x,T,B,S,hand,used,n,Vc,rfl,hY,hT.same s1,hB.same s1,hx,wf,vo,hV,hl,fun H2 s2=>?_⟩
   nofun
   exists Y6
   refine⟨(by show 2≤sizeLine;decide),fun q hq=>?_⟩
   nofun
   exact k _ _ ((s1.trans s2).trans (kam hq)) ⟨q,rfl,kad⟩
  ·rw[if_neg hlen] at k
   rw[show decide ((used.length:Int)<(order.length:Int))=false by simp;omega]
   refine iteF ?_
   nofun
   exists Y6
   refine⟨_,rfl,y,dxw,fsw,rfl,hw,w8,y,t,b,x,T,hand,used,rfl,hY,hT.same s1,_,rfl,?_⟩
   cases e:(onlyM T.rs used).isNone with
   |true=>
    rw[e,if_pos rfl] at k
    refine iteF ?_
    nofun
    exact k H1 _ s1 rfl
   |false=>
    rw[e,if_neg JV] at k
    refine iteT ?_
    nofun
    exists Y8
    refine⟨_,rfl,(by show 2≤sizeLine;decide),fun q hq=>?_⟩
    exists 3
    exact k _ _ (s1.trans (kam hq)) ⟨q,rfl,kad⟩
noncomputable def comeM(V:Vch)(hand:List Int)(used:List Nat)(n:Nat):Int:=
 if V.ms.once=true then(if used.contains n=true then 0 else if 1<hand.getD n 0-(used.count n:Int) then 1 else hand.getD n 0-(used.count n:Int)) else hand.getD n 0-(used.count n:Int)
inductive klv (d:D) (vs:List V) (H:Hp) (Q:VK) (E_:XK):Prop
 |ct (wy t b x:Addr)(T:TillD)(hand:List Int)(used:List Nat)(n:Nat)(V:Vch)(_:vs=[.ref wy,iV n])(_:WayIs d H wy t b x hand used)(_:TillIs d H t T)(_:T.vs[n]?=some V)(_:hand.length=T.vs.length)(_:Q (.int (comeM V hand used n)) H):klv d vs H Q E_
theorem VC:kar ["way","number","many"] ["way","number"] (kai kca):=by ac_rfl
theorem keI(W:WB K mg d base):FO P w W 1 d.YA d.YB ["way","number"] (klv d):=by
 exists W.ZV.F,VC
 ·obtain⟨wy,t,b,x,T,hand,used,n,Vc,rfl,hW,hT,hn,hl,kk⟩:=h
  obtain⟨dxw,fsw,h,u,hw,w1,w2,w3,w4,w5,w6,w7,w8,w9,w10,hh,hu⟩:=id hW
  obtain⟨dx,fs,p,vl,rl,va,ra,ht,t1,t2,t3,t4,hp,hvl,hva,hrl,hra⟩:=id hT
  refine⟨_,kac (psl (i:=2) VC.nd (pe_op kd1 (pe_ix (r:=rIxL K) kaQ (kak (K:=K) (pv 0) rfl) (pv 1) (fun _ _=>rfl)) (pe_bm NI ET EU kf1 (kak (K:=K) (pv 0) rfl) (kaa (pv 1) kae))))
   (kac (ps_if (kaO (kak (K:=K) (kak (K:=K) (pe_ix (r:=rIxL K) kaQ (kak (K:=K) (kak (K:=K) (pv 0) rfl) rfl) (pv 1) (fun _ _=>rfl)) rfl) rfl)) (kaf (kap (ken (kan kcn (pv 1) (kak (K:=K) (pv 0) rfl) (by with_unfolding_all rfl)) kah (kao (kb5 rfl) (by rfl) W.B.min b_min (kaa (pv 2) (kaa kah kae)))))) (kaq))
   (kaf (kap (pv 2)))),?_⟩
  obtain⟨v,ev⟩:=at_of (xs:=va) (i:=n) (by rw[hva.len];exact at_lt hn)
  obtain⟨Vc',eV',hV⟩:=hva.at ev
  rw[hn] at eV'
  cases eV'
  obtain⟨mA,dxv,fsv,hv,lvm,_,⟨dxm,fsm,hm,m1,m2,m3,m4,m5,m6⟩,hh',_⟩:=id hV
  obtain⟨z,ez⟩:=at_of (xs:=hand) (i:=n) (by rw[hl];exact at_lt hn)
  have eg:hand.getD n 0=z:=by rw[J8,ez];rfl
  have eu:H u=some (.lst ((used.map fun(i:Nat)=>(i:Int)).map V.int)):=by rw[hu,Nf];rfl
  refine⟨_,rfl,wy,d.c_Way,dxw,fsw,_,rfl,hw,W.c_Way.cl,W.QA,w3,_,rfl,h,_,_,_,rfl,rfl,SqL.of hh,kaX (v:=V.int z) (by rw[JY,ez];rfl),_,rfl,wy,d.c_Way,dxw,fsw,_,rfl,hw,W.c_Way.cl,W.qw,w4, .inl ⟨rfl,_,SqL.of hu⟩,_,rfl,u,_,_,rfl,rfl,eu,_,_,rfl,rfl,?_⟩
  rw[khE]
  refine⟨_,rfl,wy,d.c_Way,dxw,fsw,_,rfl,hw,W.c_Way.cl,W.qt,w1,t,d.qd,dx,fs,_,rfl,ht,W.qd.cl,W.qJ,t2,_,rfl,vl,_,_,_,rfl,rfl,SqL.of hvl,kaX (v:=.ref v) (by rw[JY,ev];rfl),v,clsOf d Vc.so,dxv,fsv,_,rfl,hv,cl_of W hh',na_of W hh',lvm,mA,d.qe,dxm,fsm,_,rfl,hm,W.qe.cl,W.Q4,m5,Vc.ms.once,rfl,?_⟩
  unfold comeM at kk
  rw[eg] at kk
  cases eo:Vc.ms.once with
  | true=>
   rw[eo,if_pos rfl] at kk
   refine iteT ⟨_,rfl,_,rfl,wy,d.c_Way,dxw,fsw,_,rfl,hw,W.c_Way.cl,W.qw,w4,u,_,rfl, .inl (SqL.of hu),rfl,kb3 _,_,rfl,?_⟩
   rw[if_neg JV,kcy]
   cases hc:used.contains n with
   |true=>
    rw[hc,if_pos rfl] at kk
    exact iteT kk
   |false=>
    rw[hc,if_neg JV] at kk
    exact iteF ⟨_,rfl,_,_,rfl,kk⟩
  |false=>
   rw[eo,if_neg JV] at kk
   exact iteF ⟨_,rfl,kk⟩
noncomputable def sumR(T:TillD)(B:Bask)(hand:List Int)(used:List Nat)(S:Stnd):Nat→Int
 |0=>0
 |k+1=>sumR T B hand used S k+(match T.vs[k]? with|none=>0|some V=>kbL V T.ps (kds B) S*comeM V hand used k)
noncomputable def kay(S:Stnd):Int:=S.pr.sum+S.cg
noncomputable def kcp(T:TillD)(B:Bask)(hand:List Int)(used:List Nat)(S:Stnd):Int:=
 if 0 > kay S-sumR T B hand used S T.vs.length then 0 else kay S-sumR T B hand used S T.vs.length
theorem kiV{V:Vch}{hand:List Int}{used:List Nat}{n:Nat}(h:∀z∈hand,0≤z∧z≤100)(hu:used.length≤64): -1000<comeM V hand used n∧comeM V hand used n<1000:=by
 have hc:used.count n≤64:=JR List.count_le_length hu
 have hg:0≤hand.getD n 0∧hand.getD n 0≤100:=by
  rw[J8]
  cases e:hand[n]? with
  |none=>exact⟨by decide,by decide⟩
  |some z=>exact h z (JT e)
 unfold comeM
 generalize hand.getD n 0=g at *
 split
 ·split
  ·omega
  ·split <;> omega
 ·omega
inductive kjn (d:D) (vs:List V) (H:Hp) (Q:VK) (E_:XK):Prop
 |ct (wy t b x:Addr)(T:TillD)(B:Bask)(S:Stnd)(hand:List Int)(used:List Nat)(_:vs=[.ref wy])(_:WayIs d H wy t b x hand used)(_:TillIs d H t T)(_:kb7 T)(_:BaskIs d.qf d.qh H b B)(_:StndIs d.qc H x S)(_:Wf T.ps B S)(_:hand.length=T.vs.length)(_:(∀z∈hand,0≤z∧z≤100))(_:used.length≤64)(_:∀H',Same H H'→Q (.int (kcp T B hand used S)) H'):kjn d vs H Q E_
theorem Qr:kar ["way","least","number","voucher"] ["way"] (kai kcb):=by ac_rfl
theorem keJ(W:WB K mg d base):FO P w W 5 d.Yy d.Yz ["way"] (kjn d):=by
 exists W.ZU.F,Qr
 ·obtain⟨wy,t,b,x,T,B,S,hand,used,rfl,hW,hT,tok,hB,hS,wf,hl,hz,h64,kk⟩:=h
  obtain⟨dxw,fsw,h,u,hw,w1,w2,w3,w4,w5,w6,w7,w8,w9,w10,hh,hu⟩:=id hW
  obtain⟨dx,fs,p,vl,rl,va,ra,ht,t1,t2,t3,t4,hp,hvl,hva,hrl,hra⟩:=id hT
  obtain⟨o,pp,mk,⟨dxs,fss,hxs,l1,l2,l3,l4,l5⟩,ho,hpp,hmk⟩:=id hS
  exists qR,kbc,W
  exists Uv,kkQ,W
  exists Uw,keI,W
  exists hr1,1,hr,0
  refine⟨_,kac (psl (i:=1) Qr.nd (kcv (kak (K:=K) (pv 0) rfl) W.qc.cl W.qC.me qR hr1 W.qC.b .nil pass0))
   (kac (kbm PassesOwn.never rfl (kho rfl W.B.enum (kaa (kak (K:=K) (kak (K:=K) (pv 0) rfl) rfl) kae)) (kbi (K:=K) (n:=2) rfl (kax (pgn (i:=2) Qr.nd) (kax (pgn (i:=3) Qr.nd) kbh)))
   (kaf (kly (i:=1) Qr.nd rfl (Or.inl rfl) (pe_op kcQ (pcl Uv hr W.ZI (kaa (pv 3) (kaa (kak (K:=K) (kak (K:=K) (pv 0) rfl) rfl) (kaa (kak (K:=K) (pv 0) rfl) (kaa (kak (K:=K) (pv 0) rfl) kae))))) (pcl Uw hr1 W.ZV (kaa (pv 0) (kaa (pv 2) kae)))) km5)))
   (kaf (kap (kao (ke0 rfl) (by rfl) W.B.max b_max (kaa (pv 1) (kaa kah kae)))))),?_⟩
  have lva:=hva.len
  refine⟨_,rfl,wy,d.c_Way,dxw,fsw,_,rfl,hw,W.c_Way.cl,W.qy,w5,x,dxs,fss,rfl,hxs,l5,x,o,pp,mk,S.cg,S.pr,rfl,⟨dxs,fss,hxs,l1,l2,l3,l4,l5⟩,hpp,?_⟩
  refine⟨_,rfl,wy,d.c_Way,dxw,fsw,_,rfl,hw,W.c_Way.cl,W.qt,w1,t,d.qd,dx,fs,_,rfl,ht,W.qd.cl,W.qJ,t2,vl,_,rfl,hvl,kir (xs:=va.map V.ref) (fun i σ H'=>Same H H'∧∃v2 v3:Option V,σ=[some (.ref wy),some (.int (kay S-sumR T B hand used S i)),v2,v3])
   ⟨Same.refl _,none,none,by show _=[some (V.ref wy),some (V.int (kay S-0)),none,none];rw[Int.sub_zero];rfl⟩ (fun i σ H' _ h=>h.1 _ _ hvl) ?_ ?_⟩
  ·rintro i y tp σ Hi' hy ⟨si',v2,v3,rfl⟩ ftp
   obtain⟨v,ev,rfl⟩:=kcl hy
   obtain⟨Vc,eV,hV⟩:=hva.at ev
   exists Hi',tp,Hi,np,ep,ftp
   have si:=si'.trans np
   have vo:=tok.vs Vc (JT eV)
   have hcs:=kiV (V:=Vc) (n:=i) hz h64
   refine⟨tp,_,rfl,SqT.of ep,rfl,_,_,rfl,_,_,rfl,rfl,?_⟩
   refine⟨_,rfl,_,rfl,_,rfl,wy,d.c_Way,dxw,fsw,_,rfl,si _ _ hw,W.c_Way.cl,W.qt,w1,t,d.qd,dx,fs,_,rfl,si _ _ ht,W.qd.cl,W.Qm,t1,_,rfl,wy,d.c_Way,dxw,fsw,_,rfl,si _ _ hw,W.c_Way.cl,W.Qi,w2,_,rfl,wy,d.c_Way,dxw,fsw,_,rfl,si _ _ hw,W.c_Way.cl,W.qy,w5,v,p,b,x,Vc,T.ps,B,S,rfl,hV.same si,SqL.of (si _ _ hp),hB.same si,hS.same si,wf,vo,fun H4 s4=>?_⟩
   have s04:=si.trans s4
   refine⟨_,rfl,_,rfl,wy,t,b,x,T,hand,used,i,Vc,rfl,hW.same s04,hT.same s04,eV,hl,_,_,rfl,rfl, .inr ⟨by omega,by omega⟩,_,_,rfl,rfl,?_⟩
   refine⟨s04,some (iV i),some (.ref v),?_⟩
   have es:sumR T B hand used S (i+1)=sumR T B hand used S i+kbL Vc T.ps (kds B) S*comeM Vc hand used i:=by
    show sumR T B hand used S i+(match T.vs[i]? with|none=>0|some V=>kbL V T.ps (kds B) S*comeM V hand used i)=_
    rw[eV]
   rw[es,←Int.sub_sub]
   rfl
  ·rintro σ H' ⟨s1,v2,v3,rfl⟩
   rw[JM,lva]
   exact⟨_,rfl,_,_,rfl,kk H' s1⟩
theorem kfP{f:Str}{y:V}:∀{fs:List (Str×V)}{v:V},fs.lookup f=some v→(putF f y fs).length=fs.length
 |[],v,h=>by cases h
 | (g,z)::r,v,h=>by
  rw[show putF f y ((g,z)::r)=(if g=f then(g,y)::r else(g,z)::putF f y r) from rfl]
  by_cases e:g=f
  ·rw[if_pos e]
   rfl
  ·rw[if_neg e]
   have hb:(f==g)=false:=beq_eq_false_iff_ne.mpr (Ne.symm e)
   have h':r.lookup f=some v:=by simpa only[NP,hb] using h
   show(putF f y r).length+1=r.length+1
   rw[kfP h']
theorem kfw{fs:List (Str×V)}{v:V}{f g:Str}{r:Option V}(h:fs.lookup g=r)(n:g≠f:=by decide +kernel):(putF f v fs).lookup g=r:=by
 rw[kab,if_neg n]
 exact h
theorem lk_at{fs:List (Str×V)}{v:V}{f:Str}:(putF f v fs).lookup f=some v:=by rw[kab,if_pos rfl]
structure SrcD where
 ord:List Nat
 tot:Int
 ents:List (List Nat×Int×Int)
noncomputable def EntAt(H:Hp)(e:Addr)(q:List Nat×Int×Int):Prop:=∃l,H e=some (.tup [.ref l, .int q.2.1, .int q.2.2])∧H l=some (.lst (q.1.map iV))
theorem EntAt.same{H H':Hp}{e:Addr}{q:List Nat×Int×Int}(s:Same H H'):EntAt H e q→EntAt H' e q:=fun⟨l,h1,h2⟩=>⟨l,s _ _ h1,s _ _ h2⟩
noncomputable def SrcIn(d:D)(Hs H:Hp)(x pp:Addr)(A:SrcD):Prop:=∃(dx:Addr)(fs:List (Str×V))(ol:Addr)(ea:List Addr),H x=some (.ins d.qg dx fs)∧fs.lookup ("order" :Str)=some (.ref ol)∧fs.lookup ("total" :Str)=some (.int A.tot)∧fs.lookup ("paper" :Str)=some (.ref pp)∧fs.lookup ("meet" :Str)=none∧fs.length≤5∧
 H pp=some (.lst (ea.map V.ref))∧Hs ol=some (.lst (A.ord.map iV))∧P2 (fun e q=>EntAt Hs e q) ea A.ents
inductive klq (d:D) (vs:List V) (H:Hp) (Q:VK) (E_:XK):Prop
 |ct (H0:Hp)(x dx wy t b y:Addr)(S:Stnd)(hand:List Int)(used:List Nat)(_:vs=[.ref x, .ref wy])(_:H0 x=none)(_:Same H0 H)(_:H x=some (.ins d.qg dx []))(_:WayIs d H0 wy t b y hand used)(_:StndIs d.qc H0 y S)(_:∀(H':Hp)(ol pp:Addr)(fs:List (Str×V)),Same H0 H'→H0 ol=none→H0 pp=none→ol≠pp→H' x=some (.ins d.qg dx fs)→fs.lookup ("order" :Str)=some (.ref ol)→fs.lookup ("total" :Str)=some (.int (kay S))→fs.lookup ("paper" :Str)=some (.ref pp)→fs.lookup ("meet" :Str)=none→fs.length≤3→H' ol=some (.lst (used.map iV))→H' pp=some (.lst [])→Q .non H'):klq d vs H Q E_
theorem ke5:kar ["self","way"] ["self","way"] (kai kct):=by ac_rfl
theorem kfb(W:WB K mg d base):FO P w W 2 d.Zu d.Zv ["self","way"] (klq d):=by
 exists W.Xm.F,ke5
 ·obtain⟨H0,x,dx,wy,t,b,y,S,hand,used,rfl,fx,s0,hx,hW,hS,kk⟩:=h
  obtain⟨dxw,fsw,hd,u,hw,w1,w2,w3,w4,w5,w6,w7,w8,w9,w10,hh,hu⟩:=id hW
  obtain⟨o,pr,mk,⟨dxs,fss,hxs,l1,l2,l3,l4,l5⟩,ho,hpr,hmk⟩:=id hS
  exists qR,kbc,W
  refine⟨_,kac (kaD (pv 0) (kaJ (r:=ka6 K) kaB (by rfl) W.B.list kbt (kaa (kak (K:=K) (pv 1) rfl) kae)) rfl)
   (kac (kaD (pv 0) (kcv (kak (K:=K) (pv 1) rfl) W.qc.cl W.qC.me qR hr W.qC.b .nil pass0) rfl)
   (kaf (kaD (pv 0) (kaW kae) rfl))),?_⟩
  refine⟨_,rfl,wy,d.c_Way,dxw,fsw,_,rfl,s0 _ _ hw,W.c_Way.cl,W.qw,w4,u,_,rfl, .inl (SqL.of (s0 _ _ hu)),fun ol fol=>?_⟩
  exists H,ol,H1,n1,e1,fol
  have s1:=s0.trans n1
  have hx1:=n1 _ _ hx
  have nol:ol≠x:=(kag hx fol).symm
  refine⟨_,rfl,x,d.qg,dx,[],rfl,hx1,W.qg.cl,W.Xk,by decide,?_⟩
  have s2:Same H0 (upd H1 x (.ins d.qg dx (putF "order" (.ref ol) []))):=kas fx s1 (nx hx1)
  have e2:(upd H1 x (.ins d.qg dx (putF "order" (.ref ol) []))) ol=some (.lst (used.map iV)):=by rw[kaj nol];exact e1
  have hx2:(upd H1 x (.ins d.qg dx (putF "order" (.ref ol) []))) x=some (.ins d.qg dx (putF "order" (.ref ol) [])):=kad
  generalize upd H1 x (.ins d.qg dx (putF "order" (.ref ol) []))=H2 at *
  refine⟨_,rfl,wy,d.c_Way,dxw,fsw,_,rfl,s2 _ _ hw,W.c_Way.cl,W.qy,w5,y,dxs,fss,rfl,s2 _ _ hxs,l5,y,o,pr,mk,S.cg,S.pr,rfl,⟨dxs,fss,s2 _ _ hxs,l1,l2,l3,l4,l5⟩,s2 _ _ hpr,?_⟩
  refine⟨_,rfl,x,d.qg,dx,_,rfl,hx2,W.qg.cl,W.Qk,few (JR (kal (n:=0) (JO _)) (by decide)),?_⟩
  have s3:Same H0 (upd H2 x (.ins d.qg dx (putF "total" (.int (S.pr.sum+S.cg)) (putF "order" (.ref ol) [])))):=kas fx s2 (nx hx2)
  have e3:(upd H2 x (.ins d.qg dx (putF "total" (.int (S.pr.sum+S.cg)) (putF "order" (.ref ol) [])))) ol=some (.lst (used.map iV)):=by rw[kaj nol];exact e2
  have hx3:(upd H2 x (.ins d.qg dx (putF "total" (.int (S.pr.sum+S.cg)) (putF "order" (.ref ol) [])))) x=some (.ins d.qg dx (putF "total" (.int (S.pr.sum+S.cg)) (putF "order" (.ref ol) []))):=kad
  generalize upd H2 x (.ins d.qg dx (putF "total" (.int (S.pr.sum+S.cg)) (putF "order" (.ref ol) [])))=H3 at *
  refine⟨by decide,fun pp fpp=>?_⟩
  exists H3,pp,H4,n4,e4,fpp
  have s4:=s3.trans n4
  have hx4:=n4 _ _ hx3
  have npp:pp≠x:=(kag hx3 fpp).symm
  refine⟨_,rfl,x,d.qg,dx,_,rfl,hx4,W.qg.cl,W.Xl,few (JR (kal (kal (n:=0) (JO _))) (by decide)),?_⟩
  refine kk _ ol pp _ (kas fx s4 (nx hx4)) (s0.free fol) (s3.free fpp) (kag e3 fpp) kad ?_ ?_ ?_ ?_ ?_ ?_ ?_
  ·ac_nf
  ·ac_nf
   rfl
  ·ac_nf
  ·ac_nf
   rfl
  ·exact JR (kal (kal (kal (n:=0) (JO _)))) (by decide)
  ·rw[kaj nol];exact n4 _ _ e3
  ·rw[kaj npp];exact e4
noncomputable def addE(T:TillD)(B:Bask)(hand:List Int)(A:SrcD)(used:List Nat)(S:Stnd):SrcD:=⟨A.ord,A.tot,A.ents++[(used,kay S,kcp T B hand used S)]⟩
noncomputable def pickM(T:TillD)(A:SrcD)(used:List Nat)(S:Stnd):SrcD:=if(decide (kay S<A.tot)&&(onlyM T.rs used).isNone)=true then⟨used,kay S,A.ents⟩ else A
noncomputable def meetM(T:TillD)(B:Bask)(hand:List Int):Nat→SrcD→List Nat→Stnd→SrcD
 |0,A,_,_=>A
 | k+1,A,used,S=>if kcp T B hand used S<(pickM T (addE T B hand A used S) used S).tot then(folM T B hand used S).foldl (fun A n=>match T.vs[n]? with
   |none=>A
   |some V=>meetM T B hand k A (used++[n]) (aftM V T.ps (kds B) S)) (pickM T (addE T B hand A used S) used S) else pickM T (addE T B hand A used S) used S
theorem kgt{T:TillD}{A:SrcD}{used:List Nat}{S:Stnd}:(pickM T A used S).ents=A.ents:=by
 unfold pickM
 split <;> rfl
theorem kis{f:SrcD→Nat→SrcD}{c:Nat}:∀(l:List Nat)(A:SrcD),(∀n∈l,∀A,(f A n).ents.length≤A.ents.length+c)→(l.foldl f A).ents.length≤A.ents.length+l.length*c
 |[],A,_=>by simp
 |n::l,A,h=>by
  have h1:=h n Na A
  have h2:=kis l (f A n) fun m hm=>h m (J5 _ hm)
  rw[Mi,Nq,MN,MO]
  omega
theorem kik{T:TillD}{B:Bask}{hand:List Int}(hl:hand.length=T.vs.length):∀(k:Nat)(A:SrcD)(used:List Nat)(S:Stnd),(meetM T B hand k A used S).ents.length≤A.ents.length+fan (remM hand used)
 |0,A,used,S=>by unfold meetM;omega
 | k +1,A,used,S=>by
  have h1:1≤fan (remM hand used):=kdD (r:=0) (Nw _)
  have hp:(pickM T (addE T B hand A used S) used S).ents.length=A.ents.length+1:=by
   rw[kgt]
   unfold addE
   rw[JZ,NA]
  unfold meetM
  split
  ·cases er:remM hand used with
   |zero=>
    have hf:=kkc (T:=T) (B:=B) (used:=used) (S:=S) hl
    rw[er] at hf
    rw[Dg.mp (Nat.le_zero.mp hf),EV,hp]
    exact JO _
   | succ r=>
    have hf:=kkc (T:=T) (B:=B) (used:=used) (S:=S) hl
    rw[er] at hf
    refine JR (kis (c:=fan r) _ _ fun n hn A'=>?_) ?_
    ·cases e:T.vs[n]? with
     |none=>exact Nat.le_add_right _ _
     |some V=>
      have hc:=(Np.mp hn).2
      obtain⟨h1,h2⟩:=kcB hc
      have hd:=kel (hand:=hand) (used:=used) (n:=n) (by omega) h2
      have hi:=kik (B:=B) hl k A' (used++[n]) (aftM V T.ps (kds B) S)
      rw[show remM hand (used++[n])=r by omega] at hi
      exact hi
    ·rw[hp]
     show _≤_+(1+(r+1)*fan r)
     have:=Ed (fan r) hf
     omega
  ·omega
noncomputable def rm2(x pp:Addr)(H:Hp):Hp:=Vs.rmv x (Vs.rmv pp H)
theorem keD{x pp:Addr}{H:Hp}:Same (rm2 x pp H) H:=rmv_sub.trans rmv_sub
theorem rm2_x{x pp:Addr}{H:Hp}:rm2 x pp H x=none:=kgp
theorem rm2_p{x pp:Addr}{H:Hp}(n:x≠pp):rm2 x pp H pp=none:=by
 unfold rm2
 rw[kc8 n.symm]
 exact kgp
theorem kgq{x pp C dx:Addr}{Hs H:Hp}{fs:List (Str×V)}{xs:List V}(s:Same Hs H)(fx:Hs x=none)(fp:Hs pp=none)(hx:H x=some (.ins C dx fs))(hp:H pp=some (.lst xs)):Same Hs (rm2 x pp H):=
 kbO (kbO s (keC (nx hp)) fp) (keC (nx (show Vs.rmv pp H x=_ by rw[kc8 (ne_of hx hp (by intro z;cases z))];exact hx))) fx
theorem kcD{x pp a:Addr}{H:Hp}{o:HO}(e:H a=some o)(n1:a≠x)(n2:a≠pp):rm2 x pp H a=some o:=by
 unfold rm2
 rw[kc8 n1,kc8 n2]
 exact e
inductive kfk (d:D) (n:Nat) (vs:List V) (H:Hp) (Q:VK) (E_:XK):Prop
 |ct (Hs:Hp)(x pp wy t b y:Addr)(T:TillD)(B:Bask)(S:Stnd)(hand:List Int)(used:List Nat)(A:SrcD)(_:vs=[.ref x, .ref wy])(_:Same Hs H)(_:Hs x=none)(_:Hs pp=none)(_:SrcIn d Hs H x pp A)(_:WayIs d Hs wy t b y hand used)(_:StndIs d.qc Hs y S)(_:TillIs d Hs t T)(_:kb7 T)(_:BaskIs d.qf d.qh Hs b B)(_:Wf T.ps B S)(_:hand.length=T.vs.length)(_:(∀z∈hand,0≤z∧z≤100))(_:remM hand used<n)(_:used.length+n≤64)(_:A.ents.length+fan (remM hand used)≤1000)(_:∀(Hs' H':Hp),Same Hs Hs'→Same Hs' H'→Hs' x=none→Hs' pp=none→SrcIn d Hs' H' x pp (meetM T B hand n A used S)→Q .non H'):kfk d n vs H Q E_
theorem kjl{d:D}{vs:List V}{H:Hp}{Q:VK}{E:XK}(h:kfk d 0 vs H Q E):False:=by
 obtain⟨_,_,_,_,_,_,_,_,_,_,_,_,_,_,_,_,_,_,_,_,_,_,_,_,_,_,h,_⟩:=h
 omega
theorem QJ:kar ["self","way","total","least","number"] ["self","way"] (kai kcs):=by ac_rfl
theorem kd5(W:WB K mg d base)(n:Nat)(G_rec:FO P w W (6+n) d.Qc d.Qd ["self","way"] ((kfk d) n)):FO P w W (6+n+1) d.Qc d.Qd ["self","way"] ((kfk d) (n+1)):=by
 refine FunD.ok W.Ql.F QJ (fun vs H Q E h=>?_) (fun cdv A outer s H vs Q E hr h=>?_)
 ·obtain⟨Hs,x,pp,wy,t,b,y,T,B,S,hand,used,A,rfl,_⟩:=h
  rfl
 ·obtain⟨Hs,x,pp,wy,t,b,y,T,B,S,hand,used,A,rfl,sS,fx,fp,hA,hW,hS,hT,tok,hB,wf,hl,hz,hrem,h64,hsz,kk⟩:=h
  obtain⟨dx,fs,ol,ea,hx,lo,lt,lp,lm,l5,hpp,hol,hents⟩:=id hA
  obtain⟨dxw,fsw,hd,u,hw,w1,w2,w3,w4,w5,w6,w7,w8,w9,w10,hh,hu⟩:=id hW
  obtain⟨o,pr,mk,⟨dxs,fss,hxs,s1',s2',s3',s4',s5'⟩,ho,hpr,hmk⟩:=id hS
  exists qR,kbc,W
  exists Ux,keJ,W
  exists XA,kcE,W
  exists Uy,keg,W
  exists Qq,kcx,W
  have hr1:Room 1 _:=hr.mono (by omega)
  have hr2:Room 2 _:=hr.mono (by omega)
  have hr5:Room 5 _:=hr.mono (by omega)
  have hr6:Room 6 _:=hr.mono (by omega)
  refine⟨_,kac (psl (i:=2) QJ.nd (kcv (kak (K:=K) (pv 1) rfl) W.qc.cl W.qC.me qR hr1 W.qC.b .nil pass0))
   (kac (psl (i:=3) QJ.nd (pcl Ux hr5 W.ZU (kaa (pv 1) kae)))
   (kac (kaP (pe_bm NI NT NU ka1 (kak (K:=K) (pv 0) rfl) (kaa (kcm (kaa (kaJ (r:=ka6 K) kaB (by rfl) W.B.list kbt (kaa (kak (K:=K) (pv 1) rfl) kae)) (kaa (pv 2) (kaa (pv 3) kae)))) kae)))
   (kac (kbX (ps_if (PW.pt (ka7 (kan op_lt (pv 2) (kak (K:=K) (pv 0) rfl) (kat _)) (kaV (kaO (kcv (pv 1) W.c_Way.cl W.Qj.me XA hr2 W.Qj.b .nil pass0))))) (kac (kaD (pv 0) (kaJ (r:=ka6 K) kaB (by rfl) W.B.list kbt (kaa (kak (K:=K) (pv 1) rfl) kae)) rfl)
   (kaf (kaD (pv 0) (pv 2) rfl))) (kaq)))
   (kaf (ps_if (kan op_lt (pv 3) (kak (K:=K) (pv 0) rfl) (kat _)) (kaf (kbm PassesOwn.never rfl (kaG (K:=K) (kcv (pv 1) W.c_Way.cl W.Xj.me Uy hr6 W.Xj.b .nil pass0)) (pgn (i:=4) QJ.nd)
   (kaf (kaP (kcN (pv 0) W.qg.cl W.Ql.me G_rec hr W.Ql.b .nil pass0 (kaa (kcN (pv 1) W.c_Way.cl W.qO.me Qq hr6 W.qO.b .nil pass0 (kaa (pv 4) kae)) kae)))))) (kaq)))))),?_⟩
  have nxp:x≠pp:=ne_of hx hpp (by intro z;cases z)
  have lents:=hents.len
  have h1f:1≤fan (remM hand used):=kdD (r:=0) (Nw _)
  refine⟨_,rfl,wy,d.c_Way,dxw,fsw,_,rfl,sS _ _ hw,W.c_Way.cl,W.qy,w5,y,dxs,fss,rfl,sS _ _ hxs,s5',y,o,pr,mk,S.cg,S.pr,rfl,⟨dxs,fss,sS _ _ hxs,s1',s2',s3',s4',s5'⟩,sS _ _ hpr,?_⟩
  refine⟨_,rfl,wy,t,b,y,T,B,S,hand,used,rfl,hW.same sS,hT.same sS,tok,hB.same sS,hS.same sS,wf,hl,hz,by omega,fun H1 s1=>?_⟩
  have sS1:=sS.trans s1
  have hx1:=s1 _ _ hx
  have hpp1:=s1 _ _ hpp
  refine⟨_,rfl,x,d.qg,dx,fs,_,rfl,hx1,W.qg.cl,W.Xl,lp, .inl ⟨rfl,_,SqL.of hpp1⟩,_,rfl,wy,d.c_Way,dxw,fsw,_,rfl,sS1 _ _ hw,W.c_Way.cl,W.qw,w4,u,_,rfl, .inl (SqL.of (sS1 _ _ hu)),fun l fl=>?_⟩
  exists H1,l,H2,n2,e2,fl
  refine⟨_,rfl,_,rfl,(by show 3≤sizeLine;decide),fun e fe=>?_⟩
  exists H2,e,H3,n3,e3,fe
  have s13:=n2.trans n3
  have sS3:=sS1.trans s13
  have hx3:=s13 _ _ hx1
  have hpp3:=s13 _ _ hpp1
  have sm:=kgq sS3 fx fp hx3 hpp3
  have em:EntAt (rm2 x pp H3) e (used,kay S,kcp T B hand used S):=
   ⟨l,kcD e3 (kag (n2 _ _ hx1) fe).symm (kag (n2 _ _ hpp1) fe).symm,kcD (n3 _ _ e2) (kag hx1 fl).symm (kag hpp1 fl).symm⟩
  refine⟨pp,_,_,rfl,rfl,hpp3,kaw (by rw[JM];omega),?_⟩
  rw[show ea.map V.ref++[V.ref e]=(ea++[e]).map V.ref by rw[JW];rfl]
  have b4:But pp H3 (upd H3 pp (.lst ((ea++[e]).map V.ref))):=kav (nx hpp3)
  have hpp4:(upd H3 pp (.lst ((ea++[e]).map V.ref))) pp=some (.lst ((ea++[e]).map V.ref)):=kad
  generalize upd H3 pp (.lst ((ea++[e]).map V.ref))=H4 at *
  have hx4:=b4 _ _ nxp hx3
  have sm4:Same (rm2 x pp H3) H4:=kbO keD b4 (rm2_p nxp)
  have fmx:rm2 x pp H3 x=none:=rm2_x
  have fmp:rm2 x pp H3 pp=none:=rm2_p nxp
  have hA4:SrcIn d (rm2 x pp H3) H4 x pp (addE T B hand A used S):=⟨dx,fs,ol,ea++[e],hx4,lo,lt,lp,lm,l5,hpp4,sm _ _ hol,P2.snoc (hents.mono fun e q h=>h.same sm) em⟩
  generalize rm2 x pp H3=Hm at *
  have sSm4:=sm.trans sm4
  refine⟨fun σ' H'=>∃Hs2,Same Hs Hs2∧Same Hs2 H'∧Hs2 x=none∧Hs2 pp=none∧SrcIn d Hs2 H' x pp (pickM T (addE T B hand A used S) used S)∧σ'=[some (.ref x),some (.ref wy),some (.int (kay S)),some (.int (kcp T B hand used S)),none],?_,?_⟩
  ·refine⟨_,rfl,_,rfl,x,d.qg,dx,fs,_,rfl,hx4,W.qg.cl,W.Qk,lt,_,_,rfl,rfl,_,rfl,?_⟩
   have etot:(addE T B hand A used S).tot=A.tot:=rfl
   by_cases c1:kay S<A.tot
   ·rw[show decide (S.pr.sum+S.cg<A.tot)=true from decide_eq_true c1]
    refine iteT ⟨_,rfl,wy,dxw,fsw,rfl,sSm4 _ _ hw,w8,wy,t,b,y,T,hand,used,rfl,hW.same sSm4,hT.same sSm4,_,rfl,?_⟩
    cases eo:(onlyM T.rs used).isNone with
    | true=>
     have epk:pickM T (addE T B hand A used S) used S=⟨used,kay S,A.ents++[(used,kay S,kcp T B hand used S)]⟩:=by
      unfold pickM
      rw[etot,decide_eq_true c1,eo]
      rfl
     refine iteT ⟨_,rfl,wy,d.c_Way,dxw,fsw,_,rfl,sSm4 _ _ hw,W.c_Way.cl,W.qw,w4,u,_,rfl, .inl (SqL.of (sSm4 _ _ hu)),fun q fq=>?_⟩
     exists H4,q,H5,n5,e5,fq
     have hx5:=n5 _ _ hx4
     have hpp5:=n5 _ _ hpp4
     refine⟨_,rfl,x,d.qg,dx,fs,rfl,hx5,W.qg.cl,W.Xk,few (JR l5 (by decide)),?_⟩
     have b6:But x H5 (upd H5 x (.ins d.qg dx (putF "order" (.ref q) fs))):=kav (nx hx5)
     have hx6:(upd H5 x (.ins d.qg dx (putF "order" (.ref q) fs))) x=some (.ins d.qg dx (putF "order" (.ref q) fs)):=kad
     generalize upd H5 x (.ins d.qg dx (putF "order" (.ref q) fs))=H6 at *
     have hl6:(putF "order" (.ref q) fs).length≤5:=by rw[kfP lo];exact l5
     refine⟨_,rfl,_,rfl,x,d.qg,dx,_,rfl,hx6,W.qg.cl,W.Qk,few (JR hl6 (by decide)),?_⟩
     have b7:But x H6 (upd H6 x (.ins d.qg dx (putF "total" (.int (S.pr.sum+S.cg)) (putF "order" (.ref q) fs)))):=kav (nx hx6)
     have hx7:(upd H6 x (.ins d.qg dx (putF "total" (.int (S.pr.sum+S.cg)) (putF "order" (.ref q) fs)))) x=some (.ins d.qg dx (putF "total" (.int (S.pr.sum+S.cg)) (putF "order" (.ref q) fs))):=kad
     generalize upd H6 x (.ins d.qg dx (putF "total" (.int (S.pr.sum+S.cg)) (putF "order" (.ref q) fs)))=H7 at *
     have sm5:Same Hm (rm2 x pp H5):=kgq (sm4.trans n5) fmx fmp hx5 hpp5
     have s57:Same (rm2 x pp H5) H7:=kbO (kbO keD b6 rm2_x) b7 rm2_x
     obtain⟨_,_,_,_,g1,_,_,_,_,_,g7,g8,g9⟩:=id hA4
     refine⟨rm2 x pp H5,sm.trans sm5,s57,rm2_x,rm2_p nxp,?_,rfl⟩
     rw[epk]
     refine⟨dx,_,q,ea++[e],hx7,kfw lk_at,lk_at,kfw (kfw lp),kfw (kfw lm),by rw[kfP (kfw lt)];exact hl6,b7 _ _ nxp.symm (b6 _ _ nxp.symm hpp5),kcD e5 (kag hx4 fq).symm (kag hpp4 fq).symm,?_⟩
     obtain⟨_,_,_,ea',_,_,_,_,_,_,hpp4',_,hen⟩:=hA4
     rw[hpp4] at hpp4'
     have hee:ea'=ea++[e]:=by
      have h1:=congrArg (fun o=>match o with|some (HO.lst xs)=>xs|_=>[]) hpp4'
      simp only at h1
      exact((List.map_inj_right (fun _ _ h=>V.ref.inj h)).mp h1).symm
     subst hee
     exact hen.mono fun e q h=>h.same sm5
    | false=>
     have epk:pickM T (addE T B hand A used S) used S=addE T B hand A used S:=by
      unfold pickM
      rw[eo,MX,if_neg JV]
     refine iteF ⟨Hm,sm,sm4,fmx,fmp,?_,rfl⟩
     rw[epk]
     exact hA4
   ·have epk:pickM T (addE T B hand A used S) used S=addE T B hand A used S:=by
     unfold pickM
     rw[etot,decide_eq_false c1,MQ,if_neg JV]
    rw[show decide (S.pr.sum+S.cg<A.tot)=false from decide_eq_false c1]
    refine iteF (iteF ⟨Hm,sm,sm4,fmx,fmp,?_,rfl⟩)
    rw[epk]
    exact hA4
  have emt:meetM T B hand (n+1) A used S=if kcp T B hand used S<(pickM T (addE T B hand A used S) used S).tot then(folM T B hand used S).foldl (fun A m=>match T.vs[m]? with
   |none=>A
   |some V=>meetM T B hand n A (used++[m]) (aftM V T.ps (kds B) S)) (pickM T (addE T B hand A used S) used S) else pickM T (addE T B hand A used S) used S:=rfl
  rw[emt] at kk
  have hpe:(pickM T (addE T B hand A used S) used S).ents.length=A.ents.length+1:=by
   rw[kgt]
   unfold addE
   rw[JZ,NA]
  clear hA4 hx4 hpp4 sm4 sSm4 fmx fmp sm b4 em
  generalize pickM T (addE T B hand A used S) used S=P0 at *
  generalize hfm:(fun(A:SrcD)(m:Nat)=>match T.vs[m]? with
   |none=>A
   |some V=>meetM T B hand n A (used++[m]) (aftM V T.ps (kds B) S))=fm at *
  rintro σ' H5 ⟨Hs2,t1,t2,fx2,fp2,hA5,rfl⟩
  obtain⟨dx5,fs5,ol5,ea5,hx5,lo5,lt5,lp5,lm5,l55,hpp5,hol5,hents5⟩:=id hA5
  refine⟨_,rfl,_,rfl,x,d.qg,dx5,fs5,_,rfl,hx5,W.qg.cl,W.Qk,lt5,_,_,rfl,rfl,_,rfl,?_⟩
  by_cases c2:kcp T B hand used S<P0.tot
  ·rw[if_pos c2] at kk
   rw[show decide (kcp T B hand used S<P0.tot)=true from decide_eq_true c2]
   have s05:=t1.trans t2
   refine iteT ⟨_,rfl,wy,dxw,fsw,rfl,s05 _ _ hw,w9,wy,t,b,y,T,B,S,hand,used,rfl,hW.same s05,hT.same s05,tok,hB.same s05,hS.same s05,wf,hl,fun H6 fl' s6 ffl efl=>?_⟩
   have hfl:=kkc (T:=T) (B:=B) (used:=used) (S:=S) hl
   have hx6:=s6 _ _ hx5
   have hpp6:=s6 _ _ hpp5
   have u6:=kgq (t2.trans s6) fx2 fp2 hx6 hpp6
   have efm:rm2 x pp H6 fl'=some (.lst ((folM T B hand used S).map iV)):=kcD efl (kag hx5 ffl).symm (kag hpp5 ffl).symm
   have hA6:SrcIn d (rm2 x pp H6) H6 x pp P0:=⟨dx5,fs5,ol5,ea5,hx6,lo5,lt5,lp5,lm5,l55,hpp6,u6 _ _ hol5,hents5.mono fun e q h=>h.same u6⟩
   have t16:=t1.trans u6
   refine⟨fl',rfl,⟨_,SqL.of efl⟩,kbd (xs:=(folM T B hand used S).map iV) (fun i σ H'=>∃(Hn:Hp)(v4:Option V),Same (rm2 x pp H6) Hn∧Same Hn H'∧Hn x=none∧Hn pp=none∧SrcIn d Hn H' x pp (((folM T B hand used S).take i).foldl fm P0)∧(((folM T B hand used S).take i).foldl fm P0).ents.length≤P0.ents.length+i*fan (remM hand used-1)∧σ=[some (.ref x),some (.ref wy),some (.int (kay S)),some (.int (kcp T B hand used S)),v4])
    ⟨rm2 x pp H6,none,Same.refl _,keD,rm2_x,rm2_p nxp,hA6,by rw[EO,EV];omega,rfl⟩ (fun i σ H' _ h=>by obtain⟨Hn,v4,q1,q2,_⟩:=h;exact SqL.of ((q1.trans q2) _ _ efm)) ?_ ?_⟩
   ·rintro i yv σ H' hyv ⟨Hn,v4,q1,q2,fnx,fnp,hAn,hln,rfl⟩
    obtain⟨m,em,rfl⟩:∃m,(folM T B hand used S)[i]?=some m∧yv=iV m:=kbB hyv
    have hmem:=JT em
    have hi:=at_lt em
    obtain⟨hm1,hm2⟩:=kcB (Np.mp hmem).2
    obtain⟨Vc,hV⟩:=at_of hm1
    have vo:=tok.vs Vc (JT hV)
    have hd:=kel (hand:=hand) (used:=used) (n:=m) (by omega) hm2
    have er:remM hand (used++[m])=remM hand used-1:=by omega
    have hfan:fan (remM hand used)=1+remM hand used*fan (remM hand used-1):=by
     obtain⟨r,hr'⟩:∃r,remM hand used=r+1:=⟨remM hand used-1,by omega⟩
     rw[hr']
     rfl
    have hmul:(i+1)*fan (remM hand used-1)≤remM hand used*fan (remM hand used-1):=Ed _ (by omega)
    have hmul':(i+1)*fan (remM hand used-1)=i*fan (remM hand used-1)+fan (remM hand used-1):=by rw[MN,MO]
    have s0n:=t16.trans q1
    have s0h:=s0n.trans q2
    obtain⟨dxn,fsn,oln,ean,hxn,lon,ltn,lpn,lmn,l5n,hppn,holn,hentsn⟩:=id hAn
    have efi:(((folM T B hand used S).take (i+1)).foldl fm P0)=fm (((folM T B hand used S).take i).foldl fm P0) m:=by rw[take_snoc em,Ee];rfl
    have efm':fm (((folM T B hand used S).take i).foldl fm P0) m=meetM T B hand n (((folM T B hand used S).take i).foldl fm P0) (used++[m]) (aftM Vc T.ps (kds B) S):=by rw[←hfm];simp only[hV]
    have hml:=kik (T:=T) (B:=B) hl n (((folM T B hand used S).take i).foldl fm P0) (used++[m]) (aftM Vc T.ps (kds B) S)
    rw[←efm',←efi,er] at hml
    refine⟨_,rfl,x,dxn,fsn,rfl,hxn,lmn,_,rfl,wy,dxw,fsw,rfl,s0h _ _ hw,w7,_,rfl,wy,t,b,y,T,B,S,hand,used,m,Vc,rfl,hW.same s0h,hT.same s0h,hB.same s0h,hS.same s0h,wf,vo,hV,by omega,fun H8 wy' y' s8 f8 hY' hy'=>?_⟩
    have hx8:=s8 _ _ hxn
    have hpp8:=s8 _ _ hppn
    have u8:=kgq (q2.trans s8) fnx fnp hx8 hpp8
    have hnx:H' x≠none:=by rw[hxn];intro z;cases z
    have hnp:H' pp≠none:=by rw[hppn];intro z;cases z
    have hYm:WayIs d (rm2 x pp H8) wy' t b y' hand (used++[m]):=by
     obtain⟨f,dxq,fsq,hq,uq,f1,f2,g,h2,h3,h4,h5,h6,h7,h8',h9,h10,h11,h12,h13⟩:=hY'
     exact⟨dxq,fsq,hq,uq,kcD g (fun z=>hnx (z▸f)) (fun z=>hnp (z▸f)),h2,h3,h4,h5,h6,h7,h8',h9,h10,h11,kcD h12 (fun z=>hnx (z▸f1)) (fun z=>hnp (z▸f1)),kcD h13 (fun z=>hnx (z▸f2)) (fun z=>hnp (z▸f2))⟩
    have hym:StndIs d.qc (rm2 x pp H8) y' (aftM Vc T.ps (kds B) S):=by
     obtain⟨f,oq,pq,mq,⟨dq,gq,hq,r⟩,f1,f2,f3,k1,k2,k3⟩:=hy'
     exact⟨oq,pq,mq,⟨dq,gq,kcD hq (fun z=>hnx (z▸f)) (fun z=>hnp (z▸f)),r⟩,kcD k1 (fun z=>hnx (z▸f1)) (fun z=>hnp (z▸f1)),kcD k2 (fun z=>hnx (z▸f2)) (fun z=>hnp (z▸f2)),kcD k3 (fun z=>hnx (z▸f3)) (fun z=>hnp (z▸f3))⟩
    have s0u:=s0n.trans u8
    refine⟨rm2 x pp H8,x,pp,wy',t,b,y',T,B,aftM Vc T.ps (kds B) S,hand,used++[m],_,rfl,keD,rm2_x,rm2_p nxp,⟨dxn,fsn,oln,ean,hx8,lon,ltn,lpn,lmn,l5n,hpp8,u8 _ _ holn,hentsn.mono fun e q h=>h.same u8⟩,hYm,hym,hT.same s0u,tok,hB.same s0u,wf.after vo,hl,hz,by omega,by rw[JZ,NA];omega,by rw[er];omega,fun Hs9 H9 v1 v2 v3 v4' hA9=>?_⟩
    refine⟨Hs9,_,(q1.trans u8).trans v1,v2,v3,v4',?_,by omega,rfl⟩
    rw[efi,efm']
    exact hA9
   ·rintro σ H' ⟨Hn,v4,q1,q2,fnx,fnp,hAn,hln,rfl⟩
    rw[JM,NB] at hAn
    exact kk Hn H' (t16.trans q1) q2 fnx fnp hAn
  ·rw[if_neg c2] at kk
   rw[show decide (kcp T B hand used S<P0.tot)=false from decide_eq_false c2]
   exact iteF (kk Hs2 H5 t1 t2 fx2 fp2 hA5)
theorem kcS(W:WB K mg d base):∀n:Nat,FO P w W (6+n) d.Qc d.Qd ["self","way"] ((kfk d) n)
 |0=>⟨fun _ _ _ _ h=>(kjl h).elim,fun _ _ _ _ _ _ _ _ _ _ _ _ _ h=>(kjl h).elim⟩
 |n+1=>kd5 W n (kcS W n)
theorem kfa(W:WB K mg d base):FO P w W 16 d.Qc d.Qd ["self","way"] ((kfk d) 10):=kcS W 10
noncomputable def bestM(T:TillD)(B:Bask)(hand:List Int):SrcD:=meetM T B hand 10 ⟨[],kay (stnd0 B),[]⟩ [] (stnd0 B)
inductive klw (d:D) (vs:List V) (H:Hp) (Q:VK) (E_:XK):Prop
 |ct (t b h:Addr)(T:TillD)(B:Bask)(hand:List Int)(_:vs=[.ref t, .ref b, .ref h])(_:TillIs d H t T)(_:kb7 T)(_:BaskIs d.qf d.qh H b B)(_:Wf T.ps B (stnd0 B))(_:H h=some (.lst (hand.map V.int)))(_:hand.length=T.vs.length)(_:(∀z∈hand,0≤z∧z≤100))(_:remM hand []≤5)(_:∀(H':Hp)(r ol pp:Addr)(ea:List Addr),Same H H'→H pp=none→ol≠pp→H' r=some (.tup [.ref ol, .int (bestM T B hand).tot, .ref pp])→H' ol=some (.lst ((bestM T B hand).ord.map iV))→H' pp=some (.lst (ea.map V.ref))→P2 (fun e q=>EntAt (Vs.rmv pp H') e q) ea (bestM T B hand).ents→Q (.ref r) H'):klw d vs H Q E_
theorem XB:kar ["till","basket","hand","way","search"] ["till","basket","hand"] (kai kjy):=by ac_rfl
theorem kmi(W:WB K mg d base):FO P w W 17 d.Yw d.Yx ["till","basket","hand"] (klw d):=by
 exists W.ZT.F,XB
 ·obtain⟨t,b,h,T,B,hand,rfl,hT,tok,hB,wf0,hh,hl,hz,hrem,kk⟩:=h
  exists qQ,kcw,W
  exists Uz,kfb,W
  exists UA,kfa,W
  exists hr3,3,hr,0
  exists hr5,5,hr,0
  refine⟨_,kac (psl (i:=3) XB.nd (ka8 (W.qD.mk' W.c_Way) qQ hr5 rfl W.c_Way.m W.qD.b .nil pass0 (kaa (pv 0) (kaa (pv 1) (kaa (pv 2) kae)))))
   (kac (psl (i:=4) XB.nd (ka8 (W.Xm.mk' W.qg) Uz hr3 rfl W.qg.m W.Xm.b .nil pass0 (kaa (pv 3) kae)))
   (kac (kaP (kcN (pv 4) W.qg.cl W.Ql.me UA hr W.Ql.b .nil pass0 (kaa (pv 3) kae)))
   (kaf (kap (kcm (kaa (kak (K:=K) (pv 4) rfl) (kaa (kak (K:=K) (pv 4) rfl) (kaa (kak (K:=K) (pv 4) rfl) kae)))))))),?_⟩
  refine⟨_,rfl,_,rfl,_,rfl,kii hh hB wf0.nl wf0.ok fun H1 wy y s1 fwy fy hwy hy=>?_⟩
  have hW1:=hwy.at.most (m':=7) (by decide)
  refine⟨_,rfl,fun x dx fx fdx ndx=>⟨H1,x,dx,wy,t,b,y,stnd0 B,hand,[],rfl,fx,ka2 fx fdx,kad,hW1,hy,fun H2 ol pp fs s2 fol fpp nop hx2 l1 l2 l3 l4 l5 eol epp=>⟨rfl,?_⟩⟩⟩
  have sm:=kgq s2 fx fpp hx2 epp
  have nxp:x≠pp:=ne_of hx2 epp (by intro z;cases z)
  have s0m:=s1.trans sm
  have hfan:fan (remM hand [])≤1000:=JR (kdD hrem) (by decide)
  refine⟨_,rfl,x,dx,fs,rfl,hx2,l4,_,rfl,rm2 x pp H2,x,pp,wy,t,b,y,T,B,stnd0 B,hand,[],⟨[],kay (stnd0 B),[]⟩,rfl,keD,rm2_x,rm2_p nxp,⟨dx,fs,ol,[],hx2,l1,l2,l3,l4,JR l5 (by decide),epp,kcD eol (ne_of eol hx2 (by intro z;cases z)) nop, .nil⟩,hW1.same sm,hy.same sm,hT.same s0m,tok,hB.same s0m,wf0,hl,hz,by omega,by decide,by rw[M5];omega,fun Hs3 H3 v1 v2 v3 v4 hA=>?_⟩
  obtain⟨dx3,fs3,ol3,ea3,hx3,lo,lt,lp,lm,l53,hpp3,hol3,hents⟩:=hA
  refine⟨_,rfl,x,d.qg,dx3,fs3,_,rfl,hx3,W.qg.cl,W.Xk,lo,_,rfl,x,d.qg,dx3,fs3,_,rfl,hx3,W.qg.cl,W.Qk,lt,_,rfl,x,d.qg,dx3,fs3,_,rfl,hx3,W.qg.cl,W.Xl,lp,(by show 3≤sizeLine;decide),fun r fr=>?_⟩
  have n4:=kam (o:=.tup [.ref ol3, .int (bestM T B hand).tot, .ref pp]) fr
  have e4:(upd H3 r (.tup [.ref ol3, .int (bestM T B hand).tot, .ref pp])) r=some (.tup [.ref ol3, .int (bestM T B hand).tot, .ref pp]):=kad
  have hg:∀H4,upd H3 r (.tup [.ref ol3, .int (bestM T B hand).tot, .ref pp])=H4→Q (.ref r) H4:=fun H4 hH4=>by
   rw[hH4] at n4 e4
   have hpp4:=n4 _ _ hpp3
   have s34:Same Hs3 (Vs.rmv pp H4):=kbO (v2.trans n4) (keC (nx hpp4)) v4
   refine kk H4 r ol3 pp ea3 ?_ (s1.free fpp) (fun z=>?_) e4 (n4 _ _ (v2 _ _ hol3)) hpp4 (hents.mono fun e q h=>h.same s34)
   ·exact((s0m.trans v1).trans v2).trans n4
   ·rw[z,v4] at hol3
    cases hol3
  exact hg _ rfl
structure Step where
 n:Nat
 cs:List Int
 c:Int
noncomputable def StepIs(H:Hp)(a:Addr)(s:Step):Prop:=∃l,H a=some (.tup [iV s.n, .ref l, .int s.c])∧H l=some (.lst (s.cs.map V.int))
theorem StepIs.same{H H':Hp}{a:Addr}{t:Step}(s:Same H H'):StepIs H a t→StepIs H' a t:=fun⟨l,h1,h2⟩=>⟨l,s _ _ h1,s _ _ h2⟩
noncomputable def StepN(H0 H:Hp)(a:Addr)(s:Step):Prop:=H0 a=none∧∃l,H0 l=none∧H a=some (.tup [iV s.n, .ref l, .int s.c])∧H l=some (.lst (s.cs.map V.int))
theorem StepN.same{H0 H H':Hp}{a:Addr}{t:Step}(s:Same H H'):StepN H0 H a t→StepN H0 H' a t:=fun⟨f,l,g,h1,h2⟩=>⟨f,l,g,s _ _ h1,s _ _ h2⟩
theorem StepN.but{H0 H H':Hp}{a x:Addr}{t:Step}(b:But x H H')(hx:H0 x≠none):StepN H0 H a t→StepN H0 H' a t:=fun⟨f,l,g,h1,h2⟩=>⟨f,l,g,b _ _ (fun e=>hx (e▸f)) h1,b _ _ (fun e=>hx (e▸g)) h2⟩
structure BillD where
 order:List Nat
 steps:List Step
 pr:List Int
 cg:Int
 total:Int
inductive BillIs (d:D) (H0 H:Hp) (b:Addr) (B:BillD):Prop
 |ct (dx:Addr)(fs:List (Str×V))(o s p:Addr)(sa:List Addr)(_:H b=some (.ins d.qi dx fs))(_:fs.lookup ("order" :Str)=some (.ref o))(_:fs.lookup ("steps" :Str)=some (.ref s))(_:fs.lookup ("prices" :Str)=some (.ref p))(_:fs.lookup ("carriage" :Str)=some (.int B.cg))(_:fs.lookup ("total" :Str)=some (.int B.total))(_:H0 b=none)(_:H0 o=none)(_:H0 s=none)(_:H0 p=none)(_:H o=some (.lst (B.order.map iV)))(_:H s=some (.lst (sa.map V.ref)))(_:P2 (fun a t=>StepN H0 H a t) sa B.steps)(_:H p=some (.lst (B.pr.map V.int))):BillIs d H0 H b B
theorem BillIs.same{d:D}{H0 H H':Hp}{b:Addr}{B:BillD}(z:Same H H'):BillIs d H0 H b B→BillIs d H0 H' b B:=fun⟨dx,fs,o,s,p,sa,h1,h2,h3,h4,h5,h6,f1,f2,f3,f4,h7,h8,h9,h10⟩=>
 ⟨dx,fs,o,s,p,sa,z _ _ h1,h2,h3,h4,h5,h6,f1,f2,f3,f4,z _ _ h7,z _ _ h8,h9.mono fun a t h=>h.same z,z _ _ h10⟩
theorem BillIs.but{d:D}{H0 H H':Hp}{b x:Addr}{B:BillD}(z:But x H H')(hx:H0 x≠none):BillIs d H0 H b B→BillIs d H0 H' b B:=fun⟨dx,fs,o,s,p,sa,h1,h2,h3,h4,h5,h6,f1,f2,f3,f4,h7,h8,h9,h10⟩=>
 ⟨dx,fs,o,s,p,sa,z _ _ (fun e=>hx (e▸f1)) h1,h2,h3,h4,h5,h6,f1,f2,f3,f4,z _ _ (fun e=>hx (e▸f2)) h7,z _ _ (fun e=>hx (e▸f3)) h8,h9.mono fun a t h=>h.but z hx,z _ _ (fun e=>hx (e▸f4)) h10⟩
inductive kha (d:D) (vs:List V) (H:Hp) (Q:VK) (E_:XK):Prop
 |ct (H0:Hp)(b dx o s x:Addr)(order:List Nat)(steps:List Step)(S:Stnd)(sa:List Addr)(_:vs=[.ref b, .ref o, .ref s, .ref x])(_:H0 b=none)(_:Same H0 H)(_:H b=some (.ins d.qi dx []))(_:H0 o=some (.lst (order.map iV)))(_:H0 s=some (.lst (sa.map V.ref)))(_:P2 (fun a t=>StepIs H0 a t) sa steps)(_:steps.length<64)(_:StndIs d.qc H0 x S)(_:∀H',Same H0 H'→BillIs d H0 H' b ⟨order,steps,S.pr,S.cg,S.pr.sum+S.cg⟩→Q .non H'):kha d vs H Q E_
theorem kgo:kar ["self","order","steps","standing"] ["self","order","steps","standing"] (kai kde):=by ac_rfl
theorem kgz(W:WB K mg d base):FO P w W 2 d.Zw d.Zx ["self","order","steps","standing"] (kha d):=by
 exists W.Xn.F,kgo
 ·obtain⟨H0,b,dx,o,st,x,order,steps,S,sa,rfl,fb,s0,hb,ho,hst,hsa,h64,hS,kk⟩:=h
  obtain⟨ow,pp,mm,⟨dxs,fss,hxs,l1,l2,l3,l4,l5⟩,how,hpp,hmm⟩:=id hS
  exists qR,kbc,W
  refine⟨_,kac (kaD (pv 0) (kaJ (r:=ka6 K) kaB (by rfl) W.B.list kbt (kaa (pv 1) kae)) rfl)
   (kac (kaD (pv 0) (kbY (N:=["number","piece_cuts","carriage_cut"]) (CompScope.plain rfl (by decide +kernel) (by decide +kernel) (by decide +kernel) (show(["number","piece_cuts","carriage_cut"]:List Str).Nodup by decide +kernel)) rfl (kaG (K:=K) (pv 2)) (fun _ _ _ _=>kbi (K:=K) (n:=3) rfl (kax (pgn (i:=0) (show(["number","piece_cuts","carriage_cut"]:List Str).Nodup by decide +kernel)) (kax (pgn (i:=1) (show(["number","piece_cuts","carriage_cut"]:List Str).Nodup by decide +kernel)) (kax (pgn (i:=2) (show(["number","piece_cuts","carriage_cut"]:List Str).Nodup by decide +kernel)) kbh)))) (fun _ _ _ _=>(kcm (kaa (pv 0) (kaa (kaJ (r:=ka6 K) kaB (by rfl) W.B.list kbt (kaa (pv 1) kae)) (kaa (pv 2) kae)))))) rfl)
   (kac (kaD (pv 0) (kaJ (r:=ka6 K) kaB (by rfl) W.B.list kbt (kaa (kak (K:=K) (pv 3) rfl) kae)) rfl)
   (kac (kaD (pv 0) (kak (K:=K) (pv 3) rfl) rfl)
   (kaf (kaD (pv 0) (kcv (pv 3) W.qc.cl W.qC.me qR hr W.qC.b .nil pass0) rfl))))),?_⟩
  exists Y4
  refine⟨_,rfl,o,_,rfl, .inl (SqL.of (s0 _ _ ho)),fun o' ho'=>?_⟩
  have n1:=kam (o:=.lst (order.map iV)) ho'
  have fo:=s0.free ho'
  have no:o'≠b:=(kag hb ho').symm
  have e1:(upd H o' (.lst (order.map iV))) o'=some (.lst (order.map iV)):=kad
  have s1:=s0.trans n1
  have hb1:=n1 _ _ hb
  clear n1
  generalize upd H o' (.lst (order.map iV))=H1 at *
  symm
  exists Y4
  refine⟨_,rfl,b,d.qi,dx,[],rfl,hb1,W.qi.cl,W.VI,by decide,?_⟩
  have s2:Same H0 (upd H1 b (.ins d.qi dx (putF "order" (.ref o') []))):=kas fb s1 (nx hb1)
  have e2:(upd H1 b (.ins d.qi dx (putF "order" (.ref o') []))) o'=some (.lst (order.map iV)):=by rw[kaj no];exact e1
  have hb2:(upd H1 b (.ins d.qi dx (putF "order" (.ref o') []))) b=some (.ins d.qi dx (putF "order" (.ref o') [])):=kad
  generalize upd H1 b (.ins d.qi dx (putF "order" (.ref o') []))=H2 at *
  symm
  exists Y4
  refine⟨_,rfl,st,rfl,⟨_,SqL.of (s2 _ _ hst)⟩,kba (xs:=sa.map V.ref) (fun i σ ys H'=>Same H2 H'∧∃(ta:List Addr)(v0 v1 v2:Option V),ys=ta.map V.ref∧P2 (fun a t=>StepN H0 H' a t) ta (steps.take i)∧σ=[v0,v1,v2])
   ⟨Same.refl _,[],none,none,none,rfl, .nil,rfl⟩ (by rw[JM,hsa.len];exact Nc (kaw (by omega))) ?_ ?_ ?_⟩
  ·rintro i σ ys H' hi ⟨s3,ta,v0,v1,v2,rfl,hT,rfl⟩
   symm
   exists Y6
   refine⟨SqL.of (s3 _ _ (s2 _ _ hst)),?_⟩
   rw[JM,hT.len,Nl]
   rw[JM,hsa.len] at hi
   omega
  ·rintro i y σ ys H' hy ⟨s3,ta,v0,v1,v2,rfl,hT,rfl⟩
   obtain⟨a,ea,rfl⟩:=kcl hy
   obtain⟨t,et,l,ha,hl⟩:=hsa.at ea
   have s03:=s2.trans s3
   nofun
   exists Y6
   refine⟨a,_,rfl,SqT.of (s03 _ _ ha),rfl,_,_,rfl,_,_,rfl,_,_,rfl,rfl,?_⟩
   nofun
   exists Y6
   refine⟨_,rfl,_,rfl,l,_,rfl, .inl (SqL.of (s03 _ _ hl)),fun l' hl'=>⟨_,rfl,(by show 3≤sizeLine;decide),fun q hq=>?_⟩⟩
   have n4:=kam (o:=.lst (t.cs.map V.int)) hl'
   have n5:=kam (o:=.tup [iV t.n,V.ref l',V.int t.c]) hq
   nofun
   exists Y6
   refine⟨s3.trans (n4.trans n5),ta++[q],_,_,_,by rw[JW];rfl,?_,rfl⟩
   rw[kbP et]
   nofun
   exact P2.snoc (hT.mono fun a t h=>h.same (n4.trans n5)) ⟨s03.free (n4.free hq),l',s03.free hl',kad,n5 _ _ kad⟩
  rintro σ ys H3 ⟨s3,ta,v0,v1,v2,rfl,hT,rfl⟩ sp hsp
  rw[JM,hsa.len,NB] at hT
  have n4:=kam (o:=.lst (ta.map V.ref)) hsp
  have s03:=s2.trans s3
  have fsp:=s03.free hsp
  have hb3:=s3 _ _ hb2
  have nsp:sp≠b:=(kag hb3 hsp).symm
  have s4:=s03.trans n4
  have e4:=n4 _ _ (s3 _ _ e2)
  have es4:(upd H3 sp (.lst (ta.map V.ref))) sp=some (.lst (ta.map V.ref)):=kad
  have hT4:P2 (fun a t=>StepN H0 (upd H3 sp (.lst (ta.map V.ref))) a t) ta steps:=hT.mono fun a t h=>h.same n4
  have hb4:=n4 _ _ hb3
  clear n4
  generalize upd H3 sp (.lst (ta.map V.ref))=H4 at *
  symm
  exists Y4
  refine⟨_,rfl,b,d.qi,dx,_,rfl,hb4,W.qi.cl,W.VJ,few (JR (kal (n:=0) (JO _)) (by decide)),?_⟩
  have b5:But b H4 (upd H4 b (.ins d.qi dx (putF "steps" (.ref sp) (putF "order" (.ref o') [])))):=kav (nx hb4)
  have s5:Same H0 (upd H4 b (.ins d.qi dx (putF "steps" (.ref sp) (putF "order" (.ref o') [])))):=kas fb s4 (nx hb4)
  have e5:(upd H4 b (.ins d.qi dx (putF "steps" (.ref sp) (putF "order" (.ref o') [])))) o'=some (.lst (order.map iV)):=by rw[kaj no];exact e4
  have es5:(upd H4 b (.ins d.qi dx (putF "steps" (.ref sp) (putF "order" (.ref o') [])))) sp=some (.lst (ta.map V.ref)):=by rw[kaj nsp];exact es4
  have hb5:(upd H4 b (.ins d.qi dx (putF "steps" (.ref sp) (putF "order" (.ref o') [])))) b=some (.ins d.qi dx (putF "steps" (.ref sp) (putF "order" (.ref o') []))):=kad
  have stepb:∀{H5:Hp},But b H4 H5→P2 (fun a t=>StepN H0 H5 a t) ta steps:=fun {H5} bt=>hT4.mono fun a t ⟨f,l,g,h1,h2⟩=>⟨f,l,g,bt _ _ (ne_of h1 hb4 (by intro z;cases z)) h1,bt _ _ (ne_of h2 hb4 (by intro z;cases z)) h2⟩
  generalize upd H4 b (.ins d.qi dx (putF "steps" (.ref sp) (putF "order" (.ref o') [])))=H5 at *
  symm
  exists Y4
  refine⟨_,rfl,x,d.qc,dxs,fss,_,rfl,s5 _ _ hxs,W.qc.cl,W.qx,l2,pp,_,rfl, .inl (SqL.of (s5 _ _ hpp)),fun p' hp'=>?_⟩
  have n6:=kam (o:=.lst (S.pr.map V.int)) hp'
  have fp:=s5.free hp'
  have np:p'≠b:=(kag hb5 hp').symm
  have s6:=s5.trans n6
  have b6:=b5.same n6
  have e6:=n6 _ _ e5
  have es6:=n6 _ _ es5
  have ep6:(upd H5 p' (.lst (S.pr.map V.int))) p'=some (.lst (S.pr.map V.int)):=kad
  have hb6:=n6 _ _ hb5
  clear n6
  generalize upd H5 p' (.lst (S.pr.map V.int))=H6 at *
  symm
  exists Y4
  refine⟨_,rfl,b,d.qi,dx,_,rfl,hb6,W.qi.cl,W.VL,few (JR (kal (kal (n:=0) (JO _))) (by decide)),?_⟩
  have b7:But b H4 (upd H6 b (.ins d.qi dx (putF "prices" (.ref p') (putF "steps" (.ref sp) (putF "order" (.ref o') []))))):=b6.trans (kav (nx hb6))
  have s7:Same H0 (upd H6 b (.ins d.qi dx (putF "prices" (.ref p') (putF "steps" (.ref sp) (putF "order" (.ref o') []))))):=kas fb s6 (nx hb6)
  have e7:(upd H6 b (.ins d.qi dx (putF "prices" (.ref p') (putF "steps" (.ref sp) (putF "order" (.ref o') []))))) o'=some (.lst (order.map iV)):=by rw[kaj no];exact e6
  have es7:(upd H6 b (.ins d.qi dx (putF "prices" (.ref p') (putF "steps" (.ref sp) (putF "order" (.ref o') []))))) sp=some (.lst (ta.map V.ref)):=by rw[kaj nsp];exact es6
  have ep7:(upd H6 b (.ins d.qi dx (putF "prices" (.ref p') (putF "steps" (.ref sp) (putF "order" (.ref o') []))))) p'=some (.lst (S.pr.map V.int)):=by rw[kaj np];exact ep6
  have hb7:(upd H6 b (.ins d.qi dx (putF "prices" (.ref p') (putF "steps" (.ref sp) (putF "order" (.ref o') []))))) b=some (.ins d.qi dx (putF "prices" (.ref p') (putF "steps" (.ref sp) (putF "order" (.ref o') [])))):=kad
  generalize upd H6 b (.ins d.qi dx (putF "prices" (.ref p') (putF "steps" (.ref sp) (putF "order" (.ref o') []))))=H7 at *
  symm
  exists Y4
  refine⟨_,rfl,x,d.qc,dxs,fss,_,rfl,s7 _ _ hxs,W.qc.cl,W.qM,l3,_,rfl,b,d.qi,dx,_,rfl,hb7,W.qi.cl,W.VM,few (JR (kal (kal (kal (n:=0) (JO _)))) (by decide)),?_⟩
  have s8:Same H0 (upd H7 b (.ins d.qi dx (putF "carriage" (.int S.cg) (putF "prices" (.ref p') (putF "steps" (.ref sp) (putF "order" (.ref o') [])))))):=kas fb s7 (nx hb7)
  have hb8:(upd H7 b (.ins d.qi dx (putF "carriage" (.int S.cg) (putF "prices" (.ref p') (putF "steps" (.ref sp) (putF "order" (.ref o') [])))))) b=some (.ins d.qi dx (putF "carriage" (.int S.cg) (putF "prices" (.ref p') (putF "steps" (.ref sp) (putF "order" (.ref o') []))))):=kad
  symm
  exists Y4
  refine⟨_,rfl,x,dxs,fss,rfl,s8 _ _ hxs,l5,x,ow,pp,mm,S.cg,S.pr,rfl,⟨dxs,fss,s8 _ _ hxs,l1,l2,l3,l4,l5⟩,s8 _ _ hpp,_,rfl,b,d.qi,dx,_,rfl,hb8,W.qi.cl,W.Vt,few (JR (kal (kal (kal (kal (n:=0) (JO _))))) (by decide)),?_⟩
  symm
  refine kk _ (kas fb s8 (nx hb8)) ⟨dx,_,o',sp,p',ta,kad,?_,?_,?_,?_,?_,fb,fo,fsp,fp,?_,?_,stepb ((b7.trans (kav (nx hb7))).trans (kav (nx hb8))),?_⟩
  ·ac_nf
  ·ac_nf
  ·ac_nf
  ·ac_nf
  ·ac_nf
  ·rw[kaj no,kaj no];exact e7
  ·rw[kaj nsp,kaj nsp];exact es7
  ·rw[kaj np,kaj np];exact ep7
theorem kmn{d:D}{H:Hp}{o s x:Addr}{order:List Nat}{steps:List Step}{S:Stnd}{sa:List Addr}{R:Addr→Hp→Prop}{E:XK}(ho:H o=some (.lst (order.map iV)))(hs:H s=some (.lst (sa.map V.ref)))(hsa:P2 (fun a t=>StepIs H a t) sa steps)(h64:steps.length<64)(hS:StndIs d.qc H x S)
  (k:∀(H':Hp)(b:Addr),Same H H'→BillIs d H H' b ⟨order,steps,S.pr,S.cg,S.pr.sum+S.cg⟩→R b H'):
  ∀b dx,H b=none→H dx=none→dx≠b→kha d [.ref b, .ref o, .ref s, .ref x] (upd (upd H dx (.own b)) b (.ins d.qi dx [])) (fun v H2=>v=.non∧R b H2) E:=
 fun b dx nb nd _=>⟨H,b,dx,o,s,x,order,steps,S,sa,rfl,nb,ka2 nb nd,kad,ho,hs,hsa,h64,hS,fun H' z hB=>⟨rfl,k H' b z hB⟩⟩
inductive khU (d:D) (vs:List V) (H:Hp) (Q:VK) (E_:XK):Prop
 |ct (a:Addr)(k w:V)(_:vs=[.ref a,k,w])(_:H a=some (ExcN a (.ref d.qm) none))(_:∀(H':Hp)(dx:Addr),H dx=none→dx≠a→(∀b,b≠a→b≠dx→H' b=H b)→H' a=some (ExcN a (.ref d.qm) (some dx))→H' dx=some (XdO dx [("place",k),("word",w)])→Q .non H'):khU d vs H Q E_
theorem ke6:kar ["self","place","word"] ["self","place","word"] (kai kcu):=by ac_rfl
theorem kfc(W:WB K mg d base):FO P w W 1 d.Zz d.ZA ["self","place","word"] (khU d):=by
 exists W.QB.F,ke6
 ·obtain⟨a,k,w,rfl,ha,kk⟩:=h
  refine⟨_,kac (kjG (pv 0) (pv 1) rfl)
   (kaf (kjG (pv 0) (pv 2) rfl)),?_⟩
  refine⟨_,rfl,_,rfl,a,d.qm,d.qT,rfl,W.w_NotLet,W.Uc, .inl ⟨ha,fun dx fdx ndx=>?_⟩⟩
  refine⟨_,rfl,_,rfl,a,d.qm,d.qT,rfl,W.w_NotLet,W.Ud, .inr ⟨dx,[("place",k)],kad,by rw[kaj ndx,kad],(by show 1<1000;decide),?_⟩⟩
  refine kk _ dx fdx ndx (fun b n1 n2=>?_) ?_ ?_
  ·rw[kaj n2,kaj n1,kaj n2]
  ·rw[kaj ndx.symm,kad]
  ·rw[kad]
   rfl
theorem kdP{H:Hp}{sp o:Addr}{xs:List Addr}{ys:List V}(hsp:H sp=some (.lst (xs.map V.ref)))(h0:xs≠[])(ho:H o=some (.lst ys))(hy:∀y∈ys,∀r,y≠V.ref r):o≠sp:=fun z=>by
 rw[z,hsp] at ho
 injection ho with ho
 injection ho with ho
 cases xs with
 |nil=>exact h0 rfl
 |cons r xs=>exact hy (V.ref r) (by rw[←ho];simp) r rfl
theorem StndIs.butR{C sp x:Addr}{H H':Hp}{S:Stnd}{xs:List Addr}(b:But sp H H')(hsp:H sp=some (.lst (xs.map V.ref)))(h0:xs≠[]):StndIs C H x S→StndIs C H' x S:=fun⟨o,p,mk,⟨dx,fs,hx,q⟩,ho,hp,hm⟩=>
 ⟨o,p,mk,⟨dx,fs,b _ _ (ne_of hx hsp (by intro z;cases z)) hx,q⟩,
  b _ _ (kdP hsp h0 ho fun y hy r e=>by obtain⟨n,_,rfl⟩:=Nb.mp hy;cases e) ho,
  b _ _ (kdP hsp h0 hp fun y hy r e=>by obtain⟨n,_,rfl⟩:=Nb.mp hy;cases e) hp,
  b _ _ (kdP hsp h0 hm fun y hy r e=>by obtain⟨n,_,rfl⟩:=Nb.mp hy;cases e) hm⟩
theorem WayAt.butR{d:D}{m:Nat}{sp w t b x:Addr}{H H':Hp}{hand:List Int}{used:List Nat}{xs:List Addr}(z:But sp H H')(hsp:H sp=some (.lst (xs.map V.ref)))(h0:xs≠[]):WayAt d m H w t b x hand used→WayAt d m H' w t b x hand used:=fun⟨dx,fs,h,u,h1,h2,h3,h4,h5,h6,h7,h8,h9,h10,h11,h12,h13⟩=>
 ⟨dx,fs,h,u,z _ _ (ne_of h1 hsp (by intro z;cases z)) h1,h2,h3,h4,h5,h6,h7,h8,h9,h10,h11,
  z _ _ (kdP hsp h0 h12 fun y hy r e=>by obtain⟨n,_,rfl⟩:=Nb.mp hy;cases e) h12,
  z _ _ (kdP hsp h0 h13 fun y hy r e=>by obtain⟨n,_,rfl⟩:=Nb.mp hy;cases e) h13⟩
noncomputable def billM(T:TillD)(B:Bask):List Nat→Stnd→List Step×Stnd
 |[],S=>([],S)
 |n::ns,S=>match T.vs[n]? with
  |none=>([],S)
  |some V=>(⟨n,(cutM V T.ps (kds B) S).1,(cutM V T.ps (kds B) S).2⟩::(billM T B ns (aftM V T.ps (kds B) S)).1,(billM T B ns (aftM V T.ps (kds B) S)).2)
noncomputable def kbN(T:TillD)(B:Bask)(order:List Nat):BillD:=⟨order,(billM T B order (stnd0 B)).1,(billM T B order (stnd0 B)).2.pr,(billM T B order (stnd0 B)).2.cg,(billM T B order (stnd0 B)).2.pr.sum+(billM T B order (stnd0 B)).2.cg⟩
inductive khS (d:D) (vs:List V) (H:Hp) (Q:VK) (E:XK):Prop
 |ct (t b h o:Addr)(T:TillD)(B:Bask)(hand:List Int)(order:List Nat)(_:vs=[.ref t, .ref b, .ref h, .ref o])(_:TillIs d H t T)(_:kb7 T)(_:BaskIs d.qf d.qh H b B)(_:Wf T.ps B (stnd0 B))(_:H h=some (.lst (hand.map V.int)))(_:H o=some (.lst (order.map iV)))(_:hand.length=T.vs.length)(_:(∀n∈order,n<T.vs.length))(_:order.length<64)(_:(kbs T B hand order=none→∀(H0 H':Hp)(bl:Addr),Same H H0→Same H0 H'→BillIs d H0 H' bl (kbN T B order)→Q (.ref bl) H'))(_:∀(k:Nat)(z:L2.V),kbs T B hand order=some (k,z)→∀(H':Hp)(dx:Addr),Same H H'→H' dx=some (XdO dx [("place",iV k),("word",z)])→E (.ref d.qm) (some dx) H'):khS d vs H Q E
theorem qS:kar ["till","basket","hand","order","due","way","steps","number","told"] ["till","basket","hand","order"] (kai kfN):=by ac_rfl
theorem kiN(W:WB K mg d base):FnOk P w K mg base (CX1 P w) 9 d.YC d.YD ["till","basket","hand","order"] (khS d):=by
 refine FunD.okX W.Qv.F qS (fun vs H Q E h=>?_) (fun cdv A outer s H vs Q E hr h=>?_)
 ·obtain⟨t,b,h,o,T,B,hand,order,rfl,_⟩:=h
  rfl
 ·obtain⟨t,b,h,o,T,B,hand,order,rfl,hT,tok,hB,wf0,hh,ho,hl,hlt,h64,kk,kx⟩:=h
  exists UB,kkR,W
  exists UC,kfc,W
  exists qQ,kcw,W
  exists UD,kmh,W
  exists Qq,kcx,W
  exists UE,kgz,W
  exists hr2,2,hr,0
  exists hr3,3,hr,0
  exists hr5,5,hr,0
  exists hr6,6,hr,0
  refine⟨_,kac (psl (i:=4) qS.nd (pcl UB hr W.ZN (kaa (pv 0) (kaa (pv 1) (kaa (pv 2) (kaa (pv 3) kae))))))
   (kac (ps_if (kan kdh (pv 4) ka3 (kat _)) (kaf (kjF (kkI W.w_NotLet W.kp_NotLet W.QB.at_ W.QB.fn UC hr2 rfl W.Vu W.QB.b .nil pass0 (kaa (pe_ix (r:=rIxT K) kip (pv 4) kah (fun _ _=>rfl)) (kaa (pe_ix (r:=rIxT K) kip (pv 4) kah (fun _ _=>rfl)) kae))) kmM rfl rfl)) (kaq))
   (kac (psl (i:=5) qS.nd (ka8 (W.qD.mk' W.c_Way) qQ hr5 rfl W.c_Way.m W.qD.b .nil pass0 (kaa (pv 0) (kaa (pv 1) (kaa (pv 2) kae)))))
   (kac (psl (i:=6) qS.nd (kaW kae))
   (kac (kmR (kbm PassesOwn.never rfl (kaG (K:=K) (pv 3)) (pgn (i:=7) qS.nd)
   (kac (psl (i:=8) qS.nd (pcl UD hr5 W.ZG (kaa (pe_ix (r:=rIxL K) kaQ (kak (K:=K) (pv 0) rfl) (pv 7) (fun _ _=>rfl)) (kaa (kak (K:=K) (pv 0) rfl) (kaa (pv 1) (kaa (kak (K:=K) (pv 5) rfl) kae))))))
   (kac (kaP (pe_bm NI NT NU ka1 (pv 6) (kaa (kcm (kaa (pv 7) (kaa (pe_ix (r:=rIxT K) kip (pv 8) kah (fun _ _=>rfl)) (kaa (pe_ix (r:=rIxT K) kip (pv 8) kah (fun _ _=>rfl)) kae)))) kae)))
   (kaf (psl (i:=5) qS.nd (kcN (pv 5) W.c_Way.cl W.qO.me Qq hr6 W.qO.b .nil pass0 (kaa (pv 7) kae))))))))
   (kaf (kap (ka8 (W.Xn.mk' W.qi) UE hr3 rfl W.qi.m W.Xn.b .nil pass0 (kaa (pv 3) (kaa (pv 6) (kaa (kak (K:=K) (pv 5) rfl) kae)))))))))),?_⟩
  exists Y4
  refine⟨_,rfl,_,rfl,_,rfl,_,rfl,t,b,h,o,T,B,hand,order,rfl,hT,tok,hB,wf0,hh,ho,hl,hlt,h64,fun H1 v s1 hF=>?_⟩
  cases hf:kbs T B hand order with
  |some kz=>
   obtain⟨k,z⟩:=kz
   rw[hf] at hF
   obtain⟨q,rfl,hq⟩:=hF
   symm
   exists Y6
   refine⟨_,rfl,rfl,_,rfl,?_⟩
   show if(!decide (V.ref q=V.non))=true then _ else _
   rw[show(!decide (V.ref q=V.non))=true by simp]
   refine iteT ?_
   nofun
   exists Y6
   refine⟨_,rfl,q,_,_,_,rfl,rfl,SqT.of hq,rfl,_,rfl,q,_,_,_,rfl,rfl,SqT.of hq,rfl,fun x fx=>?_⟩
   nofun
   exists Y6
   refine⟨x,iV k,z,rfl,kad,fun H' dx fdx ndx hk ha hd=>⟨rfl,x,d.qm,d.qT,some dx,rfl,W.w_NotLet,ha,s1.free fx,?_⟩⟩
   rw[kaj ndx] at fdx
   nofun
   refine kx k z hf _ dx (s1.trans (kiI fun b u e=>?_)) ((kcH ndx).trans hd)
   have n1:=kag e fx
   rw[kcH n1,hk b n1 (kag e fdx),kaj n1]
   nofun
   exact e
  |none=>
  rw[hf] at hF
  have kk:=kk hf
  have ev:v=.non:=hF
  subst ev
  symm
  exists Y4
  refine⟨_,rfl,rfl,_,rfl,?_⟩
  show if(!decide (V.non=V.non))=true then _ else _
  rw[show(!decide (V.non=V.non))=false by simp]
  refine iteF ?_
  symm
  exists Y4
  refine⟨_,rfl,_,rfl,_,rfl,kii (s1 _ _ hh) (hB.same s1) wf0.nl wf0.ok fun H2 y0 x0 s2 fy0 fx0 hy0N hx0=>?_⟩
  have hy0:=hy0N.at
  have s02:=s1.trans s2
  symm
  exists Y4
  refine⟨by decide,fun sp fsp=>?_⟩
  generalize hgH3:upd H2 sp _=H3
  obtain⟨n3,(esp0:H3 sp=some (.lst (([]:List Addr).map V.ref)))⟩:=kaT hgH3 fsp
  have fsp0:=s02.free fsp
  generalize eR:billM T B order (stnd0 B)=R at *
  symm
  exists Y4
  refine⟨_,rfl,o,rfl,⟨_,SqL.of ((s02.trans n3) _ _ ho)⟩,kbd (xs:=order.map iV) (fun i σ H'=>Same H2 H'∧∃(y x:Addr)(used:List Nat)(S:Stnd)(sa:List Addr)(st:List Step)(v7 v8:Option V),WayIs d H' y t b x hand used∧StndIs d.qc H' x S∧(sa=[]→WayIs d H2 y t b x hand used∧StndIs d.qc H2 x S)∧Wf T.ps B S∧used.length=i∧H' sp=some (.lst (sa.map V.ref))∧P2 (fun a t=>StepIs H' a t) sa st∧st.length=i∧st++(billM T B (order.drop i) S).1=R.1∧(billM T B (order.drop i) S).2=R.2∧σ=[some (.ref t),some (.ref b),some (.ref h),some (.ref o),some .non,some (.ref y),some (.ref sp),v7,v8])
   ⟨n3,y0,x0,[],_,[],[],none,none,(hy0.most (by decide)).same n3,hx0.same n3,(fun _=>⟨hy0.most (by decide),hx0⟩),wf0,rfl,esp0, .nil,rfl,by rw[List.drop_zero,eR];rfl,by rw[List.drop_zero,eR],rfl⟩ (fun i σ H' _ h=>SqL.of ((s02.trans h.1) _ _ ho)) ?_ ?_⟩
  ·rintro i yv σ H' hyv ⟨sI,y,x,used,S,sa,st,v7,v8,hY,hx,h2,wf,hul,hsp,hsa,hsl,hR1,hR2,rfl⟩
   obtain⟨n,en,rfl⟩:∃n,order[i]?=some n∧yv=iV n:=kbB hyv
   have hi:=at_lt en
   obtain⟨Vc,hV⟩:=at_of (hlt n (JT en))
   have vo:=tok.vs Vc (JT hV)
   have ed:order.drop i=n::order.drop (i+1):=by
    obtain⟨z1,z2⟩:=JX.mp en
    rw[Df z1,z2]
   rw[ed] at hR1 hR2
   unfold billM at hR1 hR2
   rw[hV] at hR1 hR2
   simp only at hR1 hR2
   have s0I:=s02.trans sI
   obtain⟨dxw,fsw,hd,u,hw,w1,w2,w3,w4,w5,w6,w7,w8,w9,w10,hh',hu⟩:=id hY
   obtain⟨dx,fs,p,vl,rl,va,ra,ht,t1,t2,t3,t4,hp,hvl,hva,hrl,hra⟩:=id (hT.same s0I)
   obtain⟨vv,evv⟩:=at_of (xs:=va) (i:=n) (by rw[hva.len];exact at_lt hV)
   obtain⟨Vc',eV',hVv⟩:=hva.at evv
   rw[hV] at eV'
   cases eV'
   symm
   exists Y6
   refine⟨_,rfl,t,d.qd,dx,fs,_,rfl,ht,W.qd.cl,W.qJ,t2,_,rfl,vl,_,_,_,rfl,rfl,SqL.of hvl,kaX (v:=.ref vv) (by rw[JY,evv];rfl),?_⟩
   nofun
   exists Y6
   refine⟨_,rfl,t,d.qd,dx,fs,_,rfl,ht,W.qd.cl,W.Qm,t1,_,rfl,_,rfl,y,d.c_Way,dxw,fsw,_,rfl,hw,W.c_Way.cl,W.qy,w5,?_⟩
   nofun
   exists Y6
   refine⟨vv,p,b,x,Vc,T.ps,B,S,rfl,hVv,SqL.of hp,hB.same s0I,hx,wf,vo,fun H4 tt pc s4 ft fpc htt hpc=>?_⟩
   have hsp4:=s4 _ _ hsp
   nofun
   exists Y6
   refine⟨_,rfl, .inl ⟨rfl,_,SqL.of hsp4⟩,_,rfl,_,rfl,tt,_,_,_,rfl,rfl,SqT.of htt,rfl,_,rfl,tt,_,_,_,rfl,rfl,SqT.of htt,rfl,(by show 3≤sizeLine;decide),fun q hq=>?_⟩
   have n5:=kam (o:=.tup [iV n,V.ref pc,V.int (cutM Vc T.ps (kds B) S).2]) hq
   have eq5:(upd H4 q (.tup [iV n,V.ref pc,V.int (cutM Vc T.ps (kds B) S).2])) q=some (.tup [iV n,V.ref pc,V.int (cutM Vc T.ps (kds B) S).2]):=kad
   have s5:=s4.trans n5
   have hsp5:=n5 _ _ hsp4
   have hpc5:=n5 _ _ hpc
   have npc:pc≠sp:=(kag hsp fpc).symm
   clear n5
   generalize upd H4 q (.tup [iV n,V.ref pc,V.int (cutM Vc T.ps (kds B) S).2])=H5 at *
   nofun
   exists Y6
   refine⟨sp,_,_,rfl,rfl,hsp5,kaw (by rw[JM,hsa.len];omega),?_⟩
   have b6:But sp H5 (upd H5 sp (.lst (sa.map V.ref++[V.ref q]))):=kav (nx hsp5)
   have s6:Same H2 (upd H5 sp (.lst (sa.map V.ref++[V.ref q]))):=kas fsp (sI.trans s5) (nx hsp5)
   have esp6:(upd H5 sp (.lst (sa.map V.ref++[V.ref q]))) sp=some (.lst ((sa++[q]).map V.ref)):=by rw[kad,JW];rfl
   generalize upd H5 sp (.lst (sa.map V.ref++[V.ref q]))=H6 at *
   have hYx:WayIs d H6 y t b x hand used∧StndIs d.qc H6 x S:=by
    by_cases h0:sa=[]
    ·exact⟨(h2 h0).1.same s6,(h2 h0).2.same s6⟩
    ·exact⟨(hY.same s5).butR b6 hsp5 h0,(hx.same s5).butR b6 hsp5 h0⟩
   have hst:P2 (fun a t=>StepIs H6 a t) (sa++[q]) (st++[⟨n,(cutM Vc T.ps (kds B) S).1,(cutM Vc T.ps (kds B) S).2⟩]):=by
    nofun
    refine P2.snoc ?_ ⟨pc,b6 _ _ (ne_of eq5 hsp5 (by intro z;cases z)) eq5,b6 _ _ npc hpc5⟩
    by_cases h0:sa=[]
    ·subst h0
     cases hsa
     nofun
     exact .nil
    ·refine hsa.mono fun a t ⟨l,g1,g2⟩=>?_
     have g1':=s5 _ _ g1
     have g2':=s5 _ _ g2
     nofun
     exists Y10
     refine⟨l,b6 _ _ (ne_of g1' hsp5 (by intro z;cases z)) g1',b6 _ _ ?_ g2'⟩
     exists 4
     exact kdP hsp5 h0 g2' fun y hy r e=>by obtain⟨n,_,rfl⟩:=Nb.mp hy;cases e
   have s06:=s02.trans s6
   obtain⟨dxw',fsw',hd',u',hw',_,_,_,_,_,_,w7',_⟩:=id hYx.1
   nofun
   exists Y6
   refine⟨_,rfl,y,dxw',fsw',rfl,hw',w7',_,rfl,y,t,b,x,T,B,S,hand,used,n,Vc,rfl,hYx.1,hT.same s06,hB.same s06,hYx.2,wf,vo,hV,by omega,fun H7 y' x' s7 fy' hY1 hx1=>?_⟩
   have hY':=hY1.at
   have hx':=hx1.is
   nofun
   exists Y6
   refine⟨s6.trans s7,y',x',used++[n],_,sa++[q],_,_,_,hY',hx',(fun e=>by simp at e),wf.after vo,by rw[JZ,hul];rfl,s7 _ _ esp6,hst.mono fun a t h=>h.same s7,by rw[JZ,hsl];rfl,?_,hR2,rfl⟩
   rw[Nt]
   nofun
   exact hR1
  ·rintro σ H' ⟨sI,y,x,used,S,sa,st,v7,v8,hY,hx,h2,wf,hul,hsp,hsa,hsl,hR1,hR2,rfl⟩
   rw[JM,List.drop_length] at hR1 hR2
   unfold billM at hR1 hR2
   have e1:st=R.1:=by simpa using hR1
   have e2:S=R.2:=hR2
   obtain⟨dxw,fsw,hd,u,hw,w1,w2,w3,w4,w5,w6,w7,w8,w9,w10,hh',hu⟩:=id hY
   rw[JM] at hsl
   nofun
   exists Y6
   refine⟨_,rfl,_,rfl,_,rfl,y,d.c_Way,dxw,fsw,_,rfl,hw,W.c_Way.cl,W.qy,w5,kmn ((s02.trans sI) _ _ ho) hsp hsa (by omega) hx fun H8 bl s8 hBl=>?_⟩
   nofun
   refine kk H' H8 bl (s02.trans sI) s8 ?_
   unfold kbN
   rw[eR,←e1,←e2]
   nofun
   exact hBl
theorem kfJ:kar ["_law_found"] ["_law_found"] (kai kcJ):=by ac_rfl
theorem kfV(W:WB K mg d base):FO P w W 1 d.YE d.YF ["_law_found"] khQ:=by
 exists W.Q2.F,kfJ
 ·obtain⟨n,rfl,k⟩:=h
  refine⟨_,kaf (kap (kmW (kao (r:=rIsi K) kaM (by rfl) W.B.isi b_isi (kaa (pv 0) (kaa (kfS (v:=.ty "int") (by rfl) W.B.int b_int rfl) kae))) (klA (kmU (kao (r:=rIsi K) kaM (by rfl) W.B.isi b_isi (kaa (pv 0) (kaa (kfS (v:=.ty "bool") (by rfl) W.B.bool kne rfl) kae))))))),?_⟩
  exact⟨_,rfl,_,_,_,_,rfl, .inl ⟨_,rfl⟩,TyOf.int _,kb9 _ _,_,rfl,iteT ⟨_,rfl,_,_,_,_,rfl, .inl ⟨_,rfl⟩,TyOf.int _,kgJ _,_,rfl,k⟩⟩
inductive kh0 (K:JN) (vs:List V) (H:Hp) (Q:VK) (E_:XK):Prop
 |ct (a:Addr)(ns:List Int)(n:Int)(_:vs=[.ref a, .int n])(_:SqL K H a (ns.map V.int))(_:0≤n)(_:∀z:Int,Q (.int z) H):kh0 K vs H Q E_
theorem kew:kar ["_law_script","_law_k"] ["_law_script","_law_k"] (kai kci):=by ac_rfl
theorem kcU(W:WB K mg d base):FO P w W 1 d.YG d.YH ["_law_script","_law_k"] (kh0 K):=by
 exists W.qV.F,kew
 ·obtain⟨a,ns,n,rfl,hS,n0,kk⟩:=h
  refine⟨_,kac (ps_if (kan op_lt (pv 1) (kao (r:=kaL K) kau (by rfl) W.B.len b_len (kaa (pv 0) kae)) (kat _)) (kaf (kap (pe_ix (r:=rIxL K) kaQ (pv 0) (pv 1) (fun _ _=>rfl)))) (kaq))
   (kaf (kap kah)),?_⟩
  obtain⟨m,rfl⟩:=Int.eq_ofNat_of_zero_le n0
  refine⟨_,rfl,_,rfl,a,_,rfl, .inl hS,_,_,rfl,rfl,_,rfl,ite2 (fun h=>?_) (fun _=>kk 0)⟩
  have hn:m<ns.length:=by
   have:(m:Int)<((ns.map V.int).length:Nat):=by simpa using h
   rw[JM] at this
   omega
  obtain⟨z,ez⟩:=at_of hn
  exact⟨_,rfl,_,rfl,a,_,_,_,rfl,rfl,hS,kaX (v:=.int z) (by rw[JY,ez];rfl),kk z⟩
theorem khd:kar ["_law_cell","_law_factor","_law_prime"] ["_law_cell","_law_factor","_law_prime"] (kai kdN):=by ac_rfl
theorem kbj(W:WB K mg d base):FO P w W 1 d.YI d.YJ ["_law_cell","_law_factor","_law_prime"] spMix:=by
 exists W.qB.F,khd
 ·obtain⟨c,f,p,rfl,hf,hp,k⟩:=h
  refine⟨_,kaf (kap (pe_op kaA (pe_op kcQ (pv 0) (pv 1)) (pv 2))),?_⟩
  exact⟨_,rfl,_,rfl,_,_,rfl,rfl, .inr hf,_,rfl,_,_,rfl,rfl,hp,k⟩
inductive kjr (vs:List V) (H:Hp) (Q:VK) (E_:XK):Prop
 |ct (c:Int)(_:vs=[.int c])(_:∀z:Int,0≤z→z≤1000000000000→Q (.int z) H):kjr vs H Q E_
theorem VD:kar ["_law_cell","_law_how"] ["_law_cell"] (kai kch):=by ac_rfl
theorem keO(W:WB K mg d base):FO P w W 2 d.YK d.YL ["_law_cell"] kjr:=by
 exists W.ZW.F,VD
 ·obtain⟨c,rfl,kk⟩:=h
  exists qr,kbj,W
  refine⟨_,kac (psl (i:=1) VD.nd (pe_op kaA (pv 0) kah))
   (kac (ps_if (kan op_eq (pv 1) kah (kat _)) (kaf (kap (pe_op kaA (pe_op kaz (pv 0) kah) kah))) (kaq))
   (kac (ps_if (kan op_eq (pv 1) kah (kat _)) (kaf (kap (pe_op kaA (pe_op kcQ (pe_op kaz (pv 0) kah) kah) kah))) (kaq))
   (kac (ps_if (kan op_eq (pv 1) kah (kat _)) (kaf (kap (pe_op kd1 kah (pe_op kaA (pe_op kaz (pv 0) kah) kah)))) (kaq))
   (kac (ps_if (kan op_eq (pv 1) kah (kat _)) (kaf (kap (pe_op kcQ kah (pe_op kaA (pe_op kaz (pv 0) kah) kah)))) (kaq))
   (kaf (kap (pe_op kcR kah (pe_op kaA (pcl qr hr W.qB (kaa (pv 0) (kaa kah (kaa kah kae)))) kah)))))))),?_⟩
  refine⟨_,rfl,_,_,rfl,rfl,(by show(0:Int)<5;decide),?_⟩
  refine⟨_,rfl,rfl,_,rfl,ite2 (fun _=>?_) (fun _=>?_)⟩
  ·exact⟨_,rfl,_,_,rfl,rfl,⟨by decide,by decide⟩,_,_,rfl,rfl,(by show(0:Int)<7;decide),kk (c/5%7) (by omega) (by omega)⟩
  refine⟨_,rfl,rfl,_,rfl,ite2 (fun _=>?_) (fun _=>?_)⟩
  ·exact⟨_,rfl,_,_,rfl,rfl,⟨by decide,by decide⟩,_,_,rfl,rfl, .inr ⟨by decide,by decide⟩,_,_,rfl,rfl,(by show(0:Int)<1000000000001;decide),kk (c/5*2862933555777941757%1000000000001) (by omega) (by omega)⟩
  refine⟨_,rfl,rfl,_,rfl,ite2 (fun _=>?_) (fun _=>?_)⟩
  ·exact⟨_,rfl,_,_,rfl,rfl,⟨by decide,by decide⟩,_,_,rfl,rfl,(by show(0:Int)<3;decide),_,_,rfl,rfl,kk (1000000000000-c/5%3) (by omega) (by omega)⟩
  refine⟨_,rfl,rfl,_,rfl,ite2 (fun _=>?_) (fun _=>?_)⟩
  ·exact⟨_,rfl,_,_,rfl,rfl,⟨by decide,by decide⟩,_,_,rfl,rfl,(by show(0:Int)<40;decide),_,_,rfl,rfl, .inl ⟨by decide,by decide⟩,kk (100*(c/5%40)) (by omega) (by omega)⟩
  exact⟨_,rfl,c,48271,2147483647,rfl,⟨by decide,by decide⟩,by decide,_,_,rfl,rfl,(by show(0:Int)<5000;decide),_,_,rfl,rfl,kk (1+c*48271%2147483647%5000) (by omega) (by omega)⟩
inductive khZ (vs:List V) (H:Hp) (Q:VK) (E_:XK):Prop
 |ct (c s:Int)(_:vs=[.int c, .int s])(_:∀z:Int,0≤z→z≤1000000000000→Q (.int z) H):khZ vs H Q E_
theorem kev:kar ["_law_cell","_law_scale"] ["_law_cell","_law_scale"] (kai kcg):=by ac_rfl
theorem kbq(W:WB K mg d base):FO P w W 3 d.YM d.YN ["_law_cell","_law_scale"] khZ:=by
 exists W.qI.F,kev
 ·obtain⟨c,s',rfl,kk⟩:=h
  exists UF,keO,W
  refine⟨_,kac (ps_if (kan op_eq (pv 1) kah (kat _)) (kaf (kap (pe_op kaA (pv 0) kah))) (kaq))
   (kac (ps_if (kan op_eq (pv 1) kah (kat _)) (kaf (kap (pe_op kcQ kah (pe_op kaA (pv 0) kah)))) (kaq))
   (kac (ps_if (kan op_eq (pv 1) kah (kat _)) (kaf (kap (pe_op kaA (pe_op kcQ (pv 0) kah) kah))) (kaq))
   (kaf (kap (pcl UF hr W.ZW (kaa (pv 0) kae)))))),?_⟩
  refine⟨_,rfl,rfl,_,rfl,ite2 (fun _=>?_) (fun _=>?_)⟩
  ·exact⟨_,rfl,_,_,rfl,rfl,(by show(0:Int)<10;decide),kk (c%10) (by omega) (by omega)⟩
  refine⟨_,rfl,rfl,_,rfl,ite2 (fun _=>?_) (fun _=>?_)⟩
  ·exact⟨_,rfl,_,_,rfl,rfl,(by show(0:Int)<60;decide),_,_,rfl,rfl, .inl ⟨by decide,by decide⟩,kk (50*(c%60)) (by omega) (by omega)⟩
  refine⟨_,rfl,rfl,_,rfl,ite2 (fun _=>?_) (fun _=>?_)⟩
  ·exact⟨_,rfl,_,_,rfl,rfl, .inr ⟨by decide,by decide⟩,_,_,rfl,rfl,(by show(0:Int)<1000000000001;decide),kk (c*2862933555777941757%1000000000001) (by omega) (by omega)⟩
  exact⟨_,rfl,c,rfl,kk⟩
inductive khW (d:D) (vs:List V) (H:Hp) (Q:VK) (E_:XK):Prop
 |ct (c:Int)(n:Nat)(s m:Int)(_:vs=[.int c,iV n, .int s, .int m])(_:0<n)(_:0≤m)(_:m≤7)(_:∀(H':Hp)(x:Addr)(r:Row),Same H H'→H x=none→LineAt d.qf H' x r→r.Ok→(0≤r.kd∧r.kd<(n:Int))→r.mn≤m→Q (.ref x) H'):khW d vs H Q E_
theorem qX:kar ["_law_cell","_law_kinds","_law_scale","_law_most","_law_mixed","_law_special","_law_many"] ["_law_cell","_law_kinds","_law_scale","_law_most"] (kai kce):=by ac_rfl
theorem keM(W:WB K mg d base):FO P w W 4 d.YO d.YQ ["_law_cell","_law_kinds","_law_scale","_law_most"] (khW d):=by
 exists W.ZX.F,qX
 ·obtain⟨c,n,s',m,rfl,hn,hm0,hm7,kk⟩:=h
  exists qr,kbj,W
  exists qz,kbq,W
  exists UG,kgy,W
  exists hr1,1,hr,0
  exists hr2,2,hr,0
  refine⟨_,kac (psl (i:=4) qX.nd (pcl qr hr1 W.qB (kaa (pv 0) (kaa kah (kaa kah kae)))))
   (kac (psl (i:=5) qX.nd ka3)
   (kac (kbX (ps_if (kan op_eq (pe_op kaA (pv 4) kah) kah (kat _)) (kaf (psl (i:=5) qX.nd (pcl qz hr W.qI (kaa (pe_op kaz (pv 0) kah) (kaa (pv 2) kae))))) (kaq)))
   (kac (psl (i:=6) qX.nd (pe_op kaA (pe_op kaz (pv 4) kah) kah))
   (kac (kbX (ps_if (kan op_eq (pe_op kaA (pe_op kaz (pv 4) kah) kah) kah (kat _)) (kaf (psl (i:=6) qX.nd (pe_op kaA (pe_op kaz (pv 4) kah) kah))) (kaq)))
   (kaf (kap (ka8 (W.Xg.mk' W.qf) UG hr2 rfl W.qf.m W.Xg.b .nil pass0 (kaa (pe_op kaA (pe_op kaz (pv 4) kah) (pv 1)) (kaa (pcl qz hr W.qI (kaa (pe_op kaz (pv 0) kah) (kaa (pv 2) kae))) (kaa (kao (kb5 rfl) (by rfl) W.B.min b_min (kaa (pv 6) (kaa (pv 3) kae))) (kaa (pv 5) kae))))))))))),?_⟩
  refine⟨_,rfl,c,16807,2147483399,rfl,⟨by decide,by decide⟩,by decide,?_⟩
  have hx0:0≤c*16807%2147483399:=by omega
  generalize c*16807%2147483399=mx at *
  refine⟨fun σ' H'=>H'=H∧∃sp:Option Int,(∀z,sp=some z→0≤z∧z≤1000000000000)∧σ'=[some (.int c),some (iV n),some (.int s'),some (.int m),some (.int mx),some (oV sp),none],?_,?_⟩
  ·refine⟨_,rfl,_,_,rfl,rfl,(by show(0:Int)<3;decide),rfl,_,rfl,ite2 (fun _=>?_) (fun _=>⟨rfl,none,(fun z e=>by cases e),rfl⟩)⟩
   exact⟨_,rfl,_,_,rfl,rfl,⟨by decide,by decide⟩,_,rfl,_,_,rfl,fun z z0 z1=>⟨rfl,some z,(fun y e=>by cases e;exact⟨z0,z1⟩),rfl⟩⟩
  rintro σ' H' ⟨rfl,sp,hsp,rfl⟩
  refine⟨_,rfl,_,_,rfl,rfl,⟨by decide,by decide⟩,_,_,rfl,rfl,(by show(0:Int)<4;decide),?_⟩
  refine⟨fun σ' H2=>H2=H'∧∃mn:Int,0≤mn∧mn≤7∧σ'=[some (.int c),some (iV n),some (.int s'),some (.int m),some (.int mx),some (oV sp),some (.int mn)],?_,?_⟩
  ·refine⟨_,rfl,_,_,rfl,rfl,⟨by decide,by decide⟩,_,_,rfl,rfl,(by show(0:Int)<8;decide),rfl,_,rfl,ite2 (fun _=>?_) (fun _=>⟨rfl,mx/3%4,by omega,by omega,rfl⟩)⟩
   exact⟨_,rfl,_,_,rfl,rfl,⟨by decide,by decide⟩,_,_,rfl,rfl,(by show(0:Int)<8;decide),rfl,mx/96%8,by omega,by omega,rfl⟩
  rintro σ' H2 ⟨rfl,mn,hmn0,hmn7,rfl⟩
  have k0:0≤mx/768%(n:Int):=Int.emod_nonneg _ (by omega)
  have k1:mx/768%(n:Int)<(n:Int):=Int.emod_lt_of_pos _ (by omega)
  refine⟨_,rfl,_,_,rfl,rfl,⟨by decide,by decide⟩,_,rfl,_,_,rfl,rfl,(by show(0:Int)<(n:Int);omega),_,rfl,_,_,rfl,rfl,⟨by decide,by decide⟩,_,rfl,_,_,rfl,fun pz p0 p1=>?_⟩
  have hq:0≤(if m<mn then m else mn)∧(if m<mn then m else mn)≤m:=by split <;> omega
  refine⟨_,rfl,_,rfl,_,_,rfl,_,rfl,kmm (r:=⟨mx/768%(n:Int),pz,if m<mn then m else mn,sp⟩) fun H1 y s1 fy hy=>?_⟩
  generalize (if m<mn then m else mn)=q at *
  exact kk H1 y _ s1 fy hy ⟨p0,p1,hq.1,(by show q≤60;omega),hsp⟩ ⟨k0,k1⟩ hq.2
inductive kgd (d:D) (vs:List V) (H:Hp) (Q:VK) (E_:XK):Prop
 |ct (c:Int)(ps:List (Option Nat))(s:Int)(_:vs=[.int c,iV ps.length, .int s])(_:0<ps.length)(_:∀(H':Hp)(x:Addr)(M:Mks),Same H H'→H x=none→MksIs d.qe H' x M→MksOk ps M→Q (.ref x) H'):kgd d vs H Q E_
theorem qG:kar ["_law_cell","_law_kinds","_law_scale","_law_mixed","_law_kind","_law_needs","_law_most","_law_more"] ["_law_cell","_law_kinds","_law_scale"] (kai kbU):=by ac_rfl
theorem kef(W:WB K mg d base):FO P w W 4 d.YR d.YS ["_law_cell","_law_kinds","_law_scale"] (kgd d):=by
 exists W.ZY.F,qG
 ·obtain⟨c,ps,s',rfl,hn,kk⟩:=h
  exists qr,kbj,W
  exists qz,kbq,W
  exists Xq,kdy,W
  exists hr1,1,hr,0
  exists hr2,2,hr,0
  refine⟨_,kac (psl (i:=3) qG.nd (pcl qr hr1 W.qB (kaa (pv 0) (kaa kah (kaa kah kae)))))
   (kac (psl (i:=4) qG.nd ka3)
   (kac (kbX (ps_if (kan op_eq (pe_op kaA (pv 3) kah) kah (kat _)) (kaf (psl (i:=4) qG.nd (pe_op kaA (pe_op kaz (pv 3) kah) (pv 1)))) (kaq)))
   (kac (psl (i:=5) qG.nd kah)
   (kac (kbX (ps_if (kan op_eq (pe_op kaA (pe_op kaz (pv 3) kah) kah) kah (kat _)) (kaf (psl (i:=5) qG.nd (pcl qz hr W.qI (kaa (pe_op kaz (pv 0) kah) (kaa (pv 2) kae))))) (kaq)))
   (kac (psl (i:=6) qG.nd ka3)
   (kac (kbX (ps_if (kan op_eq (pe_op kaA (pe_op kaz (pv 3) kah) kah) kah (kat _)) (kaf (psl (i:=6) qG.nd (pcl qz hr W.qI (kaa (pe_op kaz (pv 0) kah) (kaa (pv 2) kae))))) (kaq)))
   (kac (psl (i:=7) qG.nd (pe_op kaz (pv 3) kah))
   (kaf (kap (ka8 (W.Qy.mk' W.qe) Xq hr2 rfl W.qe.m W.Qy.b .nil pass0 (kaa (pv 4) (kaa (pv 5) (kaa (pv 6) (kaa (kdg op_eq (pe_op kaA (pv 7) kah) kah (kat _)) (kaa (kdg op_eq (pe_op kaA (pe_op kaz (pv 7) kah) kah) kah (kat _)) (kaa (kdg op_eq (pe_op kaA (pe_op kaz (pv 7) kah) kah) kah (kat _)) kae)))))))))))))))),?_⟩
  refine⟨_,rfl,c,39373,2147483587,rfl,⟨by decide,by decide⟩,by decide,?_⟩
  have hx0:0≤c*39373%2147483587:=by omega
  generalize c*39373%2147483587=mx at *
  refine⟨fun σ' H'=>H'=H∧∃kd:Option Nat,(∀k,kd=some k→k<ps.length)∧σ'=[some (.int c),some (iV ps.length),some (.int s'),some (.int mx),some (pV kd),none,none,none],?_,?_⟩
  ·refine⟨_,rfl,_,_,rfl,rfl,(by show(0:Int)<2;decide),rfl,_,rfl,ite2 (fun _=>?_) (fun _=>⟨rfl,none,(fun z e=>by cases e),rfl⟩)⟩
   have k0:0≤mx/2%(ps.length:Int):=Int.emod_nonneg _ (by omega)
   have k1:mx/2%(ps.length:Int)<(ps.length:Int):=Int.emod_lt_of_pos _ (by omega)
   refine⟨_,rfl,_,_,rfl,rfl,⟨by decide,by decide⟩,_,rfl,_,_,rfl,rfl,(by show(0:Int)<(ps.length:Int);omega),rfl,some (mx/2%(ps.length:Int)).toNat,(fun k e=>by cases e;omega),?_⟩
   show _=[some (V.int c),some (iV ps.length),some (V.int s'),some (V.int mx),some (V.int (((mx/2%(ps.length:Int)).toNat:Nat):Int)),none,none,none]
   rw[Int.toNat_of_nonneg k0]
   rfl
  rintro σ' H' ⟨rfl,kd,hkd,rfl⟩
  refine⟨fun σ' H2=>H2=H'∧∃nd:Int,(0≤nd∧nd≤1000000000000)∧σ'=[some (.int c),some (iV ps.length),some (.int s'),some (.int mx),some (pV kd),some (.int nd),none,none],?_,?_⟩
  ·refine⟨_,rfl,_,_,rfl,rfl,⟨by decide,by decide⟩,_,_,rfl,rfl,(by show(0:Int)<4;decide),rfl,_,rfl,ite2 (fun _=>?_) (fun _=>⟨rfl,0,⟨by decide,by decide⟩,rfl⟩)⟩
   exact⟨_,rfl,_,_,rfl,rfl,⟨by decide,by decide⟩,_,rfl,_,_,rfl,fun z z0 z1=>⟨rfl,z,⟨z0,z1⟩,rfl⟩⟩
  rintro σ' H2 ⟨rfl,nd,hnd,rfl⟩
  refine⟨fun σ' H3=>H3=H2∧∃mo:Option Int,(∀z,mo=some z→0≤z∧z≤1000000000000)∧σ'=[some (.int c),some (iV ps.length),some (.int s'),some (.int mx),some (pV kd),some (.int nd),some (oV mo),none],?_,?_⟩
  ·refine⟨_,rfl,_,_,rfl,rfl,⟨by decide,by decide⟩,_,_,rfl,rfl,(by show(0:Int)<4;decide),rfl,_,rfl,ite2 (fun _=>?_) (fun _=>⟨rfl,none,(fun z e=>by cases e),rfl⟩)⟩
   exact⟨_,rfl,_,_,rfl,rfl,⟨by decide,by decide⟩,_,rfl,_,_,rfl,fun z z0 z1=>⟨rfl,some z,(fun y e=>by cases e;exact⟨z0,z1⟩),rfl⟩⟩
  rintro σ' H3 ⟨rfl,mo,hmo,rfl⟩
  refine⟨_,rfl,_,_,rfl,rfl,⟨by decide,by decide⟩,?_⟩
  have fin:∀b1 b2 b3:Bool,∀x dx,H3 x=none→H3 dx=none→dx≠x→kej d.qe [.ref x,pV kd, .int nd,oV mo, .bl b1, .bl b2, .bl b3] (upd (upd H3 dx (.own x)) x (.ins d.qe dx [])) (fun v H2=>v=.non∧Q (.ref x) H2) E0:=fun b1 b2 b3=>kij (M:=⟨kd,nd,mo,b1,b2,b3⟩) fun H1 x s1 fx hM=>kk H1 x _ s1 fx hM ⟨hkd,hnd,hmo⟩
  refine⟨_,rfl,_,rfl,_,rfl,_,rfl,_,_,rfl,rfl,(by show(0:Int)<9;decide),rfl,_,rfl,_,_,rfl,rfl,⟨by decide,by decide⟩,_,_,rfl,rfl,(by show(0:Int)<4;decide),rfl,_,rfl,_,_,rfl,rfl,⟨by decide,by decide⟩,_,_,rfl,rfl,(by show(0:Int)<4;decide),rfl,?_⟩
  exact fin _ _ _
theorem at3V{a b c:V}{i:Int}(h0:0≤i)(h3:i<3):∃v,atI [a,b,c] i=some v∧(v=a∨v=b∨v=c):=by
 obtain⟨n,rfl⟩:=Int.eq_ofNat_of_zero_le h0
 have hn:n<3:=by omega
 match n,hn with
 |0,_=>exact⟨a,rfl, .inl rfl⟩
 |1,_=>exact⟨b,rfl, .inr (.inl rfl)⟩
 |2,_=>exact⟨c,rfl, .inr (.inr rfl)⟩
inductive kgc (d:D) (vs:List V) (H:Hp) (Q:VK) (E_:XK):Prop
 |ct (c:Int)(ps:List (Option Nat))(s:Int)(_:vs=[.int c,iV ps.length, .int s])(_:0<ps.length)(_:Tbs d H)(_:∀(H':Hp)(x:Addr)(V:Vch),Same H H'→H x=none→VchIs d H' x V→VchOk ps V→Q (.ref x) H'):kgc d vs H Q E_
theorem XC:kar ["_law_cell","_law_kinds","_law_scale","_law_mixed","_law_marks"] ["_law_cell","_law_kinds","_law_scale"] (kai kbw):=by ac_rfl
theorem kdw(W:WB K mg d base):FO P w W 6 d.YT d.YU ["_law_cell","_law_kinds","_law_scale"] (kgc d):=by
 exists W.ZZ.F,XC
 ·obtain⟨c,ps,s',rfl,hn,htb0,kk⟩:=h
  exists qr,kbj,W
  exists UH,kef,W
  exists UI,khr,W
  exists qz,kbq,W
  exists UJ,kfY,W
  exists UK,keh,W
  exists UL,kfd,W
  exists UM,kei,W
  exists hr1,1,hr,0
  exists hr3,3,hr,0
  exists hr4,4,hr,0
  refine⟨_,kac (psl (i:=3) XC.nd (pcl qr hr1 W.qB (kaa (pv 0) (kaa kah (kaa kah kae)))))
   (kac (psl (i:=4) XC.nd (pcl UH hr4 W.ZY (kaa (pv 0) (kaa (pv 1) (kaa (pv 2) kae)))))
   (kac (ps_if (kan op_eq (pe_op kaA (pv 3) kah) kah (kat _)) (kaf (kap (ka8 (W.Q7.mk' W.c_Off) UI hr rfl W.c_Off.m W.Q7.b .nil pass0 (kaa (pcl qz hr3 W.qI (kaa (pe_op kaz (pv 0) kah) (kaa (pv 2) kae))) (kaa (pv 4) kae))))) (kaq))
   (kac (ps_if (kan op_eq (pe_op kaA (pv 3) kah) kah (kat _)) (kaf (kap (ka8 (W.Q9.mk' W.qj) UJ hr rfl W.qj.m W.Q9.b .nil pass0 (kaa (pe_ix (r:=rIxL K) kaQ (kaW (kaa kah (kaa kah (kaa (pe_op kcR kah (pe_op kaA (pe_op kaz (pv 3) kah) kah)) kae)))) (pe_op kaA (pe_op kaz (pv 3) kah) kah) (fun _ _=>rfl)) (kaa (kdg op_eq (pe_op kaA (pe_op kaz (pv 3) kah) kah) kah (kat _)) (kaa (pv 4) kae)))))) (kaq))
   (kac (ps_if (kan op_eq (pe_op kaA (pv 3) kah) kah (kat _)) (kaf (kap (ka8 (W.Xb.mk' W.ql) UK hr rfl W.ql.m W.Xb.b .nil pass0 (kaa (pe_op kcR kah (pe_op kaA (pe_op kaz (pv 3) kah) kah)) (kaa (pv 4) kae))))) (kaq))
   (kac (ps_if (kan op_eq (pe_op kaA (pv 3) kah) kah (kat _)) (kaf (kap (ka8 (W.Xc.mk' W.qk) UL hr rfl W.qk.m W.Xc.b .nil pass0 (kaa (pe_op kcR kah (pe_op kaA (pe_op kaz (pv 3) kah) kah)) (kaa (pcl qz hr3 W.qI (kaa (pe_op kaz (pv 0) kah) (kaa (pv 2) kae))) (kaa (pv 4) kae)))))) (kaq))
   (kaf (kap (ka8 (W.Xd.mk' W.qo) UM hr rfl W.qo.m W.Xd.b .nil pass0 (kaa (pv 4) kae))))))))),?_⟩
  refine⟨_,rfl,c,40692,2147483579,rfl,⟨by decide,by decide⟩,by decide,?_⟩
  have hx0:0≤c*40692%2147483579:=by omega
  generalize c*40692%2147483579=mx at *
  refine⟨_,rfl,_,rfl,_,rfl,c,ps,s',rfl,hn,fun H1 mA M s1 f1 hM hMo=>?_⟩
  have htb:Tbs d H1:=Tbs.same s1 htb0
  have fin:∀(so:Srt)(H2:Hp)(x:Addr),Same H1 H2→H1 x=none→VchIs d H2 x ⟨so,M⟩→SrtOk so→Q (.ref x) H2:=fun so H2 x s2 f2 hV hso=>kk H2 x _ (s1.trans s2) (s1.free f2) hV ⟨hso,hMo⟩
  refine⟨_,rfl,_,_,rfl,rfl,(by show(0:Int)<5;decide),rfl,_,rfl,ite2 (fun _=>?_) (fun _=>?_)⟩
  ·exact⟨_,rfl,_,_,rfl,rfl,⟨by decide,by decide⟩,_,rfl,_,_,rfl,fun z z0 z1=>⟨_,rfl,kgB (so:=.off z) ⟨_,rfl⟩ rfl hM fun H2 x s2 f2 hV=>fin (.off z) H2 x s2 f2 hV ⟨z0,z1⟩⟩⟩
  refine⟨_,rfl,_,_,rfl,rfl,(by show(0:Int)<5;decide),rfl,_,rfl,ite2 (fun _=>?_) (fun _=>?_)⟩
  ·refine⟨_,rfl,_,_,rfl,rfl,⟨by decide,by decide⟩,_,_,rfl,rfl,(by show(0:Int)<1000;decide),_,_,rfl,rfl,(by show 3≤sizeLine;decide),fun l fl=>?_⟩
   obtain⟨v,e,hv⟩:=at3V (a:=.int 1000) (b:=.int 500) (c:=.int (1+mx/10%1000)) (i:=mx/5%3) (by omega) (by omega)
   obtain⟨sh,rfl,hsh⟩:∃sh:Int,v=.int sh∧1≤sh∧sh≤1000:=by
    rcases hv with rfl|rfl|rfl
    ·exact⟨1000,rfl,by decide,by decide⟩
    ·exact⟨500,rfl,by decide,by decide⟩
    ·exact⟨_,rfl,by omega,by omega⟩
   have s2:=kam (o:=.lst [V.int 1000,V.int 500,V.int (1+mx/10%1000)]) fl
   have e2:(upd H1 l (.lst [V.int 1000,V.int 500,V.int (1+mx/10%1000)])) l=some (.lst [V.int 1000,V.int 500,V.int (1+mx/10%1000)]):=kad
   have hM2:=hM.same s2
   have htb2:=Tbs.same s2 htb
   have fin2:∀(b:Bool)(H2:Hp)(x:Addr),Same (upd H1 l (.lst [V.int 1000,V.int 500,V.int (1+mx/10%1000)])) H2→(upd H1 l (.lst [V.int 1000,V.int 500,V.int (1+mx/10%1000)])) x=none→VchIs d H2 x ⟨.share sh b,M⟩→Q (.ref x) H2:=fun b H2 x s3 f3 hV=>fin (.share sh b) H2 x (s2.trans s3) (s2.free f3) hV hsh
   generalize upd H1 l (.lst [V.int 1000,V.int 500,V.int (1+mx/10%1000)])=H2 at *
   refine⟨_,rfl,_,_,rfl,rfl,⟨by decide,by decide⟩,_,_,rfl,rfl,(by show(0:Int)<3;decide),l,_,_,_,rfl,rfl,SqL.of e2,e,?_⟩
   have mk:∀b:Bool,∀x dx,H2 x=none→H2 dx=none→dx≠x→kdZ d.qj d.qe (fun so=>∃s b,so=.share s b) (.ref x::([.int sh, .bl b]++[.ref mA])) (upd (upd H2 dx (.own x)) x (.ins d.qj dx [])) (fun v H2=>v=.non∧Q (.ref x) H2) E0:=fun b=>kgB (so:=.share sh b) ⟨_,_,rfl⟩ rfl hM2 (fun H3 x s3 f3 hV=>fin2 b H3 x s3 f3 hV) htb2
   refine⟨_,rfl,_,_,rfl,rfl,⟨by decide,by decide⟩,_,_,rfl,rfl,(by show(0:Int)<2;decide),rfl,_,rfl,?_⟩
   exact mk _
  refine⟨_,rfl,_,_,rfl,rfl,(by show(0:Int)<5;decide),rfl,_,rfl,ite2 (fun _=>?_) (fun _=>?_)⟩
  ·exact⟨_,rfl,_,_,rfl,rfl,⟨by decide,by decide⟩,_,_,rfl,rfl,(by show(0:Int)<3;decide),_,_,rfl,rfl,_,rfl,kgB (so:=.cheap (2+mx/5%3)) ⟨_,rfl⟩ rfl hM fun H2 x s2 f2 hV=>fin _ H2 x s2 f2 hV ⟨by omega,by omega⟩⟩
  refine⟨_,rfl,_,_,rfl,rfl,(by show(0:Int)<5;decide),rfl,_,rfl,ite2 (fun _=>?_) (fun _=>?_)⟩
  ·exact⟨_,rfl,_,_,rfl,rfl,⟨by decide,by decide⟩,_,_,rfl,rfl,(by show(0:Int)<3;decide),_,_,rfl,rfl,_,rfl,_,_,rfl,rfl,⟨by decide,by decide⟩,_,rfl,_,_,rfl,fun z z0 z1=>⟨_,rfl,kgB (so:=.bund (2+mx/5%3) z) ⟨_,_,rfl⟩ rfl hM fun H2 x s2 f2 hV=>fin _ H2 x s2 f2 hV ⟨by omega,by omega,z0,z1⟩⟩⟩
  exact⟨_,rfl,kgB (so:=.carr) rfl rfl hM fun H2 x s2 f2 hV=>fin _ H2 x s2 f2 hV trivial⟩
inductive kjk (vs:List V) (H:Hp) (Q:VK) (E_:XK):Prop
 |ct (c:Int)(_:vs=[.int c])(_:∀(H':Hp)(p:Addr)(ps:List (Option Nat)),Same H H'→H p=none→H' p=some (.lst (ps.map pV))→Good ps→ps.length≤20→0<ps.length→Q (.ref p) H'):kjk vs H Q E_
theorem qY:kar ["_law_cell","_law_parents","_law_many","_law_k","_law_mixed"] ["_law_cell"] (kai kbx):=by ac_rfl
theorem kdx(W:WB K mg d base):FO P w W 2 d.YV d.YW ["_law_cell"] kjk:=by
 exists W.Z9.F,qY
 ·obtain⟨c,rfl,kk⟩:=h
  exists qr,kbj,W
  refine⟨_,kac (psl (i:=1) qY.nd (kaW kae))
   (kac (psl (i:=2) qY.nd (pe_op kcR kah (pe_op kaA (pv 0) kah)))
   (kac (kbX (ps_if (kan op_eq (pe_op kaA (pe_op kaz (pv 0) kah) kah) kah (kat _)) (kaf (psl (i:=2) qY.nd kah)) (kaq)))
   (kac (kbm PassesOwn.never rfl (kdt rfl W.B.range (kaa (pv 2) kae)) (pgn (i:=3) qY.nd)
   (kac (psl (i:=4) qY.nd (pcl qr hr W.qB (kaa (pe_op kcR (pv 0) (pe_op kcQ (pe_op kcQ kah (pv 3)) (pv 3))) (kaa kah (kaa kah kae)))))
   (kaf (kaP (pe_bm NI NT NU ka1 (pv 1) (kaa (klB (ken (PW.pt (pw_or (kan op_eq (pv 3) kah (kat _)) (kfn (kan op_eq (pe_op kaA (pv 4) kah) kah (kat _))))) ka3 (pe_op kaA (pe_op kaz (pv 4) kah) (pv 3)))) kae))))))
   (kaf (kap (pv 1)))))),?_⟩
  refine⟨by decide,fun p fp=>?_⟩
  exists H,p,H1,n1,e1,fp
  refine⟨_,rfl,_,_,rfl,rfl,(by show(0:Int)<5;decide),_,_,rfl,rfl,?_⟩
  refine⟨fun σ' H'=>H'=H1∧∃m:Nat,0<m∧m≤20∧σ'=[some (.int c),some (.ref p),some (iV m),none,none],?_,?_⟩
  ·refine⟨_,rfl,_,_,rfl,rfl,⟨by decide,by decide⟩,_,_,rfl,rfl,(by show(0:Int)<8;decide),rfl,_,rfl,ite2 (fun _=>⟨rfl,20,by decide,by decide,rfl⟩) (fun _=>⟨rfl,(1+c%5).toNat,by omega,by omega,?_⟩)⟩
   show _=[some (V.int c),some (.ref p),some (V.int (((1+c%5).toNat:Nat):Int)),none,none]
   rw[Int.toNat_of_nonneg (by omega)]
   rfl
  rintro σ' H' ⟨rfl,m,hm0,hm20,rfl⟩
  refine⟨_,rfl,_,rfl,by omega,by omega,?_⟩
  rw[Int.toNat_natCast]
  refine keU (fun i σ H'=>Same H H'∧∃(ps:List (Option Nat))(v3 v4:Option V),σ=[some (.int c),some (.ref p),some (iV m),v3,v4]∧H' p=some (.lst (ps.map pV))∧ps.length=i∧Good ps)
   ⟨n1,[],none,none,rfl,e1,rfl,kk5⟩ ?_ ?_
  ·rintro i σ H' hi ⟨s2,ps,v3,v4,rfl,hp2,hl,hg⟩
   rw[Int.zero_add]
   refine⟨_,rfl,_,rfl,_,_,rfl,rfl, .inl ⟨by decide,by decide⟩,_,rfl,_,_,rfl,rfl, .inr ⟨by omega,by omega⟩,_,_,rfl,rfl,_,48271,2147483647,rfl,⟨by decide,by decide⟩,by decide,?_⟩
   dsimp only
   have hx0:0≤(c+7*(i:Int)*(i:Int))*48271%2147483647:=by omega
   generalize (c+7*(i:Int)*(i:Int))*48271%2147483647=mx at *
   refine⟨_,rfl, .inl ⟨rfl,_,SqL.of hp2⟩,?_⟩
   refine⟨fun v H3=>H3=H'∧∃o:Option Nat,v=pV o∧∀k,o=some k→k<i,?_,?_⟩
   ·refine⟨_,rfl,rfl,_,rfl,?_⟩
    show if decide (iV i=iV 0)=true then _ else _
    rw[kgQ]
    by_cases h0:i=0
    ·rw[decide_eq_true h0]
     exact iteT (iteT ⟨rfl,none,rfl,fun k e=>by cases e⟩)
    ·rw[decide_eq_false h0]
     have k0:0≤mx/4%(i:Int):=Int.emod_nonneg _ (by omega)
     have k1:mx/4%(i:Int)<(i:Int):=Int.emod_lt_of_pos _ (by omega)
     refine iteF ⟨_,rfl,_,_,rfl,rfl,(by show(0:Int)<4;decide),rfl,_,rfl,ite2 (fun _=>⟨rfl,none,rfl,fun k e=>by cases e⟩) (fun _=>?_)⟩
     refine⟨_,rfl,_,_,rfl,rfl,⟨by decide,by decide⟩,_,rfl,_,_,rfl,rfl,(by show(0:Int)<(i:Int);omega),rfl,some (mx/4%(i:Int)).toNat,?_,fun k e=>by cases e;omega⟩
     show V.int _=V.int (((mx/4%(i:Int)).toNat:Nat):Int)
     rw[Int.toNat_of_nonneg k0]
   rintro v H3 ⟨rfl,o,rfl,ho⟩
   refine⟨p,_,_,rfl,rfl,hp2,kaw (by rw[JM];omega),?_⟩
   refine⟨kas fp s2 (nx hp2),ps++[o],_,_,rfl,?_,by simp[hl],kka hg (fun k e=>by rw[hl];exact ho k e)⟩
   rw[kad]
   simp
  ·rintro σ H' ⟨s2,ps,v3,v4,rfl,hp2,hl,hg⟩
   exact⟨_,rfl,kk H' p ps s2 fp hp2 hg (by omega) (by omega)⟩
theorem ket:∀(l:List Int)(j:Nat)(x z:Int),l[j]?=some z→(l.set j x).sum=l.sum-z+x
 |[],j,x,z,h=>by simp at h
 |a::l,0,x,z,h=>by
  have e:a=z:=by simpa using h
  subst e
  simp[Ng]
  omega
 |a::l,j+1,x,z,h=>by
  have ih:=ket l j x z (by simpa using h)
  rw[EN,Ng,ih,Ng]
  omega
theorem kh4{l:List Int}{j:Nat}{x:Int}(h:∀z∈l,0≤z)(hx:0≤x):∀z∈l.set j x,0≤z:=fun z hz=>by
 rcases EW hz with h'|h'
 ·exact h z h'
 ·rw[h'];exact hx
theorem kf9:∀n:Nat,(JS n (0:Int)).sum=0
 |0=>rfl
 |n+1=>by rw[N9,Ng,kf9 n];rfl
inductive khX (vs:List V) (H:Hp) (Q:VK) (E_:XK):Prop
 |ct (mh vo:Addr)(ks:List Int)(va:List Addr)(m:Nat)(f:Int)(_:vs=[.ref mh, .ref vo,iV m, .int f])(_:H mh=some (.lst (ks.map V.int)))(_:H vo=some (.lst (va.map V.ref)))(_:ks.length≤100)(_:va.length≤8)(_:m≤20)(_:∀(H':Hp)(p:Addr)(hand:List Int),Same H H'→H p=none→H' p=some (.lst (hand.map V.int))→hand.length=va.length→(∀z∈hand,0≤z)→hand.sum≤(m:Int)→Q (.ref p) H'):khX vs H Q E_
theorem QK:kar ["_law_more_held","_law_vouchers","_law_most_held","_law_first","_law_hand","_law_k","_law_number"] ["_law_more_held","_law_vouchers","_law_most_held","_law_first"] (kai kcf):=by ac_rfl
theorem keN(W:WB K mg d base):FO P w W 1 d.YX d.YY ["_law_more_held","_law_vouchers","_law_most_held","_law_first"] khX:=by
 exists W.Va.F,QK
 ·obtain⟨mh,vo,ks,va,m,f,rfl,hmh,hvo,hk,h8,hm,kk⟩:=h
  refine⟨_,kac (khl (N:=["_law_voucher"]) (CompScope.plain rfl (by decide +kernel) (by decide +kernel) (by decide +kernel) (nd1 _)) rfl (kaG (K:=K) (pv 1)) (fun _ _ _ _=>pgn (i:=0) (nd1 _)) (fun _ _ _ _=>kah) (pgn (i:=4) QK.nd))
   (kac (kbm PassesOwn.never rfl (kdt rfl W.B.range (kaa (kao (kb5 rfl) (by rfl) W.B.min b_min (kaa (kao (r:=kaL K) kau (by rfl) W.B.len b_len (kaa (pv 4) kae)) (kaa (pv 2) kae))) kae)) (pgn (i:=5) QK.nd)
   (kaf (kdr kah (kfo (pv 4) (pe_op kaA (pe_op kcR (pv 3) (pv 5)) (kao (r:=kaL K) kau (by rfl) W.B.len b_len (kaa (pv 4) kae))) set_list))))
   (kac (kbm PassesOwn.never rfl (kaG (K:=K) (pv 0)) (pgn (i:=6) QK.nd)
   (kaf (ps_if (PW.pt (ka7 (kan op_gt (kao (r:=kaL K) kau (by rfl) W.B.len b_len (kaa (pv 4) kae)) kah (kat _)) (ka7 (kan op_lt (kao (r:=rSum K) (kcC rfl) (by rfl) W.B.sum b_sum (kaa (pv 4) kae)) (pv 2) (kat _)) (kaV (kan op_lt (pe_ix (r:=rIxL K) kaQ (pv 4) (pe_op kaA (pv 6) (kao (r:=kaL K) kau (by rfl) W.B.len b_len (kaa (pv 4) kae))) (fun _ _=>rfl)) kah (kat _)))))) (kaf (kma (pv 4) (pe_op kaA (pv 6) (kao (r:=kaL K) kau (by rfl) W.B.len b_len (kaa (pv 4) kae))) kk7 kah klJ set_list)) (kaf (ps_if (PW.pt (ka7 (kan op_gt (kao (r:=kaL K) kau (by rfl) W.B.len b_len (kaa (pv 4) kae)) kah (kat _)) (kaV (kan op_eq (pe_op kaA (pe_op kaz (pv 6) kah) kah) kah (kat _))))) (kaf (kdr kah (kfo (pv 4) (pe_op kaA (pv 6) (kao (r:=kaL K) kau (by rfl) W.B.len b_len (kaa (pv 4) kae))) set_list))) (kaq))))))
   (kaf (kap (pv 4))))),?_⟩
  refine⟨_,rfl,vo,rfl,⟨_,SqL.of hvo⟩,kba (xs:=va.map V.ref) (fun i σ ys H'=>H'=H∧ys=(JS i (0:Int)).map V.int∧∃v0:Option V,σ=[v0]) ⟨rfl,rfl,none,rfl⟩ (by rw[JM];exact Nc (kaw (by omega))) ?_ ?_ ?_⟩
  ·rintro i σ ys H' hi ⟨rfl,rfl,_⟩
   exact⟨SqL.of hvo,by simp⟩
  ·rintro i y σ ys H' hy ⟨rfl,rfl,v0,rfl⟩
   refine⟨rfl,?_,_,rfl⟩
   rw[Ei,JW]
   rfl
  rintro σ ys H' ⟨rfl,rfl,v0,rfl⟩ p fp
  rw[JM]
  exists H',p,H1,n1,e1,fp
  refine⟨_,rfl,p,_,rfl, .inl (SqL.of e1),_,rfl,_,_,rfl,?_⟩
  have hL:((((JS va.length (0:Int)).map V.int).length:Nat):Int)=(va.length:Int):=by simp
  rw[hL]
  have hq:0≤(if(m:Int)<(va.length:Int) then(m:Int) else(va.length:Int))∧(if(m:Int)<(va.length:Int) then(m:Int) else(va.length:Int))≤(m:Int)∧(if(m:Int)<(va.length:Int) then(m:Int) else(va.length:Int))≤(va.length:Int):=by split <;> omega
  generalize (if(m:Int)<(va.length:Int) then(m:Int) else(va.length:Int))=q at *
  refine⟨_,rfl,by omega,by omega,?_⟩
  refine keU (fun i σ H2=>Same H' H2∧∃(hand:List Int)(v5:Option V),H2 p=some (.lst (hand.map V.int))∧hand.length=va.length∧(∀z∈hand,0≤z)∧hand.sum≤(i:Int)∧σ=[some (.ref mh),some (.ref vo),some (iV m),some (.int f),some (.ref p),v5,none])
   ⟨n1,_,none,e1,by simp,(fun z hz=>by rw[(ES.mp hz).2];exact Int.le_refl _),by rw[kf9];exact Int.le_refl _,rfl⟩ ?_ ?_
  ·rintro i σ H2 hi ⟨s2,hand,v5,e2,hl,hnn,hsum,rfl⟩
   rw[Int.zero_add]
   have hl0:0<hand.length:=by omega
   have k0:0≤(f+(i:Int))%(hand.length:Int):=Int.emod_nonneg _ (by omega)
   have k1:(f+(i:Int))%(hand.length:Int)<(hand.length:Int):=Int.emod_lt_of_pos _ (by omega)
   obtain⟨j,ej⟩:=Int.eq_ofNat_of_zero_le k0
   obtain⟨z,ez⟩:=at_of (xs:=hand) (i:=j) (by omega)
   have hz:=hnn z (JT ez)
   refine⟨_,rfl,_,rfl,_,rfl,_,_,rfl,rfl,_,rfl,p,_,rfl, .inl (SqL.of e2),_,_,rfl,rfl,(by rw[JM];omega),p,_,_,j,rfl,rfl,e2,(by rw[JM];show ixN hand.length ((f+(i:Int))%((hand.length:Nat):Int))=some j;rw[ej];exact kdU (by omega)),?_⟩
   rw[←Mc]
   refine⟨kas fp s2 (nx e2),hand.set j 1,_,kad,by rw[N8];exact hl,kh4 hnn (by decide),?_,rfl⟩
   rw[ket hand j 1 z ez]
   omega
  rintro σ H2 ⟨s2,hand0,v5,e2,hl0,hnn0,hsum0,rfl⟩
  refine⟨_,rfl,mh,rfl,⟨_,SqL.of (s2 _ _ hmh)⟩,kbd (xs:=ks.map V.int) (fun i σ H3=>Same H' H3∧∃(hand:List Int)(v6:Option V),H3 p=some (.lst (hand.map V.int))∧hand.length=va.length∧(∀z∈hand,0≤z)∧hand.sum≤(m:Int)∧σ=[some (.ref mh),some (.ref vo),some (iV m),some (.int f),some (.ref p),v5,v6])
   ⟨s2,hand0,none,e2,hl0,hnn0,by omega,rfl⟩ (fun i σ H3 _ h=>SqL.of (h.1 _ _ hmh)) ?_ ?_⟩
  ·rintro i y σ H3 hy ⟨s3,hand,v6,e3,hl,hnn,hsum,rfl⟩
   obtain⟨k,_,rfl⟩:∃z,ks[i]?=some z∧y=V.int z:=kbB hy
   have hL3:(((hand.map V.int).length:Nat):Int)=(hand.length:Int):=by rw[JM]
   refine⟨_,rfl,p,_,rfl, .inl (SqL.of e3),_,_,rfl,rfl,_,rfl,?_⟩
   by_cases h0:0<hand.length
   ·have k0:0≤k%(hand.length:Int):=Int.emod_nonneg _ (by omega)
    have k1:k%(hand.length:Int)<(hand.length:Int):=Int.emod_lt_of_pos _ (by omega)
    obtain⟨j,ej⟩:=Int.eq_ofNat_of_zero_le k0
    obtain⟨z,ez⟩:=at_of (xs:=hand) (i:=j) (by omega)
    have hz:=hnn z (JT ez)
    have atJ:atI (hand.map V.int) (k%(((hand.map V.int).length:Nat):Int))=some (V.int z):=by rw[hL3,ej];exact kaX (by rw[JY,ez];rfl)
    have ixJ:ixN (hand.map V.int).length (k%(((hand.map V.int).length:Nat):Int))=some j:=by rw[hL3,ej];exact kdU (by rw[JM];omega)
    have hpos:(0:Int)<(((hand.map V.int).length:Nat):Int):=by omega
    rw[show decide ((((hand.map V.int).length:Nat):Int) > 0)=true from decide_eq_true (by omega)]
    refine iteT ⟨_,rfl,p,hand,rfl,SqL.of e3,_,rfl,_,_,rfl,rfl,_,rfl,?_⟩
    by_cases hs:hand.sum<(m:Int)
    ·rw[show decide (hand.sum<(m:Int))=true from decide_eq_true hs]
     refine iteT ⟨_,rfl,_,rfl,_,rfl,p,_,rfl, .inl (SqL.of e3),_,_,rfl,rfl,hpos,p,_,_,_,rfl,rfl,SqL.of e3,atJ,_,_,rfl,rfl,_,rfl,ite2 (fun _=>?_) (fun _=>?_)⟩
     ·refine⟨_,rfl,_,rfl,_,rfl,p,_,rfl, .inl (SqL.of e3),_,_,rfl,rfl,hpos,p,_,_,_,rfl,rfl,SqL.of e3,atJ,_,_,rfl,rfl,p,_,_,j,rfl,rfl,e3,ixJ,?_⟩
      rw[←Mc]
      refine⟨kas fp s3 (nx e3),hand.set j (z+1),_,kad,by rw[N8];exact hl,kh4 hnn (by omega),?_,rfl⟩
      rw[ket hand j (z+1) z ez]
      omega
     ·refine⟨_,rfl,p,_,rfl, .inl (SqL.of e3),_,_,rfl,rfl,_,rfl,?_⟩
      rw[show decide ((((hand.map V.int).length:Nat):Int) > 0)=true from decide_eq_true (by omega)]
      refine iteT ⟨_,rfl,_,_,rfl,rfl,⟨by decide,by decide⟩,_,_,rfl,rfl,(by show(0:Int)<3;decide),rfl,_,rfl,ite2 (fun _=>?_) (fun _=>⟨s3,hand,_,e3,hl,hnn,hsum,rfl⟩)⟩
      refine⟨_,rfl,_,rfl,_,rfl,p,_,rfl, .inl (SqL.of e3),_,_,rfl,rfl,hpos,p,_,_,j,rfl,rfl,e3,ixJ,?_⟩
      rw[←Mc]
      refine⟨kas fp s3 (nx e3),hand.set j 0,_,kad,by rw[N8];exact hl,kh4 hnn (by decide),?_,rfl⟩
      rw[ket hand j 0 z ez]
      omega
    ·rw[show decide (hand.sum<(m:Int))=false from decide_eq_false hs]
     refine iteF (iteF ?_)
     refine⟨_,rfl,p,_,rfl, .inl (SqL.of e3),_,_,rfl,rfl,_,rfl,?_⟩
     rw[show decide ((((hand.map V.int).length:Nat):Int) > 0)=true from decide_eq_true (by omega)]
     refine iteT ⟨_,rfl,_,_,rfl,rfl,⟨by decide,by decide⟩,_,_,rfl,rfl,(by show(0:Int)<3;decide),rfl,_,rfl,ite2 (fun _=>?_) (fun _=>⟨s3,hand,_,e3,hl,hnn,hsum,rfl⟩)⟩
     refine⟨_,rfl,_,rfl,_,rfl,p,_,rfl, .inl (SqL.of e3),_,_,rfl,rfl,hpos,p,_,_,j,rfl,rfl,e3,ixJ,?_⟩
     rw[←Mc]
     refine⟨kas fp s3 (nx e3),hand.set j 0,_,kad,by rw[N8];exact hl,kh4 hnn (by decide),?_,rfl⟩
     rw[ket hand j 0 z ez]
     omega
   ·rw[show decide ((((hand.map V.int).length:Nat):Int) > 0)=false from decide_eq_false (by omega)]
    refine iteF (iteF ⟨_,rfl,p,_,rfl, .inl (SqL.of e3),_,_,rfl,rfl,_,rfl,?_⟩)
    rw[show decide ((((hand.map V.int).length:Nat):Int) > 0)=false from decide_eq_false (by omega)]
    exact iteF (iteF ⟨s3,hand,_,e3,hl,hnn,hsum,rfl⟩)
  ·rintro σ H3 ⟨s3,hand,v6,e3,hl,hnn,hsum,rfl⟩
   exact⟨_,rfl,kk H3 p hand s3 fp e3 hl hnn hsum⟩
noncomputable def mans(rs:List Row):List Nat:=rs.map fun r=>r.mn.toNat
theorem kgu:∀(rs:List Row)(k:Nat),((rs.zipIdx k).map fun p=>JS p.1.mn.toNat p.2).flatten.length=(mans rs).sum
 |[],k=>rfl
 |r::rs,k=>by
  rw[EI,J0,Nm,JZ,Mg,kgu rs (k+1)]
  rfl
theorem kkM(rs:List Row):(ownN rs).length=(mans rs).sum:=kgu rs 0
theorem kil:∀{rs:List Row},(∀r∈rs,0≤r.mn)→(rs.map fun r=>r.mn).sum=(((mans rs).sum:Nat):Int)
 |[],_=>rfl
 |r::rs,h=>by
  have h0:=h r Na
  have ih:=kil (rs:=rs) fun r hr=>h r (J5 _ hr)
  unfold mans at ih⊢
  rw[J0,J0,Ng,Ng,ih]
  omega
theorem klx:∀(l:List Nat)(j x:Nat),(l.set j x).sum≤l.sum+x
 |[],j,x=>by simp
 |a::l,0,x=>by simp[Ng];omega
 |a::l,j+1,x=>by
  have:=klx l j x
  rw[EN,Ng,Ng]
  omega
theorem VchIs.lst{d:D}{H:Hp}{l v:Addr}{V:Vch}{xs:List L2.V}{o:HO}(hl:H l=some (.lst xs))(tb:Tbs d (upd H l o)):VchIs d H v V→VchIs d (upd H l o) v V:=fun⟨mA,dv,fv,h1,h2,h3,⟨dm,fm,h4,h5⟩,h6,_⟩=>
 ⟨mA,dv,fv,by rw[kaj (ne_of h1 hl (by intro z;cases z))];exact h1,h2,h3,⟨dm,fm,by rw[kaj (ne_of h4 hl (by intro z;cases z))];exact h4,h5⟩,h6,tb⟩
theorem P2.put{α β:Type}{R: α→β→Prop}{a: α}{b: β}(r:R a b):∀{as:List α}{bs:List β}(i:Nat),P2 R as bs→P2 R (as.set i a) (bs.set i b)
 |_,_,_, .nil=>.nil
 |_,_,0, .cons _ t=>.cons r t
 |_,_,i+1, .cons q t=>.cons q (P2.put r i t)
theorem kkq{ss:List Str}{i:Int}(h0:0≤i)(h:i<((ss.length:Nat):Int)):∃z,z∈ss∧atI (ss.map V.str) i=some (.str z):=by
 obtain⟨n,rfl⟩:=Int.eq_ofNat_of_zero_le h0
 obtain⟨z,ez⟩:=at_of (xs:=ss) (i:=n) (by omega)
 exact⟨z,JT ez,kaX (by rw[JY,ez];rfl)⟩
theorem RulIs.put{H:Hp}{a l:Addr}{r:Rul}{xs ys:List L2.V}(hl:H l=some (.lst xs))(h:RulIs H a r):RulIs (upd H l (.lst ys)) a r:=by
 have h':H a=some (.tup [.str r.w,iV r.a,iV r.b]):=h
 show(upd H l (.lst ys)) a=_
 rw[kaj (ne_of h' hl (by intro z;cases z))]
 exact h'
noncomputable def RowW(n:Nat)(r:Row):Prop:=r.Ok∧(0≤r.kd∧r.kd<(n:Int))∧r.mn≤7
theorem two'{c:Bool}{T A B:Prop}(hT:B→T)(hB:B):if c=true then T else(if false=true then A else B):=by
 cases c with
 |true=>exact iteT (hT hB)
 |false=>exact iteF (iteF hB)
structure Ap4 (ln vc lk mo:Addr):Prop where
 lv:ln≠vc
 ll:ln≠lk
 lm:ln≠mo
 vl:vc≠lk
 vm:vc≠mo
 km:lk≠mo
structure WldS (d:D) (H:Hp) (ln vc lk mo:Addr) (la va:List Addr) (rs:List Row) (vs:List Vch) (ls ks:List Int):Prop where
 eln:H ln=some (.lst (la.map V.ref))
 evc:H vc=some (.lst (va.map V.ref))
 elk:H lk=some (.lst (ls.map V.int))
 emo:H mo=some (.lst (ks.map V.int))
 hln:Lines d.qf H la rs
 hvc:P2 (fun v V=>VchIs d H v V) va vs
theorem WldS.same{d:D}{H H':Hp}{ln vc lk mo:Addr}{la va:List Addr}{rs:List Row}{vs:List Vch}{ls ks:List Int}(s:Same H H')(h:WldS d H ln vc lk mo la va rs vs ls ks):WldS d H' ln vc lk mo la va rs vs ls ks:=
 ⟨s _ _ h.eln,s _ _ h.evc,s _ _ h.elk,s _ _ h.emo,h.hln.same s,h.hvc.mono fun v V q=>q.same s⟩
section
variable {d:D} {H:Hp} {ln vc lk mo:Addr} {la va:List Addr} {rs:List Row} {vs:List Vch} {ls ks:List Int}
theorem WldS.putL(a:Ap4 ln vc lk mo){la':List Addr}{rs':List Row}(h:WldS d H ln vc lk mo la va rs vs ls ks)(tb:Tbs d (upd H ln (.lst (la'.map V.ref))))(hl:Lines d.qf H la' rs'):WldS d (upd H ln (.lst (la'.map V.ref))) ln vc lk mo la' va rs' vs ls ks:=
 ⟨kad,by rw[kaj a.lv.symm];exact h.evc,by rw[kaj a.ll.symm];exact h.elk,by rw[kaj a.lm.symm];exact h.emo,hl.set h.eln,h.hvc.mono fun v V q=>q.lst h.eln tb⟩
theorem WldS.putV(a:Ap4 ln vc lk mo){va':List Addr}{vs':List Vch}(h:WldS d H ln vc lk mo la va rs vs ls ks)(tb:Tbs d (upd H vc (.lst (va'.map V.ref))))(hv:P2 (fun v V=>VchIs d H v V) va' vs'):WldS d (upd H vc (.lst (va'.map V.ref))) ln vc lk mo la va' rs vs' ls ks:=
 ⟨by rw[kaj a.lv];exact h.eln,kad,by rw[kaj a.vl.symm];exact h.elk,by rw[kaj a.vm.symm];exact h.emo,h.hln.set h.evc,hv.mono fun v V q=>q.lst h.evc tb⟩
theorem WldS.putK(a:Ap4 ln vc lk mo){ls':List Int}(h:WldS d H ln vc lk mo la va rs vs ls ks)(tb:Tbs d (upd H lk (.lst (ls'.map V.int)))):WldS d (upd H lk (.lst (ls'.map V.int))) ln vc lk mo la va rs vs ls' ks:=
 ⟨by rw[kaj a.ll];exact h.eln,by rw[kaj a.vl];exact h.evc,kad,by rw[kaj a.km.symm];exact h.emo,h.hln.set h.elk,h.hvc.mono fun v V q=>q.lst h.elk tb⟩
theorem WldS.putM(a:Ap4 ln vc lk mo){ks':List Int}(h:WldS d H ln vc lk mo la va rs vs ls ks)(tb:Tbs d (upd H mo (.lst (ks'.map V.int)))):WldS d (upd H mo (.lst (ks'.map V.int))) ln vc lk mo la va rs vs ls ks':=
 ⟨by rw[kaj a.lm];exact h.eln,by rw[kaj a.vm];exact h.evc,by rw[kaj a.km];exact h.elk,kad,h.hln.set h.emo,h.hvc.mono fun v V q=>q.lst h.emo tb⟩
end
structure NumW (n:Nat) (ps:List (Option Nat)) (rs:List Row) (vs:List Vch) (ls ks:List Int):Prop where
 rows:∀r∈rs,RowW n r
 vok:∀V∈vs,VchOk ps V
 pcs:(mans rs).sum≤24
 lr:rs.length≤12
 lv:vs.length≤8
 ll:ls.length≤3
 lk:ks.length≤6
inductive kjc (K:JN) (d:D) (vs:List V) (H:Hp) (Q:VK) (E_:XK):Prop
 |ct (a:Addr)(ns:List Int)(mv mh:Nat)(_:vs=[.ref a,iV mv,iV mh])(_:SqL K H a (ns.map V.int))(_:ns.length≤63)(_:mv≤8)(_:mh≤20)(_:Tbs d H)(_:∀(H':Hp)(w t b h:Addr)(T:TillD)(B:Bask)(hand:List Int),Same H H'→H h=none→H' w=some (.tup [.ref t, .ref b, .ref h])→TillIs d H' t T→kb7 T→BaskIs d.qf d.qh H' b B→Wf T.ps B (stnd0 B)→H' h=some (.lst (hand.map V.int))→hand.length=T.vs.length→(∀z∈hand,0≤z)→hand.sum≤(mh:Int)→T.rs.length≤3→(∀r∈T.rs,r.a<T.vs.length∧r.b<T.vs.length)→Q (.ref w) H'):kjc K d vs H Q E_
theorem qp:kar ["_law_script","_law_most_vouchers","_law_most_held","_law_scale","_law_parents","_law_lines","_law_vouchers","_law_links","_law_more_held","_law_flag","_law_most_lines","_law_most_pieces","_law_cell","_law_mixed","_law_left","_law_rules","_law_link","_law_one","_law_basket","_law_till"] ["_law_script","_law_most_vouchers","_law_most_held"] (kai kbT):=by ac_rfl
theorem kee(W:WB K mg d base):FO P w W 7 d.YZ d.Y0 ["_law_script","_law_most_vouchers","_law_most_held"] (kjc K d):=by
 exists W.Q3.F,qp
 ·obtain⟨a,ns,mv,mh,rfl,hS,hn,hmv,hmh,htb0,kk⟩:=h
  exists qZ,kcU,W
  exists UN,kdx,W
  exists qr,kbj,W
  exists UO,keM,W
  exists UP,kdw,W
  exists UQ,kfe,W
  exists qz,kbq,W
  exists UR,kgx,W
  exists US,keN,W
  exists hr1,1,hr,0
  exists hr2,2,hr,0
  exists hr3,3,hr,0
  exists hr4,4,hr,0
  refine⟨_,kac (psl (i:=3) qp.nd (pe_op kaA (pcl qZ hr1 W.qV (kaa (pv 0) (kaa kah kae))) kah))
   (kac (psl (i:=4) qp.nd (pcl UN hr2 W.Z9 (kaa (pe_op kaz (pcl qZ hr1 W.qV (kaa (pv 0) (kaa kah kae))) kah) kae)))
   (kac (psl (i:=5) qp.nd (kaW kae))
   (kac (psl (i:=6) qp.nd (kaW kae))
   (kac (psl (i:=7) qp.nd (kaW kae))
   (kac (psl (i:=8) qp.nd (kaW kae))
   (kac (psl (i:=9) qp.nd (pcl qr hr1 W.qB (kaa (pcl qZ hr1 W.qV (kaa (pv 0) (kaa kah kae))) (kaa kah (kaa kah kae)))))
   (kac (psl (i:=10) qp.nd kah)
   (kac (psl (i:=11) qp.nd kah)
   (kac (kbX (ps_if (kan op_eq (pe_op kaA (pv 9) kah) kah (kat _)) (kaf (psl (i:=1) qp.nd kah)) (kaq)))
   (kac (kbX (ps_if (kan op_eq (pe_op kaA (pe_op kaz (pv 9) kah) kah) kah (kat _)) (kac (psl (i:=10) qp.nd kah)
   (kaf (psl (i:=11) qp.nd kah))) (kaq)))
   (kac (kbm PassesOwn.never rfl (kaG (K:=K) (kic (r:=rSlL K) kjt (pv 0) (khn kah) kmc)) (pgn (i:=12) qp.nd)
   (kac (psl (i:=13) qp.nd (pcl qr hr1 W.qB (kaa (pv 12) (kaa kah (kaa kah kae)))))
   (kaf (ps_if (PW.pt (ka7 (kan op_lt (pe_op kaA (pv 13) kah) kah (kat _)) (kaV (kan op_lt (kao (r:=kaL K) kau (by rfl) W.B.len b_len (kaa (pv 5) kae)) (pv 10) (kat _))))) (kac (psl (i:=14) qp.nd (kao (ke0 rfl) (by rfl) W.B.max b_max (kaa kah (kaa (pe_op kd1 kah (kao (r:=rSum K) (kcC rfl) (by rfl) W.B.sum b_sum (kaa (kbY (N:=["_law_line"]) (CompScope.plain rfl (by decide +kernel) (by decide +kernel) (by decide +kernel) (nd1 _)) rfl (kaG (K:=K) (pv 5)) (fun _ _ _ _=>pgn (i:=0) (nd1 _)) (fun _ _ _ _=>(kak (K:=K) (pv 0) rfl))) kae))) kae))))
   (kaf (kaP (pe_bm NI NT NU ka1 (pv 5) (kaa (pcl UO hr4 W.ZX (kaa (pv 12) (kaa (kao (r:=kaL K) kau (by rfl) W.B.len b_len (kaa (pv 4) kae)) (kaa (pv 3) (kaa (kao (kb5 rfl) (by rfl) W.B.min b_min (kaa (pv 14) (kaa (pv 11) kae))) kae))))) kae))))) (kaf (ps_if (PW.pt (ka7 (kan op_lt (pe_op kaA (pv 13) kah) kah (kat _)) (kaV (kan op_lt (kao (r:=kaL K) kau (by rfl) W.B.len b_len (kaa (pv 6) kae)) (pv 1) (kat _))))) (kaf (kaP (pe_bm NI NT NU ka1 (pv 6) (kaa (pcl UP hr W.ZZ (kaa (pv 12) (kaa (kao (r:=kaL K) kau (by rfl) W.B.len b_len (kaa (pv 4) kae)) (kaa (pv 3) kae)))) kae)))) (kaf (ps_if (PW.pt (ka7 (kan op_eq (pe_op kaA (pv 13) kah) kah (kat _)) (kaV (kan op_lt (kao (r:=kaL K) kau (by rfl) W.B.len b_len (kaa (pv 7) kae)) kah (kat _))))) (kaf (kaP (pe_bm NI NT NU ka1 (pv 7) (kaa (pe_op kaz (pv 13) kah) kae)))) (kaf (ps_if (kan op_lt (kao (r:=kaL K) kau (by rfl) W.B.len b_len (kaa (pv 8) kae)) kah (kat _)) (kaf (kaP (pe_bm NI NT NU ka1 (pv 8) (kaa (pe_op kaz (pv 13) kah) kae)))) (kaq)))))))))))
   (kac (kbX (ps_if (PW.pt (ka7 (kan op_eq (pe_op kaA (pe_op kaz (pv 9) kah) kah) kah (kat _)) (kaV (kan op_gt (kao (r:=kaL K) kau (by rfl) W.B.len b_len (kaa (pv 6) kae)) kah (kat _))))) (kaf (kdr (pe_ix (r:=rIxL K) kaQ (pv 6) kah (fun _ _=>rfl)) (kfo (pv 6) kah set_list))) (kaq)))
   (kac (kbX (ps_if (PW.pt (ka7 (kan op_eq (pe_op kaA (pe_op kaz (pv 9) kah) kah) kah (kat _)) (kaV (kan op_gt (kao (r:=kaL K) kau (by rfl) W.B.len b_len (kaa (pv 5) kae)) kah (kat _))))) (kaf (kdr (pe_ix (r:=rIxL K) kaQ (pv 5) kah (fun _ _=>rfl)) (kfo (pv 5) kah set_list))) (kaq)))
   (kac (psl (i:=15) qp.nd (kaW kae))
   (kac (kbm PassesOwn.never rfl (kaG (K:=K) (pv 7)) (pgn (i:=16) qp.nd)
   (kaf (ps_if (kan op_gt (kao (r:=kaL K) kau (by rfl) W.B.len b_len (kaa (pv 6) kae)) kah (kat _)) (kac (psl (i:=17) qp.nd (pe_op kaA (pe_op kaz (pv 16) kah) (kao (r:=kaL K) kau (by rfl) W.B.len b_len (kaa (pv 6) kae))))
   (kaf (kaP (pe_bm NI NT NU ka1 (pv 15) (kaa (kcm (kaa (pe_ix (r:=rIxL K) kaQ (kaW (kaa kbM (kaa kbM (kaa kbM kae)))) (pe_op kaA (pv 16) kah) (fun _ _=>rfl)) (kaa (pv 17) (kaa (pe_op kaA (pe_op kaz (pv 16) kah) (kao (r:=kaL K) kau (by rfl) W.B.len b_len (kaa (pv 6) kae))) kae)))) kae))))) (kaq))))
   (kac (psl (i:=12) qp.nd (pcl qZ hr1 W.qV (kaa (pv 0) (kaa kah kae))))
   (kac (psl (i:=18) qp.nd (ka8 (W.Xi.mk' W.qh) UQ hr2 rfl W.qh.m W.Xi.b .nil pass0 (kaa (pv 5) (kaa (pcl qz hr3 W.qI (kaa (pe_op kaz (pv 12) kah) (kaa (pv 3) kae))) (kaa (kdg op_eq (pe_op kaA (pv 12) kah) kah (kat _)) kae)))))
   (kac (psl (i:=19) qp.nd (ka8 (W.Xo.mk' W.qd) UR hr2 rfl W.qd.m W.Xo.b .nil pass0 (kaa (pv 4) (kaa (pv 6) (kaa (pv 15) (kaa (pe_ix (r:=rIxL K) kaQ (kaW (kaa kbM (kaa kbM kae))) (pe_op kaA (pe_op kaz (pv 12) kah) kah) (fun _ _=>rfl)) kae))))))
   (kaf (kap (kcm (kaa (pv 19) (kaa (pv 18) (kaa (pcl US hr1 W.Va (kaa (pv 8) (kaa (pv 6) (kaa (pv 2) (kaa (pe_op kaz (pv 9) kah) kae))))) kae)))))))))))))))))))))))),?_⟩
  refine⟨_,rfl,a,ns,0,rfl,hS,by decide,fun z0=>⟨_,_,rfl,rfl,(by show(0:Int)<4;decide),?_⟩⟩
  dsimp only
  generalize z0%4=sc
  refine⟨_,rfl,a,ns,0,rfl,hS,by decide,fun z1=>⟨_,_,rfl,rfl,⟨by decide,by decide⟩,_,rfl,fun H1 p ps s1 f1 hp hg hl20 hl0=>?_⟩⟩
  refine⟨by decide,fun ln fln=>?_⟩
  exists H1,ln,H2,n2,e2,fln
  refine⟨by decide,fun vc fvc=>?_⟩
  exists H2,vc,H3,n3,e3,fvc
  refine⟨by decide,fun lk flk=>?_⟩
  exists H3,lk,H4,n4,e4,flk
  refine⟨by decide,fun mo fmo=>?_⟩
  exists H4,mo,H5,n5,e5,fmo
  have ap:Ap4 ln vc lk mo:=⟨kag e2 fvc,kag (n3 _ _ e2) flk,kag ((n3.trans n4) _ _ e2) fmo,kag e3 flk,kag (n4 _ _ e3) fmo,kag e4 fmo⟩
  have s15:=((n2.trans n3).trans n4).trans n5
  have fvc1:H1 vc=none:=n2.free fvc
  have flk1:H1 lk=none:=(n2.trans n3).free flk
  have fmo1:H1 mo=none:=((n2.trans n3).trans n4).free fmo
  have htb1:Tbs d H1:=Tbs.same s1 htb0
  have w0:WldS d H5 ln vc lk mo [] [] [] [] [] []:=⟨((n3.trans n4).trans n5) _ _ e2,(n4.trans n5) _ _ e3,n5 _ _ e4,e5, .nil, .nil⟩
  clear e2 e3 e4 e5 n2 n3 n4 n5 fvc flk fmo
  have s05:=s1.trans s15
  refine⟨_,rfl,a,ns,1,rfl,s05.seq hS,by decide,fun z2=>⟨_,16807,2147483399,rfl,⟨by decide,by decide⟩,by decide,?_⟩⟩
  generalize z2*16807%2147483399=fl
  refine⟨fun σ' H'=>H'=H5∧∃mv':Nat,mv'≤8∧σ'=[some (.ref a),some (iV mv'),some (iV mh),some (.int sc),some (.ref p),some (.ref ln),some (.ref vc),some (.ref lk),some (.ref mo),some (.int fl),some (iV 4),some (iV 7),none,none,none,none,none,none,none,none],?_,?_⟩
  ·exact⟨_,rfl,_,_,rfl,rfl,(by show(0:Int)<8;decide),rfl,_,rfl,ite2 (fun _=>⟨rfl,8,by decide,rfl⟩) (fun _=>⟨rfl,mv,hmv,rfl⟩)⟩
  rintro σ' H' ⟨rfl,mv',hmv',rfl⟩
  refine⟨fun σ' H2=>H2=H'∧∃ml mp:Nat,ml≤12∧mp≤7∧σ'=[some (.ref a),some (iV mv'),some (iV mh),some (.int sc),some (.ref p),some (.ref ln),some (.ref vc),some (.ref lk),some (.ref mo),some (.int fl),some (iV ml),some (iV mp),none,none,none,none,none,none,none,none],?_,?_⟩
  ·exact⟨_,rfl,_,_,rfl,rfl,⟨by decide,by decide⟩,_,_,rfl,rfl,(by show(0:Int)<8;decide),rfl,_,rfl,ite2 (fun _=>⟨rfl,12,1,by decide,by decide,rfl⟩) (fun _=>⟨rfl,4,7,by decide,by decide,rfl⟩)⟩
  rintro σ' H2 ⟨rfl,ml,mp,hml,hmp,rfl⟩
  refine⟨_,rfl,_,rfl,a,_,rfl,s05.seq hS,fun l6 fl6=>?_⟩
  obtain⟨ms,ems,lms⟩:=klf ns (some 2) none
  rw[ems]
  exists H2,l6,H6,n6,e6,fl6
  have nl6:∀{x:Addr}{o:HO},H2 x=some o→l6≠x:=fun e=>(kag e fl6).symm
  have nln:=nl6 w0.eln
  have nvc:=nl6 w0.evc
  have nlk:=nl6 w0.elk
  have nmo:=nl6 w0.emo
  refine⟨l6,rfl,⟨_,SqL.of e6⟩,kbd (xs:=ms.map V.int) (fun i σ H'=>Same H1 H'∧H' l6=some (.lst (ms.map V.int))∧∃(la va:List Addr)(rs:List Row)(vs:List Vch)(ls ks:List Int)(v12 v13 v14:Option V),WldS d H' ln vc lk mo la va rs vs ls ks∧NumW ps.length ps rs vs ls ks∧(mans rs).sum≤12∧σ=[some (.ref a),some (iV mv'),some (iV mh),some (.int sc),some (.ref p),some (.ref ln),some (.ref vc),some (.ref lk),some (.ref mo),some (.int fl),some (iV ml),some (iV mp),v12,v13,v14,none,none,none,none,none])
   ⟨s15.trans n6,e6,[],[],[],[],[],[],none,none,none,w0.same n6,⟨(fun r h=>by simp at h),(fun r h=>by simp at h),by decide,by decide,by decide,by decide,by decide⟩,by decide,rfl⟩ (fun i σ H' _ h=>SqL.of h.2.1) ?_ ?_⟩
  ·rintro i y σ Hi hy ⟨si,el6,la,va,rs,vs,ls,ks,v12,v13,v14,w,N,hpc,rfl⟩
   obtain⟨c,_,rfl⟩:∃z,ms[i]?=some z∧y=V.int z:=kbB hy
   have htb:∀{H':Hp},Same H1 H'→Tbs d H':=fun s=>Tbs.same s htb1
   have lla:=w.hln.len
   have lva:=w.hvc.len
   refine⟨_,rfl,c,69621,2147483629,rfl,⟨by decide,by decide⟩,by decide,?_⟩
   generalize c*69621%2147483629=mx
   refine⟨_,rfl,_,_,rfl,rfl,(by show(0:Int)<8;decide),_,_,rfl,rfl,_,rfl,two' (fun els=>?_) ?_⟩
   ·
    refine⟨_,rfl,ln,_,rfl, .inl (SqL.of w.eln),_,rfl,_,_,rfl,rfl,_,rfl,ite2 (fun h2=>?_) (fun _=>els)⟩
    clear els
    have hlt:la.length<ml:=by
     have:=of_decide_eq_true h2
     rw[JM] at this
     omega
    refine⟨_,rfl,ln,rfl,⟨_,SqL.of w.eln⟩,kba (xs:=la.map V.ref) (fun i σ ys H'=>H'=Hi∧ys=((rs.take i).map fun r=>r.mn).map V.int∧∃v0:Option V,σ=[v0]) ⟨rfl,rfl,none,rfl⟩ (by rw[JM];exact Nc (kaw (by omega))) ?_ ?_ ?_⟩
    ·rintro i σ ys H' hi ⟨rfl,rfl,_⟩
     rw[JM] at hi
     exact⟨SqL.of w.eln,by rw[JM,JM,Nl];omega⟩
    ·rintro i y σ ys H' hy ⟨rfl,rfl,v0,rfl⟩
     obtain⟨x,ex,rfl⟩:=kcl hy
     obtain⟨r,er,dx,fs,hx,k1,k2,k3,k4⟩:=w.hln.at ex
     refine⟨_,rfl,x,d.qf,dx,fs,_,rfl,hx,W.qf.cl,W.Qf,k3,rfl,?_,_,rfl⟩
     rw[take_snoc er,JW,JW]
     rfl
    rintro σ ys H' ⟨rfl,rfl,v0,rfl⟩ q fq
    rw[JM,lla,NB]
    have hsm:=kil (rs:=rs) fun r hr=>(N.rows r hr).1.mn0
    exists H',q,Hq,nq,eq,fq
    refine⟨q,_,rfl,SqL.of eq,_,_,rfl,rfl,_,_,rfl,?_⟩
    rw[hsm]
    have wq:=w.same nq
    have hleft:0≤(if(12:Int)-(((mans rs).sum:Nat):Int) > 0 then(12:Int)-(((mans rs).sum:Nat):Int) else 0)∧(((mans rs).sum:Nat):Int)+(if(12:Int)-(((mans rs).sum:Nat):Int) > 0 then(12:Int)-(((mans rs).sum:Nat):Int) else 0)≤12:=by split <;> omega
    generalize (if(12:Int)-(((mans rs).sum:Nat):Int) > 0 then(12:Int)-(((mans rs).sum:Nat):Int) else 0)=left at *
    have hm:0≤(if(mp:Int)<left then(mp:Int) else left)∧(if(mp:Int)<left then(mp:Int) else left)≤7∧(if(mp:Int)<left then(mp:Int) else left)≤left:=by split <;> omega
    refine⟨_,rfl, .inl ⟨rfl,_,SqL.of wq.eln⟩,_,rfl,_,rfl,p,_,rfl, .inl (SqL.of ((si.trans nq) _ _ hp)),_,rfl,_,rfl,_,rfl,_,_,rfl,c,ps.length,sc,(if(mp:Int)<left then(mp:Int) else left),(by rw[JM];rfl),hl0,hm.1,hm.2.1,fun H7 x r s7 f7 hx hok hkd hmn=>?_⟩
    generalize (if(mp:Int)<left then(mp:Int) else left)=mm at *
    have w7:=wq.same s7
    have s17:=(si.trans nq).trans s7
    refine⟨ln,_,_,rfl,rfl,w7.eln,kaw (by rw[JM];omega),?_⟩
    have s8:=kas (o:=.lst ((la++[x]).map V.ref)) fln s17 (nx w7.eln)
    rw[show la.map V.ref++[V.ref x]=(la++[x]).map V.ref by rw[JW];rfl]
    have hpc':(mans (rs++[r])).sum≤12:=by
     have:mans (rs++[r])=mans rs++[r.mn.toNat]:=by unfold mans;rw[JW];rfl
     rw[this,NO]
     have:=hok.mn0
     simp only[Ng,MB]
     omega
    refine⟨s8,by rw[kaj nln];exact(nq.trans s7) _ _ el6,la++[x],va,rs++[r],vs,ls,ks,_,_,_,w7.putL ap (htb s8) (P2.snoc w7.hln hx),⟨fun r' hr'=>?_,N.vok,by omega,by rw[JZ,NA];omega,N.lv,N.ll,N.lk⟩,hpc',rfl⟩
    rcases Nr.mp hr' with h|h
    ·exact N.rows r' h
    ·have e:r'=r:=by simpa using h
     rw[e]
     exact⟨hok,hkd,by omega⟩
   refine⟨_,rfl,_,_,rfl,rfl,(by show(0:Int)<8;decide),_,_,rfl,rfl,_,rfl,two' (fun els=>?_) ?_⟩
   ·
    refine⟨_,rfl,vc,_,rfl, .inl (SqL.of w.evc),_,rfl,_,_,rfl,rfl,_,rfl,ite2 (fun h2=>?_) (fun _=>els)⟩
    clear els
    have hlt:va.length<mv':=by
     have:=of_decide_eq_true h2
     rw[JM] at this
     omega
    refine⟨_,rfl, .inl ⟨rfl,_,SqL.of w.evc⟩,_,rfl,_,rfl,p,_,rfl, .inl (SqL.of (si _ _ hp)),_,rfl,c,ps,sc,(by rw[JM];rfl),hl0,htb si,fun H7 x V s7 f7 hx hok=>?_⟩
    have w7:=w.same s7
    have s17:=si.trans s7
    refine⟨vc,_,_,rfl,rfl,w7.evc,kaw (by rw[JM];omega),?_⟩
    have s8:=kas (o:=.lst ((va++[x]).map L2.V.ref)) fvc1 s17 (nx w7.evc)
    rw[show va.map L2.V.ref++[L2.V.ref x]=(va++[x]).map L2.V.ref by rw[JW];rfl]
    refine⟨s8,by rw[kaj nvc];exact s7 _ _ el6,la,va++[x],rs,vs++[V],ls,ks,_,_,_,w7.putV ap (htb s8) (P2.snoc w7.hvc hx),⟨N.rows,fun V' hV'=>?_,N.pcs,N.lr,by rw[JZ,NA];omega,N.ll,N.lk⟩,hpc,rfl⟩
    rcases Nr.mp hV' with h|h
    ·exact N.vok V' h
    ·have e:V'=V:=by simpa using h
     rw[e]
     exact hok
   refine⟨_,rfl,_,_,rfl,rfl,(by show(0:Int)<8;decide),rfl,_,rfl,two' (fun els=>?_) ?_⟩
   ·
    refine⟨_,rfl,lk,_,rfl, .inl (SqL.of w.elk),_,_,rfl,rfl,_,rfl,ite2 (fun h2=>?_) (fun _=>els)⟩
    clear els
    have hlt:ls.length<3:=by
     have:=of_decide_eq_true h2
     rw[JM] at this
     omega
    refine⟨_,rfl, .inl ⟨rfl,_,SqL.of w.elk⟩,_,rfl,_,_,rfl,rfl,⟨by decide,by decide⟩,lk,_,_,rfl,rfl,w.elk,kaw (by rw[JM];omega),?_⟩
    have s8:=kas (o:=.lst ((ls++[mx/8]).map V.int)) flk1 si (nx w.elk)
    rw[show ls.map V.int++[V.int (mx/8)]=(ls++[mx/8]).map V.int by rw[JW];rfl]
    exact⟨s8,by rw[kaj nlk];exact el6,la,va,rs,vs,ls++[mx/8],ks,_,_,_,w.putK ap (htb s8),⟨N.rows,N.vok,N.pcs,N.lr,N.lv,by rw[JZ,NA];omega,N.lk⟩,hpc,rfl⟩
   refine⟨_,rfl,mo,_,rfl, .inl (SqL.of w.emo),_,_,rfl,rfl,_,rfl,ite2 (fun h2=>?_) (fun _=>⟨si,el6,la,va,rs,vs,ls,ks,_,_,_,w,N,hpc,rfl⟩)⟩
   have hlt:ks.length<6:=by
    have:=of_decide_eq_true h2
    rw[JM] at this
    omega
   refine⟨_,rfl, .inl ⟨rfl,_,SqL.of w.emo⟩,_,rfl,_,_,rfl,rfl,⟨by decide,by decide⟩,mo,_,_,rfl,rfl,w.emo,kaw (by rw[JM];omega),?_⟩
   have s8:=kas (o:=.lst ((ks++[mx/8]).map V.int)) fmo1 si (nx w.emo)
   rw[show ks.map V.int++[V.int (mx/8)]=(ks++[mx/8]).map V.int by rw[JW];rfl]
   exact⟨s8,by rw[kaj nmo];exact el6,la,va,rs,vs,ls,ks++[mx/8],_,_,_,w.putM ap (htb s8),⟨N.rows,N.vok,N.pcs,N.lr,N.lv,N.ll,by rw[JZ,NA];omega⟩,hpc,rfl⟩
  rintro σ Hi ⟨si,_,la,va,rs,vs,ls,ks,v12,v13,v14,w,N,hpc,rfl⟩
  have htb:∀{H':Hp},Same H1 H'→Tbs d H':=fun s=>Tbs.same s htb1
  refine⟨fun σ' H'=>Same H1 H'∧∃(va':List Addr)(vs':List Vch),WldS d H' ln vc lk mo la va' rs vs' ls ks∧NumW ps.length ps rs vs' ls ks∧σ'=[some (.ref a),some (iV mv'),some (iV mh),some (.int sc),some (.ref p),some (.ref ln),some (.ref vc),some (.ref lk),some (.ref mo),some (.int fl),some (iV ml),some (iV mp),v12,v13,v14,none,none,none,none,none],?_,?_⟩
  ·refine⟨_,rfl,_,_,rfl,rfl,⟨by decide,by decide⟩,_,_,rfl,rfl,(by show(0:Int)<4;decide),rfl,_,rfl,two' (fun els=>?_) ⟨si,va,vs,w,N,rfl⟩⟩
   refine⟨_,rfl,vc,_,rfl, .inl (SqL.of w.evc),_,_,rfl,rfl,_,rfl,ite2 (fun h2=>?_) (fun _=>els)⟩
   have hlt:1<va.length:=by
    have:=of_decide_eq_true h2
    rw[JM] at this
    omega
   obtain⟨x0,ex⟩:=at_of (xs:=va) (i:=0) (by omega)
   obtain⟨V0,eV,hV0⟩:=w.hvc.at ex
   refine⟨_,rfl,vc,_,_,_,rfl,rfl,SqL.of w.evc,(show atI (va.map L2.V.ref) ((0:Nat):Int)=_ from kaX (v:=.ref x0) (by rw[JY,ex];rfl)),_,rfl,vc,_,_,1,rfl,rfl,w.evc,(show ixN (va.map L2.V.ref).length ((1:Nat):Int)=some 1 from kdU (by rw[JM];omega)),?_⟩
   rw[←Mc]
   have s8:=kas (o:=.lst ((va.set 1 x0).map L2.V.ref)) fvc1 si (nx w.evc)
   refine⟨s8,va.set 1 x0,vs.set 1 V0,w.putV ap (htb s8) (P2.put hV0 1 w.hvc),⟨N.rows,fun V' hV'=>?_,N.pcs,N.lr,by rw[N8];exact N.lv,N.ll,N.lk⟩,rfl⟩
   rcases EW hV' with h|h
   ·exact N.vok V' h
   ·rw[h]
    exact N.vok V0 (JT eV)
  clear w N si
  rintro σ' Hj ⟨si,va',vs',w,N,rfl⟩
  refine⟨fun σ' H'=>Same H1 H'∧∃(la':List Addr)(rs':List Row),WldS d H' ln vc lk mo la' va' rs' vs' ls ks∧NumW ps.length ps rs' vs' ls ks∧σ'=[some (.ref a),some (iV mv'),some (iV mh),some (.int sc),some (.ref p),some (.ref ln),some (.ref vc),some (.ref lk),some (.ref mo),some (.int fl),some (iV ml),some (iV mp),v12,v13,v14,none,none,none,none,none],?_,?_⟩
  ·refine⟨_,rfl,_,_,rfl,rfl,⟨by decide,by decide⟩,_,_,rfl,rfl,(by show(0:Int)<4;decide),rfl,_,rfl,two' (fun els=>?_) ⟨si,la,rs,w,N,rfl⟩⟩
   refine⟨_,rfl,ln,_,rfl, .inl (SqL.of w.eln),_,_,rfl,rfl,_,rfl,ite2 (fun h2=>?_) (fun _=>els)⟩
   have hlt:1<la.length:=by
    have:=of_decide_eq_true h2
    rw[JM] at this
    omega
   obtain⟨x0,ex⟩:=at_of (xs:=la) (i:=0) (by omega)
   obtain⟨r0,er,hr0⟩:=w.hln.at ex
   have hm0:=JT er
   have hr7:=(N.rows r0 hm0).2.2
   refine⟨_,rfl,ln,_,_,_,rfl,rfl,SqL.of w.eln,(show atI (la.map V.ref) ((0:Nat):Int)=_ from kaX (v:=.ref x0) (by rw[JY,ex];rfl)),_,rfl,ln,_,_,1,rfl,rfl,w.eln,(show ixN (la.map V.ref).length ((1:Nat):Int)=some 1 from kdU (by rw[JM];omega)),?_⟩
   rw[←Mc]
   have s8:=kas (o:=.lst ((la.set 1 x0).map V.ref)) fln si (nx w.eln)
   refine⟨s8,la.set 1 x0,rs.set 1 r0,w.putL ap (htb s8) (P2.put hr0 1 w.hln),⟨fun r' hr'=>?_,N.vok,?_,by rw[N8];exact N.lr,N.lv,N.ll,N.lk⟩,rfl⟩
   ·rcases EW hr' with h|h
    ·exact N.rows r' h
    ·rw[h]
     exact N.rows r0 hm0
   ·unfold mans
    rw[Mc]
    refine JR (klx _ _ _) ?_
    show(mans rs).sum+r0.mn.toNat≤24
    omega
  clear w N si
  rintro σ' Hk ⟨si,la',rs',w,N,rfl⟩
  have lva:=w.hvc.len
  refine⟨by decide,fun rl frl=>?_⟩
  exists Hk,rl,H7,n7,e7,frl
  have hL:(((va'.map V.ref).length:Nat):Int)=(vs'.length:Int):=by rw[JM];omega
  refine⟨_,rfl,lk,rfl,⟨_,SqL.of (n7 _ _ w.elk)⟩,kbd (xs:=ls.map V.int) (fun i σ H'=>Same Hk H'∧∃(ra:List Addr)(us:List Rul)(v16 v17:Option V),H' rl=some (.lst (ra.map V.ref))∧P2 (fun a r=>RulIs H' a r) ra us∧(∀r∈us,r.a<vs'.length∧r.b<vs'.length)∧us.length≤i∧σ=[some (.ref a),some (iV mv'),some (iV mh),some (.int sc),some (.ref p),some (.ref ln),some (.ref vc),some (.ref lk),some (.ref mo),some (.int fl),some (iV ml),some (iV mp),v12,v13,v14,some (.ref rl),v16,v17,none,none])
   ⟨n7,[],[],none,none,e7, .nil,(fun r h=>by simp at h),JO _,rfl⟩ (fun i σ H' _ h=>SqL.of (h.1 _ _ w.elk)) ?_ ?_⟩
  ·rintro i y σ H8 hy ⟨s8,ra,us,v16,v17,erl,hra,hub,hul,rfl⟩
   obtain⟨k,ek,rfl⟩:∃z,ls[i]?=some z∧y=V.int z:=kbB hy
   have hi3:=at_lt ek
   have hl3:=N.ll
   have lra:=hra.len
   refine⟨_,rfl,vc,_,rfl, .inl (SqL.of (s8 _ _ w.evc)),_,_,rfl,rfl,_,rfl,ite2 (fun h2=>?_) (fun _=>⟨s8,ra,us,_,_,erl,hra,hub,Nat.le_succ_of_le hul,rfl⟩)⟩
   have h0:(0:Int)<(vs'.length:Int):=by
    have:=of_decide_eq_true h2
    rw[hL] at this
    omega
   have q0:0≤k/3%(vs'.length:Int):=Int.emod_nonneg _ (by omega)
   have q1:k/3%(vs'.length:Int)<(vs'.length:Int):=Int.emod_lt_of_pos _ h0
   have q2:0≤k/24%(vs'.length:Int):=Int.emod_nonneg _ (by omega)
   have q3:k/24%(vs'.length:Int)<(vs'.length:Int):=Int.emod_lt_of_pos _ h0
   refine⟨_,rfl,_,_,rfl,rfl,⟨by decide,by decide⟩,_,rfl,vc,_,rfl, .inl (SqL.of (s8 _ _ w.evc)),_,_,rfl,rfl,(by rw[hL];exact h0),?_⟩
   refine⟨_,rfl, .inl ⟨rfl,_,SqL.of erl⟩,(by show 3≤sizeLine;decide),fun l9 fl9=>?_⟩
   exists H8,l9,H9,n9,e9,fl9
   obtain⟨wd,_,ewd⟩:=kkq (ss:=["only","never","ahead"]) (i:=k%3) (by omega) (by show k%3<3;omega)
   refine⟨_,rfl,_,_,rfl,rfl,(by show(0:Int)<3;decide),l9,_,_,_,rfl,rfl,SqL.of e9,ewd,_,rfl,_,rfl,_,_,rfl,rfl,⟨by decide,by decide⟩,_,rfl,vc,_,rfl, .inl (SqL.of ((s8.trans n9) _ _ w.evc)),_,_,rfl,rfl,(by rw[hL];exact h0),(by show 3≤sizeLine;decide),fun q fq=>?_⟩
   obtain⟨ua,eua⟩:=Int.eq_ofNat_of_zero_le q0
   obtain⟨ub,eub⟩:=Int.eq_ofNat_of_zero_le q2
   exists H9,q,HA,nA,eA,fq
   have hrA:RulIs HA q ⟨wd,ua,ub⟩:=by
    show HA q=some (.tup [.str wd,V.int ((ua:Nat):Int),V.int ((ub:Nat):Int)])
    rw[←eua,←eub,←hL]
    exact eA
   have erlA:=(n9.trans nA) _ _ erl
   refine⟨rl,_,_,rfl,rfl,erlA,kaw (by rw[JM];omega),?_⟩
   refine⟨kas frl ((s8.trans n9).trans nA) (nx erlA),ra++[q],us++[⟨wd,ua,ub⟩],_,_,by rw[kad,JW];rfl,P2.snoc (hra.mono fun a r h=>RulIs.put erlA ((n9.trans nA) _ _ h)) (RulIs.put erlA hrA),fun r hr=>?_,by rw[JZ,NA];omega,rfl⟩
   rcases Nr.mp hr with h|h
   ·exact hub r h
   ·have e:r=⟨wd,ua,ub⟩:=by simpa using h
    rw[e]
    exact⟨by show ua<vs'.length;omega,by show ub<vs'.length;omega⟩
  rintro σ H8 ⟨s8,ra,us,v16,v17,erl,hra,hub,hul,rfl⟩
  rw[JM] at hul
  have s18:=si.trans s8
  have w8:=w.same s8
  refine⟨_,rfl,a,ns,1,rfl,(s1.trans s18).seq hS,by decide,fun z3=>?_⟩
  refine⟨_,rfl,_,rfl,_,_,rfl,rfl,⟨by decide,by decide⟩,_,rfl,_,_,rfl,fun cg c0 c1=>?_⟩
  refine⟨_,rfl,_,_,rfl,rfl,(by show(0:Int)<3;decide),rfl,kmo (SqL.of w8.eln) fun H9 b l' s9 f9 fl' hl' hb'=>?_⟩
  obtain⟨mb,hb⟩:∃mb:Bool,BaskAt d.qh H9 b l' cg mb:=⟨_,hb'⟩
  clear hb'
  have hbk:BaskIs d.qf d.qh H9 b ⟨rs',cg,mb⟩:=⟨l',la',hb,hl',w8.hln.same s9⟩
  have w9:=w8.same s9
  have s19:=s18.trans s9
  refine⟨_,rfl,_,rfl,_,rfl,(by show 2≤sizeLine;decide),fun lA flA=>?_⟩
  exists H9,lA,HA,nA,eA,flA
  obtain⟨bk,_,ebk⟩:=kkq (ss:=["again","shares"]) (i:=z3/3%2) (by omega) (by show z3/3%2<2;omega)
  have s9A:=s9.trans nA
  refine⟨_,rfl,_,_,rfl,rfl,⟨by decide,by decide⟩,_,_,rfl,rfl,(by show(0:Int)<2;decide),lA,_,_,_,rfl,rfl,SqL.of eA,ebk,kmk (T:=⟨ps,vs',us,bk⟩) ((s19.trans nA) _ _ hp) (nA _ _ w9.evc) (w9.hvc.mono fun v V h=>h.same nA) (s9A _ _ erl) (hra.mono fun a r h=>s9A _ _ h) fun HB t sB fB hT=>?_⟩
  have s9B:=nA.trans sB
  have wB:=w9.same s9B
  have s1B:=s19.trans s9B
  have hks:=N.lk
  have hlv:=N.lv
  refine⟨_,rfl,_,rfl,_,rfl,_,rfl,_,rfl,_,rfl,_,_,rfl,rfl,⟨by decide,by decide⟩,mo,vc,ks,va',mh,_,rfl,wB.emo,wB.evc,by omega,by omega,hmh,fun HC h hand sC fh eh hl hnn hsum=>⟨(by show 3≤sizeLine;decide),fun w' fw=>?_⟩⟩
  exists HC,w',HD,nD,eD,fw
  have sBD:=sC.trans nD
  have s0D:=(s1.trans s1B).trans sBD
  refine kk HD w' t b h ⟨ps,vs',us,bk⟩ ⟨rs',cg,mb⟩ hand s0D ((s1.trans s1B).free fh) eD (hT.same sBD) ⟨N.vok,hlv⟩ (hbk.same (s9B.trans sBD)) ?_ (nD _ _ eh) (by show hand.length=vs'.length;omega) hnn hsum (by show us.length≤3;have:=N.ll;omega) hub
  exact Wf.start hg hl20 (fun r hr=>(N.rows r hr).2.1) (fun r hr=>(N.rows r hr).1) N.lr ⟨c0,c1⟩ (by show(ownN rs').length<64;rw[kkM];have:=N.pcs;omega)
noncomputable def waysM(T:TillD)(B:Bask)(hand:List Int):Nat→List Nat→Stnd→List (List Nat×Stnd)
 |0,_,_=>[]
 |k+1,used,S=>(if(onlyM T.rs used).isNone=true then [(used,S)] else [])++(folM T B hand used S).flatMap fun n=>match T.vs[n]? with
  |none=>[]
  |some V=>waysM T B hand k (used++[n]) (aftM V T.ps (kds B) S)
noncomputable def candM(hand:List Int)(a:List Nat)(n:Nat):Bool:=decide ((a.count n:Int)<hand.getD n 0)
noncomputable def kaU(hand:List Int):Nat→List Nat→List (List Nat)
 |0,_=>[]
 |k+1,a=>a::((JQ hand.length).filter (candM hand a)).flatMap fun n=>kaU hand k (a++[n])
theorem kgF{hand:List Int}:∀(k:Nat)(a:List Nat),∀o∈kaU hand k a,∃r,o=a++r
 |0,a,o,h=>by simp[kaU] at h
 | k+1,a,o,h=>by
  unfold kaU at h
  rcases Nd.mp h with h|h
  ·exact⟨[],by rw[h,N6]⟩
  ·obtain⟨n,_,h2⟩:=Ej.mp h
   obtain⟨r,hr⟩:=kgF k (a++[n]) o h2
   exact⟨n::r,by rw[hr,Nt];rfl⟩
theorem kgH{hand:List Int}:∀(k:Nat)(a:List Nat),(kaU hand k a).length≤fan (remM hand a)
 |0,a=>by unfold kaU;exact Nw _
 | k+1,a=>by
  unfold kaU
  rw[Nq]
  have hf:((JQ hand.length).filter (candM hand a)).length≤remM hand a:=by
   unfold remM
   refine kkm (fun m hm=>?_) _
   have:=of_decide_eq_true hm
   omega
  cases er:remM hand a with
  |zero=>
   rw[er] at hf
   rw[Dg.mp (Nat.le_zero.mp hf),List.flatMap_nil]
   exact JO _
  | succ r=>
   rw[er] at hf
   show _≤1+(r+1)*fan r
   have:=kit (f:=fun n=>kaU hand k (a++[n])) (k:=fan r) (l:=(JQ hand.length).filter (candM hand a)) fun n hn=>by
    have h1:=Np.mp hn
    have h2:=of_decide_eq_true h1.2
    have h3:=MD.mp h1.1
    have hd:=kel (hand:=hand) (used:=a) (n:=n) h3 (by omega)
    have hi:=kgH (hand:=hand) k (a++[n])
    rw[show remM hand (a++[n])=r by omega] at hi
    exact hi
   have hm:((JQ hand.length).filter (candM hand a)).length*fan r≤(r+1)*fan r:=Ed _ hf
   omega
theorem kc1:∀(o1 o2 used:List Nat)(S S1:Stnd),walkM T B hand o1 used S=(used++o1,S1)→walkM T B hand (o1++o2) used S=walkM T B hand o2 (used++o1) S1
 |[],o2,used,S,S1,h=>by
  unfold walkM at h
  rw[N6] at h⊢
  have:=congrArg Prod.snd h
  simp only at this
  rw[this]
  rfl
 | n::o1,o2,used,S,S1,h=>by
  have hcons:∀o:List Nat,walkM T B hand (n::o) used S=match T.vs[n]? with
   |none=>(used,S)
   |some V=>if dueM V T B hand used S n=.non then walkM T B hand o (used++[n]) (aftM V T.ps (kds B) S) else(used,S):=fun _=>rfl
  rw[MK,hcons]
  rw[hcons] at h
  cases e:T.vs[n]? with
  |none=>
   rw[e] at h
   have:=congrArg Mf (congrArg Prod.fst h)
   simp at this
  | some V=>
   rw[e] at h
   simp only at h⊢
   by_cases hn:dueM V T B hand used S n=.non
   ·rw[if_pos hn] at h⊢
    have h':walkM T B hand o1 (used++[n]) (aftM V T.ps (kds B) S)=((used++[n])++o1,S1):=by rw[h,Nt];rfl
    rw[kc1 o1 o2 _ _ _ h',Nt]
    rfl
   ·rw[if_neg hn] at h
    have:=congrArg Mf (congrArg Prod.fst h)
    simp at this
theorem keW{α β:Type}{p: β→Bool}{f: α→List β}:∀(l:List α),(l.flatMap f).filter p=l.flatMap fun a=>(f a).filter p
 |[]=>rfl
 |a::l=>by rw[MC,Mb,keW l,MC]
theorem kkd{α β:Type}{c: α→Bool}{f g: α→List β}:∀(l:List α),(∀a∈l,c a=true→f a=g a)→(∀a∈l,c a=false→f a=[])→l.flatMap f=(l.filter c).flatMap g
 |[],_,_=>rfl
 |a::l,h1,h2=>by
  have ih:=kkd (c:=c) (f:=f) (g:=g) l (fun x hx=>h1 x (J5 _ hx)) fun x hx=>h2 x (J5 _ hx)
  rw[MC,ih]
  cases e:c a with
  |true=>rw[List.filter_cons_of_pos e,MC,h1 a Na e]
  |false=>rw[List.filter_cons_of_neg (by rw[e];simp),h2 a Na e,NL]
theorem kfx(hl:hand.length=T.vs.length):∀(k:Nat)(a:List Nat)(S:Stnd),walkM T B hand a [] (stnd0 B)=(a,S)→(kaU hand k a).filter (fun o=>(kbs T B hand o).isNone)=(waysM T B hand k a S).map Prod.fst
 |0,_,_,_=>rfl
 | k +1,a,S,hw=>by
  unfold kaU waysM
  have h0:(kbs T B hand a).isNone=(onlyM T.rs a).isNone:=by
   unfold kbs
   simp only[hw]
   rw[if_neg (NV _)]
   cases(onlyM T.rs a).isNone <;> rfl
  have hrest:((JQ hand.length).filter (candM hand a)).flatMap (fun n=>(kaU hand k (a++[n])).filter fun o=>(kbs T B hand o).isNone)=(folM T B hand a S).flatMap fun n=>(match T.vs[n]? with
    |none=>[]
    |some V=>waysM T B hand k (a++[n]) (aftM V T.ps (kds B) S)).map Prod.fst:=by
   rw[kkd (c:=canM T B hand a S) (g:=fun n=>(match T.vs[n]? with
    |none=>[]
    |some V=>waysM T B hand k (a++[n]) (aftM V T.ps (kds B) S)).map Prod.fst)]
   ·congr 1
    unfold folM
    rw[List.filter_filter,hl]
    refine List.filter_congr fun n _=>?_
    cases e:canM T B hand a S n with
    |false=>rfl
    |true=>
     have:=(kcB e).2
     show(true&&decide ((a.count n:Int)<hand.getD n 0))=true
     rw[decide_eq_true (by omega)]
     rfl
   ·intro n hn hc
    obtain⟨h1,h2⟩:=kcB hc
    obtain⟨V,hV⟩:=at_of h1
    unfold canM at hc
    rw[hV] at hc
    have hd:dueM V T B hand a S n=.non:=of_decide_eq_true hc
    have hw':walkM T B hand (a++[n]) [] (stnd0 B)=(a++[n],aftM V T.ps (kds B) S):=by
     rw[kc1 a [n] [] _ S (by rw[NL];exact hw),NL]
     unfold walkM
     rw[hV]
     simp only
     rw[if_pos hd]
     rfl
    rw[kfx hl k (a++[n]) _ hw',hV]
   ·intro n hn hc
    have hm:=MD.mp (Np.mp hn).1
    obtain⟨V,hV⟩:=at_of (xs:=T.vs) (i:=n) (by omega)
    unfold canM at hc
    rw[hV] at hc
    have hd:¬dueM V T B hand a S n=.non:=of_decide_eq_false hc
    refine E9.mpr fun o ho=>?_
    obtain⟨r,rfl⟩:=kgF k (a++[n]) o ho
    have hw':walkM T B hand (a++[n]++r) [] (stnd0 B)=(a,S):=by
     rw[Nt,kc1 a _ [] _ S (by rw[NL];exact hw),NL,EJ]
     unfold walkM
     rw[hV]
     simp only
     rw[if_neg hd]
    have hlen:a.length<(a++[n]++r).length:=by simp only[JZ,NA];omega
    unfold kbs
    simp only[hw']
    rw[if_pos hlen]
    have eg:(a++[n]++r).getD a.length 0=n:=by
     rw[Nt,J8,N7 (JO _),Nat.sub_self]
     rfl
    rw[eg,hV]
    simp
  rw[JW,MA,h0,keW,hrest,List.map_flatMap]
  cases(onlyM T.rs a).isNone <;> rfl
theorem kek{z a:Addr}{H H':Hp}{xs:List V}(s:Same (Vs.rmv z H) H')(n:a≠z)(e:H a=some (.lst xs)):H' a=some (.lst xs):=s _ _ (show Vs.rmv z H a=_ by rw[kc8 n];exact e)
theorem kjA{z:Addr}{H H1 H2:Hp}{xs:List V}(s:Same (Vs.rmv z H) H1)(e:H1 z=some (.lst xs))(t:Same (Vs.rmv z H1) H2):Same (Vs.rmv z H) H2:=(kbO s (keC (nx e)) kgp).trans t
inductive kdK (n:Nat) (vs:List V) (H:Hp) (Q:VK) (E_:XK):Prop
 |ct (h o u:Addr)(hand:List Int)(a:List Nat)(oa:List Addr)(outs:List (List Nat))(_:vs=[.ref h, .ref o, .ref u])(_:H h=some (.lst (hand.map V.int)))(_:h≠u)(_:H o=some (.lst (a.map iV)))(_:o≠u)(_:H u=some (.lst (oa.map V.ref)))(_:P2 (fun c q=>c≠u∧H c=some (.lst (q.map iV))) oa outs)(_:remM hand a<n)(_:hand.length≤8)(_:a.length+n≤64)(_:outs.length+(kaU hand n a).length≤1000)(_:∀(H':Hp)(oa':List Addr),Same (Vs.rmv u H) H'→H' u=some (.lst (oa'.map V.ref))→P2 (fun c q=>c≠u∧H' c=some (.lst (q.map iV))) oa' (outs++kaU hand n a)→Q .non H'):kdK n vs H Q E_
theorem khV{vs:List V}{H:Hp}{Q:VK}{E:XK}(h:kdK 0 vs H Q E):False:=by
 obtain⟨_,_,_,_,_,_,_,_,_,_,_,_,_,_,h,_⟩:=h
 omega
theorem VE:kar ["_law_hand","_law_ahead","_law_out","_law_voucher"] ["_law_hand","_law_ahead","_law_out"] (kai kcL):=by ac_rfl
theorem keu(W:WB K mg d base)(n:Nat)(G_rec:FO P w W (0+n) d.Qa d.Qb ["_law_hand","_law_ahead","_law_out"] (kdK n)):FO P w W (0+n+1) d.Qa d.Qb ["_law_hand","_law_ahead","_law_out"] (kdK (n+1)):=by
 exists W.Qe.F,VE
 ·obtain⟨h,o,u,hand,a,oa,outs,rfl,hh,nhu,ho,nou,hu,hoa,hrem,h8,h64,hsz,kk⟩:=h
  refine⟨_,kac (kaP (pe_bm NI NT NU ka1 (pv 2) (kaa (kaJ (r:=ka6 K) kaB (by rfl) W.B.list kbt (kaa (pv 1) kae)) kae)))
   (kaf (kbm PassesOwn.never rfl (kdt rfl W.B.range (kaa (kao (r:=kaL K) kau (by rfl) W.B.len b_len (kaa (pv 0) kae)) kae)) (pgn (i:=3) VE.nd)
   (kaf (ps_if (kan op_lt (pe_bm NI ET EU kf1 (pv 1) (kaa (pv 3) kae)) (pe_ix (r:=rIxL K) kaQ (pv 0) (pv 3) (fun _ _=>rfl)) (kat _)) (kaf (kaP (kjL G_rec hr rfl W.Qe.m W.Qe.F.kp W.Qe.b .nil pass0 (kaa (pv 0) (kaa (pe_op klE (pv 1) (kaW (kaa (pv 3) kae))) (kaa (pv 2) kae)))))) (kaq))))),?_⟩
  have lun:kaU hand (n+1) a=a::((JQ hand.length).filter (candM hand a)).flatMap fun m=>kaU hand n (a++[m]):=rfl
  rw[lun,Nq] at hsz
  have loa:=hoa.len
  refine⟨_,rfl, .inl ⟨rfl,_,SqL.of hu⟩,_,rfl,o,_,rfl, .inl (SqL.of ho),fun q fq=>?_⟩
  exists H,q,H1,n1,e1,fq
  have hu1:=n1 _ _ hu
  have nqu:q≠u:=(kag hu fq).symm
  refine⟨u,_,_,rfl,rfl,hu1,kaw (by rw[JM];omega),?_⟩
  rw[show oa.map V.ref++[V.ref q]=(oa++[q]).map V.ref by rw[JW];rfl]
  generalize hg2:upd H1 u _=H2
  have e2:H2 u=some (.lst ((oa++[q]).map V.ref)):=by rw[←hg2];exact kad
  have b2:But u H1 H2:=by rw[←hg2];exact kav (nx hu1)
  clear hg2
  have s2:Same (Vs.rmv u H) H2:=kbO (rmv_sub.trans n1) b2 kgp
  have hoa2:P2 (fun c q=>c≠u∧H2 c=some (.lst (q.map iV))) (oa++[q]) (outs++[a]):=P2.snoc (hoa.mono fun c q h=>⟨h.1,kek s2 h.1 h.2⟩) ⟨nqu,b2 _ _ nqu e1⟩
  refine⟨_,rfl,h,_,rfl, .inl (SqL.of (kek s2 nhu hh)),_,rfl,by omega,by rw[JM];omega,?_⟩
  rw[show(((hand.map V.int).length:Nat):Int).toNat=hand.length by simp]
  refine keU (fun i σ H'=>Same (Vs.rmv u H) H'∧∃(oa':List Addr)(v3:Option V),H' u=some (.lst (oa'.map V.ref))∧P2 (fun c q=>c≠u∧H' c=some (.lst (q.map iV))) oa' ((outs++[a])++((JQ i).filter (candM hand a)).flatMap fun m=>kaU hand n (a++[m]))∧σ=[some (.ref h),some (.ref o),some (.ref u),v3])
   ⟨s2,oa++[q],none,e2,by rw[List.range_zero,Eh,List.flatMap_nil,N6];exact hoa2,rfl⟩ ?_ ?_
  ·rintro i σ H' hi ⟨sI,oa',v3,eu,hoa',rfl⟩
   rw[Int.zero_add]
   obtain⟨z,ez⟩:=at_of hi
   have eg:hand.getD i 0=z:=by rw[J8,ez];rfl
   have ho':=kek sI nou ho
   have hh':=kek sI nhu hh
   have eo':H' o=some (.lst ((a.map fun(i:Nat)=>(i:Int)).map V.int)):=by rw[ho',Nf];rfl
   have hle:((JQ (i+1)).filter (candM hand a)).flatMap (fun m=>kaU hand n (a++[m]))=((JQ i).filter (candM hand a)).flatMap (fun m=>kaU hand n (a++[m]))++(if candM hand a i=true then kaU hand n (a++[i]) else []):=by
    rw[kfl,List.flatMap_append]
    cases candM hand a i <;> simp
   have htot:(((JQ (i+1)).filter (candM hand a)).flatMap fun m=>kaU hand n (a++[m])).length≤(((JQ hand.length).filter (candM hand a)).flatMap fun m=>kaU hand n (a++[m])).length:=by
    obtain⟨j,ej⟩:∃j,hand.length=(i+1)+j:=⟨hand.length-(i+1),by omega⟩
    have er:JQ hand.length=JQ (i+1)++(JQ j).map (i+1+ ·):=by rw[ej,List.range_add]
    rw[er,Mb,List.flatMap_append,JZ]
    exact Nat.le_add_right _ _
   rw[hle] at htot
   have loa':=hoa'.len
   rw[JZ,JZ,NA] at loa'
   refine⟨_,rfl, .inl ⟨rfl,_,SqL.of ho'⟩,_,rfl,o,_,_,rfl,rfl,eo',_,rfl,_,rfl,h,_,_,_,rfl,rfl,SqL.of hh',kaX (v:=V.int z) (by rw[JY,ez];rfl),_,_,rfl,rfl,_,rfl,?_⟩
   rw[khE]
   have ec:candM hand a i=decide ((a.count i:Int)<z):=by unfold candM;rw[eg]
   by_cases hc:(a.count i:Int)<z
   ·have ecT:candM hand a i=true:=by rw[ec];exact decide_eq_true hc
    rw[show decide ((a.count i:Int)<z)=true from decide_eq_true hc]
    rw[ecT,if_pos rfl,JZ] at htot
    have hd:=kel (hand:=hand) (used:=a) (n:=i) hi (by rw[eg];omega)
    refine iteT ⟨_,rfl,_,rfl,_,rfl,(by show 1≤sizeLine;decide),fun l3 fl3=>?_⟩
    exists H',l3,H3,n3,e3,fl3
    refine⟨o,l3,_,_,rfl,rfl,n3 _ _ ho',e3,Nc (kaw (by rw[JM,NA];omega)),fun o4 fo4=>?_⟩
    exists H3,o4,H4,n4,e4',fo4
    have e4:H4 o4=some (.lst ((a++[i]).map iV)):=by rw[e4',JW];rfl
    have s34:=n3.trans n4
    have eu4:=s34 _ _ eu
    have sI4:Same (Vs.rmv u H) H4:=sI.trans s34
    refine⟨_,rfl,h,o4,u,hand,a++[i],oa',_,rfl,s34 _ _ hh',nhu,e4,(kag (n3 _ _ eu) fo4).symm,eu4,hoa'.mono fun c q h=>⟨h.1,s34 _ _ h.2⟩,by omega,h8,by rw[JZ,NA];omega,by rw[JZ,JZ,NA];omega,fun H5 oa5 s5 e5 hoa5=>?_⟩
    refine⟨kjA sI4 eu4 s5,oa5,_,e5,?_,rfl⟩
    rw[hle,ecT,if_pos rfl,←Nt]
    exact hoa5
   ·have ecF:candM hand a i=false:=by rw[ec];exact decide_eq_false hc
    rw[show decide ((a.count i:Int)<z)=false from decide_eq_false hc]
    refine iteF ⟨sI,oa',_,eu,?_,rfl⟩
    rw[hle,ecF,if_neg JV,N6]
    exact hoa'
  ·rintro σ H' ⟨sI,oa',v3,eu,hoa',rfl⟩
   refine kk H' oa' sI eu ?_
   rw[lun]
   rw[Nt] at hoa'
   exact hoa'
theorem kc9(W:WB K mg d base):∀n:Nat,FO P w W (0+n) d.Qa d.Qb ["_law_hand","_law_ahead","_law_out"] (kdK n)
 |0=>⟨fun _ _ _ _ h=>(khV h).elim,fun _ _ _ _ _ _ _ _ _ _ _ _ _ h=>(khV h).elim⟩
 |n+1=>keu W n (kc9 W n)
theorem kfX(W:WB K mg d base):FO P w W 10 d.Qa d.Qb ["_law_hand","_law_ahead","_law_out"] (kdK 10):=kc9 W 10
noncomputable def prV(T:TillD)(B:Bask)(hand:List Int)(order:List Nat):L2.V:=match kbs T B hand order with
 |none=>.int (kbN T B order).total
 |some _=>.non
inductive spPrV (d:D) (vs:List V) (H:Hp) (Q:VK) (E_:XK):Prop
 |ct (t b h o:Addr)(T:TillD)(B:Bask)(hand:List Int)(order:List Nat)(_:vs=[.ref t, .ref b, .ref h, .ref o])(_:TillIs d H t T)(_:kb7 T)(_:BaskIs d.qf d.qh H b B)(_:Wf T.ps B (stnd0 B))(_:H h=some (.lst (hand.map V.int)))(_:H o=some (.lst (order.map iV)))(_:hand.length=T.vs.length)(_:(∀n∈order,n<T.vs.length))(_:order.length<64)(_:∀(H':Hp),Same H H'→Q (prV T B hand order) H'):spPrV d vs H Q E_
theorem q9:kar ["_law_till","_law_basket","_law_hand","_law_order","_law_told","_law_caught","refused"] ["_law_till","_law_basket","_law_hand","_law_order"] (kai kcK):=by ac_rfl
theorem kfW(W:WB K mg d base):FO P w W 10 d.Y1 d.Y2 ["_law_till","_law_basket","_law_hand","_law_order"] (spPrV d):=by
 exists W.Vb.F,q9
 ·obtain⟨t,b,h,o,T,B,hand,order,rfl,hT,tok,hB,wf0,hh,ho,hl,hlt,h64,kk⟩:=h
  exists GX_priced,kiN,W
  refine⟨_,kac (psl (i:=4) q9.nd ka3)
   (kac (psl (i:=5) q9.nd ka3)
   (kac (kmP (n:="refused") (i:=6) ki2 q9.nd rfl rfl rfl W.V9 (kmH (i:=4) q9.nd (kmG (klT ki2 (fun _ _ z=>z) GX_priced hr rfl W.Qv.m W.Qv.F.kp W.Qv.b .nil (kaa (pv 0) (kaa (pv 1) (kaa (kaJ (r:=ka6 K) kaB (by rfl) W.B.list kbt (kaa (pv 2) kae)) (kaa (kaJ (r:=ka6 K) kaB (by rfl) W.B.list kbt (kaa (pv 3) kae)) kae))))) rfl)) (fun _=>kaf (psl (i:=5) q9.nd (pv 6))))
   (kac (ps_if (kan kfs (pv 5) ka3 (kat _)) (kaf (kap (pv 4))) (kaq))
   (kac (ps_if (PW.pt (pw_or (kd0 (kaO (kao (r:=rIsiX K) kdG (by rfl) W.B.isi b_isi (kaa (pv 5) (kaa (kby (v:=.ref d.qm) (by rfl) W.Vu rfl) kae))))) (kfn (kd0 (kaO (kao (r:=rIsiX K) kdG (by rfl) W.B.isi b_isi (kaa (pv 5) (kaa (kfS (v:=.ty "ValueError") (by rfl) W.zVE kg0 rfl) kae)))))))) (kaf (kap (pe_un khN kah))) (kaq))
   (kac (ps_if (PW.pt (pw_or (kaO (kao (r:=rIsiX K) kdG (by rfl) W.B.isi b_isi (kaa (pv 5) (kaa (kby (v:=.ref d.QU) (by rfl) W.Ua rfl) kae)))) (kfn (kaO (kao (r:=rIsiX K) kdG (by rfl) W.B.isi b_isi (kaa (pv 5) (kaa (kby (v:=.ref d.QV) (by rfl) W.Ub rfl) kae))))))) (kaf (kap (pe_un khN kah))) (kaq))
   (kaf (kap ka3))))))),?_⟩
  refine⟨_,rfl,_,rfl,_,rfl,h,_,rfl, .inl (SqL.of hh),fun h2 fh2=>?_⟩
  generalize hg1:upd H h2 _=H1
  obtain⟨n1,e1⟩:=kaT hg1 fh2
  refine⟨_,rfl,o,_,rfl, .inl (SqL.of (n1 _ _ ho)),fun o2 fo2=>?_⟩
  generalize hg2:upd H1 o2 _=H2
  obtain⟨n2,e2⟩:=kaT hg2 fo2
  have s2:=n1.trans n2
  unfold prV at kk
  refine⟨t,b,h2,o2,T,B,hand,order,rfl,hT.same s2,tok,hB.same s2,wf0,n2 _ _ e1,e2,hl,hlt,h64,fun hf H0 H3 bl s0 s3 hBl=>?_,fun k z hf H3 dx s3 hdx=>⟨W.xm_NotLet_TillError,fun e fe=>?_⟩⟩
  ·rw[hf] at kk
   obtain⟨dxB,fsB,ob,sbb,pb,sa,hbl,c1,c2,c3,c4,c5,_⟩:=hBl
   refine⟨bl,d.qi,dxB,fsB,_,rfl,hbl,W.qi.cl,W.Vt,c5,?_⟩
   refine⟨_,rfl,rfl,_,rfl,?_⟩
   rw[show decide (V.non=V.non)=true by simp]
   refine iteT ?_
   exact⟨_,rfl,kk H3 (s2.trans (s0.trans s3))⟩
  ·rw[hf] at kk
   have n3:=kam (o:=ExcO e (.ref d.qm) (some dx)) fe
   have he:(upd H3 e (ExcO e (.ref d.qm) (some dx))) e=some (ExcO e (.ref d.qm) (some dx)):=kad
   have hdx3:=n3 _ _ hdx
   generalize upd H3 e (ExcO e (.ref d.qm) (some dx))=H4 at *
   have hd:∀b,some dx=some b→∃u,H4 b=some u:=fun b z=>by cases z;exact⟨_,hdx3⟩
   refine⟨_,rfl,?_⟩
   refine⟨_,rfl,rfl,_,rfl,?_⟩
   show if decide (V.ref e=V.non)=true then _ else _
   rw[show decide (V.ref e=V.non)=false by simp]
   refine iteF ?_
   refine⟨_,rfl,e,d.qm,some dx,_,true,rfl, .inr ⟨_,rfl⟩,he,hd,W.x_NotLet,kb9 _ _,?_⟩
   refine⟨_,rfl,iteF ⟨_,rfl,e,d.qm,some dx,_,true,rfl, .inl ⟨_,rfl⟩,he,hd,W.x_NotLet,W.ki_NotLet_ValueError,_,rfl,iteF ?_⟩⟩
   refine⟨_,rfl,e,d.qm,some dx,_,false,rfl, .inr ⟨_,rfl⟩,he,hd,W.x_NotLet,W.ki_NotLet_NoPieces,_,rfl,iteF ?_⟩
   refine⟨_,rfl,e,d.qm,some dx,_,false,rfl, .inr ⟨_,rfl⟩,he,hd,W.x_NotLet,W.ki_NotLet_LineError,_,rfl,iteF ?_⟩
   exact kk H4 ((s2.trans s3).trans n3)
theorem kgZ{S':Stnd}:∀{o u:List Nat}{S:Stnd},walkM T B hand o u S=(u++o,S')→(billM T B o S).2=S'
 |[],u,S,h=>by
  unfold walkM at h
  exact(Prod.mk.inj h).2
 | n::o,u,S,h=>by
  have no:∀S,(u,S)≠(u++n::o,S'):=fun S e=>by
   have:=congrArg Mf (Prod.mk.inj e).1
   simp at this
  unfold walkM at h
  unfold billM
  cases e:T.vs[n]? with
  |none=>rw[e] at h;exact absurd h (no _)
  | some V=>
   rw[e] at h
   simp only at h⊢
   by_cases c:dueM V T B hand u S n=.non
   ·rw[if_pos c] at h
    exact kgZ (by rw[h,Nt];rfl)
   ·rw[if_neg c] at h
    exact absurd h (no _)
theorem kiW{u:List Nat}{S:Stnd}(h:walkM T B hand u [] (stnd0 B)=(u,S)):(kbN T B u).total=S.pr.sum+S.cg:=by
 have e:=kgZ (u:=[]) h
 show(billM T B u (stnd0 B)).2.pr.sum+(billM T B u (stnd0 B)).2.cg=_
 rw[e]
theorem ki6:∀{xs ys:List Int},xs.length=ys.length→(NH (fun x y=>x-y) xs ys).sum=xs.sum-ys.sum
 |[],[],_=>rfl
 |x::xs,y::ys,h=>by
  rw[List.zipWith_cons_cons,Ng,ki6 (by simpa using h),Ng,Ng]
  omega
 |[],y::ys,h=>by cases h
 |x::xs,[],h=>by cases h
theorem kc2{ps:List (Option Nat)}{V:Vch}(vo:VchOk ps V):∀m,V.ms.most=some m→0≤m:=fun m e=>(vo.ms.most m e).1
theorem kiY{ps:List (Option Nat)}{B:Bask}{S:Stnd}{V:Vch}(wf:Wf ps B S)(vo:VchOk ps V):kay S-kbL V ps (kds B) S≤kay (aftM V ps (kds B) S):=by
 have hr:=kgS (V:=V) (ps:=ps) (kk:=kds B) wf.lp wf.nn wf.cg.1 vo.so (kc2 vo)
 have hle:=kiy (V:=V) (ps:=ps) (kk:=kds B) wf.nn wf.cg.1 vo.so (kc2 vo)
 have e:kay (aftM V ps (kds B) S)=(S.pr.sum-(cutM V ps (kds B) S).1.sum)+(S.cg-(cutM V ps (kds B) S).2):=by
  show(NH (fun x y=>x-y) S.pr (cutM V ps (kds B) S).1).sum+(S.cg-(cutM V ps (kds B) S).2)=_
  rw[ki6 hle.1.1.symm]
 rw[e]
 unfold kay
 omega
theorem kkx{ps:List (Option Nat)}{B:Bask}{S:Stnd}(wf:Wf ps B S):0≤kay S:=by
 have:=kbe wf.nn
 have:=wf.cg.1
 unfold kay
 omega
theorem kkE{ps:List (Option Nat)}{B:Bask}{S:Stnd}{V:Vch}(wf:Wf ps B S)(vo:VchOk ps V):0≤kbL V ps (kds B) S:=by
 have hr:=kgS (V:=V) (ps:=ps) (kk:=kds B) wf.lp wf.nn wf.cg.1 vo.so (kc2 vo)
 have hle:=kiy (V:=V) (ps:=ps) (kk:=kds B) wf.nn wf.cg.1 vo.so (kc2 vo)
 have:=(Le2.sum hle.1).1
 have:=hle.2.1
 omega
noncomputable def rcN(T:TillD)(B:Bask)(S:Stnd)(n:Nat):Int:=match T.vs[n]? with
 |none=>0
 |some V=>kbL V T.ps (kds B) S
theorem kdk{n:Nat}{o u:List Nat}{S S':Stnd}(h:walkM T B hand (n::o) u S=(u++n::o,S')):∃V,T.vs[n]?=some V∧dueM V T B hand u S n=.non∧walkM T B hand o (u++[n]) (aftM V T.ps (kds B) S)=((u++[n])++o,S'):=by
 have no:∀S,(u,S)≠(u++n::o,S'):=fun S e=>by
  have:=congrArg Mf (Prod.mk.inj e).1
  simp at this
 unfold walkM at h
 cases e:T.vs[n]? with
 |none=>rw[e] at h;exact absurd h (no _)
 | some V=>
  rw[e] at h
  simp only at h
  by_cases c:dueM V T B hand u S n=.non
  ·rw[if_pos c] at h
   exact⟨V,rfl,c,by rw[h,Nt];rfl⟩
  ·rw[if_neg c] at h
   exact absurd h (no _)
theorem klb{V:Vch}{T:TillD}{B:Bask}{hand:List Int}{u:List Nat}{S:Stnd}{n:Nat}(h:dueM V T B hand u S n=.non):(u.count n:Int)+1≤hand.getD n 0∧(V.ms.once=true→u.contains n=false):=by
 unfold dueM wordM at h
 by_cases c1:hand.getD n 0<(u.count n:Int)+1
 ·rw[if_pos c1] at h
  cases h
 ·rw[if_neg c1] at h
  refine⟨by omega,fun ho=>?_⟩
  cases hc:u.contains n with
  |false=>rfl
  |true=>
   rw[ho,hc] at h
   cases h
theorem kg5(tok:kb7 T):∀{o u:List Nat}{S S':Stnd},Wf T.ps B S→walkM T B hand o u S=(u++o,S')→Wf T.ps B S'∧Later S S'
 |[],u,S,S',wf,h=>by
  unfold walkM at h
  have e:=(Prod.mk.inj h).2
  subst e
  exact⟨wf,Later.refl wf.nn wf.cg.1⟩
 |n::o,u,S,S',wf,h=>by
  obtain⟨V,hV,_,h2⟩:=kdk h
  have vo:=tok.vs V (JT hV)
  obtain⟨q1,q2⟩:=kg5 tok (wf.after vo) h2
  exact⟨q1,(Later.aft wf.nn wf.cg.1 vo.so (kc2 vo)).trans q2⟩
theorem khL{S0:Stnd}(tok:kb7 T):∀{o u:List Nat}{S S':Stnd},Wf T.ps B S→Later S0 S→walkM T B hand o u S=(u++o,S')→kay S-(o.map (rcN T B S0)).sum≤kay S'
 |[],u,S,S',wf,hl,h=>by
  unfold walkM at h
  have e:=(Prod.mk.inj h).2
  subst e
  simp
 |n::o,u,S,S',wf,hl,h=>by
  obtain⟨V,hV,_,h2⟩:=kdk h
  have vo:=tok.vs V (JT hV)
  have ih:=khL tok (S0:=S0) (wf.after vo) (hl.trans (Later.aft wf.nn wf.cg.1 vo.so (kc2 vo))) h2
  have h3:=kiY wf vo
  have h4:=khu (V:=V) (ps:=T.ps) (kk:=kds B) hl wf.nn vo.so
  have e:rcN T B S0 n=kbL V T.ps (kds B) S0:=by unfold rcN;rw[hV]
  rw[J0,Ng,e]
  omega
theorem kfG{m:Nat}:∀{o u:List Nat}{S S':Stnd},walkM T B hand o u S=(u++o,S')→0<o.count m→((u++o).count m:Int)≤hand.getD m 0∧∀V,T.vs[m]?=some V→V.ms.once=true→(u++o).count m=1
 |[],u,S,S',h,hc=>by simp at hc
 | n ::o,u,S,S',h,hc=>by
  obtain⟨V,hV,hd,h2⟩:=kdk h
  obtain⟨hh,ho⟩:=klb hd
  have ea:u++n::o=(u++[n])++o:=by rw[Nt];rfl
  by_cases c:0<o.count m
  ·rw[ea]
   exact kfG h2 c
  ·have hz:o.count m=0:=by omega
   have en:n=m:=by
    by_cases e:n=m
    ·exact e
    ·rw[Dh (by simpa using e)] at hc
     omega
   subst en
   have ec:(u++n::o).count n=u.count n+1:=by rw[MP,List.count_cons_self,hz]
   rw[ec]
   refine⟨by omega,fun V' hV' hon=>?_⟩
   rw[hV] at hV'
   cases hV'
   have hcn:=ho hon
   have:u.count n=0:=by
    rw[List.count_eq_zero]
    intro hm
    have:u.contains n=true:=by simpa using hm
    rw[hcn] at this
    cases this
   omega
theorem ki5{f:Nat→Int}{L:Nat}:∀{r:List Nat},(∀n∈r,n<L)→(r.map f).sum=((JQ L).map fun m=>(r.count m:Int)*f m).sum
 | [],_=>by
  have:∀K:Nat,((JQ K).map fun m=>((([]:List Nat).count m:Nat):Int)*f m).sum=0:=fun K=>by
   induction K with
   |zero=>rfl
   |succ K ih=>rw[NG,JW,NO,ih];simp
  rw[this]
  rfl
 | n ::r,h=>by
  have ih:=ki5 (f:=f) (L:=L) (r:=r) fun m hm=>h m (J5 _ hm)
  have hn:=h n Na
  have step:∀K:Nat,((JQ K).map fun m=>((n::r).count m:Int)*f m).sum=((JQ K).map fun m=>(r.count m:Int)*f m).sum+(if n<K then f n else 0):=fun K=>by
   induction K with
   |zero=>simp
   | succ K ih=>
    rw[NG,JW,JW,NO,NO,ih]
    simp only[J0,Mh,Ng,MB,Int.add_zero]
    by_cases e:n=K
    ·subst e
     rw[List.count_cons_self,if_neg (NV _),if_pos (MG _)]
     rw[show((r.count n+1:Nat):Int)=(r.count n:Int)+1 by omega,Int.add_mul,Int.one_mul]
     omega
    ·rw[Dh (by simpa using e)]
     by_cases c:n<K
     ·rw[if_pos c,if_pos (by omega)]
      omega
     ·rw[if_neg c,if_neg (by omega)]
      omega
  rw[step,if_pos hn,J0,Ng,ih]
  omega
theorem kjT{used r:List Nat}{S S':Stnd}(tok:kb7 T)(wf0:Wf T.ps B (stnd0 B))(hl:hand.length=T.vs.length)(hz:∀z∈hand,0≤z)(hu:walkM T B hand used [] (stnd0 B)=(used,S))(hr:walkM T B hand (used++r) [] (stnd0 B)=(used++r,S')):kcp T B hand used S≤kay S':=by
 obtain⟨wfS,_⟩:=kg5 tok wf0 (u:=[]) hu
 have h2:walkM T B hand r used S=(used++r,S'):=by
  have:=kc1 used r [] (stnd0 B) S hu
  rw[NL] at this
  rw[←this]
  exact hr
 obtain⟨wfS',_⟩:=kg5 tok wfS h2
 have hlow:=khL tok wfS (Later.refl wfS.nn wfS.cg.1) h2
 have h0:=kkx wfS'
 have hmem:∀n∈r,n<T.vs.length:=by
  have:∀{o u:List Nat}{S S':Stnd},walkM T B hand o u S=(u++o,S')→∀n∈o,n<T.vs.length:=by
   intro o
   induction o with
   |nil=>intro u S S' _ n hn;simp at hn
   |cons m o ih=>
    intro u S S' h n hn
    obtain⟨V,hV,_,h3⟩:=kdk h
    rcases Nd.mp hn with e|e
    ·rw[e];exact at_lt hV
    ·exact ih h3 n e
  exact this h2
 rw[ki5 (L:=T.vs.length) hmem] at hlow
 have key:∀K:Nat,K≤T.vs.length→((JQ K).map fun m=>(r.count m:Int)*rcN T B S m).sum≤sumR T B hand used S K:=by
  intro K
  induction K with
  |zero=>intro _;exact Int.le_refl _
  | succ K ih=>
   intro hK
   obtain⟨V,hV⟩:=at_of (xs:=T.vs) (i:=K) (by omega)
   have vo:=tok.vs V (JT hV)
   have hrc:=kkE wfS vo
   have e1:rcN T B S K=kbL V T.ps (kds B) S:=by unfold rcN;rw[hV]
   have e2:sumR T B hand used S (K+1)=sumR T B hand used S K+kbL V T.ps (kds B) S*comeM V hand used K:=by
    show sumR T B hand used S K+(match T.vs[K]? with|none=>0|some V=>kbL V T.ps (kds B) S*comeM V hand used K)=_
    rw[hV]
   rw[NG,JW,NO,e2]
   simp only[J0,Mh,Ng,MB,Int.add_zero]
   rw[e1,Int.mul_comm]
   have hcm:(r.count K:Int)≤comeM V hand used K:=by
    have hg0:0≤hand.getD K 0:=by
     obtain⟨z,ez⟩:=at_of (xs:=hand) (i:=K) (by omega)
     rw[J8,ez]
     exact hz z (JT ez)
    have hgu:(used.count K:Int)≤hand.getD K 0:=by
     by_cases c:0<used.count K
     ·have:=(kfG (u:=[]) hu c).1
      rw[NL] at this
      exact this
     ·omega
    by_cases c:0<r.count K
    ·obtain⟨q1,q2⟩:=kfG h2 c
     rw[MP] at q1
     unfold comeM
     generalize hand.getD K 0=g at *
     by_cases ho:V.ms.once=true
     ·have q3:=q2 V hV ho
      rw[MP] at q3
      have hnc:used.contains K=false:=by
       cases hc:used.contains K with
       |false=>rfl
       |true=>
        have:0<used.count K:=List.count_pos_iff.mpr (by simpa using hc)
        omega
      rw[if_pos ho,hnc,if_neg JV]
      split <;> omega
     ·rw[if_neg ho]
      omega
    ·have hr0:r.count K=0:=by omega
     rw[hr0]
     unfold comeM
     generalize hand.getD K 0=g at *
     split
     ·split
      ·omega
      ·split <;> omega
     ·omega
   have:=Int.mul_le_mul_of_nonneg_left hcm hrc
   have:=ih (by omega)
   omega
 have hk:=key T.vs.length (JO _)
 unfold kcp
 split <;> omega
theorem kjR:∀{l:List Int},(∀z∈l,0≤z)→∀z∈l,z≤l.sum
 |[],_,z,h=>by simp at h
 | a::l,hn,z,h=>by
  have h0:=hn a Na
  have hs:0≤l.sum:=kbe fun w hw=>hn w (J5 _ hw)
  rw[Ng]
  rcases Nd.mp h with e|e
  ·omega
  ·have:=kjR (fun w hw=>hn w (J5 _ hw)) z e
   omega
theorem kg2:∀(k:Nat)(used:List Nat)(S:Stnd),walkM T B hand used [] (stnd0 B)=(used,S)→(∀n∈used,n<T.vs.length)→∀q∈waysM T B hand k used S,walkM T B hand q.1 [] (stnd0 B)=(q.1,q.2)∧(onlyM T.rs q.1).isNone=true∧(∀n∈q.1,n<T.vs.length)∧q.1.length≤used.length+k
 |0,_,_,_,_,q,h=>by simp[waysM] at h
 | k +1,used,S,hw,hm,q,h=>by
  unfold waysM at h
  rcases Nr.mp h with h|h
  ·cases e:(onlyM T.rs used).isNone with
   |false=>rw[e] at h;simp at h
   |true=>
    rw[e,if_pos rfl] at h
    have eq:q=(used,S):=by simpa using h
    rw[eq]
    exact⟨hw,e,hm,by show used.length≤_;omega⟩
  ·obtain⟨n,hn,h2⟩:=Ej.mp h
   have hc:=(Np.mp hn).2
   obtain⟨hn1,_⟩:=kcB hc
   obtain⟨V,hV⟩:=at_of hn1
   unfold canM at hc
   rw[hV] at hc
   have hd:dueM V T B hand used S n=.non:=of_decide_eq_true hc
   rw[hV] at h2
   have hw':walkM T B hand (used++[n]) [] (stnd0 B)=(used++[n],aftM V T.ps (kds B) S):=by
    rw[kc1 used [n] [] _ S (by rw[NL];exact hw),NL]
    unfold walkM
    rw[hV]
    simp only
    rw[if_pos hd]
    rfl
   obtain⟨q1,q2,q3,q4⟩:=kg2 k (used++[n]) _ hw' (fun m hm'=>by
    rcases Nr.mp hm' with h'|h'
    ·exact hm m h'
    ·have e:m=n:=by simpa using h'
     rw[e]
     exact hn1) q h2
   rw[JZ,NA] at q4
   exact⟨q1,q2,q3,by omega⟩
noncomputable def pickT(A:List Nat×Int)(q:List Nat×Stnd):List Nat×Int:=if kay q.2<A.2 then(q.1,kay q.2) else A
theorem kgs:∀(ws:List (List Nat×Stnd))(A:List Nat×Int),(∀q∈ws,A.2≤kay q.2)→ws.foldl pickT A=A
 |[],A,_=>rfl
 | q::ws,A,h=>by
  have h0:=h q Na
  have e:pickT A q=A:=by
   unfold pickT
   rw[if_neg (by omega)]
  rw[Mi,e]
  exact kgs ws A fun z hz=>h z (J5 _ hz)
theorem khK:∀(k:Nat)(used:List Nat)(S:Stnd),∀q∈waysM T B hand k used S,∃r,q.1=used++r
 |0,_,_,q,h=>by simp[waysM] at h
 | k+1,used,S,q,h=>by
  unfold waysM at h
  rcases Nr.mp h with h|h
  ·cases e:(onlyM T.rs used).isNone with
   |false=>rw[e] at h;simp at h
   |true=>
    rw[e,if_pos rfl] at h
    have eq:q=(used,S):=by simpa using h
    exact⟨[],by rw[eq,N6]⟩
  ·obtain⟨n,_,h2⟩:=Ej.mp h
   cases e:T.vs[n]? with
   |none=>rw[e] at h2;simp at h2
   |some V=>
    rw[e] at h2
    obtain⟨r,hr⟩:=khK k (used++[n]) _ q h2
    exact⟨n::r,by rw[hr,Nt];rfl⟩
theorem klV{used:List Nat}{S:Stnd}{n:Nat}{V:Vch}(hw:walkM T B hand used [] (stnd0 B)=(used,S))(hV:T.vs[n]?=some V)(hd:dueM V T B hand used S n=.non):walkM T B hand (used++[n]) [] (stnd0 B)=(used++[n],aftM V T.ps (kds B) S):=by
 rw[kc1 used [n] [] _ S (by rw[NL];exact hw),NL]
 unfold walkM
 rw[hV]
 simp only
 rw[if_pos hd]
 rfl
theorem kgC(tok:kb7 T)(wf0:Wf T.ps B (stnd0 B))(hl:hand.length=T.vs.length)(hz:∀z∈hand,0≤z):∀(k:Nat)(A:SrcD)(used:List Nat)(S:Stnd),walkM T B hand used [] (stnd0 B)=(used,S)→(∀n∈used,n<T.vs.length)→((meetM T B hand k A used S).ord,(meetM T B hand k A used S).tot)=(waysM T B hand k used S).foldl pickT (A.ord,A.tot)
 |0,A,used,S,_,_=>rfl
 | k + 1,A,used,S,hw,hm=>by
  have hall:=kg2 (T:=T) (B:=B) (hand:=hand) (k+1) used S hw hm
  have hpre:=khK (T:=T) (B:=B) (hand:=hand) (k+1) used S
  unfold waysM at hall hpre⊢
  unfold meetM
  rw[Ee]
  have hP:((pickM T (addE T B hand A used S) used S).ord,(pickM T (addE T B hand A used S) used S).tot)=(if(onlyM T.rs used).isNone=true then [(used,S)] else []).foldl pickT (A.ord,A.tot):=by
   unfold pickM
   cases eo:(onlyM T.rs used).isNone with
   |false=>
    rw[MX,if_neg JV,if_neg JV]
    rfl
   | true=>
    rw[EC,if_pos rfl,Mi,EV]
    unfold pickT
    by_cases c:kay S<A.tot
    ·rw[if_pos (show decide (kay S<(addE T B hand A used S).tot)=true from decide_eq_true c),if_pos c]
    ·rw[if_neg (show ¬decide (kay S<(addE T B hand A used S).tot)=true by rw[decide_eq_false (show ¬kay S<(addE T B hand A used S).tot from c)];exact JV),if_neg c]
     rfl
  rw[←hP]
  generalize pickM T (addE T B hand A used S) used S=P
  split
  ·have gen:∀(l:List Nat),(∀n∈l,canM T B hand used S n=true)→∀A:SrcD,((l.foldl (fun A n=>match T.vs[n]? with
     |none=>A
     |some V=>meetM T B hand k A (used++[n]) (aftM V T.ps (kds B) S)) A).ord,(l.foldl (fun A n=>match T.vs[n]? with
     |none=>A
     |some V=>meetM T B hand k A (used++[n]) (aftM V T.ps (kds B) S)) A).tot)=(l.flatMap fun n=>match T.vs[n]? with
     |none=>[]
     |some V=>waysM T B hand k (used++[n]) (aftM V T.ps (kds B) S)).foldl pickT (A.ord,A.tot):=by
    intro l
    induction l with
    |nil=>intro _ A;rfl
    | cons n l ih=>
     intro hc A
     have hc0:=hc n Na
     obtain⟨hn1,_⟩:=kcB hc0
     obtain⟨V,hV⟩:=at_of hn1
     unfold canM at hc0
     rw[hV] at hc0
     have hd:dueM V T B hand used S n=.non:=of_decide_eq_true hc0
     rw[Mi,MC,Ee,ih fun m hm'=>hc m (J5 _ hm')]
     congr 1
     simp only[hV]
     exact kgC tok wf0 hl hz k A (used++[n]) _ (klV hw hV hd) fun m hm'=>by
      rcases Nr.mp hm' with h'|h'
      ·exact hm m h'
      ·have e:m=n:=by simpa using h'
       rw[e]
       exact hn1
   exact gen _ (fun n hn=>(Np.mp hn).2) P
  ·rename_i hnot
   refine(kgs _ _ fun q hq=>?_).symm
   have hq':=NJ (if(onlyM T.rs used).isNone=true then [(used,S)] else []) hq
   obtain⟨r,hr⟩:=hpre q hq'
   obtain⟨g1,_⟩:=hall q hq'
   have:=kjT (r:=r) (S':=q.2) tok wf0 hl hz hw (by rw[←hr];exact g1)
   show P.tot≤kay q.2
   omega
theorem kkO(rs:List Rul):(onlyM rs []).isNone=true:=by
 unfold onlyM
 rw[show rs.find? (loneM [])=none from List.find?_eq_none.mpr fun r _=>by unfold loneM;simp]
 rfl
theorem kdQ:∀(ws:List (List Nat×Stnd))(A:List Nat×Int),(ws.foldl pickT A=A∧∀x∈ws,A.2≤kay x.2)∨∃pre q post,ws=pre++q::post∧ws.foldl pickT A=(q.1,kay q.2)∧kay q.2<A.2∧(∀x∈pre,kay q.2<kay x.2)∧∀x∈post,kay q.2≤kay x.2
 |[],A=>.inl ⟨rfl,fun x hx=>by cases hx⟩
 | w ::ws,A=>by
  rw[Mi]
  by_cases c:kay w.2<A.2
  ·have e:pickT A w=(w.1,kay w.2):=by unfold pickT;rw[if_pos c]
   rw[e]
   rcases kdQ ws (w.1,kay w.2) with⟨h1,h2⟩|⟨pre,q,post,h1,h2,h3,h4,h5⟩
   ·exact .inr ⟨[],w,ws,rfl,h1,c,(fun x hx=>by cases hx),h2⟩
   ·refine .inr ⟨w::pre,q,post,by rw[h1];rfl,h2,Int.lt_trans h3 c,fun x hx=>?_,h5⟩
    rcases Nd.mp hx with hx|hx
    ·rw[hx]
     exact h3
    ·exact h4 x hx
  ·have e:pickT A w=A:=by unfold pickT;rw[if_neg c]
   rw[e]
   have c':A.2≤kay w.2:=Int.not_lt.mp c
   rcases kdQ ws A with⟨h1,h2⟩|⟨pre,q,post,h1,h2,h3,h4,h5⟩
   ·refine .inl ⟨h1,fun x hx=>?_⟩
    rcases Nd.mp hx with hx|hx
    ·rw[hx]
     exact c'
    ·exact h2 x hx
   ·refine .inr ⟨w::pre,q,post,by rw[h1];rfl,h2,h3,fun x hx=>?_,h5⟩
    rcases Nd.mp hx with hx|hx
    ·rw[hx]
     exact Int.lt_of_lt_of_le h3 c'
    ·exact h4 x hx
structure kng (T:TillD) (B:Bask) (hand:List Int) (L:List (List Nat)) (ord:List Nat) (tot:Int) (k:Nat):Prop where
 at_:L[k]?=some ord
 ok:kbs T B hand ord=none
 tt:(kbN T B ord).total=tot
 pre:∀(i:Nat)(o:List Nat),L[i]?=some o→kbs T B hand o=none→tot≤(kbN T B o).total∧(i<k→(kbN T B o).total≠tot)
theorem khG(tok:kb7 T)(wf0:Wf T.ps B (stnd0 B))(hl:hand.length=T.vs.length)(hnn:∀z∈hand,0≤z):∃k,kng T B hand (kaU hand 10 []) (bestM T B hand).ord (bestM T B hand).tot k:=by
 have hmb:((bestM T B hand).ord,(bestM T B hand).tot)=(waysM T B hand 10 [] (stnd0 B)).foldl pickT ([],kay (stnd0 B)):=kgC tok wf0 hl hnn 10 ⟨[],kay (stnd0 B),[]⟩ [] (stnd0 B) rfl (fun n h=>by simp at h)
 have lways:=kfx (B:=B) (T:=T) hl 10 [] (stnd0 B) rfl
 have hwo:=kg2 (T:=T) (B:=B) (hand:=hand) 10 [] (stnd0 B) rfl (fun n h=>by simp at h)
 have hv:∀q∈waysM T B hand 10 [] (stnd0 B),(kbN T B q.1).total=kay q.2:=fun q hq=>kiW (hwo q hq).1
 obtain⟨rest,hws⟩:∃rest,waysM T B hand 10 [] (stnd0 B)=([],stnd0 B)::rest:=by
  unfold waysM
  rw[if_pos (kkO _),EJ]
  exact⟨_,rfl⟩
 have hsp:∃pre q post,waysM T B hand 10 [] (stnd0 B)=pre++q::post∧((bestM T B hand).ord,(bestM T B hand).tot)=(q.1,kay q.2)∧(∀x∈pre,kay q.2<kay x.2)∧∀x∈post,kay q.2≤kay x.2:=by
  rw[hws,Mi,show pickT ([],kay (stnd0 B)) ([],stnd0 B)=([],kay (stnd0 B)) by unfold pickT;rw[if_neg (Int.lt_irrefl _)]] at hmb
  rw[hws,hmb]
  rcases kdQ rest ([],kay (stnd0 B)) with⟨h1,h2⟩|⟨pre,q,post,h1,h2,h3,h4,h5⟩
  ·exact⟨[],([],stnd0 B),rest,rfl,h1,(fun x hx=>by cases hx),h2⟩
  ·refine⟨([],stnd0 B)::pre,q,post,by rw[h1];rfl,h2,fun x hx=>?_,h5⟩
   rcases Nd.mp hx with hx|hx
   ·rw[hx]
    exact h3
   ·exact h4 x hx
 obtain⟨pre,q,post,h1,h2,h3,h4⟩:=hsp
 generalize bestM T B hand=bm at *
 generalize kaU hand 10 []=L at *
 generalize waysM T B hand 10 [] (stnd0 B)=ws at *
 subst h1
 obtain⟨e1,e2⟩:=Prod.mk.inj h2
 rw[JW,J0] at lways
 obtain⟨L1,L2',eL,f1,f2⟩:=List.filter_eq_append_iff.mp lways
 obtain⟨L3,L4,eL2,g1,g2,g3⟩:=List.filter_eq_cons_iff.mp f2
 have hq:(kbN T B q.1).total=kay q.2:=hv q (by simp)
 have hpre:∀o∈L1++L3,kbs T B hand o=none→kay q.2<(kbN T B o).total:=fun o ho hf=>by
  rcases Nr.mp ho with ho|ho
  ·have:o∈L1.filter fun o=>(kbs T B hand o).isNone:=Np.mpr ⟨ho,by rw[hf];rfl⟩
   rw[f1] at this
   obtain⟨x,hx,rfl⟩:=Nb.mp this
   rw[hv x (by simp[hx])]
   exact h3 x hx
  ·exact absurd (show((kbs T B hand o).isNone=true) by rw[hf];rfl) (g1 o ho)
 have hpost:∀o∈L4,kbs T B hand o=none→kay q.2≤(kbN T B o).total:=fun o ho hf=>by
  have:o∈L4.filter fun o=>(kbs T B hand o).isNone:=Np.mpr ⟨ho,by rw[hf];rfl⟩
  rw[g3] at this
  obtain⟨x,hx,rfl⟩:=Nb.mp this
  rw[hv x (by simp[hx])]
  exact h4 x hx
 have eL':L=(L1++L3)++q.1::L4:=by rw[eL,eL2,Nt]
 refine⟨(L1++L3).length,?_,?_,?_,fun i o hi hf=>?_⟩
 ·rw[eL',N7 (JO _),Nat.sub_self,e1]
  rfl
 ·rw[e1]
  exact Option.isNone_iff_eq_none.mp g2
 ·rw[e1,e2]
  exact hq
 ·rw[e2]
  rw[eL'] at hi
  by_cases c:i<(L1++L3).length
  ·rw[Mv c] at hi
   have:=hpre o (JT hi) hf
   exact⟨Int.le_of_lt this,fun _ z=>by rw[z] at this;exact Int.lt_irrefl _ this⟩
  ·refine⟨?_,fun z=>absurd z c⟩
   rw[N7 (Mw.mp c)] at hi
   cases hj:i-(L1++L3).length with
   |zero=>
    rw[hj] at hi
    cases hi
    exact Int.le_of_eq hq.symm
   |succ j=>
    rw[hj] at hi
    exact hpost o (JT hi) hf
theorem kgG{hand:List Int}:∀(k:Nat)(a:List Nat),(∀n∈a,n<hand.length)→∀o∈kaU hand k a,(∀n∈o,n<hand.length)∧o.length≤a.length+k
 |0,a,_,o,h=>by simp[kaU] at h
 | k +1,a,ha,o,h=>by
  unfold kaU at h
  rcases Nd.mp h with h|h
  ·rw[h]
   exact⟨ha,by omega⟩
  ·obtain⟨n,hn,h2⟩:=Ej.mp h
   have hm:=MD.mp (Np.mp hn).1
   obtain⟨q1,q2⟩:=kgG k (a++[n]) (fun m hm'=>by
    rcases Nr.mp hm' with h'|h'
    ·exact ha m h'
    ·have e:m=n:=by simpa using h'
     rw[e]
     exact hm) o h2
   rw[JZ,NA] at q2
   exact⟨q1,by omega⟩
theorem qq:kar ["_law_script","_law_most","_law_till","_law_basket","_law_hand","_law_order","_law_total","_law_paper","_law_lists_here","_law_met","_law_one","_law_price_here"] ["_law_script"] (kai s_law):=by ac_rfl
theorem kmZ(W:WB K mg d base):FO P w W 18 d.f_law d.Y3 ["_law_script"] (kge K d.tP_falling_groups):=by
 refine FunD.ok W.d_law.F qq (fun vs H Q E h=>?_) (fun cdv A outer s H vs Q E hr h=>?_)
 ·obtain⟨a,ns,rfl,_⟩:=h
  rfl
 ·obtain⟨a,ns,rfl,hS,hn,htb0,k⟩:=h
  exists qr,kbj,W
  exists qZ,kcU,W
  exists VF,kee,W
  exists UT,kmi,W
  exists VG,kfV,W
  exists UU,kfX,W
  exists UV,kfW,W
  exists hr1,1,hr,0
  exists hr7,7,hr,0
  exists hr10,10,hr,0
  refine⟨_,kac (psl (i:=1) qq.nd kah)
   (kac (kbX (ps_if (kan op_eq (pe_op kaA (pcl qr hr1 W.qB (kaa (pcl qZ hr1 W.qV (kaa (pv 0) (kaa kah kae))) (kaa kah (kaa kah kae)))) kah) kah (kat _)) (kaf (psl (i:=1) qq.nd kah)) (kaq)))
   (kac (kdr (pcl VF hr7 W.Q3 (kaa (pv 0) (kaa kah (kaa (pv 1) kae)))) (kbi (K:=K) (n:=3) rfl (kax (pgn (i:=2) qq.nd) (kax (pgn (i:=3) qq.nd) (kax (pgn (i:=4) qq.nd) kbh)))))
   (kac (kbX (ps_if (kan op_gt (kao (r:=rSum K) (kcC rfl) (by rfl) W.B.sum b_sum (kaa (kbY (N:=["_law_line"]) (CompScope.plain rfl (by decide +kernel) (by decide +kernel) (by decide +kernel) (nd1 _)) rfl (kaG (K:=K) (kak (K:=K) (pv 3) rfl)) (fun _ _ _ _=>pgn (i:=0) (nd1 _)) (fun _ _ _ _=>(kak (K:=K) (pv 0) rfl))) kae)) kah (kat _)) (kaf (kdr (pcl VF hr7 W.Q3 (kaa (pv 0) (kaa kah (kaa kah kae)))) (kbi (K:=K) (n:=3) rfl (kax (pgn (i:=2) qq.nd) (kax (pgn (i:=3) qq.nd) (kax (pgn (i:=4) qq.nd) kbh)))))) (kaq)))
   (kac (kdr (pcl UT hr W.ZT (kaa (pv 2) (kaa (pv 3) (kaa (kaJ (r:=ka6 K) kaB (by rfl) W.B.list kbt (kaa (pv 4) kae)) kae)))) (kbi (K:=K) (n:=3) rfl (kax (pgn (i:=5) qq.nd) (kax (pgn (i:=6) qq.nd) (kax (pgn (i:=7) qq.nd) kbh)))))
   (kac (ps_if (PW.pt (pw_or (kd0 (kaO (pcl VG hr1 W.Q2 (kaa (pv 6) kae)))) (kfn (kd0 (kaO (kao (r:=rIsi K) kaM (by rfl) W.B.isi b_isi (kaa (pv 5) (kaa (kfS (v:=.ty "list") (by rfl) W.B.list kbt rfl) kae)))))))) (kaf (kap pe_bl)) (kaq))
   (kac (psl (i:=8) qq.nd (kaW kae))
   (kac (kaP (pcl UU hr10 W.Qe (kaa (pv 4) (kaa (kaW kae) (kaa (pv 8) kae)))))
   (kac (psl (i:=9) qq.nd pe_bl)
   (kac (kbm PassesOwn.never rfl (kaG (K:=K) (pv 8)) (pgn (i:=10) qq.nd)
   (kac (psl (i:=11) qq.nd (pcl UV hr10 W.Vb (kaa (pv 2) (kaa (pv 3) (kaa (pv 4) (kaa (pv 10) kae))))))
   (kac (ps_if (PW.pt (ka7 (kan kdh (pv 11) ka3 (kat _)) (kaV (PW.pt (pw_or (kd0 (kaO (pcl VG hr1 W.Q2 (kaa (pv 11) kae)))) (kfn (kan op_lt (pv 11) (pv 6) (kat _)))))))) (kaf (kap pe_bl)) (kaq))
   (kaf (ps_if (PW.pt (ka7 (kan op_eq (pv 11) (pv 6) (kat _)) (kaV (kd0 (kaO (pv 9)))))) (kac (ps_if (kan (kmY hr.units0) (pv 10) (pv 5) (kat _)) (kaf (kap pe_bl)) (kaq))
   (kaf (psl (i:=9) qq.nd pe_bl))) (kaq))))))
   (kaf (kap (pv 9)))))))))))),?_⟩
  refine sN fun _ Y8=>?_
  refine Y8 _ _ ?_
  exists Y4
  refine⟨fun σ H'=>H'=H∧∃m:Nat,m≤5∧σ=[some (.ref a),some (iV m),none,none,none,none,none,none,none,none,none,none],?_,?_⟩
  ·exact⟨_,rfl,a,ns,1,rfl,hS,by decide,fun z=>⟨z,48271,2147483647,rfl,⟨by decide,by decide⟩,by decide,_,_,rfl,rfl,(by show(0:Int)<16;decide),rfl,_,rfl,ite2 (fun _=>⟨rfl,5,by decide,rfl⟩) (fun _=>⟨rfl,4,by decide,rfl⟩)⟩⟩
  rintro σ H' ⟨rfl,m,hm,rfl⟩
  symm
  exists Y4
  refine⟨_,rfl,_,rfl,a,ns,5,m,rfl,hS,hn,by decide,by omega,htb0,fun H1 w t b h T B hand s1 fh ew hT tok hB wf0 eh hl hnn hsum hr3 hrb=>?_⟩
  symm
  exists Y4
  refine⟨w,_,rfl,SqT.of ew,rfl,_,_,rfl,_,_,rfl,_,_,rfl,rfl,?_⟩
  symm
  exists Y4
  refine⟨fun σ H2=>∃(t b h:Addr)(T:TillD)(B:Bask)(hand:List Int),TillIs d H2 t T∧kb7 T∧BaskIs d.qf d.qh H2 b B∧Wf T.ps B (stnd0 B)∧H2 h=some (.lst (hand.map V.int))∧hand.length=T.vs.length∧(∀z∈hand,0≤z)∧hand.sum≤5∧σ=[some (.ref a),some (iV m),some (.ref t),some (.ref b),some (.ref h),none,none,none,none,none,none,none],?_,?_⟩
  ·obtain⟨lb,lsb,⟨dxb,fsb,hbb,b1,b2,b3⟩,hlb,hLb⟩:=id hB
   have hnl:=wf0.nl
   symm
   exists Y6
   refine⟨_,rfl,b,d.qh,dxb,fsb,_,rfl,hbb,W.qh.cl,W.Qz,b1,lb,rfl,⟨_,SqL.of hlb⟩,kba (xs:=lsb.map V.ref) (fun i σ ys H2=>H2=H1∧(∃zs:List Int,ys=zs.map V.int∧zs.length=i)∧∃v0:Option V,σ=[v0]) ⟨rfl,⟨[],rfl,rfl⟩,none,rfl⟩ (by rw[JM,hLb.len];exact Nc (kaw (by omega))) ?_ ?_ ?_⟩
   ·rintro i σ ys H2 hi ⟨rfl,⟨zs,rfl,hzl⟩,v0,rfl⟩
    nofun
    exact⟨SqL.of hlb,by rw[JM,hzl]⟩
   ·rintro i y σ ys H2 hy ⟨rfl,⟨zs,rfl,hzl⟩,v0,rfl⟩
    obtain⟨x,ex,rfl⟩:=kcl hy
    obtain⟨r,er,dx,fs,hx,k1,k2,k3,k4⟩:=hLb.at ex
    nofun
    exact⟨_,rfl,x,d.qf,dx,fs,_,rfl,hx,W.qf.cl,W.Qf,k3,rfl,⟨zs++[r.mn],by rw[JW];rfl,by rw[JZ,hzl];rfl⟩,_,rfl⟩
   ·rintro σ ys H2 ⟨rfl,⟨zs,rfl,hzl⟩,v0,rfl⟩ q fq
    exists H2,q,Hq,nq,eq,fq
    nofun
    exists Y8
    refine⟨q,_,rfl,SqL.of eq,_,_,rfl,rfl,_,rfl,ite2 (fun _=>?_) (fun _=>?_)⟩
    ·refine⟨_,rfl,a,ns,5,4,rfl,(s1.trans nq).seq hS,hn,by decide,by decide,Tbs.same (s1.trans nq) htb0,fun H3 w' t' b' h' T' B' hand' s3 fh' ew' hT' tok' hB' wf0' eh' hl' hnn' hsum' hr3' hrb'=>?_⟩
     exists 3
     exists Y10
     refine⟨w',_,rfl,SqT.of ew',rfl,_,_,rfl,_,_,rfl,_,_,rfl,rfl,?_⟩
     try first|apply Y10|apply Y8|apply Y6|apply Y4
     exact⟨t',b',h',T',B',hand',hT',tok',hB',wf0',eh',hl',hnn',by have:hand'.sum≤((4:Nat):Int):=hsum';omega,rfl⟩
    ·exact⟨t,b,h,T,B,hand,hT.same nq,tok,hB.same nq,wf0,nq _ _ eh,hl,hnn,by omega,rfl⟩
  clear hT tok hB wf0 eh hl hnn hsum hr3 hrb ew s1 fh
  rintro σ H2 ⟨t,b,h,T,B,hand,hT,tok,hB,wf0,eh,hl,hnn,hsum,rfl⟩
  have nv:=tok.nv
  have erem:remM hand []≤5:=by have:=kl6 hand hnn;omega
  have hz:∀z∈hand,0≤z∧z≤100:=fun z hz'=>⟨hnn z hz',by have:=kjR hnn z hz';omega⟩
  symm
  exists Y4
  refine⟨_,rfl,_,rfl,_,rfl,h,_,rfl, .inl (SqL.of eh),fun hd fhd=>?_⟩
  exists H2,hd,H3,n3,e3,fhd
  symm
  exists Y4
  refine⟨t,b,hd,T,B,hand,rfl,hT.same n3,tok,hB.same n3,wf0,e3,hl,hz,erem,fun H4 r ol pp ea s4 fpp npp er eol epp hents=>?_⟩
  have s24:=n3.trans s4
  symm
  exists Y4
  refine⟨r,_,rfl,SqT.of er,rfl,_,_,rfl,_,_,rfl,_,_,rfl,rfl,?_⟩
  obtain⟨kb,hst⟩:=khG (T:=T) (B:=B) tok wf0 hl hnn
  generalize hbm:bestM T B hand=bm at *
  clear hents
  symm
  exists Y4
  refine⟨_,rfl,bm.tot,rfl,_,rfl,iteF ⟨_,rfl,_,_,_,_,rfl, .inl ⟨_,rfl⟩,TyOf.lst eol,kb9 _ _,_,rfl,iteF ?_⟩⟩
  symm
  exists Y4
  refine⟨by decide,fun u fu=>?_⟩
  exists H4,u,H5,n5,e5,fu
  symm
  exists Y4
  refine⟨_,rfl,by decide,fun o fo=>?_⟩
  exists H5,o,H6,n6,e6,fo
  have s46:=n5.trans n6
  have s26:=s24.trans s46
  have eh4:=s24 _ _ eh
  have nhu:h≠u:=kag eh4 fu
  have nou:o≠u:=(kag e5 fo).symm
  have hlen:(kaU hand 10 []).length≤1000:=JR (kgH 10 []) (JR (kdD erem) (by decide))
  have eu6:=n6 _ _ e5
  symm
  exists Y4
  refine⟨_,rfl,h,o,u,hand,[],[],[],rfl,s46 _ _ eh4,nhu,e6,nou,eu6, .nil,by omega,by omega,by decide,by rw[M5];omega,fun H7 oa s7 e7 hoa=>?_⟩
  rw[NL] at hoa
  have s47:Same H4 H7:=(kbO s46 (keC (nx eu6)) fu).trans s7
  have s27:=s24.trans s47
  have lmem:=kgG (hand:=hand) 10 [] (fun n h=>by simp at h)
  generalize kaU hand 10 []=L at *
  have loa:=hoa.len
  have eol7:=s47 _ _ eol
  symm
  refine sN fun _ Y9=>?_
  symm
  refine Y9 _ _ ?_
  symm
  exists Y4
  refine⟨_,rfl,u,rfl,⟨_,SqL.of e7⟩,kbd (xs:=oa.map V.ref) (fun i σ H8=>Same H7 H8∧∃(v10 v11:Option V),σ=[some (.ref a),some (iV m),some (.ref t),some (.ref b),some (.ref h),some (.ref ol),some (.int bm.tot),some (.ref pp),some (.ref u),some (.bl (decide (kb<i))),v10,v11])
   ⟨Same.refl _,none,none,rfl⟩ (fun i σ H8 _ h=>SqL.of (h.1 _ _ e7)) ?_ ?_⟩
  ·rintro i y σ H8 hy ⟨sI,v10,v11,rfl⟩
   obtain⟨c,ec,rfl⟩:=kcl hy
   obtain⟨q,eq,ncu,hc⟩:=hoa.at ec
   obtain⟨q1,q2⟩:=lmem q (JT eq)
   rw[M5] at q2
   have s28:=s27.trans sI
   symm
   exists Y6
   refine⟨_,rfl,_,rfl,_,rfl,_,rfl,t,b,h,c,T,B,hand,q,rfl,hT.same s28,tok,hB.same s28,wf0,s28 _ _ eh,sI _ _ hc,hl,(fun n hn=>by rw[←hl];exact q1 n hn),by omega,fun H9 s9=>?_⟩
   unfold prV
   have sI9:=sI.trans s9
   have ed:i≠kb→decide (kb<i+1)=decide (kb<i):=fun n=>by
    rw[decide_eq_decide]
    omega
   cases hf:kbs T B hand q with
   | some z=>
    nofun
    exists Y8
    refine⟨_,rfl,rfl,_,rfl,?_⟩
    show if(!decide (V.non=V.non))=true then _ else _
    rw[show(!decide (V.non=V.non))=false by simp]
    refine iteF ?_
    refine iteF ?_
    exists 3
    exists Y8
    refine⟨_,rfl,_,rfl,rfl,_,rfl,?_⟩
    rw[show decide (V.non=V.int bm.tot)=false by simp]
    refine iteF ?_
    refine iteF ?_
    have n:i≠kb:=fun z=>by
     rw[z,hst.at_] at eq
     cases eq
     rw[hst.ok] at hf
     cases hf
    exists 3
    exact⟨sI9,_,_,by rw[ed n];rfl⟩
   | none=>
    obtain⟨p1,p2⟩:=hst.pre i q eq hf
    nofun
    exists Y8
    refine⟨_,rfl,rfl,_,rfl,?_⟩
    show if(!decide (V.int _=V.non))=true then _ else _
    rw[show(!decide (V.int (kbN T B q).total=V.non))=true by simp]
    refine iteT ?_
    exists 3
    exists Y8
    refine⟨_,rfl,(kbN T B q).total,rfl,_,rfl,iteF ?_⟩
    exists 3
    exists Y8
    refine⟨_,rfl,_,rfl,_,_,rfl,rfl,_,rfl,?_⟩
    rw[decide_eq_false (Int.not_lt.mpr p1)]
    refine iteF ?_
    exists 3
    exists Y8
    refine⟨_,rfl,_,rfl,rfl,_,rfl,?_⟩
    by_cases hv:(kbN T B q).total=bm.tot
    ·rw[show decide (V.int (kbN T B q).total=V.int bm.tot)=true by rw[hv];simp]
     refine iteT ?_
     by_cases hk:kb<i
     ·refine⟨_,rfl,_,rfl,?_⟩
      rw[decide_eq_true hk]
      refine iteF ?_
      exists 3
      exact⟨sI9,_,_,by rw[ed (by omega),decide_eq_true hk];rfl⟩
     ·have ek:i=kb:=by
       by_cases z:i<kb
       ·exact absurd hv (p2 z)
       ·omega
      exists 3
      exists Y12
      refine⟨_,rfl,_,rfl,?_⟩
      rw[decide_eq_false hk]
      refine iteT ?_
      subst ek
      rw[hst.at_] at eq
      cases eq
      try first|apply Y12|apply Y8|apply Y6|apply Y4
      exists Y12
      refine⟨_,rfl,_,rfl,c,ol,_,_,rfl,rfl,SqL.of (sI9 _ _ hc),SqL.of (sI9 _ _ eol7),kb3 _,kb3 _,_,rfl,?_⟩
      rw[kgR (kb3 _)]
      refine iteF ?_
      try first|apply Y12|apply Y8|apply Y6|apply Y4
      exact⟨sI9,_,_,by rw[decide_eq_true (MG i)];rfl⟩
    ·rw[show decide (V.int (kbN T B q).total=V.int bm.tot)=false by simp[hv]]
     refine iteF ?_
     refine iteF ?_
     have n:i≠kb:=fun z=>by
      rw[z,hst.at_] at eq
      cases eq
      exists 3
      exact hv hst.tt
     exists 3
     exact⟨sI9,_,_,by rw[ed n];rfl⟩
  ·rintro σ H8 ⟨sI,v10,v11,rfl⟩
   nofun
   exists Y6
   refine⟨_,rfl,?_⟩
   rw[JM,loa,decide_eq_true (JX.mp hst.at_).1]
   nofun
   exact k _
end
end Vs
namespace Vs
open PySem L2
theorem ln0{C:List Value→Prop}(k:C []):∀us:List Value,us.length=0→C us:=fun us h=>by
 cases us with
 |nil=>exact k
 |cons a us=>cases h
theorem lnS{C:List Value→Prop}{n:Nat}(k:∀(a:Value)(us:List Value),us.length=n→C (a::us)):∀us:List Value,us.length=n+1→C us:=fun us h=>by
 cases us with
 |nil=>cases h
 |cons a us=>exact k a us (Nat.succ.inj h)
def nL1{C:List Value→Prop}(k:∀a0:Value,C [a0]):∀us:List Value,us.length=1→C us:=lnS fun a0=>ln0 (k a0)
def nL2{C:List Value→Prop}(k:∀a0 a1:Value,C [a0,a1]):∀us:List Value,us.length=2→C us:=lnS fun a0=>lnS fun a1=>ln0 (k a0 a1)
def nL3{C:List Value→Prop}(k:∀a0 a1 a2:Value,C [a0,a1,a2]):∀us:List Value,us.length=3→C us:=lnS fun a0=>lnS fun a1=>lnS fun a2=>ln0 (k a0 a1 a2)
def nL4{C:List Value→Prop}(k:∀a0 a1 a2 a3:Value,C [a0,a1,a2,a3]):∀us:List Value,us.length=4→C us:=lnS fun a0=>lnS fun a1=>lnS fun a2=>lnS fun a3=>ln0 (k a0 a1 a2 a3)
def nL5{C:List Value→Prop}(k:∀a0 a1 a2 a3 a4:Value,C [a0,a1,a2,a3,a4]):∀us:List Value,us.length=5→C us:=lnS fun a0=>lnS fun a1=>lnS fun a2=>lnS fun a3=>lnS fun a4=>ln0 (k a0 a1 a2 a3 a4)
def nL6{C:List Value→Prop}(k:∀a0 a1 a2 a3 a4 a5:Value,C [a0,a1,a2,a3,a4,a5]):∀us:List Value,us.length=6→C us:=lnS fun a0=>lnS fun a1=>lnS fun a2=>lnS fun a3=>lnS fun a4=>lnS fun a5=>ln0 (k a0 a1 a2 a3 a4 a5)
def nL7{C:List Value→Prop}(k:∀a0 a1 a2 a3 a4 a5 a6:Value,C [a0,a1,a2,a3,a4,a5,a6]):∀us:List Value,us.length=7→C us:=lnS fun a0=>lnS fun a1=>lnS fun a2=>lnS fun a3=>lnS fun a4=>lnS fun a5=>lnS fun a6=>ln0 (k a0 a1 a2 a3 a4 a5 a6)
def bd_mk{K:JN}{fd:FuncData}{ps:List Str}{ds:List Value}{n:Nat}(hn:n+ds.length=ps.length)(k:∀s:Shared,K.In s.heap→∀us:List Value,us.length=n→BindsTo s fd ⟨us,[]⟩ (ps.zip (us++ds))):Binds K fd ps ds:=fun s us KX hl=>k s KX us (by rw[JZ] at hl;omega)
def dn_mk{K:JN}{st:Stmt}{ps:List Str}{f:Addr}{oc:Value}{od an:Option Addr}{osl:Array (Option Value)}{kV doc pm cdv ct:Value}{h:Heap}{mg:Str→Option Value}{x:Str}(X:K.In h)(G:h.Ns mainGlobals mg)(a:J7 K mainGlobals x=some (some (.ref f)))(l:K.lookup f=some ⟨oc,od, .func (J9 x x (kaE st) (kaC st) (kai st) .none kV doc pm an cdv ct),osl⟩)(c:Nz K cdv x=true)(k:J6 K (.ref f)=true)(b:∀(kV doc pm:Value)(an:Option Addr)(cdv ct:Value),∀us:List Value,us.length=ps.length→bindArgs (J9 x x (kaE st) (kaC st) (kai st) .none kV doc pm an cdv ct) ⟨us,[]⟩=pure (ps.zip us)):Dn K mg x st ps f (J9 x x (kaE st) (kaC st) (kai st) .none kV doc pm an cdv ct):=⟨kbr l c k,Binds.all (b _ _ _ _ _ _),Ni X G a⟩
def mt_mk{K:JN}{st:Stmt}{ps:List Str}{f:Addr}{oc:Value}{od an:Option Addr}{osl:Array (Option Value)}{kV doc pm cdv ct:Value}{m qual:Str}{C:Addr}(a:JP K (.ref C) m=some (some (.ref f)))(i:ND K (.ref f)=true)(l:K.lookup f=some ⟨oc,od, .func (J9 m qual (kaE st) (kaC st) (kai st) .none kV doc pm an cdv ct),osl⟩)(c:Nz K cdv qual=true)(k:J6 K (.ref f)=true)(b:∀(kV doc pm:Value)(an:Option Addr)(cdv ct:Value),∀us:List Value,us.length=ps.length→bindArgs (J9 m qual (kaE st) (kaC st) (kai st) .none kV doc pm an cdv ct) ⟨us,[]⟩=pure (ps.zip us)):MthT K C m qual st ps f (J9 m qual (kaE st) (kaC st) (kai st) .none kV doc pm an cdv ct):=⟨a,i,kbr l c k,Binds.all (b _ _ _ _ _ _)⟩
theorem all_mk{l:PySem.W.OpenLaw}{w:World}{K:JN}{h:Heap}{mg:Str→Option Value}{fa zes zfm z3c zen zgy z81 zgu zey zfc z1n z3f z21 z69 z3e zx z3u z7t z4d zb3 zfr zd8 z3n z52 z4o z2t zgo z4y z5d zd7 z6n z4s z9t z54 z4u z4j z3z z2a z2h z55 z4b z6v z6o zbh zk z1a z3j zg zs z1u zm z1s z66 ze z19 z3k za zv z1p zc zy z20 zb zu z1q zr z1i z4e zl zz z2c zd z41 z34 zo z9o z53 z6u z44 z3p zi z5p z5q zn z89 zq z1c z4f zp zj zh z1e z5s z4g z5o:Addr}{z78 z1z zj6 zgq zbr z5y zb6 z8y z42 z9f ze1 z8g zd9 zbw z5u zbv z82 z3g z8c zac z4w za5 z7z z31 z7u zcc z6j zcp zax z4m zao zc0 z6t zca z6a:Option Addr}{z7b ziy zbe zbu z9h z94 zdm zek zb9 zb7 z8i z7w zaa zat z7s z8d zc3 zcf zar zal zcd zcj z6b:Array (Option Value)}{z74 z26 z2g z2b zw z2o zio zgv zgt zgp zdx zgw zbi z5t z5r z5x z23 z60 zbd z9m z3v z46 z3x z1o z3y z9l ze4 z7q z7v z7p z4h z80 zdv zb8 z64 z5z z5w z24 z67 zaz z7m z2w z32 z35 z1b z2y z8f za9 z4z z5a z59 z1w z56 z9w z88 z2z z2v z38 z1l z33 z7j zc7 z6i z6k z6g z3l z6s zc5 z9u z57 z50 z5c z1v z4p zas zcm z6h z6r z6p z3i z6l zce z1x:Value}{zbb z30 z8z zdj zbt z86 zab z8n zcx za2 z2s zch z4a z2r z25 z28:Nat}{zer zf8 z3d zft zgr z8o zgs zeo zfq z1m z2x z2p z5n z39 z3q z8m z45 zbk zem zd4 z43 z5b z58 z2k zgx z4r z5f zd5 z6e z5e z9q z4q z51 z5g z3s z2e z2u z4n z47 z6c z6f z3o z3h z9n z4k z6m z49 z3w z61 z63 z83 z68:FuncData}{zf:Array Value}{z2i:Str}{z29 z2l:Int}{z2m:Bool}{ts:List Addr}(X:K.In h)(G:h.Ns mainGlobals mg)(hfa:mg "law"=some (.ref fa))
  (zi9:Dn K mg "dealt" khj ["cut","weights"] zes zer)
  (zhq:Dn K mg "under" khg ["parents","one","other"] zfm zf8)
  (z8b:Dn K mg "price_of_piece" kbG ["line","member"] z3c z3d)
  (zia:Dn K mg "about" keA ["voucher","parents","basket","standing"] zen zft)
  (ziu:Dn K mg "fits" kjw ["marks","parents","kind","marked"] zgy zgr)
  (zdg:Dn K mg "hindrance" kdd ["voucher","parents","basket","standing"] z81 z8o)
  (zir:Dn K mg "cuts" kjx ["voucher","parents","basket","standing"] zgu zgs)
  (zim:Dn K mg "after" khk ["voucher","parents","basket","standing"] zey zeo)
  (zi7:Dn K mg "reach" khh ["voucher","parents","basket","standing"] zfc zfq)
  (z5l:Dn K mg "reach_without_most" kbg ["voucher","standing","together"] z1n z1m)
  (z7r:Dn K mg "cuts_of_pieces" kbI ["voucher","parents","basket","standing"] z3f z2x)
  (z76:Dn K mg "cut_of_carriage" kbv ["voucher","standing"] z21 z2p)
  (zb0:Dn K mg "wanted_cuts" kbb ["voucher","standing","pieces"] z69 z5n)
  (z85:Dn K mg "parted_by_line" kbH ["standing","pieces"] z3e z39)
  (z7x:J7 K mainGlobals "falling_groups"=some (some (.ref zx))) (z7o:K.lookup zx=some ⟨z74,z78, .func (J9 "falling_groups" "falling_groups" (kaE kaF) (kaC kaF) (kai kaF) .none z26 z2g z2b z1z zw z2o),z7b⟩) (z7y:Nz K zw "falling_groups"=true) (z8k:J6 K (.ref zx)=true)
  (z9g:Dn K mg "marked_behind" kbS ["voucher","standing","piece_cuts"] z3u z3q)
  (zdd:Dn K mg "prices_of" kcr ["standing","pieces"] z7t z8m)
  (z9i:Dn K mg "sum_of_prices" kbR ["standing","pieces"] z4d z45)
  (zgl:Dn K mg "at_most" kez ["most","number"] zb3 zbk)
  (zhm:Dn K mg "fault" khi ["till","basket","hand","order"] zfr zem)
  (zhd:Dn K mg "way_by" kfM ["till","basket","hand","order"] zd8 zd4)
  (z8w:Dn K mg "word_of_order" kbQ ["till","hand","used","number"] z3n z43)
  (zaj:Dn K mg "breaks_never" kcc ["rules","used","number"] z52 z5b)
  (zaw:Dn K mg "breaks_ahead" kcd ["rules","used","number"] z4o z58)
  (z7e:Dn K mg "without_company" kbu ["rules","order"] z2t z2k)
  (zjc:Dn K mg "best" kjy ["till","basket","hand"] zgo zgx)
  (z9y:Dn K mg "least_behind" kcb ["way"] z4y z4r)
  (z9x:Dn K mg "many_to_come" kca ["way","number"] z5d z5f)
  (zh8:Dn K mg "priced" kfN ["till","basket","hand","order"] zd7 zd5)
  (zcu:Dn K mg "_law_whole" kcJ ["_law_found"] z6n z6e)
  (za7:Dn K mg "_law_cell_at" kci ["_law_script","_law_k"] z4s z5e)
  (zfi:Dn K mg "_law_mix" kdN ["_law_cell","_law_factor","_law_prime"] z9t z9q)
  (zap:Dn K mg "_law_coin_by" kch ["_law_cell"] z54 z4q)
  (za3:Dn K mg "_law_coin_of" kcg ["_law_cell","_law_scale"] z4u z51)
  (zag:Dn K mg "_law_line_by" kce ["_law_cell","_law_kinds","_law_scale","_law_most"] z4j z5g)
  (z8t:Dn K mg "_law_marks_by" kbU ["_law_cell","_law_kinds","_law_scale"] z3z z3s)
  (z6z:Dn K mg "_law_voucher_by" kbw ["_law_cell","_law_kinds","_law_scale"] z2a z2e)
  (z77:Dn K mg "_law_parents_by" kbx ["_law_cell"] z2h z2u)
  (za8:Dn K mg "_law_hand_by" kcf ["_law_more_held","_law_vouchers","_law_most_held","_law_first"] z55 z4n)
  (z8s:Dn K mg "_law_world_by" kbT ["_law_script","_law_most_vouchers","_law_most_held"] z4b z47)
  (zcb:Dn K mg "_law_lists" kcL ["_law_hand","_law_ahead","_law_out"] z6v z6c)
  (zct:Dn K mg "_law_price" kcK ["_law_till","_law_basket","_law_hand","_law_order"] z6o z6f)
  (zhx:J7 K mainGlobals "law"=some (some (.ref zbh))) (zjg:K.lookup zbh=some ⟨zio,zj6, .func (J9 "law" "law" (kaE s_law) (kaC s_law) (kai s_law) .none zgv zgt zgp zgq zdx zgw),ziy⟩) (zje:Nz K zdx "law"=true) (zjh:J6 K (.ref zbh)=true)
  (zif:J7 K mainGlobals "Marks"=some (some (.ref zk)))
  (zh0:JU K zk (.type "object")=some true) (zhb:JU K zk (.ref zk)=some true) (zhc:Ny K (.ref zk)=some (.type "type"))
  (inX:MH K (.builtin "object.__class__") "__get__"=some (some (.builtin "getset_descriptor.__get__"))) (itX:Es K (.builtin "object.__class__")=some true)
  (zh9:Nx K zk Str.empty=true) (zhj:NC K zk=true) (zh4:NK K zk=true) (zhi:JP K (.ref zk) "__setattr__"=some (some (.builtin "object.__setattr__"))) (zha:NF K zk=true) (zhf:J6 K (.ref zk)=true) (zhe:JP K (.ref zk) "__class__"=some (some (.builtin "object.__class__")))
  (zcz:JP K (.ref zk) "kind"=some none)
  (zb5:JP K (.ref zk) "needs"=some none)
  (zc9:JP K (.ref zk) "most"=some none)
  (zah:JP K (.ref zk) "member"=some none)
  (zco:JP K (.ref zk) "once"=some none)
  (zcs:JP K (.ref zk) "lone"=some none)
  (zcr:JP K (.ref zk) "__init__"=some (some (.ref z1a))) (zd1:ND K (.ref z1a)=true) (zcl:K.lookup z1a=some ⟨zbi,zbr, .func (J9 "__init__" "Marks.__init__" (kaE kaZ) (kaC kaZ) (kai kaZ) (.ref z3j) z5t z5r z5x z5y z23 z60),zbe⟩) (zcn:Nz K z23 "Marks.__init__"=true) (zd2:J6 K (.ref z1a)=true) (zt:K.lookup z3j=some ⟨zbd,zb6, .seq #[.none, .int 0 z30, .none, .bool false, .bool false, .bool false] zbb,zbu⟩)
  (zg7:J7 K mainGlobals "Voucher"=some (some (.ref zg)))
  (zev:JU K zg (.type "object")=some true) (zf1:JU K zg (.ref zg)=some true) (zfo:Ny K (.ref zg)=some (.type "type"))
  (zf9:Nx K zg Str.empty=true) (zfk:NC K zg=true) (zfd:NK K zg=true) (zew:JP K (.ref zg) "__setattr__"=some (some (.builtin "object.__setattr__"))) (zf6:NF K zg=true) (zf5:J6 K (.ref zg)=true) (zeu:JP K (.ref zg) "__class__"=some (some (.builtin "object.__class__")))
  (zan:JP K (.ref zg) "__init__"=some (some (.ref zs))) (zaq:ND K (.ref zs)=true) (zav:K.lookup zs=some ⟨z9m,z8y, .func (J9 "__init__" "Voucher.__init__" (kaE kaN) (kaC kaN) (kai kaN) (.ref z1u) z3v z46 z3x z42 z1o z3y),z9h⟩) (za6:Nz K z1o "Voucher.__init__"=true) (za4:J6 K (.ref zs)=true) (z5i:K.lookup z1u=some ⟨z9l,z9f, .seq #[.none] z8z,z94⟩)
  (zhz:J7 K mainGlobals "Off"=some (some (.ref zm)))
  (z84:JU K zm (.type "object")=some true) (z7l:JU K zm (.ref zm)=some true) (z8l:Ny K (.ref zm)=some (.type "type"))
  (zj2:Nx K zm Str.empty=true) (zit:NC K zm=true) (zj5:NK K zm=true) (zjd:JP K (.ref zm) "__setattr__"=some (some (.builtin "object.__setattr__"))) (zj9:NF K zm=true) (zis:J6 K (.ref zm)=true) (ziq:JP K (.ref zm) "__class__"=some (some (.builtin "object.__class__")))
  (zcq:JP K (.ref zm) "amount"=some none)
  (zde:JP K (.ref zm) "marks"=some none)
  (zeq:JP K (.ref zm) "__init__"=some (some (.ref z1s))) (zfn:ND K (.ref z1s)=true) (zfh:K.lookup z1s=some ⟨ze4,ze1, .func (J9 "__init__" "Off.__init__" (kaE kbk) (kaC kbk) (kai kbk) (.ref z66) z7q z7v z7p z8g z4h z80),zdm⟩) (zf2:Nz K z4h "Off.__init__"=true) (zf0:J6 K (.ref z1s)=true) (z9r:K.lookup z66=some ⟨zdv,zd9, .seq #[.none] zdj,zek⟩)
  (zet:J7 K mainGlobals "Share"=some (some (.ref ze)))
  (z3t:JU K ze (.type "object")=some true) (z4c:JU K ze (.ref ze)=some true) (z40:Ny K (.ref ze)=some (.type "type"))
  (zh5:Nx K ze Str.empty=true) (zhg:NC K ze=true) (zh6:NK K ze=true) (zh7:JP K (.ref ze) "__setattr__"=some (some (.builtin "object.__setattr__"))) (zgz:NF K ze=true) (zh1:J6 K (.ref ze)=true) (zhh:JP K (.ref ze) "__class__"=some (some (.builtin "object.__class__")))
  (zbm:JP K (.ref ze) "share"=some none)
  (z9b:JP K (.ref ze) "by_line"=some none)
  (zba:JP K (.ref ze) "marks"=some none)
  (zc1:JP K (.ref ze) "__init__"=some (some (.ref z19))) (zc2:ND K (.ref z19)=true) (zc8:K.lookup z19=some ⟨zb8,zbw, .func (J9 "__init__" "Share.__init__" (kaE kaY) (kaC kaY) (kai kaY) (.ref z3k) z64 z5z z5w z5u z24 z67),zb9⟩) (zcg:Nz K z24 "Share.__init__"=true) (zc4:J6 K (.ref z19)=true) (z3m:K.lookup z3k=some ⟨zaz,zbv, .seq #[.bool false, .none] zbt,zb7⟩)
  (z9p:J7 K mainGlobals "Cheapest"=some (some (.ref za)))
  (z1d:JU K za (.type "object")=some true) (z1j:JU K za (.ref za)=some true) (z1g:Ny K (.ref za)=some (.type "type"))
  (zdw:Nx K za Str.empty=true) (zej:NC K za=true) (ze8:NK K za=true) (ze5:JP K (.ref za) "__setattr__"=some (some (.builtin "object.__setattr__"))) (ze3:NF K za=true) (zec:J6 K (.ref za)=true) (ze6:JP K (.ref za) "__class__"=some (some (.builtin "object.__class__")))
  (z8v:JP K (.ref za) "many"=some none)
  (z8e:JP K (.ref za) "marks"=some none)
  (z90:JP K (.ref za) "__init__"=some (some (.ref zv))) (z9c:ND K (.ref zv)=true) (z9e:K.lookup zv=some ⟨z7m,z82, .func (J9 "__init__" "Cheapest.__init__" (kaE kaH) (kaC kaH) (kai kaH) (.ref z1p) z2w z32 z35 z3g z1b z2y),z8i⟩) (z8r:Nz K z1b "Cheapest.__init__"=true) (z93:J6 K (.ref zv)=true) (z48:K.lookup z1p=some ⟨z8f,z8c, .seq #[.none] z86,z7w⟩)
  (zd6:J7 K mainGlobals "Bundle"=some (some (.ref zc)))
  (z27:JU K zc (.type "object")=some true) (z2f:JU K zc (.ref zc)=some true) (z22:Ny K (.ref zc)=some (.type "type"))
  (zg8:Nx K zc Str.empty=true) (zfv:NC K zc=true) (zgd:NK K zc=true) (zg9:JP K (.ref zc) "__setattr__"=some (some (.builtin "object.__setattr__"))) (zfz:NF K zc=true) (zgm:J6 K (.ref zc)=true) (zgi:JP K (.ref zc) "__class__"=some (some (.builtin "object.__class__")))
  (zay:JP K (.ref zc) "many"=some none)
  (za0:JP K (.ref zc) "price"=some none)
  (za1:JP K (.ref zc) "marks"=some none)
  (zbn:JP K (.ref zc) "__init__"=some (some (.ref zy))) (zb4:ND K (.ref zy)=true) (zbs:K.lookup zy=some ⟨za9,zac, .func (J9 "__init__" "Bundle.__init__" (kaE kaR) (kaC kaR) (kai kaR) (.ref z20) z4z z5a z59 z4w z1w z56),zaa⟩) (zby:Nz K z1w "Bundle.__init__"=true) (zbg:J6 K (.ref zy)=true) (z65:K.lookup z20=some ⟨z9w,za5, .seq #[.none] zab,zat⟩)
  (z9s:J7 K mainGlobals "Carriage"=some (some (.ref zb)))
  (z1f:JU K zb (.type "object")=some true) (z1h:JU K zb (.ref zb)=some true) (z1k:Ny K (.ref zb)=some (.type "type"))
  (ze0:Nx K zb Str.empty=true) (zdi:NC K zb=true) (zee:NK K zb=true) (zdu:JP K (.ref zb) "__setattr__"=some (some (.builtin "object.__setattr__"))) (zdk:NF K zb=true) (zdz:J6 K (.ref zb)=true) (zds:JP K (.ref zb) "__class__"=some (some (.builtin "object.__class__")))
  (z7n:JP K (.ref zb) "marks"=some none)
  (z95:JP K (.ref zb) "__init__"=some (some (.ref zu))) (z8p:ND K (.ref zu)=true) (z9d:K.lookup zu=some ⟨z88,z7z, .func (J9 "__init__" "Carriage.__init__" (kaE kaI) (kaC kaI) (kai kaI) (.ref z1q) z2z z2v z38 z31 z1l z33),z7s⟩) (z9j:Nz K z1l "Carriage.__init__"=true) (z8u:J6 K (.ref zu)=true) (z3r:K.lookup z1q=some ⟨z7j,z7u, .seq #[.none] z8n,z8d⟩)
  (ziz:J7 K mainGlobals "Line"=some (some (.ref zr)))
  (zie:JU K zr (.type "object")=some true) (zib:JU K zr (.ref zr)=some true) (zhr:Ny K (.ref zr)=some (.type "type"))
  (zi8:Nx K zr Str.empty=true) (zi5:NC K zr=true) (zi4:NK K zr=true) (zil:JP K (.ref zr) "__setattr__"=some (some (.builtin "object.__setattr__"))) (zic:NF K zr=true) (zik:J6 K (.ref zr)=true) (zid:JP K (.ref zr) "__class__"=some (some (.builtin "object.__class__")))
  (ze7:JP K (.ref zr) "kind"=some none)
  (zci:JP K (.ref zr) "price"=some none)
  (zeg:JP K (.ref zr) "many"=some none)
  (z9v:JP K (.ref zr) "special"=some none)
  (zed:JP K (.ref zr) "__init__"=some (some (.ref z1i))) (zda:ND K (.ref z1i)=true) (zdf:K.lookup z1i=some ⟨zc7,zcc, .func (J9 "__init__" "Line.__init__" (kaE ka5) (kaC ka5) (kai ka5) (.ref z4e) z6i z6k z6g z6j z3l z6s),zc3⟩) (zeb:Nz K z3l "Line.__init__"=true) (zdr:J6 K (.ref z1i)=true) (z8j:K.lookup z4e=some ⟨zc5,zcp, .seq #[.none] zcx,zcf⟩)
  (zh2:J7 K mainGlobals "Basket"=some (some (.ref zl)))
  (zg4:JU K zl (.type "object")=some true) (zg2:JU K zl (.ref zl)=some true) (zfx:Ny K (.ref zl)=some (.type "type"))
  (zg3:Nx K zl Str.empty=true) (zg5:NC K zl=true) (zfy:NK K zl=true) (zgn:JP K (.ref zl) "__setattr__"=some (some (.builtin "object.__setattr__"))) (zgj:NF K zl=true) (zgc:J6 K (.ref zl)=true) (zgh:JP K (.ref zl) "__class__"=some (some (.builtin "object.__class__")))
  (z9z:JP K (.ref zl) "lines"=some none)
  (z7c:JP K (.ref zl) "carriage"=some none)
  (z91:JP K (.ref zl) "member"=some none)
  (zb2:JP K (.ref zl) "__init__"=some (some (.ref zz))) (zb1:ND K (.ref zz)=true) (zbo:K.lookup zz=some ⟨z9u,zax, .func (J9 "__init__" "Basket.__init__" (kaE kaS) (kaC kaS) (kai kaS) (.ref z2c) z57 z50 z5c z4m z1v z4p),zar⟩) (zbx:Nz K z1v "Basket.__init__"=true) (zbl:J6 K (.ref zz)=true) (z1y:K.lookup z2c=some ⟨zas,zao, .seq #[.int 0 z2s, .bool false] za2,zal⟩)
  (zfg:J7 K mainGlobals "Standing"=some (some (.ref zd)))
  (zdy:JU K zd (.type "object")=some true) (zdh:JU K zd (.ref zd)=some true) (zdp:Ny K (.ref zd)=some (.type "type"))
  (zel:Nx K zd Str.empty=true) (zei:NC K zd=true) (zdn:NK K zd=true) (zdb:JP K (.ref zd) "__setattr__"=some (some (.builtin "object.__setattr__"))) (zdo:NF K zd=true) (zef:J6 K (.ref zd)=true) (zea:JP K (.ref zd) "__class__"=some (some (.builtin "object.__class__")))
  (z7f:JP K (.ref zd) "owners"=some none)
  (z6w:JP K (.ref zd) "prices"=some none)
  (z62:JP K (.ref zd) "carriage"=some none)
  (z75:JP K (.ref zd) "marked"=some none)
  (z92:MthT K zd "__init__" "Standing.__init__" kbW ["self","basket"] z41 z3o)
  (z8a:MthT K zd "whole" "Standing.whole" kbJ ["self"] z34 z3h)
  (zjf:J7 K mainGlobals "Way"=some (some (.ref zo)))
  (zj3:JU K zo (.type "object")=some true) (ziw:JU K zo (.ref zo)=some true) (zja:Ny K (.ref zo)=some (.type "type"))
  (zj7:Nx K zo Str.empty=true) (zj0:NC K zo=true) (zjb:NK K zo=true) (ziv:JP K (.ref zo) "__setattr__"=some (some (.builtin "object.__setattr__"))) (zin:NF K zo=true) (zj8:J6 K (.ref zo)=true) (zj1:JP K (.ref zo) "__class__"=some (some (.builtin "object.__class__")))
  (zf3:JP K (.ref zo) "till"=some none)
  (zcy:JP K (.ref zo) "basket"=some none)
  (zf4:JP K (.ref zo) "hand"=some none)
  (zfs:JP K (.ref zo) "used"=some none)
  (zam:JP K (.ref zo) "standing"=some none)
  (zfb:MthT K zo "__init__" "Way.__init__" kdO ["self","till","basket","hand"] z9o z9n)
  (zae:MthT K zo "word_for" "Way.word_for" kck ["self","number"] z53 z4k)
  (zd3:MthT K zo "behind" "Way.behind" kcM ["self","number"] z6u z6m)
  (z8x:MthT K zo "followers" "Way.followers" kbp ["self"] z44 z49)
  (z97:MthT K zo "is_let_by" "Way.is_let_by" kbV ["self"] z3p z3w)
  (zh3:J7 K mainGlobals "Search"=some (some (.ref zi)))
  (zge:JU K zi (.type "object")=some true) (zfw:JU K zi (.ref zi)=some true) (zg1:Ny K (.ref zi)=some (.type "type"))
  (zgb:Nx K zi Str.empty=true) (zga:NC K zi=true) (zgf:NK K zi=true) (zg6:JP K (.ref zi) "__setattr__"=some (some (.builtin "object.__setattr__"))) (zgk:NF K zi=true) (zgg:J6 K (.ref zi)=true) (zg0:JP K (.ref zi) "__class__"=some (some (.builtin "object.__class__")))
  (zad:JP K (.ref zi) "order"=some none)
  (zak:JP K (.ref zi) "total"=some none)
  (zaf:JP K (.ref zi) "paper"=some none)
  (zbj:MthT K zi "__init__" "Search.__init__" kct ["self","way"] z5p z61)
  (zbc:MthT K zi "meet" "Search.meet" kcs ["self","way"] z5q z63)
  (zix:J7 K mainGlobals "Bill"=some (some (.ref zn)))
  (zi0:JU K zn (.type "object")=some true) (zhp:JU K zn (.ref zn)=some true) (zhw:Ny K (.ref zn)=some (.type "type"))
  (zig:Nx K zn Str.empty=true) (zij:NC K zn=true) (zhu:NK K zn=true) (zhs:JP K (.ref zn) "__setattr__"=some (some (.builtin "object.__setattr__"))) (zii:NF K zn=true) (zi1:J6 K (.ref zn)=true) (zhn:JP K (.ref zn) "__class__"=some (some (.builtin "object.__class__")))
  (zcw:JP K (.ref zn) "order"=some none)
  (zd0:JP K (.ref zn) "steps"=some none)
  (zbp:JP K (.ref zn) "prices"=some none)
  (z8q:JP K (.ref zn) "carriage"=some none)
  (zck:JP K (.ref zn) "total"=some none)
  (zdl:MthT K zn "__init__" "Bill.__init__" kde ["self","order","steps","standing"] z89 z83)
  (zj4:J7 K mainGlobals "Till"=some (some (.ref zq)))
  (zi3:JU K zq (.type "object")=some true) (zi2:JU K zq (.ref zq)=some true) (zhy:Ny K (.ref zq)=some (.type "type"))
  (zhk:Nx K zq Str.empty=true) (zih:NC K zq=true) (zhl:NK K zq=true) (zht:JP K (.ref zq) "__setattr__"=some (some (.builtin "object.__setattr__"))) (zhv:NF K zq=true) (zi6:J6 K (.ref zq)=true) (zho:JP K (.ref zq) "__class__"=some (some (.builtin "object.__class__")))
  (zai:JP K (.ref zq) "parents"=some none)
  (z98:JP K (.ref zq) "vouchers"=some none)
  (zc6:JP K (.ref zq) "rules"=some none)
  (zdt:JP K (.ref zq) "back"=some none)
  (zeh:JP K (.ref zq) "__init__"=some (some (.ref z1c))) (zdc:ND K (.ref z1c)=true) (zdq:K.lookup z1c=some ⟨zcm,zc0, .func (J9 "__init__" "Till.__init__" (kaE ka4) (kaC ka4) (kai ka4) (.ref z4f) z6h z6r z6p z6t z3i z6l),zcd⟩) (ze9:Nz K z3i "Till.__init__"=true) (ze2:J6 K (.ref z1c)=true) (z8h:K.lookup z4f=some ⟨zce,zca, .seq #[.str "again" z4a] zch,zcj⟩)
  (z99:PySem.W.readsIn K zg (.type "type")=true) (z96:MH K (.ref zg) "__getattribute__"=some (some (.builtin "type.__getattribute__"))) (z9a:PySem.W.findCls K (.ref zg) (.type "type") "__init__"=some (.val (.ref zs)))
  (z7k:JU K ze (.ref zm)=some false)
  (z4t:JU K za (.ref zm)=some false)
  (z6d:JU K zc (.ref zm)=some false)
  (z4l:JU K zb (.ref zm)=some false)
  (z87:JU K zm (.ref ze)=some false)
  (z36:JU K za (.ref ze)=some false)
  (z5j:JU K zc (.ref ze)=some false)
  (z3b:JU K zb (.ref ze)=some false)
  (z4x:JU K zm (.ref za)=some false)
  (z3a:JU K ze (.ref za)=some false)
  (z2d:JU K zc (.ref za)=some false)
  (z1r:JU K zb (.ref za)=some false)
  (z6q:JU K zm (.ref zc)=some false)
  (z5h:JU K ze (.ref zc)=some false)
  (z2j:JU K za (.ref zc)=some false)
  (z2q:JU K zb (.ref zc)=some false)
  (z4v:JU K zm (.ref zb)=some false)
  (z37:JU K ze (.ref zb)=some false)
  (z1t:JU K za (.ref zb)=some false)
  (z2n:JU K zc (.ref zb)=some false)
  (z6y:zw=.ref zp)
  (z6x:K.lookup zp=some ⟨z1x,z6a, .fields zf,z6b⟩)
  (z7a:z1x=.type "code")
  (z70:zf[11]?=some (.ref zj))
  (z79:zf.getD 11 .none=.ref zj)
  (z72:zf.getD 18 .none=.str z2i z2r)
  (z7i:zf.getD 7 .none=.int z29 z25)
  (z7d:zf.getD 9 .none=.bool z2m)
  (z73:zf.getD 10 .none=.int z2l z28)
  (z7h:zp≠zj)
  (z7g:K.lookup zj=none)
  (z71:zj∈ts)
  (zfe:J7 K mainGlobals "NotLet"=some (some (.ref zh)))
  (zbf:J7 K mainGlobals "TillError"=some (some (.ref z1e)))
  (zcv:J7 K mainGlobals "NoPieces"=some (some (.ref z5s)))
  (zbq:J7 K mainGlobals "LineError"=some (some (.ref z4g)))
  (zfa:∃(nm q:Str)(N:Addr)(bs:List Value)(sn:List Str)(sub:List Value)(ab:Bool)(col:Option Bool)(dd:Option Addr)(k0 k1 k2 k3 k5:Option Value),K.lookup zh=some (excClassObj nm q zh N bs (.ref z1e::veL) true sn sub ab col dd k0 k1 k2 k3 k5 "ValueError.__new__"))
  (zff:EH K z1e veL "ValueError.__new__"=true)
  (zep:JP K (.ref zh) "__setattr__"=some (some (.builtin "object.__setattr__")))
  (zfj:JP K (.ref zh) "__getattribute__"=some (some (.builtin "BaseException.__getattribute__")))
  (zez:JP K (.ref zh) "__getattr__"=some none)
  (zfp:JP K (.ref zh) "__class__"=some (some (.builtin "object.__class__")))
  (zex:Ez K (.ref zh) (.type "BaseException")=some true)
  (zf7:JU K zh (.type "object")=some true)
  (zfl:(PySem.W.clsIn K zh).isSome=true)
  (zfu:J6 K (.ref zh)=true)
  (zbz:MthT K zh "__init__" "NotLet.__init__" kcu ["self","place","word"] z5o z68)
  (z9k:JP K (.ref zh) "place"=some none)
  (zau:JP K (.ref zh) "word"=some none)
  (z5k:EG K (.ref zh) (.ref z1e)=some true)
  (z5v:J4 K (.ref zh) (.ref z5s)=some false)
  (z5m:J4 K (.ref zh) (.ref z4g)=some false)
  (z4i:J4 K (.ref zh) (.type "ValueError")=some true)
  (zVE:J7 K mainGlobals "ValueError"=some none)
  (z1:J7 K mainGlobals "range"=some none)
  (z2:J7 K mainGlobals "len"=some none)
  (z3:J7 K mainGlobals "min"=some none)
  (z4:J7 K mainGlobals "max"=some none)
  (z5:J7 K mainGlobals "isinstance"=some none)
  (z6:J7 K mainGlobals "bool"=some none)
  (z7:J7 K mainGlobals "int"=some none)
  (z8:J7 K mainGlobals "list"=some none)
  (z9:J7 K mainGlobals "sum"=some none)
  (z10:J7 K mainGlobals "enumerate"=some none)
  (z11:J7 K mainGlobals "any"=some none)
  (z12:J7 K mainGlobals "all"=some none)
  (z13:J7 K mainGlobals "reversed"=some none)
  (z14:J7 K mainGlobals "zip"=some none)
  (z15:J7 K mainGlobals "abs"=some none)
  (z16:J7 K mainGlobals "sorted"=some none)
  (z17:J7 K mainGlobals "tuple"=some none)
  (z18:J7 K mainGlobals "str"=some none)
  :∃(fd:FuncData)(tP c0:Addr),tP∈ts∧CodeK K c0 tP∧K.lookup tP=none∧(∀(s:Shared)(v:Value),BindsTo s fd ⟨[v],[]⟩ [("_law_script",v)])∧∀base:Heap,K.In base→base.Ns mainGlobals mg→BltM mg base→FnOk l.prog w K mg base CX0 18 fa fd ["_law_script"] (kge K tP):=by
 have e:=hfa.symm.trans (Ni X G zhx)
 have hf:zbh=fa:=by
  injection e with e
  injection e with e
  exact e.symm
 subst hf
 have B:TxtB mg:=⟨Nv X G z1,Nv X G z2,Nv X G z3,Nv X G z4,Nv X G z5,Nv X G z6,Nv X G z7,Nv X G z8,Nv X G z9,Nv X G z10,Nv X G z11,Nv X G z12,Nv X G z13,Nv X G z14,Nv X G z15,Nv X G z16,Nv X G z17,Nv X G z18⟩
 have W:Wld K mg ⟨(zes),(zer),(zfm),(zf8),(z3c),(z3d),(zen),(zft),(zgy),(zgr),(z81),(z8o),(zgu),(zgs),(zey),(zeo),(zfc),(zfq),(z1n),(z1m),(z3f),(z2x),(z21),(z2p),(z69),(z5n),(z3e),(z39),(zx),(J9 "falling_groups" "falling_groups" (kaE kaF) (kaC kaF) (kai kaF) .none z26 z2g z2b z1z zw z2o),(z3u),(z3q),(z7t),(z8m),(z4d),(z45),(zb3),(zbk),(zfr),(zem),(zd8),(zd4),(z3n),(z43),(z52),(z5b),(z4o),(z58),(z2t),(z2k),(zgo),(zgx),(z4y),(z4r),(z5d),(z5f),(zd7),(zd5),(z6n),(z6e),(z4s),(z5e),(z9t),(z9q),(z54),(z4q),(z4u),(z51),(z4j),(z5g),(z3z),(z3s),(z2a),(z2e),(z2h),(z2u),(z55),(z4n),(z4b),(z47),(z6v),(z6c),(z6o),(z6f),(zbh),(J9 "law" "law" (kaE s_law) (kaC s_law) (kai s_law) .none zgv zgt zgp zgq zdx zgw),(zk),(z1a),(J9 "__init__" "Marks.__init__" (kaE kaZ) (kaC kaZ) (kai kaZ) (.ref z3j) z5t z5r z5x z5y z23 z60),(z30),(zg),(zs),(J9 "__init__" "Voucher.__init__" (kaE kaN) (kaC kaN) (kai kaN) (.ref z1u) z3v z46 z3x z42 z1o z3y),(zm),(z1s),(J9 "__init__" "Off.__init__" (kaE kbk) (kaC kbk) (kai kbk) (.ref z66) z7q z7v z7p z8g z4h z80),(ze),(z19),(J9 "__init__" "Share.__init__" (kaE kaY) (kaC kaY) (kai kaY) (.ref z3k) z64 z5z z5w z5u z24 z67),(za),(zv),(J9 "__init__" "Cheapest.__init__" (kaE kaH) (kaC kaH) (kai kaH) (.ref z1p) z2w z32 z35 z3g z1b z2y),(zc),(zy),(J9 "__init__" "Bundle.__init__" (kaE kaR) (kaC kaR) (kai kaR) (.ref z20) z4z z5a z59 z4w z1w z56),(zb),(zu),(J9 "__init__" "Carriage.__init__" (kaE kaI) (kaC kaI) (kai kaI) (.ref z1q) z2z z2v z38 z31 z1l z33),(zr),(z1i),(J9 "__init__" "Line.__init__" (kaE ka5) (kaC ka5) (kai ka5) (.ref z4e) z6i z6k z6g z6j z3l z6s),(zl),(zz),(J9 "__init__" "Basket.__init__" (kaE kaS) (kaC kaS) (kai kaS) (.ref z2c) z57 z50 z5c z4m z1v z4p),(z2s),(zd),(z41),(z3o),(z34),(z3h),(zo),(z9o),(z9n),(z53),(z4k),(z6u),(z6m),(z44),(z49),(z3p),(z3w),(zi),(z5p),(z61),(z5q),(z63),(zn),(z89),(z83),(zq),(z1c),(J9 "__init__" "Till.__init__" (kaE ka4) (kaC ka4) (kai ka4) (.ref z4f) z6h z6r z6p z6t z3i z6l),(z4a),(zp),(zj),(zh),(z1e),(z5s),(z4g),(z5o),(z68)⟩:=⟨B,zi9,zhq,z8b,zia,ziu,zdg,zir,zim,zi7,z5l,z7r,z76,zb0,z85,⟨(kbr z7o z7y z8k),(Binds.all (nL3 fun _ _ _=>rfl)),Ni X G z7x⟩,z9g,zdd,z9i,zgl,zhm,zhd,z8w,zaj,zaw,z7e,zjc,z9y,z9x,zh8,zcu,za7,zfi,zap,za3,zag,z8t,z6z,z77,za8,z8s,zcb,zct,⟨(kbr zjg zje zjh),(Binds.all (nL1 fun _=>rfl)),Ni X G zhx⟩,⟨⟨zh9,zhj,zh4,zhi⟩,Ni X G zif,⟨zhe,inX,itX,zh0⟩,zhb,zhc,zha,zhf⟩,zcz,zb5,zc9,zah,zco,zcs,⟨zcr,zd1,(kbr zcl zcn zd2),(bd_mk (n:=7) rfl fun _ KX=>nL7 fun _ _ _ _ _ _ _=>BindsTo.of_defaults rfl (KX _ _ zt) rfl rfl rfl)⟩,(bd_mk (n:=6) rfl fun _ KX=>nL6 fun _ _ _ _ _ _=>BindsTo.of_defaults rfl (KX _ _ zt) rfl rfl rfl),(bd_mk (n:=5) rfl fun _ KX=>nL5 fun _ _ _ _ _=>BindsTo.of_defaults rfl (KX _ _ zt) rfl rfl rfl),(bd_mk (n:=4) rfl fun _ KX=>nL4 fun _ _ _ _=>BindsTo.of_defaults rfl (KX _ _ zt) rfl rfl rfl),(bd_mk (n:=3) rfl fun _ KX=>nL3 fun _ _ _=>BindsTo.of_defaults rfl (KX _ _ zt) rfl rfl rfl),(bd_mk (n:=2) rfl fun _ KX=>nL2 fun _ _=>BindsTo.of_defaults rfl (KX _ _ zt) rfl rfl rfl),(bd_mk (n:=1) rfl fun _ KX=>nL1 fun _=>BindsTo.of_defaults rfl (KX _ _ zt) rfl rfl rfl),⟨⟨zf9,zfk,zfd,zew⟩,Ni X G zg7,⟨zeu,inX,itX,zev⟩,zf1,zfo,zf6,zf5⟩,⟨zan,zaq,(kbr zav za6 za4),(bd_mk (n:=2) rfl fun _ KX=>nL2 fun _ _=>BindsTo.of_defaults rfl (KX _ _ z5i) rfl rfl rfl)⟩,(bd_mk (n:=1) rfl fun _ KX=>nL1 fun _=>BindsTo.of_defaults rfl (KX _ _ z5i) rfl rfl rfl),Ni X G zhz,⟨⟨zj2,zit,zj5,zjd⟩,Ni X G zhz,⟨ziq,inX,itX,z84⟩,z7l,z8l,zj9,zis⟩,zcq,zde,⟨zeq,zfn,(kbr zfh zf2 zf0),(bd_mk (n:=3) rfl fun _ KX=>nL3 fun _ _ _=>BindsTo.of_defaults rfl (KX _ _ z9r) rfl rfl rfl)⟩,(bd_mk (n:=2) rfl fun _ KX=>nL2 fun _ _=>BindsTo.of_defaults rfl (KX _ _ z9r) rfl rfl rfl),Ni X G zet,⟨⟨zh5,zhg,zh6,zh7⟩,Ni X G zet,⟨zhh,inX,itX,z3t⟩,z4c,z40,zgz,zh1⟩,zbm,z9b,zba,⟨zc1,zc2,(kbr zc8 zcg zc4),(bd_mk (n:=4) rfl fun _ KX=>nL4 fun _ _ _ _=>BindsTo.of_defaults rfl (KX _ _ z3m) rfl rfl rfl)⟩,(bd_mk (n:=3) rfl fun _ KX=>nL3 fun _ _ _=>BindsTo.of_defaults rfl (KX _ _ z3m) rfl rfl rfl),(bd_mk (n:=2) rfl fun _ KX=>nL2 fun _ _=>BindsTo.of_defaults rfl (KX _ _ z3m) rfl rfl rfl),Ni X G z9p,⟨⟨zdw,zej,ze8,ze5⟩,Ni X G z9p,⟨ze6,inX,itX,z1d⟩,z1j,z1g,ze3,zec⟩,z8v,z8e,⟨z90,z9c,(kbr z9e z8r z93),(bd_mk (n:=3) rfl fun _ KX=>nL3 fun _ _ _=>BindsTo.of_defaults rfl (KX _ _ z48) rfl rfl rfl)⟩,(bd_mk (n:=2) rfl fun _ KX=>nL2 fun _ _=>BindsTo.of_defaults rfl (KX _ _ z48) rfl rfl rfl),Ni X G zd6,⟨⟨zg8,zfv,zgd,zg9⟩,Ni X G zd6,⟨zgi,inX,itX,z27⟩,z2f,z22,zfz,zgm⟩,zay,za0,za1,⟨zbn,zb4,(kbr zbs zby zbg),(bd_mk (n:=4) rfl fun _ KX=>nL4 fun _ _ _ _=>BindsTo.of_defaults rfl (KX _ _ z65) rfl rfl rfl)⟩,(bd_mk (n:=3) rfl fun _ KX=>nL3 fun _ _ _=>BindsTo.of_defaults rfl (KX _ _ z65) rfl rfl rfl),Ni X G z9s,⟨⟨ze0,zdi,zee,zdu⟩,Ni X G z9s,⟨zds,inX,itX,z1f⟩,z1h,z1k,zdk,zdz⟩,z7n,⟨z95,z8p,(kbr z9d z9j z8u),(bd_mk (n:=2) rfl fun _ KX=>nL2 fun _ _=>BindsTo.of_defaults rfl (KX _ _ z3r) rfl rfl rfl)⟩,(bd_mk (n:=1) rfl fun _ KX=>nL1 fun _=>BindsTo.of_defaults rfl (KX _ _ z3r) rfl rfl rfl),⟨⟨zi8,zi5,zi4,zil⟩,Ni X G ziz,⟨zid,inX,itX,zie⟩,zib,zhr,zic,zik⟩,ze7,zci,zeg,z9v,⟨zed,zda,(kbr zdf zeb zdr),(bd_mk (n:=5) rfl fun _ KX=>nL5 fun _ _ _ _ _=>BindsTo.of_defaults rfl (KX _ _ z8j) rfl rfl rfl)⟩,(bd_mk (n:=4) rfl fun _ KX=>nL4 fun _ _ _ _=>BindsTo.of_defaults rfl (KX _ _ z8j) rfl rfl rfl),⟨⟨zg3,zg5,zfy,zgn⟩,Ni X G zh2,⟨zgh,inX,itX,zg4⟩,zg2,zfx,zgj,zgc⟩,z9z,z7c,z91,⟨zb2,zb1,(kbr zbo zbx zbl),(bd_mk (n:=4) rfl fun _ KX=>nL4 fun _ _ _ _=>BindsTo.of_defaults rfl (KX _ _ z1y) rfl rfl rfl)⟩,(bd_mk (n:=3) rfl fun _ KX=>nL3 fun _ _ _=>BindsTo.of_defaults rfl (KX _ _ z1y) rfl rfl rfl),(bd_mk (n:=2) rfl fun _ KX=>nL2 fun _ _=>BindsTo.of_defaults rfl (KX _ _ z1y) rfl rfl rfl),⟨⟨zel,zei,zdn,zdb⟩,Ni X G zfg,⟨zea,inX,itX,zdy⟩,zdh,zdp,zdo,zef⟩,z7f,z6w,z62,z75,z92,z8a,⟨⟨zj7,zj0,zjb,ziv⟩,Ni X G zjf,⟨zj1,inX,itX,zj3⟩,ziw,zja,zin,zj8⟩,zf3,zcy,zf4,zfs,zam,zfb,zae,zd3,z8x,z97,⟨⟨zgb,zga,zgf,zg6⟩,Ni X G zh3,⟨zg0,inX,itX,zge⟩,zfw,zg1,zgk,zgg⟩,zad,zak,zaf,zbj,zbc,⟨⟨zig,zij,zhu,zhs⟩,Ni X G zix,⟨zhn,inX,itX,zi0⟩,zhp,zhw,zii,zi1⟩,zcw,zd0,zbp,z8q,zck,zdl,⟨⟨zhk,zih,zhl,zht⟩,Ni X G zj4,⟨zho,inX,itX,zi3⟩,zi2,zhy,zhv,zi6⟩,zai,z98,zc6,zdt,⟨zeh,zdc,(kbr zdq ze9 ze2),(bd_mk (n:=5) rfl fun _ KX=>nL5 fun _ _ _ _ _=>BindsTo.of_defaults rfl (KX _ _ z8h) rfl rfl rfl)⟩,(bd_mk (n:=4) rfl fun _ KX=>nL4 fun _ _ _ _=>BindsTo.of_defaults rfl (KX _ _ z8h) rfl rfl rfl),⟨z99,z96,z9a⟩,kaK z7k z84 z8l (kbo z7k z4c),kaK z4t z84 z8l (kbo z4t z1j),kaK z6d z84 z8l (kbo z6d z2f),kaK z4l z84 z8l (kbo z4l z1h),kaK z87 z3t z40 (kbo z87 z7l),kaK z36 z3t z40 (kbo z36 z1j),kaK z5j z3t z40 (kbo z5j z2f),kaK z3b z3t z40 (kbo z3b z1h),kaK z4x z1d z1g (kbo z4x z7l),kaK z3a z1d z1g (kbo z3a z4c),kaK z2d z1d z1g (kbo z2d z2f),kaK z1r z1d z1g (kbo z1r z1h),kaK z6q z27 z22 (kbo z6q z7l),kaK z5h z27 z22 (kbo z5h z4c),kaK z2j z27 z22 (kbo z2j z1j),kaK z2q z27 z22 (kbo z2q z1h),kaK z4v z1f z1k (kbo z4v z7l),kaK z37 z1f z1k (kbo z37 z4c),kaK z1t z1f z1k (kbo z1t z1j),kaK z2n z1f z1k (kbo z2n z2f),z6y,⟨_,zf,z2i,z2r,z29,z25,z2m,z2l,z28,z6x,z7a,rfl,z70,z79,z72,z7i,z7d,z73,z7h⟩,Ni X G zfe,Ni X G zbf,Ni X G zcv,Ni X G zbq,⟨zfa,zff,zep⟩,⟨zfj,zez,zfp,zex,zf7,zfl⟩,zfu,zbz,z9k,zau,z5k,z5v,z5m,z4i,Nv X G zVE⟩
 exact⟨_,zj,zp,z71,W.ck_falling_groups,z7g,fun s v=>.of_eq rfl,fun base hK _ hB=>kmZ ⟨W,hB,hK⟩⟩
end Vs
namespace PySem.W.Fast
def tw3607776293534956928:=0
def tw11868955140913755489:=0
def tw17629748776378880770:=0
def tw17898633262738442146:=0
def tw11542939294203897667:=0
def tw9354184263870437028:=0
def tw11463099441980809061:=0
def tw10573051114363138917:=0
def tw1267512884998849895:=0
def tw16098076329977342631:=0
def tw18020768667974453991:=0
def tw4226702900771151016:=0
def tw9091265043286373896:=0
def tw472896304918964649:=0
def tw13516988395507843913:=0
def tw10105168308958469322:=0
def tw14658555247466642477:=0
def tw4706431036946207309:=0
def tw4050024080980448750:=0
def tw9876896837521501999:=0
def tw15907431790408321584:=0
def tw7620881558623313520:=0
def tw14477609713505983472:=0
def tw17053657798032587890:=0
def tw11581919681626011186:=0
def tw2870376721240087734:=0
def tw1109385044704192918:=0
def tw16514890849962430839:=0
def tw10876770309732860217:=0
def tw15394200753731243737:=0
def tw6054317746986999769:=0
def tw6825912847780131418:=0
def tw16774211601041691546:=0
def tw8757734128866637851:=0
def tw7005688217339692187:=0
def tw7209470203187395163:=0
def tw9671449033980587803:=0
def tw10462287529275777979:=0
def tw16391313157918503708:=0
def tw3438235278797527357:=0
def tw18234261099818013117:=0
def tw7263189574963013437:=0
def tw13109627211080574781:=0
def tw12403103956834261054:=0
def tw12564127368143113406:=0
def tw4705954224378653759:=0
def tw5022198049681581737:=0
def tw8117498723274406269:=0
def tw11516598992884628757:=0
def tw16922702934564774685:=0
def tw15023110147085319915:=0
def tw14660962876372550735:=0
def tw9878033653689734019:=0
def tw17526366846198171206:=0
def tw16591436740228156960:=0
def tw3572652273620760196:=0
def tw4004213752036113004:=0
def tw4730539523159284521:=0
def tw17039449751371417462:=0
def tw14740316526835475448:=0
def tw17211246341791780622:=0
def tw4688743300862488185:=0
def tw7349865141472178908:=0
def tw3808279220126852571:=0
def tw1713080509893423318:=0
def tw16613826887575285927:=0
def tw14262128452591214990:=0
def tw4851198469328065122:=0
def tw11944483215032952920:=0
def tw15338101232112402831:=0
def tw11834969913740236722:=0
def tw13385955486263479527:=0
def tw12315729138222112112:=0
def tw4409954413454473143:=0
def tw16075881098394503958:=0
def tw1875934879355021081:=0
def tw13529636720290705055:=0
def tw3547199408721707071:=0
def tw3663590482818385761:=0
def tw16772646753322304999:=0
def tw9374208093683196845:=0
def tw994251243385850615:=0
def tw4374738930849545075:=0
def tw3291175304829822233:=0
def tw15929244314709817237:=0
def tw2714988243011001228:=0
def tw17329038991170617925:=0
def tw15399531787588875864:=0
def tw5456753940625050446:=0
def tw1691621519567375847:=0
def tw17848050279132455242:=0
def tw13422109099828293370:=0
def tw1416803220526526495:=0
def tw14596698983387558763:=0
def tw573296530162776263:=0
def tw17527793133827243539:=0
def tw5383988060854596624:=0
def tw9077118948092663046:=0
def tw17507160521478358617:=0
def tw13488752703753612564:=0
def tw3543274653815075021:=0
def tw3184404029480889880:=0
def tw4335329959678647334:=0
def tw10609545269545614483:=0
def tw6085888908216599165:=0
def tw9596466189339640352:=0
def tw838193249703680226:=0
def tw16560504592988052220:=0
def tw10821866264044359791:=0
def tw11313707110330917562:=0
def tw10599924880340346373:=0
def tw4879331426164425570:=0
def tw7744193286997054259:=0
def tw15744439280462364442:=0
def tw15347706945360306297:=0
def tw4888184886623753778:=0
def tw7347206140716386659:=0
def tw8433435130927974364:=0
def tw4511420554378177500:=0
def tw17562690389277596100:=0
def tw3913845254886540438:=0
def tw14710103372808355590:=0
def tw10142015521206446478:=0
def tw2309724811340878506:=0
def tw11435258952734472780:=0
def tw2341396420078716546:=0
def tw4687722509677936496:=0
def tw16657141339393275054:=0
def tw6665391735437844639:=0
def tw1548310827472090614:=0
def tw5332435183288862116:=0
def tw8962807499002831941:=0
def tw8321350500973634547:=0
def tw11654249411448538106:=0
def tw16862044635666071908:=0
def tw1431791499245082109:=0
def tw4866789042443188225:=0
def tw390194578692328300:=0
def tw759445483192091621:=0
def tw9062191982708071787:=0
def tw1025912919668754712:=0
def tw14763544983567388004:=0
def tw14118522296642257751:=0
def tw13337771063524599127:=0
def tw3692111488675232854:=0
def tw1345829159941087296:=0
def tw492233726637664870:=0
def tw2270288095812314301:=0
def tw13353794395383870812:=0
def tw10385223387933055801:=0
def tw13982146376193684994:=0
def tw3061871497420229136:=0
def tw3878210561144600602:=0
def tw2809284694414626551:=0
def tw18218800061671640344:=0
def tw7840480559418711501:=0
def tw16607435498316701348:=0
def tw3033942588309117808:=0
def tw10538802520580228178:=0
def tw8546146918850056956:=0
def tw10488173186036284661:=0
def tw16776710969404687804:=0
def tw15507591541757564969:=0
def tw2610258331227119546:=0
def tw11453849344766523145:=0
def tw5610687047663001892:=0
def tw13973372921777227188:=0
def tw6647518994237135175:=0
def tw16385609573916152652:=0
def tw6092640487459009977:=0
def tw271405645978258177:=0
def tw9087306675690241664:=0
def tw13213568457140885591:=0
def tw15955045614890711590:=0
def tw3912836848936489930:=0
def tw13131629604693338557:=0
def tw10305493640264391708:=0
def tw12553110855552608933:=0
def tw13700895125270397453:=0
def tw14190757584536135767:=0
def tw874855400661571221:=0
def tw1761740559620559220:=0
def tw2754337896149818128:=0
def tw16501476852501786551:=0
def tw8833408764784944027:=0
def tw5676094096802382043:=0
def tw6774700892814053231:=0
def tw14990587709243349310:=0
def tw14254843843998337752:=0
def tw17407118688052426929:=0
def tw9004425472571484437:=0
def tw15424711919098935705:=0
def tw17521382538841094401:=0
def tw15337222416820938117:=0
def tw18028165534494381172:=0
def tw12180801899872104836:=0
def tw15701313986712415843:=0
def tw16793888977970014370:=0
def tw11887170104085969729:=0
def tw9813742167105260297:=0
def tw6379083637364490934:=0
def tw18326424816763172080:=0
def tw13009451259927385250:=0
def tw6301403974907872336:=0
def tw15038410756334857663:=0
def tw12090504751052231274:=0
def tw12270696021640910836:=0
def tw12328825844323987784:=0
def tw10498460422461447366:=0
def tw15544257423502638529:=0
def tw15183493864237439977:=0
def tw8420922883144256203:=0
def tw7414100476009672196:=0
def tw4085574629569439772:=0
def tw3535063805289787882:=0
def tw17970266330540558083:=0
def tw7518049583420171525:=0
def tw15000556101712122166:=0
def tw11015570061902833004:=0
def tw7325945392894676148:=0
def tw10646621249377479107:=0
def tw17742584148005753097:=0
def tw9996831417200838959:=0
def tw2150067705415941134:=0
def tw5602142989284359514:=0
def tw13057448329970005253:=0
def tw2692259964854542208:=0
def tw3629928053965676333:=0
def tw11690614473225197483:=0
def tw563469252402095859:=0
def tw16897209007341811063:=0
def tw16346821687564085573:=0
def tw5705556770496997373:=0
def tw17392660220545919856:=0
def tw6601009005961534142:=0
def tw11708872356627317209:=0
def tw8197205128724387123:=0
def tw2906975271771360800:=0
def tw8894644747125141973:=0
def tw1835097289203729571:=0
def tw1709251675711478645:=0
def tw16178122696038000822:=0
def tw12211575397937397464:=0
def tw12835936725846836832:=0
def tw12113024323922425983:=0
def tw7664661509599872740:=0
def tw12168275298903121740:=0
def tw13493752915150014035:=0
def tw9238763513166757466:=0
def tw11599714078948896610:=0
def tw336517439063074226:=0
def tw2287682019224083495:=0
def tw3646091508453682038:=0
def tw13789516371249278302:=0
end PySem.W.Fast
open PySem PySem.W PyProof.Rows
set_option maxRecDepth 100000 in
set_option maxHeartbeats 0 in
theorem PySem.Challenge.cw_voucherstack_k52_whole_none_is_cheaper_holds : PySem.Challenge.rw_voucherstack_k52_whole_none_is_cheaper.Holds := by
 w_on;o_law;k_head;(case hw=>w_witness2)
 k_fill
 refine L2.walkT_of (l:=PySem.Challenge.rw_voucherstack_k52_whole_none_is_cheaper) (k:=18) (x:="_law_script") rfl rfl ⟨rfl,by decide,by decide⟩ (fun w h Y=>PySem.W.km_in_of Y) (fun w h Y=>PySem.W.km_tabs_of Y) ?F
 case F=>
  intro w mg fa h KX G hmg
  refine' Vs.all_mk KX G hmg ?JI ?JD ?U3 ?JG ?JJ ?Jw ?JL ?JH ?JE ?UW ?U4 ?U0 ?Jp ?U2 ?afalling_groups ?lfalling_groups ?cfalling_groups ?kfalling_groups ?U7 ?Jx ?Ja ?JA ?JF ?JB ?U5 ?Jf ?Jj ?UZ ?JK ?Jd ?Jg ?JC ?Ju ?Jl ?Jz ?Jm ?Jh ?Jk ?U6 ?UY ?UX ?Ji ?U9 ?Jt ?Jr ?alaw ?llaw ?claw ?klaw ?aMarks ?imMarks ?isMarks ?iyMarks ?inX ?itX ?pgMarks ?hdMarks ?poMarks ?saMarks ?mkMarks ?kcMarks ?iaMarks ?nMarks_kind ?nMarks_needs ?nMarks_most ?nMarks_member ?nMarks_once ?nMarks_lone ?hMarks_init ?iMarks_init ?lMarks_init ?cMarks_init ?kMarks_init ?tMarks_init ?aVoucher ?imVoucher ?isVoucher ?iyVoucher ?pgVoucher ?hdVoucher ?poVoucher ?saVoucher ?mkVoucher ?kcVoucher ?iaVoucher ?hVoucher_init ?iVoucher_init ?lVoucher_init ?cVoucher_init ?kVoucher_init ?tVoucher_init ?aOff ?imOff ?isOff ?iyOff ?pgOff ?hdOff ?poOff ?saOff ?mkOff ?kcOff ?iaOff ?nOff_amount ?nOff_marks ?hOff_init ?iOff_init ?lOff_init ?cOff_init ?kOff_init ?tOff_init ?aShare ?imShare ?isShare ?iyShare ?pgShare ?hdShare ?poShare ?saShare ?mkShare ?kcShare ?iaShare ?nShare_share ?nShare_by_line ?nShare_marks ?hShare_init ?iShare_init ?lShare_init ?cShare_init ?kShare_init ?tShare_init ?aCheapest ?imCheapest ?isCheapest ?iyCheapest ?pgCheapest ?hdCheapest ?poCheapest ?saCheapest ?mkCheapest ?kcCheapest ?iaCheapest ?nCheapest_many ?nCheapest_marks ?hCheapest_init ?iCheapest_init ?lCheapest_init ?cCheapest_init ?kCheapest_init ?tCheapest_init ?aBundle ?imBundle ?isBundle ?iyBundle ?pgBundle ?hdBundle ?poBundle ?saBundle ?mkBundle ?kcBundle ?iaBundle ?nBundle_many ?nBundle_price ?nBundle_marks ?hBundle_init ?iBundle_init ?lBundle_init ?cBundle_init ?kBundle_init ?tBundle_init ?aCarriage ?imCarriage ?isCarriage ?iyCarriage ?pgCarriage ?hdCarriage ?poCarriage ?saCarriage ?mkCarriage ?kcCarriage ?iaCarriage ?nCarriage_marks ?hCarriage_init ?iCarriage_init ?lCarriage_init ?cCarriage_init ?kCarriage_init ?tCarriage_init ?aLine ?imLine ?isLine ?iyLine ?pgLine ?hdLine ?poLine ?saLine ?mkLine ?kcLine ?iaLine ?nLine_kind ?nLine_price ?nLine_many ?nLine_special ?hLine_init ?iLine_init ?lLine_init ?cLine_init ?kLine_init ?tLine_init ?aBasket ?imBasket ?isBasket ?iyBasket ?pgBasket ?hdBasket ?poBasket ?saBasket ?mkBasket ?kcBasket ?iaBasket ?nBasket_lines ?nBasket_carriage ?nBasket_member ?hBasket_init ?iBasket_init ?lBasket_init ?cBasket_init ?kBasket_init ?tBasket_init ?aStanding ?imStanding ?isStanding ?iyStanding ?pgStanding ?hdStanding ?poStanding ?saStanding ?mkStanding ?kcStanding ?iaStanding ?nStanding_owners ?nStanding_prices ?nStanding_carriage ?nStanding_marked ?U8 ?U1 ?aWay ?imWay ?isWay ?iyWay ?pgWay ?hdWay ?poWay ?saWay ?mkWay ?kcWay ?iaWay ?nWay_till ?nWay_basket ?nWay_hand ?nWay_used ?nWay_standing ?Jy ?Je ?Js ?Jb ?Jc ?aSearch ?imSearch ?isSearch ?iySearch ?pgSearch ?hdSearch ?poSearch ?saSearch ?mkSearch ?kcSearch ?iaSearch ?nSearch_order ?nSearch_total ?nSearch_paper ?Jq ?Jo ?aBill ?imBill ?isBill ?iyBill ?pgBill ?hdBill ?poBill ?saBill ?mkBill ?kcBill ?iaBill ?nBill_order ?nBill_steps ?nBill_prices ?nBill_carriage ?nBill_total ?Jv ?aTill ?imTill ?isTill ?iyTill ?pgTill ?hdTill ?poTill ?saTill ?mkTill ?kcTill ?iaTill ?nTill_parents ?nTill_vouchers ?nTill_rules ?nTill_back ?hTill_init ?iTill_init ?lTill_init ?cTill_init ?kTill_init ?tTill_init ?rdVoucher_init ?gaVoucher_init ?fcVoucher_init ?qShare_Off ?qCheapest_Off ?qBundle_Off ?qCarriage_Off ?qOff_Share ?qCheapest_Share ?qBundle_Share ?qCarriage_Share ?qOff_Cheapest ?qShare_Cheapest ?qBundle_Cheapest ?qCarriage_Cheapest ?qOff_Bundle ?qShare_Bundle ?qCheapest_Bundle ?qCarriage_Bundle ?qOff_Carriage ?qShare_Carriage ?qCheapest_Carriage ?qBundle_Carriage ?qafalling_groups ?qbfalling_groups ?qcfalling_groups ?qdfalling_groups ?qefalling_groups ?qffalling_groups ?qgfalling_groups ?qhfalling_groups ?qifalling_groups ?qjfalling_groups ?qkfalling_groups ?qlfalling_groups ?qaeNotLet ?qaeTillError ?qaeNoPieces ?qaeLineError ?qwoNotLet ?qwtNotLet ?qwsNotLet ?qxaNotLet ?qxbNotLet ?qxcNotLet ?qxdNotLet ?qxeNotLet ?qxfNotLet ?qkpNotLet ?Jn ?qnNotLet_place ?qnNotLet_word ?qxmNotLet_TillError ?qkiNotLet_NoPieces ?qkiNotLet_LineError ?qkiNotLet_ValueError ?zVE ?z1 ?z2 ?z3 ?z4 ?z5 ?z6 ?z7 ?z8 ?z9 ?z10 ?z11 ?z12 ?z13 ?z14 ?z15 ?z16 ?z17 ?z18
  any_goals k_is
  exists JI,Vs.nL2 fun _ _=>rfl,0,0,0
  exists JD,Vs.nL3 fun _ _ _=>rfl,0,0,0
  exists U3,Vs.nL2 fun _ _=>rfl,0,0,0
  exists JG,Vs.nL4 fun _ _ _ _=>rfl,0,0,0
  exists JJ,Vs.nL4 fun _ _ _ _=>rfl,0,0,0
  exists Jw,Vs.nL4 fun _ _ _ _=>rfl,0,0,0
  exists JL,Vs.nL4 fun _ _ _ _=>rfl,0,0,0
  exists JH,Vs.nL4 fun _ _ _ _=>rfl,0,0,0
  exists JE,Vs.nL4 fun _ _ _ _=>rfl,0,0,0
  exists UW,Vs.nL3 fun _ _ _=>rfl,0,0,0
  exists U4,Vs.nL4 fun _ _ _ _=>rfl,0,0,0
  exists U0,Vs.nL2 fun _ _=>rfl,0,0,0
  exists Jp,Vs.nL3 fun _ _ _=>rfl,0,0,0
  exists U2,Vs.nL2 fun _ _=>rfl,0,0,0
  exists U7,Vs.nL3 fun _ _ _=>rfl,0,0,0
  exists Jx,Vs.nL2 fun _ _=>rfl,0,0,0
  exists Ja,Vs.nL2 fun _ _=>rfl,0,0,0
  exists JA,Vs.nL2 fun _ _=>rfl,0,0,0
  exists JF,Vs.nL4 fun _ _ _ _=>rfl,0,0,0
  exists JB,Vs.nL4 fun _ _ _ _=>rfl,0,0,0
  exists U5,Vs.nL4 fun _ _ _ _=>rfl,0,0,0
  exists Jf,Vs.nL3 fun _ _ _=>rfl,0,0,0
  exists Jj,Vs.nL3 fun _ _ _=>rfl,0,0,0
  exists UZ,Vs.nL2 fun _ _=>rfl,0,0,0
  exists JK,Vs.nL3 fun _ _ _=>rfl,0,0,0
  exists Jd,Vs.nL1 fun _=>rfl,0,0,0
  exists Jg,Vs.nL2 fun _ _=>rfl,0,0,0
  exists JC,Vs.nL4 fun _ _ _ _=>rfl,0,0,0
  exists Ju,Vs.nL1 fun _=>rfl,0,0,0
  exists Jl,Vs.nL2 fun _ _=>rfl,0,0,0
  exists Jz,Vs.nL3 fun _ _ _=>rfl,0,0,0
  exists Jm,Vs.nL1 fun _=>rfl,0,0,0
  exists Jh,Vs.nL2 fun _ _=>rfl,0,0,0
  exists Jk,Vs.nL4 fun _ _ _ _=>rfl,0,0,0
  exists U6,Vs.nL3 fun _ _ _=>rfl,0,0,0
  exists UY,Vs.nL3 fun _ _ _=>rfl,0,0,0
  exists UX,Vs.nL1 fun _=>rfl,0,0,0
  exists Ji,Vs.nL4 fun _ _ _ _=>rfl,0,0,0
  exists U9,Vs.nL3 fun _ _ _=>rfl,0,0,0
  exists Jt,Vs.nL3 fun _ _ _=>rfl,0,0,0
  exists Jr,Vs.nL4 fun _ _ _ _=>rfl,0,0,0
  exists U8,Vs.nL2 fun _ _=>rfl,0,0,0,0,0
  exists U1,Vs.nL1 fun _=>rfl,0,0,0,0,0
  exists Jy,Vs.nL4 fun _ _ _ _=>rfl,0,0,0,0,0
  exists Je,Vs.nL2 fun _ _=>rfl,0,0,0,0,0
  exists Js,Vs.nL2 fun _ _=>rfl,0,0,0,0,0
  exists Jb,Vs.nL1 fun _=>rfl,0,0,0,0,0
  exists Jc,Vs.nL1 fun _=>rfl,0,0,0,0,0
  exists Jq,Vs.nL2 fun _ _=>rfl,0,0,0,0,0
  exists Jo,Vs.nL2 fun _ _=>rfl,0,0,0,0,0
  exists Jv,Vs.nL4 fun _ _ _ _=>rfl,0,0,0,0,0
  (try case qafalling_groups=>first|rfl|decide|k_is)
  (try case qbfalling_groups=>k_is)
  (try case qcfalling_groups=>first|rfl|decide|k_is)
  (try case qdfalling_groups=>first|rfl|decide|k_is)
  (try case qefalling_groups=>first|rfl|decide|k_is)
  (try case qffalling_groups=>first|rfl|decide|k_is)
  (try case qgfalling_groups=>first|rfl|decide|k_is)
  (try case qhfalling_groups=>first|rfl|decide|k_is)
  (try case qifalling_groups=>first|rfl|decide|k_is)
  (try case qjfalling_groups=>first|rfl|decide|k_is)
  (try case qkfalling_groups=>first|k_is|rfl|decide|decide +kernel)
  (try case qlfalling_groups=>decide)
  (try case qwoNotLet=>refine' L2.xw_mk ?_;any_goals k_is)
  (try case qwtNotLet=>first|(unfold L2.veL;k_exc;done)|first|k_is|(k_exc;done)|(kts_exm;done)|(kit_is;done)|rfl|decide +kernel)
  (try case qwsNotLet=>first|k_is|(k_exc;done)|(kts_exm;done)|(kit_is;done)|rfl|decide +kernel)
  (try case qxaNotLet=>first|k_is|(k_exc;done)|(kts_exm;done)|(kit_is;done)|rfl|decide +kernel)
  (try case qxbNotLet=>first|k_is|(k_exc;done)|(kts_exm;done)|(kit_is;done)|rfl|decide +kernel)
  (try case qxcNotLet=>first|k_is|(k_exc;done)|(kts_exm;done)|(kit_is;done)|rfl|decide +kernel)
  (try case qxdNotLet=>first|k_is|(k_exc;done)|(kts_exm;done)|(kit_is;done)|rfl|decide +kernel)
  (try case qxeNotLet=>first|k_is|(k_exc;done)|(kts_exm;done)|(kit_is;done)|rfl|decide +kernel)
  (try case qxfNotLet=>first|k_is|(k_exc;done)|(kts_exm;done)|(kit_is;done)|rfl|decide +kernel)
  (try case qkpNotLet=>first|k_is|(k_exc;done)|(kts_exm;done)|(kit_is;done)|rfl|decide +kernel)
  exists Jn,Vs.nL3 fun _ _ _=>rfl,0,0,0,0,0
  (try case qnNotLet_place=>first|k_is|(k_exc;done)|(kts_exm;done)|(kit_is;done)|rfl|decide +kernel)
  (try case qnNotLet_word=>first|k_is|(k_exc;done)|(kts_exm;done)|(kit_is;done)|rfl|decide +kernel)
  (try case qxmNotLet_TillError=>first|k_is|(k_exc;done)|(kts_exm;done)|(kit_is;done)|rfl|decide +kernel)
  (try case qkiNotLet_NoPieces=>first|k_is|(k_exc;done)|(kts_exm;done)|(kit_is;done)|rfl|decide +kernel)
  (try case qkiNotLet_LineError=>first|k_is|(k_exc;done)|(kts_exm;done)|(kit_is;done)|rfl|decide +kernel)
  (try case qkiNotLet_ValueError=>first|k_is|(k_exc;done)|(kts_exm;done)|(kit_is;done)|rfl|decide +kernel)
