import PyProof.Rows.All
import Wide.All
import OpenK.AllK
import Wide.FinOn
import Lean
import PyProof.EqAt
import PyProof.EqKinds
import PyProof.TupleCall
import PySem.Challenge.RW_voucherstack_k51_whole_bill_walked
set_option Elab.async false
set_option linter.all false
set_option compiler.extract_closed false
set_option maxRecDepth 100000
open Array renaming length_toList → MU, getElem?_eq_getElem → EA, size_zip → EE, getElem?_toList → Da, getElem?_eq_none → DB, mem_iff_getElem → DC
open Bool renaming false_ne_true → Np, false_eq_true → Mh, and_eq_true → MY, false_and → Eo, eq_iff_iff → Ep, or_eq_true → Ex, or_false → Ez, and_false → E6
open List renaming length_map → Nb, range → Nf, replicate → Nh, getElem?_map → Ni, mem_of_getElem? → Nj, map_append → Nl, length_append → Nr, getD_eq_getElem?_getD → Nt, getElem?_eq_some_iff → Nu, length_take → Nv, map_cons → Nw, mem_map → Ny, mem_cons_of_mem → NC, take_length → ND, mem_cons → NF, size_toArray → NG, map_map → NH, zipWith → NI, mem_cons_self → NJ, flatten_cons → NK, sum_cons → NN, mem_append → NR, mem_append_right → NS, length_cons → NT, mem_filter → NW, lookup_cons → N1, map_congr_left → N2, getElem?_eq_getElem → N5, ext_getElem → N6, range_succ → Mb, append_assoc → Mc, map_set → Md, length_replicate → Mf, take_of_length_le → Mg, mem_singleton → Mi, nodup_cons → Mj, length_singleton → Ml, flatten_append → Mm, lookup → Mn, mem_iff_getElem? → Mp, replicate_succ → Mr, take_add_one → Ms, sum_append → Mt, append_nil → Mv, length_drop → Mw, not_mem_nil → My, mem_flatten → MA, replicate_succ' → MB, of_mem_zip → MD, length_set → ME, Pairwise → MF, getElem_map → MG, length_filter_le → MH, filter_append → MI, mem_range → MJ, any_cons → ML, pairwise_iff_getElem → MN, mem_of_mem_take → MO, getElem_range → MP, length_zipWith → MQ, length → MV, getElem?_append_right → MW, map_nil → MX, nil_append → MZ, all_eq_true → M0, zipIdx_cons → M1, take_append_drop → M3, getElem?_range → M4, getElem?_append_left → M6, drop_zero → M7, map_take → M8, find?_cons → M9, nodup_range → Eb, getElem_set → Ec, Perm → Ed, getElem?_zipWith → Ee, pairwise_lt_range → Ef, nodup_append → Eg, pairwise_map → Eh, mem_replicate → Ei, filter_cons → Ej, filter_nil → Ek, mem_append_left → El, getElem?_set_self → Em, getElem?_set_ne → En, all_cons → Eu, reverse_cons → Ew, getElem?_eq_none → EB, length_reverse → EC, nodup_nil → ED, cons_append → EG, zip_append → EI, pairwise_cons → EJ, zip_cons_cons → EK, erase_cons → EL, sum_nil → EN, drop_eq_getElem_cons → EO, flatten_singleton → ES, getElem?_eq_none_iff → ET, filterMap_cons → EV, getElem_inj → EW, getElem?_replicate → E3, take_sublist → E4, getElem_mem → E7, map_drop → E8, ext_getElem? → E9, length_erase_of_mem → Dc, count_cons → Dd, getElem_of_mem → De, mem_of_mem_drop → Df, take_left' → Dh, Sublist → Dj, getLastD_eq_getLast? → Dk, length_range → Dl, getElem?_take → Dp, drop_length → Dq, flatMap_nil → Dr, length_eq_zero_iff → Dt, mem_or_eq_of_mem_set → Du, map_reverse → Dv, getElem?_take_of_lt → Dy, range_succ_eq_map → Dz, take_eq_take_iff → DA, pairwise_mergeSort → DG, getLast_eq_getElem → DH, getElem_cons_drop → DI, sublist_append_left → DJ, filter_eq_nil_iff → DK, getLast?_eq_some_getLast → DL, length_pos_of_mem → DM, drop_of_length_le → DN
open Nat renaming le_refl → Nd, le_trans → Nk, le_of_lt → Nq, ne_of_lt → NL, lt_of_lt_of_le → NM, zero_le → NO, ne_of_gt → Me, lt_irrefl → Mq, lt_of_le_of_lt → Mx, le_succ → MK, min_self → MM, add_mul → MR, one_mul → MS, min_eq_left → MT, zero_add → Ea, le_of_eq → Es, mul_le_mul_right → EM, mul_div_cancel → ER, lt_succ_self → EZ, div_mul_le_self → Dg
open Option renaming map_some → Ey, getD_none → E5
open PySem.F renaming plainAttrs_list → NQ, slot_list_append → N7, type_list_append → N8, slot_list_extend → Dm, type_list_extend → Do, slot_dict_setdefault → DD, plainAttrs_dict → DE, slot_dict_values → DF
open PySem.W renaming Frag → Nc, findIn → Ng, mroIn → Nm, fnOf → Nx, keepIn → Nz, kitOne → NA, nsIn → NB, mg_of → NP, codeIn → NU, mg_none_of → NV, plainGet → NY, typeIn → NZ, hasDictIn → N3, makesIn → N4, isFn → N9, plainOver → Ma, kia_one → Mo, emptyDict → Mu, kitAny → Mz, instObj → MC, specialIn → M5, lookIn → Er, callWith_K → Et, kla_obj → EF, tabObj → EH, methodObj → EU, plainGet_of → EX, takerIn → EY, takesIn → E1, methodCall_KW → E2, callWith_K0 → Dw, cellsFrom_some → Dx
set_option hygiene false
noncomputable section
local macro_rules|`(tactic|exists $a,$b)=>`(tactic|refine FunD.ok $a $b (by intro _ _ _ _ h;cases h;subst_vars;rfl) (fun cdv A outer s H vs Q E hr h=>?_))
local macro_rules|`(tactic|ac_rfl)=>`(tactic|exact⟨rfl,rfl,rfl,by decide +kernel,rfl,by decide +kernel,by decide +kernel⟩)
local macro_rules|`(tactic|exists $a:ident,$b,$c)=>`(tactic|have $a:ident:=$b (P:=P) (w:=w) $c)
local macro_rules|`(tactic|exists $a:ident,$b,$c,$_)=>`(tactic|have $a:ident:Room $b _:=($c).mono (by decide))
local macro_rules|`(tactic|exists $a:ident)=>`(tactic|try refine sN fun _ $a=>?_)
local macro_rules|`(tactic|exists $a,$b,$c:ident,$d:ident,$e:ident,$f)=>`(tactic|(generalize hg9:upd $a $b _=$c;obtain⟨$d:ident,$e:ident⟩:=kaI hg9 $f;clear hg9))
local macro_rules|`(tactic|ac_nf)=>`(tactic|(repeat (first|rw[kac,if_pos rfl]|rw[kac,if_neg (by decide +kernel)])))
local macro_rules|`(tactic|symm)=>`(tactic|try apply Y4)
local macro_rules|`(tactic|nofun)=>`(tactic|try first|apply Y6|apply Y4)
local macro_rules|`(tactic|exists 3)=>`(tactic|try first|apply Y8|apply Y6|apply Y4)
local macro_rules|`(tactic|exists 4)=>`(tactic|try first|apply Y10|apply Y6|apply Y4)
local macro_rules|`(tactic|exists $a:ident,$b,$_,$_,$_)=>`(tactic|(case $a:ident=>refine' Vs.dn_mk KX G ?_ ?_ ?_ ?_ (fun _ _ _ _ _ _=>$b);any_goals k_is))
local macro_rules|`(tactic|exists $a:ident,$b,$_,$_,$_,$_,$_)=>`(tactic|(case $a:ident=>refine' Vs.mt_mk ?_ ?_ ?_ ?_ ?_ (fun _ _ _ _ _ _=>$b);any_goals k_is))
namespace Lake
namespace L2
open PySem PySem.Spec PyProof.Rows
noncomputable abbrev Key:=Sum Int Str
noncomputable def keyIs:Key→Value→Bool
 | .inl k,v=>Value.isInt k v
 | .inr x,v=>Value.isStrOf x v
noncomputable def keyH(w:World):Key→Int
 | .inl k=>hashInt k
 | .inr x=>hashStr w x
theorem ka9:∀{k:Key}{v:Value},keyIs k v=true→(∃i t,k=Sum.inl i∧v=Value.int i t)∨(∃x t,k=Sum.inr x∧v=Value.str x t)
 | .inl i,v,h=>by
  obtain⟨t,e⟩:=Value.isInt_shape (k:=i) (v:=v) h
  exact .inl ⟨i,t,rfl,e⟩
 | .inr x,v,h=>by
  obtain⟨t,e⟩:=Value.isStrOf_shape (x:=x) (v:=v) h
  exact .inr ⟨x,t,rfl,e⟩
noncomputable def kkd(i:Int)(t:Tok):keyIs (.inl i) (.int i t)=true:=by simp[keyIs,Value.isInt]
noncomputable def kmM(a b:Int):decide ((Sum.inl a:Key)=Sum.inl b)=(a==b):=by
 by_cases e:a=b
 ·subst e;simp
 ·have h:¬(Sum.inl a:Key)=Sum.inl b:=fun q=>e (Sum.inl.inj q)
  rw[decide_eq_false h]
  exact(beq_eq_false_iff_ne.mpr e).symm
noncomputable def kmJ(a b:Str):decide ((Sum.inr a:Key)=Sum.inr b)=decide (a=b):=by
 by_cases e:a=b
 ·subst e;simp
 ·have h:¬(Sum.inr a:Key)=Sum.inr b:=fun q=>e (Sum.inr.inj q)
  rw[decide_eq_false h,decide_eq_false e]
noncomputable def kmL(a:Int)(b:Str):decide ((Sum.inl a:Key)=Sum.inr b)=false:=decide_eq_false (fun q=>nomatch q)
noncomputable def kmK(a:Str)(b:Int):decide ((Sum.inr a:Key)=Sum.inl b)=false:=decide_eq_false (fun q=>nomatch q)
noncomputable def kdi(prog:Program)(w:World):PySem.KeyKind prog w Key where
 is:=keyIs
 hash:=keyH w
 inj:=fun v a b ha hb=>by
  rcases ka9 ha with⟨i,t,rfl,rfl⟩|⟨x,t,rfl,rfl⟩
  ·rcases ka9 hb with⟨j,u,rfl,e⟩|⟨y,u,rfl,e⟩
   ·injection e with e1 _;rw[e1]
   ·exact nomatch e
  ·rcases ka9 hb with⟨j,u,rfl,e⟩|⟨y,u,rfl,e⟩
   ·exact nomatch e
   ·injection e with e1 _;rw[e1]
 byValue:=fun k v h=>by
  rcases ka9 h with⟨i,t,rfl,rfl⟩|⟨x,t,rfl,rfl⟩ <;> rfl
 pyHash:=fun hv h=>by
  rcases ka9 hv with⟨i,t,rfl,rfl⟩|⟨x,t,rfl,rfl⟩
  ·exact wpAny_pyHash_int h
  ·exact wpAny_pyHash_str h
 eqBool:=fun hu hv h=>by
  rcases ka9 hu with⟨i,t,rfl,rfl⟩|⟨x,t,rfl,rfl⟩
  ·rcases ka9 hv with⟨j,u,rfl,rfl⟩|⟨y,u,rfl,rfl⟩
   ·rw[kmM] at h;exact wpAny_eqBool_int h
   ·rw[kmL] at h;exact SeqAt.EqAt.int_str i t y u _ _ _ _ h
  ·rcases ka9 hv with⟨j,u,rfl,rfl⟩|⟨y,u,rfl,rfl⟩
   ·rw[kmK] at h;exact SeqAt.EqAt.str_int x t j u _ _ _ _ h
   ·rw[kmJ] at h;exact wpAny_eqBool_str h
 «strs» :=fun k x t v h=>by
  rcases ka9 h with⟨i,u,rfl,e⟩|⟨y,u,rfl,e⟩
  ·exact nomatch e
  ·injection e with e1 _
   subst e1
   cases v <;> rfl
noncomputable def khz(prog:Program)(w:World)(i:Int)(t:Tok):(kdi prog w).is (.inl i) (.int i t)=true:=kkd i t
end L2
namespace L2
open PySem PySem.Spec PyProof.Rows
inductive V where
 |non|bl (b:Bool)|int (i:Int)|str (x:Str)|byt (b:Array UInt8)|flt (b:UInt64)|ref (a:Addr)|ty (n:String)
 deriving DecidableEq
noncomputable def RelV:V→Value→Prop
 | .non,u=>u=Value.none
 | .bl b,u=>u=Value.bool b
 | .int i,u=>∃t,u=Value.int i t
 | .str x,u=>∃t,u=Value.str x t
 | .byt b,u=>∃t,u=Value.bytes b t
 | .flt b,u=>∃t,u=Value.float b t
 | .ref a,u=>u=Value.ref a
 | .ty n,u=>u=Value.type n
noncomputable abbrev Vals:List V→List Value→Prop:=Paired RelV
noncomputable def Vals.length{xs:List V}{us:List Value}(r:Vals xs us):xs.length=us.length:=Paired.length r
theorem Vals.get:∀{xs:List V}{us:List Value}{i:Nat}{x:V},Vals xs us→xs[i]?=some x→∃u,us[i]?=some u∧RelV x u
 |_,_,_,_, .nil,e=>by simp at e
 |_,_,0,_, .cons r _,e=>by simp at e;subst e;exact⟨_,rfl,r⟩
 |_,_,i+1,x, .cons _ t,e=>by
  obtain⟨u,h1,h2⟩:=Vals.get (i:=i) (x:=x) t (by simpa using e)
  exact⟨u,by simpa using h1,h2⟩
theorem Vals.set{x:V}{u:Value}(r:RelV x u):∀{xs:List V}{us:List Value}(i:Nat),Vals xs us→Vals (xs.set i x) (us.set i u)
 |_,_,_, .nil=>.nil
 |_,_,0, .cons _ t=>.cons r t
 |_,_,i+1, .cons q t=>.cons q (Vals.set r i t)
theorem Vals.append:∀{xs ys:List V}{us ws:List Value},Vals xs us→Vals ys ws→Vals (xs++ys) (us++ws)
 |_,_,_,_, .nil,s=>s
 |_,_,_,_, .cons r t,s=>.cons r (Vals.append t s)
theorem Vals.take:∀{xs:List V}{us:List Value}(n:Nat),Vals xs us→Vals (xs.take n) (us.take n)
 |_,_,0,_=>.nil
 |_,_,_+1, .nil=>.nil
 |_,_,n+1, .cons r t=>.cons r (Vals.take n t)
theorem Vals.drop:∀{xs:List V}{us:List Value}(n:Nat),Vals xs us→Vals (xs.drop n) (us.drop n)
 |_,_,0,r=>r
 |_,_,_+1, .nil=>.nil
 |_,_,n+1, .cons _ t=>Vals.drop n t
noncomputable def Vals.none_of:∀{xs:List V}{us:List Value}{i:Nat},Vals xs us→xs[i]?=none→us[i]?=none:=fun {xs us i} r e=>by
 have h1:=r.length
 have h2:xs.length≤i:=ET.mp e
 exact ET.mpr (by omega)
noncomputable def RelO:Option V→Option Value→Prop
 |some v,some u=>RelV v u
 |none,none=>True
 |_,_=>False
noncomputable def KV{κ:Type}:List (κ×V)→List (κ×Value)→Prop:=Paired fun(p: κ×V)(q: κ×Value)=>p.1=q.1∧RelV p.2 q.2
noncomputable def kV:Key→V
 | .inl i=>.int i
 | .inr x=>.str x
inductive HO where
 |lst (xs:List V)
 |tup (xs:List V)
 |dK (kvs:List (Key×V))|dT (kvs:List (List Key×V))
 |set (S:Int→Bool) (n:Nat)
 |ins (C dx:Addr) (fs:List (Str×V))
 |own (x:Addr)
 |xd (fs:List (Str×V))
 |met (f x:Addr)
 |rng (lo hi:Int)
 |frz (o:Obj) (u:HO)
 |tbl (ps:Array Value)
 |ext (φ:Heap→Prop)
noncomputable abbrev Hp:=Addr→Option HO
noncomputable def upd(H:Hp)(a:Addr)(o:HO):Hp:=fun b=>if b=a then some o else H b
noncomputable def kad{H:Hp}{a:Addr}{o:HO}:upd H a o a=some o:=by unfold upd;rw[if_pos rfl]
noncomputable def kak{H:Hp}{a b:Addr}{o:HO}(h:b≠a):upd H a o b=H b:=by unfold upd;rw[if_neg h]
noncomputable def keu{H:Hp}{a:Addr}{o u:HO}:upd (upd H a o) a u=upd H a u:=by
 funext b;unfold upd;split <;> rfl
noncomputable def ne_of{H:Hp}{a b:Addr}{o u:HO}(h:H a=some o)(h':H b=some u)(d:o≠u):a≠b:=by
 intro e;subst e;rw[h] at h';exact d (Option.some.inj h')
noncomputable def kai{H:Hp}{a b:Addr}{o:HO}(h:H a=some o)(h':H b=none):a≠b:=by
 intro e;subst e;rw[h] at h';cases h'
section
variable (P:Program) (w:World)
noncomputable def ObjOk(H:Hp)(h:Heap)(a:Addr):HO→Prop
 | .lst xs=>xs.length≤sizeLine∧∃(its:List Value)(n:Nat),Vals xs its∧h.get? a=some {cls:=.type "list",data:=.seq its.toArray n}
 | .tup xs=>xs.length≤sizeLine∧∃its:List Value,Vals xs its∧IsTup h a its.toArray
 | .dK kvs=>kvs.length≤sizeLine∧(a==sysModules)=false∧∃vs,KV kvs vs∧h.DictOf (kdi P w) a vs
 | .dT kvs=>kvs.length≤sizeLine∧(a==sysModules)=false∧∃xs:List (List Key×Addr×Value),
   Paired (fun(p:List Key×V)(q:List Key×Addr×Value)=>p.1=q.1∧H q.2.1=some (.tup (p.1.map kV))∧RelV p.2 q.2.2) kvs xs∧
   ∃o es ep,h.get? a=some o∧o.ExactDict∧o.data=.dict es ep∧es.toList=xs.map (entryOfKey (tupleKind (kdi P w)))∧(xs.map (·.1)).Nodup
 | .set S n=>h.SetOf (intKind P w) a S n
 | .ins C dx fs=>H dx=some (.own a)∧fs.length≤1000∧dx≠a∧h.get? a=some (MC C dx)∧
   ∃mA,h.Ns1 dx mA∧(∀f,RelO (fs.lookup f) (mA f))∧PySem.Within mA (fs.map (·.1))
 | .own _=>∃o,h.get? a=some o
 | .xd fs=>∃mA,h.Ns1 a mA∧∀f,RelO (fs.lookup f) (mA f)
 | .rng lo hi=>∃t u v,h.get? a=some {cls:=.type "range",data:=.fields #[.int lo t, .int hi u, .int 1 v]}
 | .frz o u=>h.get? a=some o∧ObjOk H h a u
 | .tbl ps=>h.get? a=some {cls:=.none,data:=.fields ps}
 | .met f x=>h.get? a=some (EU (.ref f) (.ref x))
 | .ext φ=>φ h∧(∃o,h.get? a=some o)∧∀h1 h2:Heap,φ h1→(∀o,h1.get? a=some o→h2.get? a=some o)→φ h2
noncomputable def HOk(H:Hp)(h:Heap):Prop:=∀a o,H a=some o→ObjOk P w H h a o
end
section
variable {P:Program} {w:World} {H H':Hp} {h h':Heap} {a:Addr} {o:HO}
theorem ObjOk.lt(x:ObjOk P w H h a o):a<h.objs.size:=by
 cases o with
 |lst xs=>obtain⟨_,_,_,_,e⟩:=x;exact Heap.lt_size e
 |tup xs=>obtain⟨_,_,_,p⟩:=x;exact p.lt
 |dK kvs=>obtain⟨_,_,_,_,o,_,_,e,_⟩:=x;exact Heap.lt_size e
 |dT kvs=>obtain⟨_,_,_,_,o,_,_,e,_⟩:=x;exact Heap.lt_size e
 |set S n=>obtain⟨o,_,_,_,e,_⟩:=x;exact Heap.lt_size e
 |ins C dx fs=>obtain⟨_,_,_,e,_⟩:=x;exact Heap.lt_size e
 |own y=>obtain⟨_,e⟩:=x;exact Heap.lt_size e
 |xd fs=>obtain⟨_,⟨_,_,_,e,_⟩,_⟩:=x;exact Heap.lt_size e
 |rng lo hi=>obtain⟨_,_,_,e⟩:=x;exact Heap.lt_size e
 |frz ob u=>obtain⟨e,_⟩:=x;exact Heap.lt_size e
 |tbl ps=>exact Heap.lt_size (show h.get? a=some _ from x)
 |met f y=>exact Heap.lt_size (show h.get? a=some _ from x)
 |ext φ=>obtain⟨_,⟨_,e⟩,_⟩:=x;exact Heap.lt_size e
theorem Paired.mapP{α β:Type}{F G: α→β→Prop}:∀{l₁:List α}{l₂:List β},Paired F l₁ l₂→(∀a b,F a b→G a b)→Paired G l₁ l₂
 |_,_, .nil,_=>.nil
 |_,_, .cons r t,f=>.cons (f _ _ r) (Paired.mapP t f)
theorem ObjOk.stay(x:ObjOk P w H h a o)(k:∀b u,(b=a∨H b=some (.own a))→h.get? b=some u→h'.get? b=some u)
  (ho:∀b,H b=some (.own a)→H' b=some (.own a)) (ht:∀b xs,H b=some (.tup xs)→H' b=some (.tup xs)):ObjOk P w H' h' a o:=by
 induction o with
 |lst xs=>obtain⟨z,its,n,r,e⟩:=x;exact⟨z,its,n,r,k _ _ (.inl rfl) e⟩
 |tup xs=>obtain⟨z,its,r,ob,e,c⟩:=x;exact⟨z,its,r,ob,k _ _ (.inl rfl) e,c⟩
 |dK kvs=>obtain⟨z,y,vs,r,ob,es,ep,e,c⟩:=x;exact⟨z,y,vs,r,ob,es,ep,k _ _ (.inl rfl) e,c⟩
 |dT kvs=>
  obtain⟨z,y,xs,r,ob,es,ep,e,c⟩:=x
  exact⟨z,y,xs,Paired.mapP r fun p q z=>⟨z.1,ht _ _ z.2.1,z.2.2⟩,ob,es,ep,k _ _ (.inl rfl) e,c⟩
 |set S n=>obtain⟨ob,es,ep,t,e,c⟩:=x;exact⟨ob,es,ep,t,k _ _ (.inl rfl) e,c⟩
 |ins C dx fs=>
  obtain⟨d,z,ne,e,mA,⟨od,es,ep,e2,c⟩,r⟩:=x
  exact⟨ho _ d,z,ne,k _ _ (.inl rfl) e,mA,⟨od,es,ep,k _ _ (.inr d) e2,c⟩,r⟩
 |own y=>obtain⟨ob,e⟩:=x;exact⟨ob,k _ _ (.inl rfl) e⟩
 |xd fs=>obtain⟨mA,⟨od,es,ep,e,c⟩,r⟩:=x;exact⟨mA,⟨od,es,ep,k _ _ (.inl rfl) e,c⟩,r⟩
 |rng lo hi=>obtain⟨t,u,v,e⟩:=x;exact⟨t,u,v,k _ _ (.inl rfl) e⟩
 |frz ob u ih=>obtain⟨e,q⟩:=x;exact⟨k _ _ (.inl rfl) e,ih q⟩
 |tbl ps=>
  have e:h.get? a=some {cls:=.none,data:=.fields ps}:=x
  show h'.get? a=some {cls:=.none,data:=.fields ps}
  exact k a _ (.inl rfl) e
 |met f y=>
  have e:h.get? a=some (EU (.ref f) (.ref y)):=x
  show h'.get? a=some (EU (.ref f) (.ref y))
  exact k a _ (.inl rfl) e
 |ext φ=>obtain⟨p,⟨o,e⟩,st⟩:=x;exact⟨st _ _ p fun o q=>k _ _ (.inl rfl) q,⟨o,k _ _ (.inl rfl) e⟩,st⟩
theorem HOk.lt(x:HOk P w H h)(e:H a=some o):a<h.objs.size:=(x a o e).lt
theorem HOk.fresh(x:HOk P w H h)(e:h.objs.size≤a):H a=none:=by
 cases q:H a with
 |none=>rfl
 |some u=>exact absurd (NM (x.lt q) e) (Mq _)
theorem HOk.kept(x:HOk P w H h)(k:∀b u,h.get? b=some u→h'.get? b=some u):HOk P w H h':=fun a o e=>
 (x a o e).stay (fun b u _ q=>k b u q) (fun _ q=>q) fun _ _ q=>q
theorem HOk.laid(x:HOk P w H h)(k:∀b u,h.get? b=some u→h'.get? b=some u)(hp:h.objs.size≤a)(new:ObjOk P w (upd H a o) h' a o):HOk P w (upd H a o) h':=fun b u e=>by
 have hn:=x.fresh hp
 by_cases hb:b=a
 ·subst hb;rw[kad] at e;cases e;exact new
 ·rw[kak hb] at e
  exact(x b u e).stay (fun c v _ q=>k c v q) (fun c q=>by rw[kak (kai q hn)];exact q) fun c xs q=>by rw[kak (kai q hn)];exact q
end
noncomputable def Rd(H:Hp)(a:Addr)(u:HO):Prop:=H a=some u∨∃o,H a=some (.frz o u)
noncomputable def Rd.of{H:Hp}{a:Addr}{u:HO}(h:H a=some u):Rd H a u:=.inl h
noncomputable def Rd.ok{P:Program}{w:World}{H:Hp}{h:Heap}{a:Addr}{u:HO}(r:Rd H a u)(x:HOk P w H h):ObjOk P w H h a u:=by
 rcases r with r|⟨o,r⟩
 ·exact x a u r
 ·obtain⟨_,q⟩:=x a _ r
  exact q
noncomputable def Mut:Option HO→Prop
 |some (.lst _)=>True
 |some (.dK _)=>True
 |some (.dT _)=>True
 |some (.set _ _)=>True
 |some (.ins _ _ _)=>True
 |some (.ext _)=>True
 |_=>False
section
variable {P:Program} {w:World} {H:Hp} {h h':Heap} {x e:Addr} {o':HO}
theorem HOk.write(ok:HOk P w H h)(mu:Mut (H x))(he:e=x∨H e=some (.own x))(k:∀b u,b≠e→h.get? b=some u→h'.get? b=some u)(heo:∃u,h'.get? e=some u)
  (new:ObjOk P w (upd H x o') h' x o'):HOk P w (upd H x o') h':=fun b u q=>by
 have nown:∀c y,H c=some (.own y)→c≠x:=fun c y r z=>by subst z;rw[r] at mu;exact mu
 have ntup:∀c xs,H c=some (.tup xs)→c≠x:=fun c xs r z=>by subst z;rw[r] at mu;exact mu
 by_cases hb:b=x
 ·subst hb;rw[kad] at q;cases q;exact new
 ·rw[kak hb] at q
  by_cases hbe:b=e
  ·have q':H b=some (.own x):=by
    rcases he with z|z
    ·exact absurd (hbe.trans z) hb
    ·rw[hbe];exact z
   rw[q] at q';cases q'
   obtain⟨v,hv⟩:=heo
   exact⟨v,by rw[hbe];exact hv⟩
  ·refine(ok b u q).stay (fun c v hc r=>k c v ?_ r) (fun c r=>by rw[kak (nown c b r)];exact r) fun c xs r=>by rw[kak (ntup c xs r)];exact r
   rcases hc with rfl|hc
   ·exact hbe
   ·rintro rfl
    rcases he with z|z
    ·exact nown c b hc z
    ·rw[hc] at z;cases z;exact hb rfl
end
structure Un (fs ex:List Addr) (H H':Hp) (h h':Heap):Prop where
 keep:∀b o,h.get? b=some o→H b=none→b∉fs→b∉ex→h'.get? b=some o
 slot:∀b o,h.get? b=some o→H b=none→b∈fs→b∉ex→∃sl,h'.get? b=some {o with slots:=sl}
 free:∀b o,h.get? b=some o→H b=none→b∉ex→H' b=none
 there:∀b o,h.get? b=some o→b∉ex→∃o',h'.get? b=some o'
 tups:∀b xs,H b=some (.tup xs)→H' b=some (.tup xs)
 frzs:∀b o u,H b=some (.frz o u)→H' b=some (.frz o u)
 tbls:∀b ps,H b=some (.tbl ps)→∃more,H' b=some (.tbl (ps++more))
section
variable {fs fs' ex ex':List Addr} {H H1 H2:Hp} {h h1 h2 h':Heap} {a x e:Addr} {o:HO}
theorem Un.any(u:Un fs ex H H1 h h1){b:Addr}{ob:Obj}(q:h.get? b=some ob)(n:H b=none)(hx:b∉ex):∃sl,h1.get? b=some {ob with slots:=sl}:=by
 by_cases hb:b∈fs
 ·exact u.slot b ob q n hb hx
 ·exact⟨ob.slots,u.keep b ob q n hb hx⟩
theorem Un.trans(a:Un fs ex H H1 h h1)(b:Un fs ex H1 H2 h1 h2):Un fs ex H H2 h h2 where
 keep:=fun c ob q n hc hx=>b.keep c ob (a.keep c ob q n hc hx) (a.free c ob q n hx) hc hx
 slot:=fun c ob q n hc hx=>by
  obtain⟨sl,e1⟩:=a.slot c ob q n hc hx
  obtain⟨sl',e2⟩:=b.slot c _ e1 (a.free c ob q n hx) hc hx
  exact⟨sl',e2⟩
 free:=fun c ob q n hx=>by
  obtain⟨o',e1⟩:=a.there c ob q hx
  exact b.free c o' e1 (a.free c ob q n hx) hx
 there:=fun c ob q hx=>by
  obtain⟨o',e1⟩:=a.there c ob q hx
  exact b.there c o' e1 hx
 tups:=fun c xs q=>b.tups c xs (a.tups c xs q)
 frzs:=fun c ob xs q=>b.frzs c ob xs (a.frzs c ob xs q)
 tbls:=fun c ps q=>by
  obtain⟨m1,e1⟩:=a.tbls c ps q
  obtain⟨m2,e2⟩:=b.tbls c _ e1
  exact⟨m1++m2,by rw[e2,Array.append_assoc]⟩
theorem Un.kept(k:∀b u,h.get? b=some u→h'.get? b=some u):Un fs ex H H h h':=
 ⟨fun b ob q _ _ _=>k b ob q,fun b ob q _ _ _=>⟨ob.slots,k b ob q⟩,fun _ _ _ n _=>n,fun b ob q _=>⟨ob,k b ob q⟩,fun _ _ q=>q,fun _ _ _ q=>q,fun _ ps q=>⟨#[],by rw[q];simp⟩⟩
theorem Un.refl:Un fs ex H H h h:=Un.kept fun _ _ q=>q
theorem Un.laid(k:∀b u,h.get? b=some u→h'.get? b=some u)(hp:h.objs.size≤a)(hn:H a=none):Un fs ex H (upd H a o) h h' where
 keep:=fun b u q _ _ _=>k b u q
 slot:=fun b u q _ _ _=>⟨u.slots,k b u q⟩
 free:=fun b u q n _=>by rw[kak (NL (NM (Heap.lt_size q) hp))];exact n
 there:=fun b u q _=>⟨u,k b u q⟩
 tups:=fun b xs q=>by rw[kak (kai q hn)];exact q
 frzs:=fun b u xs q=>by rw[kak (kai q hn)];exact q
 tbls:=fun b ps q=>⟨#[],by rw[kak (kai q hn),q];simp⟩
theorem Un.write(mu:Mut (H x))(he:e=x∨H e=some (.own x))(k:∀b u,b≠e→h.get? b=some u→h'.get? b=some u)(heo:∃u,h'.get? e=some u):Un fs ex H (upd H x o) h h':=by
 have hx:∀b,H b=none→b≠x:=fun b n z=>by subst z;rw[n] at mu;exact mu
 have hb:∀b,H b=none→b≠e:=fun b n z=>by
  subst z
  rcases he with r|r
  ·exact hx b n r
  ·rw[n] at r;cases r
 have hm:∀b u,H b=some u→¬Mut (some u)→b≠x:=fun b u q nm z=>by subst z;rw[q] at mu;exact nm mu
 refine⟨fun b u q n _ _=>k b u (hb b n) q,fun b u q n _ _=>⟨u.slots,k b u (hb b n) q⟩,fun b u q n _=>by rw[kak (hx b n)];exact n,fun b u q _=>?_,
  fun b xs q=>by rw[kak (hm b _ q fun z=>z)];exact q,fun b u xs q=>by rw[kak (hm b _ q fun z=>z)];exact q,fun b ps q=>⟨#[],by rw[kak (hm b _ q fun z=>z),q];simp⟩⟩
 by_cases hbe:b=e
 ·subst hbe;exact heo
 ·exact⟨u,k b u hbe q⟩
theorem Un.mono(u:Un fs ex H H1 h h1)(hs:∀b∈fs,b∈fs')(hx:∀b∈ex,b∈ex'):Un fs' ex' H H1 h h1:=
 ⟨fun b ob q n hb he=>u.keep b ob q n (fun z=>hb (hs b z)) fun z=>he (hx b z),fun _ _ q n _ he=>u.any q n fun z=>he (hx _ z),fun b ob q n he=>u.free b ob q n fun z=>he (hx b z),fun b ob q he=>u.there b ob q fun z=>he (hx b z),u.tups,u.frzs,u.tbls⟩
end
noncomputable def trk(h:Heap)(H:Hp):List Addr:=(Nf h.objs.size).filter fun a=>(H a).isSome
noncomputable def hidT(h:Heap)(H:Hp):Heap:=PySem.W.hideAll h (trk h H)
noncomputable def kki(h:Heap)(H:Hp):(hidT h H).objs.size=h.objs.size:=PySem.W.hideAll_size _ _
noncomputable def kk7{h:Heap}{H:Hp}{b:Addr}{o:Obj}(e:h.get? b=some o)(n:H b=none):(hidT h H).get? b=some o:=
 PySem.W.hideAll_get _ e fun hm=>by
  have q:(H b).isSome=true:=(NW.mp hm).2
  rw[n] at q;simp at q
theorem kmd{h:Heap}{H:Hp}{b:Addr}{o:Obj}(e:(hidT h H).get? b=some o):h.get? b=some o∧H b=none:=by
 have e':h.get? b=some o:=PySem.W.of_hideAll (trk h H) e
 refine⟨e',?_⟩
 cases q:H b with
 |none=>rfl
 |some x=>
  have hm:b∈trk h H:=NW.mpr ⟨MJ.mpr (Heap.lt_size e'),by simp[q]⟩
  have z:(hidT h H).get? b=none:=PySem.W.hideAll_none (trk h H) hm
  rw[z] at e;cases e
noncomputable def kmv(g h:Heap)(L:Addr):List (Addr×Obj):=(Nf h.objs.size).filterMap fun a=>if a=L∨(g.get? a).isSome=true then none else(h.get? a).map fun o=>(a,o)
noncomputable def rest(g h:Heap)(L d:Addr):List (Addr×Obj):=(kmv g h L).filter fun p=>decide (p.1≠d)
end L2
namespace L2
open PySem PySem.Spec PyProof.Rows
structure Mod (K:Nc) (mg:Str→Option Value) (base:Heap):Prop where
 kin:K.In base
 glob:base.Ns mainGlobals mg
 blt:∃mb,base.Ns builtinsNs mb∧∀x:Str,x≠"__name__"→mb x=bootBuiltins x
 nolimit:base.NoLimit
structure Cx where
 prog:Program
 w:World
 K:Nc
 mg:Str→Option Value
 base:Heap
 A:Around
 N:List Str
 s₀:Shared
 H₀:Hp
 env:Env
 outer:List Env
 stack:List Env
 ex:List Addr
 fn:Str→Bool
 calm:Bool
 pn:List (Addr×Obj)
 xe:Value→Shared→Prop
noncomputable def frs(l:List Env):List Addr:=l.filterMap (·.frame)
noncomputable abbrev Cx.fs(X:Cx):List Addr:=frs X.outer
noncomputable def Vis(sc:Scope)(x:Str):Prop:=sc.names.lookup x=some .local∨sc.names.lookup x=some .cell∨sc.names.lookup x=some .free
noncomputable def Loc(sc:Scope)(x:Str):Prop:=sc.names.lookup x=some .local∨sc.names.lookup x=some .cell
noncomputable def Look(env:Env)(h:Heap)(m:Str→Option Value)(x:Str)(u:Value):Prop:=
 (env.kindOf x=some .local∧m x=some u)∨((env.kindOf x=some .cell∨env.kindOf x=some .free)∧∃c,env.cells.lookup x=some c∧h.IsCell c (some u))
structure Cx.Ok (X:Cx):Prop where
 mod:Mod X.K X.mg X.base
 kind:X.env.scope.kind=.function
 glob:X.env.globals=mainGlobals
 blt:X.env.builtins=builtinsNs
 above:X.s₀.heap.objs.size≤X.env.locals
 inj:∀x y c,X.env.cells.lookup x=some c→X.env.cells.lookup y=some c→x=y
 has:∀x,(X.env.kindOf x=some .cell∨X.env.kindOf x=some .free)→∃c,X.env.cells.lookup x=some c
 cab:∀x c,X.fn x=true→X.env.cells.lookup x=some c→X.s₀.heap.objs.size≤c
 hd:X.calm=true→X.A.handled=none
 frames:X.A.frames=some X.stack
 stk:X.stack=X.outer∨(X.stack=X.env::X.outer∧X.env.frame=some X.env.locals)
 exf:∀b∈X.ex,b≠X.env.locals∧∀x c,X.env.cells.lookup x=some c→c≠b
 bs:∀b o,X.base.get? b=some o→X.s₀.heap.get? b=some o∧X.H₀ b=none
 bsz:X.base.objs.size≤X.s₀.heap.objs.size
 noex:∀b o,X.base.get? b=some o→b∉X.ex
 exfs:∀b∈X.ex,b∉X.fs
 funs:X.s₀.heap.FunFrames X.base X.outer
 frf:∀b∈X.fs,X.H₀ b=none
structure Inv (X:Cx) (pins:List (Addr×Obj)) (σ:List (Option V)) (H:Hp) (s:Shared):Prop where
 ok:X.Ok
 os:s.os=X.s₀.os
 bare:AllBare s.gens
 base:Un X.fs X.ex X.H₀ H X.s₀.heap s.heap
 loc:∃m,s.heap.Ns X.env.locals m∧∀(i:Nat)(x:Str)(v:V),X.N[i]?=some x→σ[i]?=some (some v)→Vis X.env.scope x→∃u,RelV v u∧Look X.env s.heap m x u
 cell:∀x c,X.env.cells.lookup x=some c→∃v,s.heap.IsCell c v
 free:H X.env.locals=none
 freeC:∀x c,X.env.cells.lookup x=some c→H c=none
 pin:∀p∈X.pn++pins,s.heap.get? p.1=some p.2∧H p.1=none∧p.1≠X.env.locals∧p.1∉X.fs∧∀v,p.2.data≠.cell v
 hok:HOk X.prog X.w H s.heap
 len: σ.length=X.N.length
section
variable {X:Cx} {pins:List (Addr×Obj)} {σ:List (Option V)} {H H':Hp} {s:Shared} {h':Heap}
theorem Cx.Ok.nofr(ok:X.Ok){b:Addr}{o:Obj}(e:X.base.get? b=some o):b∉X.fs:=fun hb=>by
 have:=(ok.funs.mem hb).1
 rw[e] at this;cases this
theorem Inv.bs(I:Inv X pins σ H s):∀b o,X.base.get? b=some o→s.heap.get? b=some o∧H b=none:=fun b o e=>
 ⟨I.base.keep b o (I.ok.bs b o e).1 (I.ok.bs b o e).2 (I.ok.nofr e) (I.ok.noex b o e),I.base.free b o (I.ok.bs b o e).1 (I.ok.bs b o e).2 (I.ok.noex b o e)⟩
theorem Inv.bk(I:Inv X pins σ H s):∀b o,X.base.get? b=some o→s.heap.get? b=some o:=fun b o e=>(I.bs b o e).1
theorem Inv.mod(I:Inv X pins σ H s):Mod X.K X.mg X.base:=I.ok.mod
theorem Inv.kIn(I:Inv X pins σ H s):X.K.In s.heap:=I.ok.mod.kin.keeps I.bk
theorem Inv.nolimit(I:Inv X pins σ H s):s.heap.NoLimit:=I.ok.mod.nolimit.keeps I.bk
theorem Inv.fr(I:Inv X pins σ H s):∃m,Fr X.base X.env.locals s.heap m:=
 let⟨m,hn,_⟩:=I.loc
 ⟨m,hn,I.bk,Nk I.ok.bsz I.ok.above⟩
theorem Inv.lt(I:Inv X pins σ H s):X.env.locals<s.heap.objs.size:=let⟨_,hn,_⟩:=I.loc;hn.lt
theorem Inv.sz(I:Inv X pins σ H s):X.s₀.heap.objs.size≤s.heap.objs.size:=Nk I.ok.above (Nq I.lt)
theorem Inv.nofs(I:Inv X pins σ H s){a:Addr}(h:s.heap.objs.size≤a):a∉X.fs:=fun hb=>by
 obtain⟨_,o,ho,_⟩:=I.ok.funs.mem hb
 exact absurd (NM (Heap.lt_size ho) (Nk I.sz h)) (Mq _)
theorem Inv.cne(I:Inv X pins σ H s):∀x c,X.env.cells.lookup x=some c→c≠X.env.locals:=fun x c e z=>by
 obtain⟨v,o,ho,hd⟩:=I.cell x c e
 obtain⟨m,⟨o',es,ep,ho',hd',_⟩,_⟩:=I.loc
 rw[z,ho'] at ho;cases ho;rw[hd'] at hd;cases hd
theorem Inv.funs(I:Inv X pins σ H s):s.heap.FunFrames X.base X.outer:=by
 have all:∀(l:List Env),(∀b∈frs l,b∈X.fs)→X.s₀.heap.FunFrames X.base l→s.heap.FunFrames X.base l:=by
  intro l
  induction l with
  |nil=>intro _ _;trivial
  |cons env r ih=>
   intro hs hl
   obtain⟨hk,⟨L,o,hf,hn,ho,hd⟩,hr⟩:=hl
   have hL:L∈X.fs:=hs L (by unfold frs;rw[EV,hf];exact NJ)
   obtain⟨sl,e⟩:=I.base.slot L o ho (I.ok.frf L hL) hL fun z=>I.ok.exfs L z hL
   exact⟨hk,⟨L,_,hf,hn,e,hd⟩,ih (fun b hb=>hs b (by unfold frs;rw[EV,hf];exact NC _ hb)) hr⟩
 exact all X.outer (fun _ hb=>hb) I.ok.funs
theorem Inv.stack(I:Inv X pins σ H s):s.heap.FunFrames X.base X.stack:=by
 rcases I.ok.stk with e|⟨e,hf⟩
 ·rw[e];exact I.funs
 ·rw[e]
  obtain⟨m,hn,_⟩:=I.loc
  refine .cons (by rw[I.ok.kind];decide) hf hn ?_ I.funs
  exact Heap.get?_none_of_le (Nk I.ok.bsz I.ok.above)
theorem Inv.stkSub(I:Inv X pins σ H s):∀b∈frs X.stack,b∈X.env.locals::X.fs:=fun b hb=>by
 rcases I.ok.stk with e|⟨e,hf⟩
 ·rw[e] at hb;exact NC _ hb
 ·rw[e] at hb
  unfold frs at hb
  rw[EV,hf] at hb
  exact hb
theorem Inv.stkFree(I:Inv X pins σ H s):∀b∈frs X.stack,H b=none:=fun b hb=>by
 rcases NF.mp (I.stkSub b hb) with e|hb
 ·rw[e];exact I.free
 ·obtain⟨_,o,ho,_⟩:=I.ok.funs.mem hb
  exact I.base.free b o ho (I.ok.frf b hb) fun z=>I.ok.exfs b z hb
theorem Inv.step{g':Array GenState}{t':Nat}{d':Drawn}{ch:List Addr}(I:Inv X pins σ H s)
  (hch:∀b∈ch,(b∈X.ex∨X.s₀.heap.objs.size≤b)∧b≠X.env.locals∧(∀x c,X.env.cells.lookup x=some c→c≠b)∧∀p∈X.pn++pins,p.1≠b)
  (keep:∀b o,b≠X.env.locals→b∉X.fs→b∉ch→s.heap.get? b=some o→H b=none→h'.get? b=some o)
  (slot:∀b o,b≠X.env.locals→b∈X.fs→b∉ch→s.heap.get? b=some o→H b=none→∃sl,h'.get? b=some {o with slots:=sl}) (free:∀b o,b∉ch→s.heap.get? b=some o→H b=none→H' b=none)
  (there:∀b o,b∉ch→s.heap.get? b=some o→∃o',h'.get? b=some o')
  (tups:∀b xs,H b=some (.tup xs)→H' b=some (.tup xs)) (frzs:∀b o u,H b=some (.frz o u)→H' b=some (.frz o u)) (tbls:∀b ps,H b=some (.tbl ps)→∃more,H' b=some (.tbl (ps++more)))
  (ns:∀m,s.heap.Ns X.env.locals m→h'.Ns X.env.locals m) (hok:HOk X.prog X.w H' h') (hg:AllBare g'):
  Inv X pins σ H' {s with heap:=h',gens:=g',drawn:=d',toks:=t'}:=by
 have neL:∀b o,X.s₀.heap.get? b=some o→b≠X.env.locals:=fun b o e=>NL (NM (Heap.lt_size e) I.ok.above)
 have neC:∀b o,X.s₀.heap.get? b=some o→b∉X.ex→b∉ch:=fun b o e hx hb=>by
  rcases(hch b hb).1 with z|z
  ·exact hx z
  ·exact absurd (NM (Heap.lt_size e) z) (Mq _)
 have cellK:∀x c,X.env.cells.lookup x=some c→∀v,s.heap.IsCell c v→h'.IsCell c v:=fun x c e v ⟨o,ho,hd⟩=>by
  have nch:c∉ch:=fun z=>(hch c z).2.2.1 x c e rfl
  by_cases hc:c∈X.fs
  ·obtain⟨sl,q⟩:=slot c o (I.cne x c e) hc nch ho (I.freeC x c e)
   exact⟨_,q,hd⟩
  ·exact⟨o,keep c o (I.cne x c e) hc nch ho (I.freeC x c e),hd⟩
 refine⟨I.ok,I.os,hg,⟨fun b o e n hb hx=>?_,fun b o e n hb hx=>?_,fun b o e n hx=>?_,fun b o e hx=>?_,fun b xs e=>tups b xs (I.base.tups b xs e),fun b o xs e=>frzs b o xs (I.base.frzs b o xs e),fun b ps e=>?_⟩,?_,fun x c e=>?_,?_,fun x c e=>?_,fun p hp=>?_,hok,I.len⟩
 ·exact keep b o (neL b o e) hb (neC b o e hx) (I.base.keep b o e n hb hx) (I.base.free b o e n hx)
 ·obtain⟨sl,e1⟩:=I.base.slot b o e n hb hx
  obtain⟨sl',e2⟩:=slot b _ (neL b o e) hb (neC b o e hx) e1 (I.base.free b o e n hx)
  exact⟨sl',e2⟩
 ·obtain⟨o',e1⟩:=I.base.there b o e hx
  exact free b o' (neC b o e hx) e1 (I.base.free b o e n hx)
 ·obtain⟨o',e1⟩:=I.base.there b o e hx
  exact there b o' (neC b o e hx) e1
 ·obtain⟨m1,e1⟩:=I.base.tbls b ps e
  obtain⟨m2,e2⟩:=tbls b _ e1
  exact⟨m1++m2,by rw[e2,Array.append_assoc]⟩
 ·obtain⟨m,hn,hl⟩:=I.loc
  refine⟨m,ns m hn,fun i x v e1 e2 e3=>?_⟩
  obtain⟨u,r,l⟩:=hl i x v e1 e2 e3
  refine⟨u,r,?_⟩
  rcases l with l|⟨k,c,e,z⟩
  ·exact .inl l
  ·exact .inr ⟨k,c,e,cellK x c e _ z⟩
 ·obtain⟨v,z⟩:=I.cell x c e
  exact⟨v,cellK x c e v z⟩
 ·obtain⟨m,⟨o,_,_,ho,_⟩,_⟩:=I.loc
  exact free _ o (fun z=>(hch _ z).2.1 rfl) ho I.free
 ·obtain⟨v,o,ho,hd⟩:=I.cell x c e
  exact free c o (fun z=>(hch c z).2.2.1 x c e rfl) ho (I.freeC x c e)
 ·obtain⟨e,n,ne,nf,d⟩:=I.pin p hp
  have nch:p.1∉ch:=fun z=>(hch p.1 z).2.2.2 p hp rfl
  exact⟨keep p.1 p.2 ne nf nch e n,free p.1 p.2 nch e n,ne,nf,d⟩
theorem Inv.un{t':Nat}(I:Inv X pins σ H s)(u:Un X.fs [] H H' s.heap h')(hok:HOk X.prog X.w H' h'):Inv X pins σ H' {s with heap:=h',toks:=t'}:=by
 obtain⟨m,⟨o,es,ep,ho,r⟩,_⟩:=id I.loc
 obtain⟨sl,hL⟩:=u.any ho I.free (by simp)
 exact I.step (g':=s.gens) (d':=s.drawn) (ch:=[]) (fun _ z=>nomatch z) (fun b o _ hb _ e n=>u.keep b o e n hb (by simp)) (fun b o _ hb _ e n=>u.slot b o e n hb (by simp)) (fun b o _ e n=>u.free b o e n (by simp)) (fun b o _ e=>u.there b o e (by simp)) u.tups u.frzs u.tbls (fun m' hm=>by
  obtain⟨o',es',ep',ho',r'⟩:=hm
  rw[ho] at ho';cases ho'
  exact⟨_,es',ep',hL,r'⟩) hok I.bare
theorem Inv.call{g':Array GenState}{t':Nat}{d':Drawn}{ch:List Addr}(I:Inv X pins σ H s)(u:Un (frs X.stack) ch H H' s.heap h')(hok:HOk X.prog X.w H' h')(hg:AllBare g')
  (hch:∀b∈ch,(b∈X.ex∨X.s₀.heap.objs.size≤b)∧b≠X.env.locals∧(∀x c,X.env.cells.lookup x=some c→c≠b)∧∀p∈X.pn++pins,p.1≠b):
  Inv X pins σ H' {s with heap:=h',gens:=g',drawn:=d',toks:=t'}:=by
 obtain⟨m,⟨o,es,ep,ho,r⟩,_⟩:=id I.loc
 obtain⟨sl,hL⟩:=u.any ho I.free fun z=>(hch _ z).2.1 rfl
 exact I.step (ch:=ch) hch (fun b o hL hb hc e n=>u.keep b o e n (fun z=>(NF.mp (I.stkSub b z)).elim hL hb) hc) (fun b o _ _ hc e n=>u.any e n hc) (fun b o hc e n=>u.free b o e n hc) (fun b o hc e=>u.there b o e hc) u.tups u.frzs u.tbls (fun m' hm=>by
  obtain⟨o',es',ep',ho',r'⟩:=hm
  rw[ho] at ho';cases ho'
  exact⟨_,es',ep',hL,r'⟩) hok hg
theorem Inv.turned{t':Nat}{it:Addr}(I:Inv X pins σ H s)(k:∀b o,b≠it→s.heap.get? b=some o→h'.get? b=some o)(hn:H it=none)(hL:it≠X.env.locals)
  (h1:it∈X.ex∨X.s₀.heap.objs.size≤it) (h2:∀x c,X.env.cells.lookup x=some c→c≠it) (h3:∀p∈X.pn++pins,p.1≠it):Inv X pins σ H {s with heap:=h',toks:=t'}:=by
 have nit:∀b u,H b=some u→b≠it:=fun b u e z=>by rw[z,hn] at e;cases e
 refine I.step (g':=s.gens) (d':=s.drawn) (ch:=[it]) (fun b hb=>?_) (fun b o _ _ hc e _=>k b o (fun z=>hc (by simp[z])) e) (fun b o _ _ hc e _=>⟨o.slots,k b o (fun z=>hc (by simp[z])) e⟩) (fun _ _ _ _ n=>n)
  (fun b o hc e=>⟨o,k b o (fun z=>hc (by simp[z])) e⟩) (fun _ _ e=>e) (fun _ _ _ e=>e) (fun b ps e=>⟨#[],by rw[e];simp⟩) (fun m hm=>?_) (fun b u e=>?_) I.bare
 ·have e:b=it:=by simpa using hb
  subst e
  exact⟨h1,hL,h2,h3⟩
 ·obtain⟨o,es,ep,ho,r⟩:=hm
  exact⟨o,es,ep,k _ o (Ne.symm hL) ho,r⟩
 ·refine(I.hok b u e).stay (fun c v hc q=>k c v ?_ q) (fun _ q=>q) fun _ _ q=>q
  rcases hc with z|z
  ·rw[z];exact nit b u e
  ·exact nit c _ z
theorem Inv.tok(I:Inv X pins σ H s)(t:Nat):Inv X pins σ H {s with toks:=t}:=I.un (h':=s.heap) (t':=t) Un.refl I.hok
theorem Inv.kept{t':Nat}(I:Inv X pins σ H s)(k:∀b u,s.heap.get? b=some u→h'.get? b=some u):Inv X pins σ H {s with heap:=h',toks:=t'}:=I.un (Un.kept k) (I.hok.kept k)
theorem Inv.laid{a:Addr}{o:HO}{t':Nat}(I:Inv X pins σ H s)(k:∀b u,s.heap.get? b=some u→h'.get? b=some u)(hp:s.heap.objs.size≤a)(new:ObjOk X.prog X.w (upd H a o) h' a o):
  Inv X pins σ (upd H a o) {s with heap:=h',toks:=t'}:=I.un (Un.laid k hp (I.hok.fresh hp)) (I.hok.laid k hp new)
theorem Inv.write{x e:Addr}{o:HO}{t':Nat}(I:Inv X pins σ H s)(mu:Mut (H x))(he:e=x∨H e=some (.own x))(k:∀b u,b≠e→s.heap.get? b=some u→h'.get? b=some u)(heo:∃u,h'.get? e=some u)
  (new:ObjOk X.prog X.w (upd H x o) h' x o):Inv X pins σ (upd H x o) {s with heap:=h',toks:=t'}:=I.un (Un.write mu he k heo) (I.hok.write mu he k heo new)
theorem Inv.pins_of{pins':List (Addr×Obj)}(I:Inv X pins σ H s)(h:∀p∈pins',s.heap.get? p.1=some p.2∧H p.1=none∧p.1≠X.env.locals∧p.1∉X.fs∧∀v,p.2.data≠.cell v):Inv X pins' σ H s:=
 ⟨I.ok,I.os,I.bare,I.base,I.loc,I.cell,I.free,I.freeC,fun p hp=>(NR.mp hp).elim (fun z=>I.pin p (El _ z)) (h p),I.hok,I.len⟩
theorem kit{N:List Str}(hN:N.Nodup){i j:Nat}{x:Str}(a:N[i]?=some x)(b:N[j]?=some x):i=j:=by
 obtain⟨h1,e1⟩:=Nu.mp a
 obtain⟨h2,e2⟩:=Nu.mp b
 exact(EW hN).mp (e1.trans e2.symm)
theorem kjl{M:Model}{A:Around}{E:Value→Shared→Prop}{i:Nat}{x:Str}{v:V}{u:Value}{Q:Unit→Shared→Prop}(I:Inv X pins σ H s)(hN:X.N.Nodup)(hi:X.N[i]?=some x)(hx:Loc X.env.scope x)(r:RelV v u)
  (h:∀s',Inv X pins (σ.set i (some v)) H s'→(∃a,Heap.SameBut a s.heap s'.heap∧(a=X.env.locals∨X.env.cells.lookup x=some a))→Q () s') (hf:X.fn x=true∨X.env.scope.names.lookup x=some .local:=by first|exact .inl rfl|exact .inr rfl|assumption):wpAny M A (storeName X.env x u) Q E s:=by
 obtain⟨m,hn,hl⟩:=id I.loc
 have hcls:(X.env.scope.kind== .class||(X.env.scope.kind== .module&&X.env.locals !=X.env.globals))=false:=by rw[I.ok.kind];rfl
 have hiσ:i< σ.length:=by rw[I.len];exact(Nu.mp hi).1
 have cne:=I.cne
 have tracked:∀{a:Addr}{h':Heap},(∃o,s.heap.get? a=some o∧H a=none)→Heap.SameBut a s.heap h'→HOk X.prog X.w H h':=fun {a h'} ha hs b ob e=>by
  obtain⟨_,_,hfree⟩:=ha
  refine(I.hok b ob e).stay (fun c w' hc q=>(hs.2 c ?_).trans q) (fun _ q=>q) fun _ _ q=>q
  rintro rfl
  rcases hc with rfl|hc
  ·rw[hfree] at e;cases e
  ·rw[hfree] at hc;cases hc
 rcases hx with hk|hk
 ·refine wpAny_storeName_local hk hn (fun h' hn' hs=>?_) hcls
  obtain⟨oL,_,_,hoL,_⟩:=id hn
  refine h _ ⟨I.ok,I.os,I.bare,⟨fun b o e n hb hx=>?_,fun b o e n hb hx=>?_,I.base.free,fun b o e hx=>?_,I.base.tups,I.base.frzs,I.base.tbls⟩,⟨_,hn',fun j y v' e1 e2 e3=>?_⟩,fun y c e=>?_,I.free,I.freeC,fun p hp=>?_,tracked ⟨oL,hoL,I.free⟩ hs,by simpa using I.len⟩ ⟨_,hs, .inl rfl⟩
  ·exact(hs.2 b (NL (NM (Heap.lt_size e) I.ok.above))).trans (I.base.keep b o e n hb hx)
  ·obtain⟨sl,e1⟩:=I.base.slot b o e n hb hx
   exact⟨sl,(hs.2 b (NL (NM (Heap.lt_size e) I.ok.above))).trans e1⟩
  ·obtain⟨o',e1⟩:=I.base.there b o e hx
   exact⟨o',(hs.2 b (NL (NM (Heap.lt_size e) I.ok.above))).trans e1⟩
  ·by_cases hj:j=i
   ·subst hj
    rw[hi] at e1;cases e1
    rw[Em hiσ] at e2
    cases e2
    exact⟨u,r, .inl ⟨hk,by simp⟩⟩
   ·rw[En (Ne.symm hj)] at e2
    obtain⟨u',r',q⟩:=hl j y v' e1 e2 e3
    refine⟨u',r',?_⟩
    rcases q with⟨k,e⟩|⟨k,c,e,z⟩
    ·refine .inl ⟨k,?_⟩
     have:y≠x:=fun e=>hj (kit hN e1 (e▸hi))
     simp[this,e]
    ·exact .inr ⟨k,c,e,z.sameBut hs (cne y c e)⟩
  ·obtain⟨w',z⟩:=I.cell y c e
   exact⟨w',z.sameBut hs (cne y c e)⟩
  ·obtain⟨e,n,ne,nf,d⟩:=I.pin p hp
   exact⟨(hs.2 p.1 ne).trans e,n,ne,nf,d⟩
 ·have hfn:X.fn x=true:=by
   rcases hf with z|z
   ·exact z
   ·rw[z] at hk;cases hk
  obtain⟨c,hc⟩:=I.ok.has x (.inl hk)
  obtain⟨w',z⟩:=I.cell x c hc
  refine wpAny_storeName_cell I.ok.kind hk hc z (fun h' hc' hs=>?_)
  obtain⟨oc,hoc,hocd⟩:=id z
  refine h {s with heap:=h'} ⟨I.ok,I.os,I.bare,⟨fun b o e n hb hx=>?_,fun b o e n hb hx=>?_,I.base.free,fun b o e hx=>?_,I.base.tups,I.base.frzs,I.base.tbls⟩,⟨m,hn.sameBut hs (Ne.symm (cne x c hc)),fun j y v' e1 e2 e3=>?_⟩,fun y c' e=>?_,I.free,I.freeC,fun p hp=>?_,tracked ⟨oc,hoc,I.freeC x c hc⟩ hs,by simpa using I.len⟩ ⟨c,hs, .inr hc⟩
  ·exact(hs.2 b (NL (NM (Heap.lt_size e) (I.ok.cab x c hfn hc)))).trans (I.base.keep b o e n hb hx)
  ·obtain⟨sl,e1⟩:=I.base.slot b o e n hb hx
   exact⟨sl,(hs.2 b (NL (NM (Heap.lt_size e) (I.ok.cab x c hfn hc)))).trans e1⟩
  ·obtain⟨o',e1⟩:=I.base.there b o e hx
   exact⟨o',(hs.2 b (NL (NM (Heap.lt_size e) (I.ok.cab x c hfn hc)))).trans e1⟩
  ·by_cases hj:j=i
   ·subst hj
    rw[hi] at e1;cases e1
    rw[Em hiσ] at e2
    cases e2
    exact⟨u,r, .inr ⟨.inl hk,c,hc,hc'⟩⟩
   ·rw[En (Ne.symm hj)] at e2
    obtain⟨u',r',q⟩:=hl j y v' e1 e2 e3
    refine⟨u',r',?_⟩
    rcases q with q|⟨k,c',e,z'⟩
    ·exact .inl q
    ·refine .inr ⟨k,c',e,z'.sameBut hs ?_⟩
     rintro rfl
     exact hj (kit hN e1 (I.ok.inj _ _ _ e hc▸hi))
  ·by_cases hcc:c'=c
   ·subst hcc;exact⟨_,hc'⟩
   ·obtain⟨w2,z2⟩:=I.cell y c' e
    exact⟨w2,z2.sameBut hs hcc⟩
  ·obtain⟨e,n,ne,nf,d⟩:=I.pin p hp
   refine⟨(hs.2 p.1 ?_).trans e,n,ne,nf,d⟩
   intro q
   rw[q,hoc] at e
   have q':oc=p.2:=Option.some.inj e
   exact d w' (by rw[←q'];exact hocd)
theorem kfM{M:Model}{A:Around}{E:Value→Shared→Prop}{i:Nat}{x:Str}{v:V}{u:Value}{Q:Unit→Shared→Prop}(I:Inv X pins σ H s)(hN:X.N.Nodup)(hi:X.N[i]?=some x)(hx:Loc X.env.scope x)(r:RelV v u)
  (h:∀s',Inv X pins (σ.set i (some v)) H s'→Q () s') (hf:X.fn x=true∨X.env.scope.names.lookup x=some .local:=by first|exact .inl rfl|exact .inr rfl|assumption):wpAny M A (storeName X.env x u) Q E s:=
 kjl I hN hi hx r (fun s' I' _=>h s' I') hf
theorem Inv.call'{s':Shared}{ch:List Addr}(I:Inv X pins σ H s)(ho:s'.os=s.os)(u:Un (frs X.stack) ch H H' s.heap s'.heap)(hok:HOk X.prog X.w H' s'.heap)(hg:AllBare s'.gens)
  (hch:∀b∈ch,(b∈X.ex∨X.s₀.heap.objs.size≤b)∧b≠X.env.locals∧(∀x c,X.env.cells.lookup x=some c→c≠b)∧∀p∈X.pn++pins,p.1≠b):Inv X pins σ H' s':=by
 obtain⟨h',g',d',t',o'⟩:=s'
 have e:o'=s.os:=ho
 subst e
 exact I.call (g':=g') (t':=t') (d':=d') u hok hg hch
end
noncomputable abbrev XK:=Value→Option Addr→Hp→Prop
noncomputable abbrev St:=List (Option V)
noncomputable abbrev VK:=V→Hp→Prop
noncomputable abbrev TE:=St→Hp→VK→Prop
noncomputable abbrev TT:=St→Hp→(Bool→Hp→Prop)→Prop
noncomputable abbrev TA:=St→Hp→(List V→Hp→Prop)→Prop
structure Ends where
 nx:St→Hp→Prop
 rt:VK
 bk:St→Hp→Prop:=fun _ _=>False
 ct:St→Hp→Prop:=fun _ _=>False
noncomputable abbrev TS:=Ends→St→Hp→Prop
noncomputable def EP(X:Cx)(pins:List (Addr×Obj))(σ:St)(Q:VK)(u:Value)(s':Shared):Prop:=∃v H',Inv X pins σ H' s'∧RelV v u∧Q v H'
noncomputable def TP(X:Cx)(pins:List (Addr×Obj))(σ:St)(Q:Bool→Hp→Prop)(b:Bool)(s':Shared):Prop:=∃H',Inv X pins σ H' s'∧Q b H'
noncomputable def AP(X:Cx)(pins:List (Addr×Obj))(σ:St)(Q:List V→Hp→Prop)(us:List Value)(s':Shared):Prop:=∃vs H',Inv X pins σ H' s'∧Vals vs us∧Q vs H'
noncomputable def SP(X:Cx)(pins:List (Addr×Obj))(D:Ends)(f:Flow)(s':Shared):Prop:=
 match f with
 | .next=>∃σ' H',Inv X pins σ' H' s'∧D.nx σ' H'
 | .brk=>∃σ' H',Inv X pins σ' H' s'∧D.bk σ' H'
 | .cont=>∃σ' H',Inv X pins σ' H' s'∧D.ct σ' H'
 | .ret u=>∃v σ' H',Inv X pins σ' H' s'∧RelV v u∧D.rt v H'
noncomputable def PE(X:Cx)(e:Expr)(t:TE):Prop:=
 ∀(pins:List (Addr×Obj))(s:Shared)(σ:St)(H:Hp)(Q:VK),Inv X pins σ H s→t σ H Q→wpAny (model X.prog X.w) X.A (eval e X.env) (EP X pins σ Q) X.xe s
noncomputable def PT(X:Cx)(e:Expr)(t:TT):Prop:=
 ∀(pins:List (Addr×Obj))(s:Shared)(σ:St)(H:Hp)(Q:Bool→Hp→Prop),Inv X pins σ H s→t σ H Q→wpAny (model X.prog X.w) X.A (isTrue e X.env (eval e X.env)) (TP X pins σ Q) X.xe s
noncomputable def PW(X:Cx)(e:Expr)(t:TT):Prop:=
 ∀(whole:Sem Value)(pins:List (Addr×Obj))(s:Shared)(σ:St)(H:Hp)(Q:Bool→Hp→Prop),Inv X pins σ H s→t σ H Q→wpAny (model X.prog X.w) X.A (isTrue e X.env whole) (TP X pins σ Q) X.xe s
noncomputable def PW.pt{X:Cx}{e:Expr}{t:TT}(h:PW X e t):PT X e t:=h _
noncomputable def PA(X:Cx)(es:List Expr)(t:TA):Prop:=
 ∀(pos:Pos)(pins:List (Addr×Obj))(s:Shared)(σ:St)(H:Hp)(Q:List V→Hp→Prop),Inv X pins σ H s→t σ H Q→wpAny (model X.prog X.w) X.A (spliced (backTo pos (starEach es X.env))) (AP X pins σ Q) X.xe s
noncomputable def PS(X:Cx)(st:Stmt)(t:TS):Prop:=
 ∀(pins:List (Addr×Obj))(s:Shared)(σ:St)(H:Hp)(D:Ends),Inv X pins σ H s→t D σ H→wpAny (model X.prog X.w) X.A (exec st X.env) (SP X pins D) X.xe s
noncomputable def PSs(X:Cx)(st:List Stmt)(t:TS):Prop:=
 ∀(pins:List (Addr×Obj))(s:Shared)(σ:St)(H:Hp)(D:Ends),Inv X pins σ H s→t D σ H→wpAny (model X.prog X.w) X.A (execs st X.env) (SP X pins D) X.xe s
noncomputable def thn{α:Type}{t:Sem α}{Q Q': α→Shared→Prop}{M:Model}{A:Around}{E:Value→Shared→Prop}{s:Shared}(h:wpAny M A t Q E s)(hQ:∀a s,Q a s→Q' a s):wpAny M A t Q' E s:=wpAny_mono h hQ fun _ _ x=>x
end L2
namespace L2
open PySem PySem.Spec PyProof.Rows
section
variable {X:Cx}
noncomputable def tVar(i:Nat):TE:=fun σ H Q=>∃v,σ[i]?=some (some v)∧Q v H
noncomputable def tC(v:V):TE:=fun _ H Q=>Q v H
theorem kmD{i:Nat}{x:Str}{pos:Pos}(hN:X.N[i]?=some x)(hv:Vis X.env.scope x)(hd:(x==("__debug__" :Str))=false:=by decide)(hcd:(x==("__classdict__" :Str))=false:=by decide):PE X (.Name x pos) (tVar i):=by
 intro pins s σ H Q I h
 obtain⟨v,e,h⟩:=h
 obtain⟨m,hn,hl⟩:=I.loc
 obtain⟨u,r,l⟩:=hl i x v hN e hv
 have fin:EP X pins σ Q u s:=⟨v,H,I,r,h⟩
 rcases l with⟨hk,hm⟩|⟨hk,c,hc,hcell⟩
 ·exact wpAny_Name (wpAny_loadName_local I.ok.kind hk hn hm fin) hd
 ·rcases hk with hk|hk
  ·exact wpAny_Name (wpAny_loadName_cell I.ok.kind hk hc hcell fin) hd
  ·exact wpAny_Name (wpAny_loadName_free I.ok.kind hk hc hcell fin hcd) hd
theorem kag{i j pos}:PE X (.Constant (.int i) j pos) (tC (.int i)):=fun _ _ _ H _ I h=>wpAny_Constant_int ⟨.int i,H,I.tok _,⟨_,rfl⟩,h⟩
theorem pe_bl{b j pos}:PE X (.Constant (.bool b) j pos) (tC (.bl b)):=fun _ _ _ H _ I h=>Constant_bool ⟨.bl b,H,I,rfl,h⟩
theorem kbd{j pos}:PE X (.Constant .none j pos) (tC .non):=fun _ _ _ H _ I h=>Constant_none ⟨.non,H,I,rfl,h⟩
theorem kbQ{x j pos}:PE X (.Constant (.str x) j pos) (tC (.str x)):=fun _ _ _ H _ I h=>Calls.Constant_str ⟨.str x,H,I.tok _,⟨_,rfl⟩,h⟩
noncomputable def Gl(X:Cx)(x:Str):Prop:=X.env.kindOf x=some .globalImplicit
theorem kf7{E:Value→Shared→Prop}{pins:List (Addr×Obj)}{s:Shared}{σ:St}{H:Hp}{x:Str}{u:Value}{pos:Pos}{Q:Value→Shared→Prop}(I:Inv X pins σ H s)(hg:Gl X x)(hm:X.mg x=some u)(h:Q u s)
  (hd:(x==("__debug__" :Str))=false:=by decide):wpAny (model X.prog X.w) X.A (eval (.Name x pos) X.env) Q E s:=
 Calls.Name_function_global I.ok.kind hg (Calls.loadGlobal_global (by rw[I.ok.glob];exact I.mod.glob.keeps I.bk) hm h) hd
theorem kcX{E:Value→Shared→Prop}{pins:List (Addr×Obj)}{s:Shared}{σ:St}{H:Hp}{x:Str}{u:Value}{pos:Pos}{Q:Value→Shared→Prop}(I:Inv X pins σ H s)(hg:Gl X x)(hm:X.mg x=none)(hv:bootBuiltins x=some u)(h:Q u s)
  (hn:x≠"__name__":=by decide) (hd:(x==("__debug__" :Str))=false:=by decide):wpAny (model X.prog X.w) X.A (eval (.Name x pos) X.env) Q E s:=by
 obtain⟨mb,h1,h2⟩:=I.mod.blt
 exact Calls.Name_function_global I.ok.kind hg (Calls.loadGlobal_builtin (by rw[I.ok.glob];exact I.mod.glob.keeps I.bk) hm (by rw[I.ok.blt];exact h1.keeps I.bk) ((h2 x hn).trans hv) h) hd
theorem kbC{x:Str}{v:V}{u:Value}{pos:Pos}(hg:Gl X x)(hm:X.mg x=some u)(r:RelV v u)(hd:(x==("__debug__" :Str))=false:=by decide):PE X (.Name x pos) (tC v):=
 fun _ _ _ H _ I h=>kf7 I hg hm ⟨v,H,I,r,h⟩ hd
theorem keH{x:Str}{v:V}{u:Value}{pos:Pos}(hg:Gl X x)(hm:X.mg x=none)(hv:bootBuiltins x=some u)(r:RelV v u)(hn:x≠"__name__":=by decide)(hd:(x==("__debug__" :Str))=false:=by decide):PE X (.Name x pos) (tC v):=
 fun _ _ _ H _ I h=>kcX I hg hm hv ⟨v,H,I,r,h⟩ hn hd
variable {a b:Expr} {ta tb:TE} {pos:Pos}
noncomputable def PC(X:Cx)(op:CmpOp)(a b:Expr)(t:TE):Prop:=
 ∀(pins:List (Addr×Obj))(s:Shared)(σ:St)(H:Hp)(Q:VK),Inv X pins σ H s→t σ H Q→
  wpAny (model X.prog X.w) X.A (eval a X.env) (fun v s₁=>wpAny (model X.prog X.w) X.A (eval b X.env) (fun u s₂=>wpAny (model X.prog X.w) X.A (compareOp op v u) (EP X pins σ Q) X.xe s₂) X.xe s₁) X.xe s
noncomputable def tB(t:TE):TT:=fun σ H Q=>t σ H fun x H1=>∃c,x=.bl c∧Q c H1
theorem kaN{e:Expr}{t:TE}(h:PE X e t)(he:∀whole,isTrue e X.env whole=(do let v ←whole;standAt e.pos;holding [v] (truthy v)):=by intro _;rfl):PT X e (tB t):=by
 intro pins s σ H Q I hw
 refine isTrue_plain (thn (h pins s σ H _ I hw) fun v s1 zz=>?_) (he _)
 obtain⟨x,H1,I1,r1,q1⟩:=zz
 obtain⟨d,rfl,q⟩:=q1
 cases r1
 exact wpAny_truthy_bool ⟨H1,I1,q⟩
variable {tA tB':TT} {rest:List Expr}
noncomputable def tAnd(t u:TT):TT:=fun σ H Q=>t σ H fun c H1=>if c=true then u σ H1 Q else Q false H1
noncomputable def tOr(t u:TT):TT:=fun σ H Q=>t σ H fun c H1=>if c=true then Q true H1 else u σ H1 Q
noncomputable def tNot(t:TT):TT:=fun σ H Q=>t σ H fun c H1=>Q (!c) H1
theorem kaX(ha:PT X a tA):PW X (.BoolOp .And [a] pos) tA:=by
 intro wh pins s σ H Q I h
 refine isTrue_and (thn (ha pins s σ H Q I h) fun c s1 e=>?_)
 cases c with
 |true=>exact isTrue_and_nil e
 |false=>exact e
theorem kdY(ha:PT X a tA):PW X (.BoolOp .Or [a] pos) tA:=by
 intro wh pins s σ H Q I h
 refine isTrue_or (thn (ha pins s σ H Q I h) fun c s1 e=>?_)
 cases c with
 |false=>exact isTrue_or_nil e
 |true=>exact e
theorem ka6(ha:PT X a tA)(hb:PW X (.BoolOp .And (b::rest) pos) tB'):PW X (.BoolOp .And (a::b::rest) pos) (tAnd tA tB'):=by
 intro wh pins s σ H Q I h
 refine isTrue_and (thn (ha pins s σ H _ I h) fun c s1 zz=>?_)
 obtain⟨H1,I1,q1⟩:=zz
 cases c with
 |true=>exact hb wh pins s1 σ H1 Q I1 q1
 |false=>exact⟨H1,I1,q1⟩
theorem pw_or(ha:PT X a tA)(hb:PW X (.BoolOp .Or (b::rest) pos) tB'):PW X (.BoolOp .Or (a::b::rest) pos) (tOr tA tB'):=by
 intro wh pins s σ H Q I h
 refine isTrue_or (thn (ha pins s σ H _ I h) fun c s1 zz=>?_)
 obtain⟨H1,I1,q1⟩:=zz
 cases c with
 |true=>exact⟨H1,I1,q1⟩
 |false=>exact hb wh pins s1 σ H1 Q I1 q1
theorem kcv(ha:PT X a tA):PT X (.UnaryOp .Not a pos) (tNot tA):=by
 intro pins s σ H Q I h
 exact isTrue_not (ha pins s σ H (fun c H1=>Q (!c) H1) I h)
noncomputable def tAndV(ta tb:TE):TE:=fun σ H Q=>ta σ H fun x H1=>∃c,x=.bl c∧if c=true then tb σ H1 Q else Q (.bl false) H1
noncomputable def tOrV(ta tb:TE):TE:=fun σ H Q=>ta σ H fun x H1=>∃c,x=.bl c∧if c=true then Q (.bl true) H1 else tb σ H1 Q
noncomputable def tNotV(ta:TE):TE:=fun σ H Q=>ta σ H fun x H1=>∃c,x=.bl c∧Q (.bl (!c)) H1
theorem kij{op}{t:TE}(h:PE X a t):PE X (.BoolOp op [a] pos) t:=fun pins s σ H Q I hw=>BoolOp_one (h pins s σ H Q I hw)
theorem kjU(ha:PE X a ta)(hb:PE X (.BoolOp .And (b::rest) pos) tb):PE X (.BoolOp .And (a::b::rest) pos) (tAndV ta tb):=by
 intro pins s σ H Q I h
 refine BoolOp_and (thn (ha pins s σ H _ I h) fun v s1 zz=>?_)
 obtain⟨x,H1,I1,r1,q1⟩:=zz
 obtain⟨c,rfl,q1⟩:=q1
 cases r1
 refine wpAny_truthy_bool ?_
 cases c with
 |true=>exact hb pins s1 σ H1 Q I1 q1
 |false=>exact⟨.bl false,H1,I1,rfl,q1⟩
theorem pe_or(ha:PE X a ta)(hb:PE X (.BoolOp .Or (b::rest) pos) tb):PE X (.BoolOp .Or (a::b::rest) pos) (tOrV ta tb):=by
 intro pins s σ H Q I h
 refine BoolOp_or (thn (ha pins s σ H _ I h) fun v s1 zz=>?_)
 obtain⟨x,H1,I1,r1,q1⟩:=zz
 obtain⟨c,rfl,q1⟩:=q1
 cases r1
 refine wpAny_truthy_bool ?_
 cases c with
 |false=>exact hb pins s1 σ H1 Q I1 q1
 |true=>exact⟨.bl true,H1,I1,rfl,q1⟩
theorem kmE(ha:PE X a ta):PE X (.UnaryOp .Not a pos) (tNotV ta):=by
 intro pins s σ H Q I h
 refine UnaryOp_ (thn (ha pins s σ H _ I h) fun v s1 zz=>?_)
 obtain⟨x,H1,I1,r1,q1⟩:=zz
 obtain⟨c,rfl,q1⟩:=q1
 cases r1
 exact not_of (wpAny_truthy_bool ⟨.bl (!c),H1,I1,rfl,q1⟩)
noncomputable def tIf(t:TT)(ta tb:TE):TE:=fun σ H Q=>t σ H fun c H1=>if c=true then ta σ H1 Q else tb σ H1 Q
theorem kdp{c:Expr}(hc:PT X c tA)(ha:PE X a ta)(hb:PE X b tb):PE X (.IfExp c a b pos) (tIf tA ta tb):=by
 intro pins s σ H Q I h
 refine wpAny_IfExp (thn (hc pins s σ H _ I h) fun d s1 zz=>?_)
 obtain⟨H1,I1,q1⟩:=zz
 cases d with
 |true=>exact ha pins s1 σ H1 Q I1 q1
 |false=>exact hb pins s1 σ H1 Q I1 q1
end
end L2
namespace L2
open PySem PySem.Spec PyProof.Rows
noncomputable def SqL(K:Nc)(H:Hp)(a:Addr)(xs:List V):Prop:=
 Rd H a (.lst xs)∨
  ∃(o:Obj)(its:Array Value)(n:Nat),K.lookup a=some o∧o.cls=.type "list"∧o.dict=none∧o.data=.seq its n∧its.size≤sizeLine∧Vals xs its.toList
noncomputable def SqT(K:Nc)(H:Hp)(a:Addr)(xs:List V):Prop:=
 Rd H a (.tup xs)∨
  ∃(o:Obj)(its:Array Value)(n:Nat),K.lookup a=some o∧o.cls=.type "tuple"∧o.data=.seq its n∧its.size≤sizeLine∧Vals xs its.toList
noncomputable def absV:Value→Option V
 | .none=>some .non
 | .bool b=>some (.bl b)
 | .int i _=>some (.int i)
 | .str x _=>some (.str x)
 | .bytes b _=>some (.byt b)
 | .float b _=>some (.flt b)
 | .ref a=>some (.ref a)
 | .type n=>some (.ty n)
 |_=>none
theorem RelV.abs{x:V}{u:Value}(r:RelV x u):absV u=some x:=by
 cases x with
 |non=>cases r;rfl
 |bl _=>cases r;rfl
 |int _=>obtain⟨t,rfl⟩:=r;rfl
 |str _=>obtain⟨t,rfl⟩:=r;rfl
 |byt _=>obtain⟨t,rfl⟩:=r;rfl
 |flt _=>obtain⟨t,rfl⟩:=r;rfl
 |ref _=>cases r;rfl
 |ty _=>cases r;rfl
noncomputable def RelV.inj{x y:V}{u:Value}(r:RelV x u)(q:RelV y u):x=y:=Option.some.inj (r.abs.symm.trans q.abs)
theorem Vals.inj:∀{xs ys:List V}{us:List Value},Vals xs us→Vals ys us→xs=ys
 |_,_,_, .nil, .nil=>rfl
 |_,_,_, .cons r t, .cons r' t'=>by rw[r.inj r',Vals.inj t t']
section
variable {X:Cx} {pins:List (Addr×Obj)} {σ:St} {H:Hp} {s:Shared} {a:Addr} {xs ys:List V}
theorem SqL.of{K:Nc}(h:H a=some (.lst xs)):SqL K H a xs:=.inl (.inl h)
theorem SqT.of{K:Nc}(h:H a=some (.tup xs)):SqT K H a xs:=.inl (.inl h)
theorem Inv.list(I:Inv X pins σ H s)(h:SqL X.K H a xs):∃its:List Value,Vals xs its∧PlainL s.heap a its.toArray∧xs.length≤sizeLine:=by
 rcases h with h|⟨o,its,n,hk,hc,hd,hs,hz,r⟩
 ·obtain⟨z,its,n,r,e⟩:=h.ok I.hok
  exact⟨its,r,⟨_,n,e,rfl,rfl,rfl⟩,z⟩
 ·refine⟨its.toList,r,⟨o,n,I.kIn a o hk,hc,hd,by simpa using hs⟩,?_⟩
  have e:=r.length
  simp only[MU] at e
  omega
theorem Inv.tuple(I:Inv X pins σ H s)(h:SqT X.K H a xs):∃its:List Value,Vals xs its∧IsTup s.heap a its.toArray∧xs.length≤sizeLine:=by
 rcases h with h|⟨o,its,n,hk,hc,hs,hz,r⟩
 ·obtain⟨z,its,r,p⟩:=h.ok I.hok
  exact⟨its,r,p,z⟩
 ·refine⟨its.toList,r,⟨o,I.kIn a o hk,hc,n,by simpa using hs⟩,?_⟩
  have e:=r.length
  simp only[MU] at e
  omega
theorem Inv.list_inj(I:Inv X pins σ H s)(h:SqL X.K H a xs)(h':SqL X.K H a ys):xs=ys:=by
 obtain⟨its,r,⟨o,n,e,_,_,d⟩,_⟩:=I.list h
 obtain⟨its',r',⟨o',n',e',_,_,d'⟩,_⟩:=I.list h'
 rw[e] at e';cases e'
 rw[d] at d'
 injection d' with d1 _
 have:its=its':=by simpa using congrArg Array.toList d1
 subst this
 exact r.inj r'
end
noncomputable abbrev Cx.wish(X:Cx)(E:Value→Shared→Prop):Cx:={X with xe:=E}
noncomputable abbrev Cx.nox(X:Cx):Cx:=X.wish fun _ _=>False
noncomputable def Cx.Ok.wish{X:Cx}(ok:X.Ok)(E:Value→Shared→Prop):(X.wish E).Ok:=
 ⟨ok.mod,ok.kind,ok.glob,ok.blt,ok.above,ok.inj,ok.has,ok.cab,ok.hd,ok.frames,ok.stk,ok.exf,ok.bs,ok.bsz,ok.noex,ok.exfs,ok.funs,ok.frf⟩
noncomputable def Cx.Ok.unwish{X:Cx}{E:Value→Shared→Prop}(ok:(X.wish E).Ok):X.Ok:=
 ⟨ok.mod,ok.kind,ok.glob,ok.blt,ok.above,ok.inj,ok.has,ok.cab,ok.hd,ok.frames,ok.stk,ok.exf,ok.bs,ok.bsz,ok.noex,ok.exfs,ok.funs,ok.frf⟩
section
variable {X:Cx} {pins:List (Addr×Obj)} {σ:St} {H:Hp} {s:Shared} {E:Value→Shared→Prop}
theorem Inv.wish(I:Inv X pins σ H s)(E:Value→Shared→Prop):Inv (X.wish E) pins σ H s:=⟨I.ok.wish E,I.os,I.bare,I.base,I.loc,I.cell,I.free,I.freeC,I.pin,I.hok,I.len⟩
theorem Inv.unwish(I:Inv (X.wish E) pins σ H s):Inv X pins σ H s:=⟨I.ok.unwish,I.os,I.bare,I.base,I.loc,I.cell,I.free,I.freeC,I.pin,I.hok,I.len⟩
theorem SP.unwish{D:Ends}{f:Flow}{s':Shared}(h:SP (X.wish E) pins D f s'):SP X pins D f s':=by
 cases f with
 |next=>obtain⟨σ',H',I,q⟩:=h;exact⟨σ',H',I.unwish,q⟩
 |brk=>obtain⟨σ',H',I,q⟩:=h;exact⟨σ',H',I.unwish,q⟩
 |cont=>obtain⟨σ',H',I,q⟩:=h;exact⟨σ',H',I.unwish,q⟩
 |ret u=>obtain⟨v,σ',H',I,r,q⟩:=h;exact⟨v,σ',H',I.unwish,r,q⟩
theorem PE.nox{e:Expr}{t:TE}(h:PE X.nox e t):PE X e t:=fun pins s σ H Q I hw=>
 wpAny_mono (h pins s σ H Q (I.wish _) hw) (fun _ _ ⟨v,H',I',r,q⟩=>⟨v,H',I'.unwish,r,q⟩) fun _ _ z=>False.elim z
theorem PT.nox{e:Expr}{t:TT}(h:PT X.nox e t):PT X e t:=fun pins s σ H Q I hw=>
 wpAny_mono (h pins s σ H Q (I.wish _) hw) (fun _ _ ⟨H',I',q⟩=>⟨H',I'.unwish,q⟩) fun _ _ z=>False.elim z
theorem PSs.nox{st:List Stmt}{t:TS}(h:PSs X.nox st t):PSs X st t:=fun pins s σ H D I hw=>
 wpAny_mono (h pins s σ H D (I.wish _) hw) (fun _ _ q=>q.unwish) fun _ _ z=>False.elim z
end
section
variable {X:Cx} {st:Stmt} {rest:List Stmt} {t u:TS} {e:Expr} {te:TE} {pos:Pos}
noncomputable def tNext:TS:=fun D σ H=>D.nx σ H
noncomputable def tSeq(t u:TS):TS:=fun D σ H=>t {D with nx:=u D} σ H
theorem kau:PSs X [] tNext:=fun _ _ σ H _ I h=>wpAny_execs_nil ⟨σ,H,I,h⟩
theorem kab(h1:PS X st t)(h2:PSs X rest u):PSs X (st::rest) (tSeq t u):=by
 intro pins s σ H D I h
 refine wpAny_execs_cons (thn (h1 pins s σ H {D with nx:=u D} I h) fun f s1 q=>?_)
 cases f with
 |next=>
  obtain⟨σ',H',I',q⟩:=q
  exact h2 pins s1 σ' H' D I' q
 |ret v=>exact q
 |brk=>exact q
 |cont=>exact q
theorem kaf(h1:PS X st t):PSs X [st] t:=by
 intro pins s σ H D I h
 refine wpAny_execs_cons (thn (h1 pins s σ H D I h) fun f s1 q=>?_)
 cases f with
 |next=>exact wpAny_execs_nil q
 |ret v=>exact q
 |brk=>exact q
 |cont=>exact q
theorem Inv.quiet{pins:List (Addr×Obj)}{σ:St}{H:Hp}{s:Shared}(I:Inv X pins σ H s):interactive X.env=false:=by simp[interactive,I.ok.kind]
noncomputable def tDrop(te:TE):TS:=fun D σ H=>te σ H fun _ H1=>D.nx σ H1
theorem kaM(he:PE X e te)(hs:swapsWith e none pos.line X.env=pure false:=by rfl):PS X (.Expr e pos) (tDrop te):=by
 intro pins s σ H D I h
 exact wpAny_Expr_any (thn (he pins s σ H _ I h) fun v s1 ⟨x,H1,I1,r1,q1⟩=>⟨σ,H1,I1,q1⟩) I.quiet hs
noncomputable def tRet(te:TE):TS:=fun D σ H=>te σ H D.rt
theorem kas(he:PE X e te):PS X (.Return (some e) pos) (tRet te):=by
 intro pins s σ H D I h
 exact wpAny_Return_some (thn (he pins s σ H _ I h) fun v s1 ⟨x,H1,I1,r1,q1⟩=>⟨x,σ,H1,I1,r1,q1⟩)
noncomputable def tIfS(c:TT)(t u:TS):TS:=fun D σ H=>c σ H fun b H1=>if b=true then t D σ H1 else u D σ H1
theorem ps_if{c:Expr}{a b:List Stmt}{tc:TT}(hc:PT X c tc)(ha:PSs X a t)(hb:PSs X b u):PS X (.If c a b pos) (tIfS tc t u):=by
 intro pins s σ H D I h
 refine wpAny_If (thn (hc pins s σ H _ I h) fun d s1 zz=>?_)
 obtain⟨H1,I1,q1⟩:=zz
 cases d with
 |true=>exact ha pins s1 σ H1 D I1 q1
 |false=>exact hb pins s1 σ H1 D I1 q1
end
noncomputable abbrev TG:=V→St→Hp→(St→Hp→Prop)→Prop
noncomputable abbrev TGs:=List V→St→Hp→(St→Hp→Prop)→Prop
noncomputable def PG(X:Cx)(target:Expr)(t:TG):Prop:=
 ∀(pins:List (Addr×Obj))(s:Shared)(σ:St)(H:Hp)(v:V)(u:Value)(Q:St→Hp→Prop),Inv X pins σ H s→RelV v u→t v σ H Q→
  wpAny (model X.prog X.w) X.A (assign target X.env u) (fun _ s'=>∃σ' H',Inv X pins σ' H' s'∧Q σ' H') X.xe s
noncomputable def PGs(X:Cx)(ts:List Expr)(t:TGs):Prop:=
 ∀(pins:List (Addr×Obj))(s:Shared)(σ:St)(H:Hp)(vs:List V)(us:List Value)(Q:St→Hp→Prop),Inv X pins σ H s→Vals vs us→t vs σ H Q→
  wpAny (model X.prog X.w) X.A (assignInOrder ((assignEach ts X.env).map (·.2)) us) (fun _ s'=>∃σ' H',Inv X pins σ' H' s'∧Q σ' H') X.xe s
noncomputable abbrev TSet:=V→V→V→Hp→(Hp→Prop)→Prop
noncomputable def PSet(X:Cx)(t:TSet):Prop:=
 ∀(pins:List (Addr×Obj))(s:Shared)(σ:St)(H:Hp)(o i v:V)(ov iv u:Value)(Q:Hp→Prop),Inv X pins σ H s→RelV o ov→RelV i iv→RelV v u→t o i v H Q→
  wpAny (model X.prog X.w) X.A (setItem ov iv u) (fun _ s'=>∃H',Inv X pins σ H' s'∧Q H') X.xe s
noncomputable abbrev TIp:=V→V→Hp→VK→Prop
noncomputable def PIp(X:Cx)(op:Operator)(t:TIp):Prop:=
 ∀(pins:List (Addr×Obj))(s:Shared)(σ:St)(H:Hp)(x y:V)(v u:Value)(Q:VK),Inv X pins σ H s→RelV x v→RelV y u→t x y H Q→
  wpAny (model X.prog X.w) X.A (inplaceOp op v u) (EP X pins σ Q) X.xe s
section
variable {X:Cx} {pos:Pos}
noncomputable def gName(i:Nat):TG:=fun v σ H Q=>Q (σ.set i (some v)) H
theorem kma{i:Nat}{x:Str}(hN:X.N.Nodup)(hi:X.N[i]?=some x)(hx:Loc X.env.scope x)(hf:X.fn x=true∨X.env.scope.names.lookup x=some .local:=by first|exact .inl rfl|exact .inr rfl|assumption):PG X (.Name x pos) (gName i):=by
 intro pins s σ H v u Q I r h
 exact wpAny_assign_Name (kfM I hN hi hx r (fun s' I'=>⟨_,H,I',h⟩) hf)
noncomputable def gNil:TGs:=fun vs σ H Q=>vs=[]∧Q σ H
noncomputable def gCons(t:TG)(u:TGs):TGs:=fun vs σ H Q=>∃v r,vs=v::r∧t v σ H fun σ' H'=>u r σ' H' Q
theorem kbh:PGs X [] gNil:=by
 intro pins s σ H vs us Q I r h
 obtain⟨e,h⟩:=h
 subst e
 cases r
 exact assignInOrder_nil ⟨σ,H,I,h⟩
theorem kax{e:Expr}{es:List Expr}{t:TG}{u:TGs}(h1:PG X e t)(h2:PGs X es u)
  (hs:(assignEach (e::es) X.env).map (·.2)=assign e X.env::(assignEach es X.env).map (·.2):=by rfl):PGs X (e::es) (gCons t u):=by
 intro pins s σ H vs us Q I r h
 obtain⟨v,vr,e1,h⟩:=h
 subst e1
 cases r with
 |cons r rr=>
  rw[hs]
  refine assignInOrder_cons (thn (h1 pins s σ H _ _ _ I r h) fun _ s1 zz=>?_)
  obtain⟨σ1,H1,I1,q1⟩:=zz
  exact h2 pins s1 σ1 H1 _ _ Q I1 rr q1
noncomputable def gTup(K:Nc)(n:Nat)(t:TGs):TG:=fun v σ H Q=>∃a xs,v=.ref a∧SqT K H a xs∧xs.length=n∧t xs σ H Q
theorem kmC{es:List Expr}{k:Nat}{t:TGs}{n:Nat}(hc:X.calm=true)(h:PGs X es t)
  (hn:(assignEach es X.env).length=n:=by rfl) (hst:(assignEach es X.env).findIdx? (·.1)=none:=by rfl):PG X (.Tuple es k pos) (gTup X.K n t):=by
 intro pins s σ H v u Q I r hw
 obtain⟨a,xs,e1,hq,hl,hw⟩:=hw
 subst e1
 cases r
 obtain⟨its,rv,ht,hz⟩:=I.tuple hq
 refine assign_Tuple_tuple (I.ok.hd hc) ht (by simp[hn,←hl,rv.length]) hst fun h' hx=>?_
 have I1:Inv X pins σ H {s with heap:=h'}:=I.kept (t':=s.toks) fun b o e=>hx b o (NL (Heap.lt_size e)) e
 exact h pins _ σ H xs _ Q I1 (by simpa using rv) hw
noncomputable def gSub(to ti:TE)(t:TSet):TG:=fun v σ H Q=>to σ H fun o H1=>ti σ H1 fun i H2=>t o i v H2 fun H3=>Q σ H3
theorem kdo{o i:Expr}{to ti:TE}{t:TSet}(ho:PE X o to)(hi:PE X i ti)(hs:PSet X t)
  (ha:∀v,assign (.Subscript o i pos) X.env v=(do
   let ov ←holding [v] (eval o X.env)
   let iv ←holding [v,ov] (eval i X.env)
   standAt pos
   holding [v,ov,iv] (setItem ov iv v)
   release [v,ov,iv] []):=by intro _;rfl):PG X (.Subscript o i pos) (gSub to ti t):=by
 intro pins s σ H v u Q I r h
 rw[ha]
 refine wpAny_bind (wpAny_holding (thn (ho pins s σ H _ I h) fun ov s1 zz=>?_))
 obtain⟨x,H1,I1,r1,q1⟩:=zz
 refine wpAny_bind (wpAny_holding (thn (hi pins s1 σ H1 _ I1 q1) fun iv s2 zz=>?_))
 obtain⟨y,H2,I2,r2,q2⟩:=zz
 refine wpAny_bind (wpAny_standAt (wpAny_bind (wpAny_holding (thn (hs pins s2 σ H2 x y v ov iv u _ I2 r1 r2 r q2) fun _ s3 zz=>?_))))
 obtain⟨H3,I3,q3⟩:=zz
 exact wpAny_release ⟨σ,H3,I3,q3⟩
noncomputable def tAsg(te:TE)(g:TG):TS:=fun D σ H=>te σ H fun x H1=>g x σ H1 D.nx
theorem kcw{tg e:Expr}{te:TE}{g:TG}(he:PE X e te)(hg:PG X tg g)(hs:swapsWithSole [tg] e pos.line X.env=pure false:=by rfl)(hw:swappedStores [tg] e X.env=pure none:=by rfl)
  (h1:(assignEach [tg] X.env).map (·.2)=[assign tg X.env]:=by rfl):PS X (.Assign [tg] e pos) (tAsg te g):=by
 intro pins s σ H D I h
 refine wpAny_Assign_stores (thn (he pins s σ H _ I h) fun v s1 zz=>?_) hs hw
 obtain⟨x,H1,I1,r1,q1⟩:=zz
 rw[h1]
 exact thn (hg pins s1 σ H1 x v _ I1 r1 q1) fun _ s2 q=>q
theorem kmB{i:Nat}{x:Str}{e:Expr}{te:TE}{pos':Pos}(hN:X.N.Nodup)(hi:X.N[i]?=some x)(hx:Loc X.env.scope x)(he:PE X e te)(hs:swapsWith e (some (.Name x pos')) pos.line X.env=pure false:=by rfl)(hf:X.fn x=true∨X.env.scope.names.lookup x=some .local:=by first|exact .inl rfl|exact .inr rfl|assumption):
  PS X (.Assign [.Name x pos'] e pos) (tAsg te (gName i)):=by
 intro pins s σ H D I h
 refine wpAny_Assign_Name (thn (he pins s σ H _ I h) fun v s1 zz=>?_) hs
 obtain⟨y,H1,I1,r1,q1⟩:=zz
 exact kfM I1 hN hi hx r1 (fun s2 I2=>⟨_,H1,I2,q1⟩) hf
noncomputable def tAug(i:Nat)(te:TE)(ti:TIp):TS:=fun D σ H=>∃x,σ[i]?=some (some x)∧te σ H fun y H1=>ti x y H1 fun z H2=>D.nx (σ.set i (some z)) H2
theorem klz{i:Nat}{x:Str}{e:Expr}{te:TE}{op:Operator}{ti:TIp}{pos':Pos}(hN:X.N.Nodup)(hi:X.N[i]?=some x)(hx:Loc X.env.scope x)(he:PE X e te)(ho:PIp X op ti)(hf:X.fn x=true∨X.env.scope.names.lookup x=some .local:=by first|exact .inl rfl|exact .inr rfl|assumption):
  PS X (.AugAssign (.Name x pos') op e pos) (tAug i te ti):=by
 intro pins s σ H D I h
 obtain⟨v,e1,h⟩:=h
 obtain⟨m,hn,hl⟩:=I.loc
 have vis:Vis X.env.scope x:=by rcases hx with k|k;exact .inl k;exact .inr (.inl k)
 obtain⟨u,r,l⟩:=hl i x v hi e1 vis
 refine wpAny_AugAssign_Name ?_
 have go:wpAny (model X.prog X.w) X.A (eval e X.env) (fun w s₂=>wpAny (model X.prog X.w) X.A (inplaceOp op u w) (fun r s₃=>wpAny (model X.prog X.w) X.A (storeName X.env x r) (fun _=>SP X pins D .next) X.xe s₃) X.xe s₂) X.xe s:=by
  refine thn (he pins s σ H _ I h) fun w s1 zz=>?_
  obtain⟨y,H1,I1,r1,q1⟩:=zz
  refine thn (ho pins s1 σ H1 v y u w _ I1 r r1 q1) fun z s2 zz=>?_
  obtain⟨zv,H2,I2,r2,q2⟩:=zz
  exact kfM I2 hN hi hx r2 (fun s3 I3=>⟨_,H2,I3,q2⟩) hf
 rcases l with⟨hk,hm⟩|⟨hk,c,hc,hcell⟩
 ·exact wpAny_loadName_local I.ok.kind hk hn hm go
 ·rcases hk with hk|hk
  ·exact wpAny_loadName_cell I.ok.kind hk hc hcell go
  ·rcases hx with k|k
   ·have:X.env.scope.names.lookup x=some .free:=hk
    rw[k] at this;cases this
   ·have:X.env.scope.names.lookup x=some .free:=hk
    rw[k] at this;cases this
noncomputable def tAugS(to ti te:TE)(tget:V→V→Hp→VK→Prop)(tip:TIp)(tset:TSet):TS:=fun D σ H=>to σ H fun o H1=>ti σ H1 fun i H2=>tget o i H2 fun x H3=>te σ H3 fun y H4=>tip x y H4 fun z H5=>tset o i z H5 fun H6=>D.nx σ H6
noncomputable def PGet(X:Cx)(t:V→V→Hp→VK→Prop):Prop:=
 ∀(pins:List (Addr×Obj))(s:Shared)(σ:St)(H:Hp)(o i:V)(ov iv:Value)(Q:VK),Inv X pins σ H s→RelV o ov→RelV i iv→t o i H Q→
  wpAny (model X.prog X.w) X.A (getItem ov iv) (EP X pins σ Q) X.xe s
theorem khs{o i e:Expr}{to ti te:TE}{tget:V→V→Hp→VK→Prop}{tip:TIp}{tset:TSet}{op:Operator}{tpos:Pos}(ho:PE X o to)(hi:PE X i ti)(hg:PGet X tget)(he:PE X e te)(hp:PIp X op tip)(hs:PSet X tset)
  (ha:∀ov iv new,augStore i ov iv new=(do holding [new,ov,iv] (setItem ov iv new);release [new,ov,iv] [];pure .next):=by intros;rfl):PS X (.AugAssign (.Subscript o i tpos) op e pos) (tAugS to ti te tget tip tset):=by
 intro pins s σ H D I h
 refine wpAny_AugAssign_SubscriptAny (thn (ho pins s σ H _ I h) fun ov s1 zz=>?_) ha
 obtain⟨x1,H1,I1,r1,q1⟩:=zz
 refine thn (hi pins s1 σ H1 _ I1 q1) fun iv s2 zz=>?_
 obtain⟨x2,H2,I2,r2,q2⟩:=zz
 refine thn (hg pins s2 σ H2 x1 x2 ov iv _ I2 r1 r2 q2) fun old s3 zz=>?_
 obtain⟨x3,H3,I3,r3,q3⟩:=zz
 refine thn (he pins s3 σ H3 _ I3 q3) fun v s4 zz=>?_
 obtain⟨x4,H4,I4,r4,q4⟩:=zz
 refine thn (hp pins s4 σ H4 x3 x4 old v _ I4 r3 r4 q4) fun new s5 zz=>?_
 obtain⟨x5,H5,I5,r5,q5⟩:=zz
 exact thn (hs pins s5 σ H5 x1 x2 x5 ov iv new _ I5 r1 r2 r5 q5) fun _ s6 ⟨H6,I6,q6⟩=>⟨σ,H6,I6,q6⟩
noncomputable def ipI(f:Int→Int→Int):TIp:=fun x y H Q=>∃i j,x=.int i∧y=.int j∧Q (.int (f i j)) H
theorem kgS:PIp X .Add (ipI fun i j=>i+j):=by
 intro pins s σ H x y v u Q I r1 r2 h
 obtain⟨i,j,e1,e2,q⟩:=h
 subst e1;subst e2
 obtain⟨t,rfl⟩:=r1
 obtain⟨t',rfl⟩:=r2
 exact iadd_int ⟨.int _,H,I.tok _,⟨_,rfl⟩,q⟩
end
section
variable {X:Cx} {pos:Pos}
noncomputable def klm(c:TT)(tb:TS):TS:=fun D σ H=>∃W:Nat→St→Hp→Prop,(∃m,W m σ H)∧∀m σ H,W m σ H→
 c σ H fun b H1=>if b=true then ∃N:St→Hp→Prop,(∀σ' H',N σ' H'→∃m',m'<m∧W m' σ' H')∧tb {D with nx:=N,ct:=N,bk:=D.nx} σ H1 else D.nx σ H1
theorem kfW{c:Expr}{body:List Stmt}{tc:TT}{tb:TS}(hp:PassesOwn (model X.prog X.w) X.A X.env X.xe)(hc:PT X c tc)(hb:PSs X body tb):PS X (.While c body [] pos) (klm tc tb):=by
 intro pins s σ H D I h
 obtain⟨W,⟨m0,w0⟩,turn⟩:=h
 refine wpAny_While (codeAny_whileLoop (fun n s'=>∃σ' H',Inv X pins σ' H' s'∧W n σ' H') ?_ m0 ⟨σ,H,I,w0⟩)
 rintro n s1 ⟨σ1,H1,I1,w1⟩
 refine wpAny_passesOwn hp (thn (hc pins s1 σ1 H1 _ I1 (turn n σ1 H1 w1)) fun b s2 zz=>?_)
 obtain⟨H2,I2,q2⟩:=zz
 cases b with
 | true=>
  obtain⟨N,hN,q2⟩:=q2
  rw[if_pos rfl]
  refine wpAny_passesOwn hp (thn (hb pins s2 σ1 H2 _ I2 q2) fun f s3 q3=>?_)
  cases f with
  |next=>
   obtain⟨σ3,H3,I3,n3⟩:=q3
   obtain⟨m',hm,w3⟩:=hN σ3 H3 n3
   exact⟨m',hm,σ3,H3,I3,w3⟩
  |cont=>
   obtain⟨σ3,H3,I3,n3⟩:=q3
   obtain⟨m',hm,w3⟩:=hN σ3 H3 n3
   exact⟨m',hm,σ3,H3,I3,w3⟩
  |brk=>exact q3
  |ret v=>exact q3
 |false=>
  rw[if_neg Np]
  exact wpAny_execs_nil ⟨σ1,H2,I2,q2⟩
end
structure It where
 go:Nat→Hp→Prop
 yld:Nat→Hp→V→Hp→Prop
 stop:Nat→Hp→Prop
noncomputable def FpOk(X:Cx)(pins:List (Addr×Obj))(H:Hp)(b:Addr):Prop:=
 H b=none∧b≠X.env.locals∧b∉X.fs∧(b∈X.ex∨X.s₀.heap.objs.size≤b)∧(∀x c,X.env.cells.lookup x=some c→c≠b)∧∀p∈X.pn++pins,p.1≠b
noncomputable def Inv.fpOk{X:Cx}{pins:List (Addr×Obj)}{σ:St}{H H':Hp}{s:Shared}{b:Addr}(I:Inv X pins σ H s)(hb:s.heap.objs.size≤b)(hn:H' b=none):FpOk X pins H' b:=by
 refine⟨hn,Me (NM I.lt hb),I.nofs hb, .inr (Nk I.sz hb),fun x c e z=>?_,fun p hp z=>?_⟩
 ·obtain⟨v,q⟩:=I.cell x c e
  exact absurd (NM q.lt (by rw[z];exact hb)) (Mq _)
 ·exact absurd (NM (Heap.lt_size (I.pin p hp).1) (by rw[z];exact hb)) (Mq _)
structure Turn (P:Program) (w:World) (K:Nc) (tg:Expr) (J:It) (fp:List Addr) (it:Addr) (tn:Nat→Heap→Prop):Prop where
 mem:it∈fp
 obj:∀i h,tn i h→∀b∈fp,∃o,h.get? b=some o∧∀v,o.data≠.cell v
 keep:∀i h h',tn i h→(∀b∈fp,∀o,h.get? b=some o→h'.get? b=some o)→tn i h'
 item:∀(X:Cx),X.prog=P→X.w=w→X.K=K→X.calm=true→∀(i:Nat)(pins:List (Addr×Obj))(s:Shared)(σ:St)(H:Hp)(E:Value→Shared→Prop),Inv X pins σ H s→(∀b∈fp,FpOk X pins H b)→tn i s.heap→J.go i H→
  wpAny (model P w) X.A (pyNext (.ref it)) (fun r s1=>∃u,r=some u∧
   wpAny (model P w) X.A (letOwnedTupleGo tg (.ref it) u) (fun _ s2=>∃x H',Inv X pins σ H' s2∧RelV x u∧J.yld i H x H'∧tn (i+1) s2.heap∧∀b∈fp,H' b=none) E s1) E s
 done:∀(X:Cx),X.prog=P→X.w=w→X.K=K→X.calm=true→∀(i:Nat)(pins:List (Addr×Obj))(s:Shared)(σ:St)(H:Hp)(E:Value→Shared→Prop),Inv X pins σ H s→(∀b∈fp,FpOk X pins H b)→tn i s.heap→J.stop i H→
  wpAny (model P w) X.A (pyNext (.ref it)) (fun r s1=>r=none∧Inv X pins σ H s1) E s
 self:∀(A:Around)(i:Nat)(s:Shared)(Q:Value→Shared→Prop)(E:Value→Shared→Prop),tn i s.heap→Q (.ref it) s→wpAny (model P w) A (pyIter (.ref it)) Q E s
noncomputable abbrev TI:=St→Hp→(It→Hp→Prop)→Prop
noncomputable def PIE(X:Cx)(pins:List (Addr×Obj))(σ:St)(tg:Expr)(R:It→Hp→Prop)(itv:Value)(s2:Shared):Prop:=
 ∃(it:Addr)(fp:List Addr)(tn:Nat→Heap→Prop)(J:It)(H':Hp),itv=.ref it∧Inv X pins σ H' s2∧Turn X.prog X.w X.K tg J fp it tn∧tn 0 s2.heap∧(∀b∈fp,FpOk X pins H' b)∧R J H'
noncomputable def PI(X:Cx)(tg iter:Expr)(wi:TI):Prop:=
 ∀(pins:List (Addr×Obj))(s:Shared)(σ:St)(H:Hp)(R:It→Hp→Prop),Inv X pins σ H s→wi σ H R→
  wpAny (model X.prog X.w) X.A (eval iter X.env) (fun v s1=>wpAny (model X.prog X.w) X.A (pyIter v) (PIE X pins σ tg R) X.xe s1) X.xe s
theorem go_of{M:Model}{A:Around}{E:Value→Shared→Prop}{s:Shared}{tg:Expr}{it:Addr}{u:Value}{o:Obj}{n:String}{vs:Array Value}{Q:Unit→Shared→Prop}(ho:s.heap.get? it=some o)(hc:o.cls=.type n)(hd:o.data=.fields vs)
    (hn:["enumerate","zip","dict_itemiterator","dict_reverseitemiterator","odict_iterator","itertools.zip_longest","itertools.pairwise"].contains n=false) (hQ:Q () s):wpAny M A (letOwnedTupleGo tg (.ref it) u) Q E s:=by
  unfold letOwnedTupleGo
  cases tg <;> first
    |exact wpAny_pure hQ
    |(cases u <;> first
        |exact wpAny_pure hQ
        | (refine wpAny_bind (wpAny_load ho ?_)
           rw[hc,hd]
           show wpAny M A (if(["enumerate","zip","dict_itemiterator","dict_reverseitemiterator","odict_iterator","itertools.zip_longest","itertools.pairwise"].contains n&&vs[0]? ==some (rawInt _))=true then _ else _) Q E s
           rw[if_neg (by intro h;rw[hn,Eo] at h;cases h)]
           exact wpAny_pure hQ))
noncomputable def Itl(K:Nc)(a:Addr):It:=
 ⟨fun i H=>∃xs x,SqL K H a xs∧xs[i]?=some x,fun i H x H'=>H'=H∧∀xs,SqL K H a xs→xs[i]?=some x,fun i H=>∃xs,SqL K H a xs∧xs.length≤i⟩
noncomputable def Itr(lo:Int)(n:Nat):It:=⟨fun i _=>i<n,fun i H x H'=>H'=H∧x=.int (lo+i),fun i _=>n≤i⟩
theorem kjg{P:Program}{w:World}{K:Nc}{tg:Expr}(a it:Addr):Turn P w K tg (Itl K a) [it] it (fun i h=>h.IsListIter it a i) where
 mem:=by simp
 obj:=fun i h st b hb=>by
  have e:b=it:=by simpa using hb
  subst e
  obtain⟨o,e,c,d⟩:=st
  exact⟨o,e,fun v z=>by rw[d] at z;cases z⟩
 keep:=fun i h h' st k=>st.at fun o e=>k it (by simp) o e
 item:=by
  intro X hP hw hK hc i pins s σ H E I hf st hg
  subst hP hw hK
  obtain⟨xs,x,hq,hx⟩:=hg
  obtain⟨its,rv,p,hz⟩:=I.list hq
  obtain⟨u,hu,ru⟩:=rv.get hx
  obtain⟨f0,f1,f2,f3,f4,f5⟩:=hf it (by simp)
  refine wpAny_pyNext_list_item st p.isList (x:=u) (by simpa using hu) fun h' st' sb=>?_
  have I1:Inv X pins σ H {s with heap:=h'}:=I.turned (t':=s.toks) (fun b o hb e=>(sb.2 b hb).trans e) f0 f1 f3 f4 f5
  obtain⟨o,e,c,d⟩:=id st'
  exact⟨u,rfl,go_of (s:={s with heap:=h'}) e c d (by decide) ⟨x,H,I1,ru,⟨rfl,fun ys hy=>by rw[I.list_inj hy hq];exact hx⟩,st',fun b hb=>(hf b hb).1⟩⟩
 done:=by
  intro X hP hw hK hc i pins s σ H E I hf st hg
  subst hP hw hK
  obtain⟨xs,hq,hx⟩:=hg
  obtain⟨its,rv,p,hz⟩:=I.list hq
  obtain⟨f0,f1,f2,f3,f4,f5⟩:=hf it (by simp)
  have hl:=rv.length
  exact wpAny_pyNext_list_end (I.ok.hd hc) st p.isList (by simp;omega) fun h' eb=>⟨rfl,I.turned (t':=s.toks) (fun b o hb e=>eb b o hb e) f0 f1 f3 f4 f5⟩
 self:=fun _ _ _ _ _ st h=>wpAny_pyIter_listiter st h
theorem kiQ{P:Program}{w:World}{K:Nc}{tg:Expr}(it:Addr)(lo:Int)(n:Nat):Turn P w K tg (Itr lo n) [it] it (fun i h=>IsRangeIter h it (lo+(i:Nat)*1) ((n:Int)-(i:Nat)) 1) where
 mem:=by simp
 obj:=fun i h st b hb=>by
  have e:b=it:=by simpa using hb
  subst e
  exact⟨_,st,fun v z=>by
   have z':Data.fields _=Data.cell v:=z
   cases z'⟩
 keep:=fun i h h' st k=>k it (by simp) _ st
 item:=by
  intro X hP hw hK hc i pins s σ H E I hf st hg
  subst hP hw hK
  obtain⟨f0,f1,f2,f3,f4,f5⟩:=hf it (by simp)
  have W:=Walks.range (prog:=X.prog) (w:=X.w) (I.ok.hd hc) it lo 1 n
  refine W.item i s _ _ hg st fun v h' tk hv st' kk=>?_
  obtain⟨t,rfl⟩:=hv
  have I1:Inv X pins σ H {s with heap:=h',toks:=tk}:=I.turned (fun b o hb e=>kk b o (by simpa using hb) e) f0 f1 f3 f4 f5
  refine⟨_,rfl,go_of (s:={s with heap:=h',toks:=tk}) (n:="range_iterator") st' rfl rfl (by decide) ⟨.int (lo+i),H,I1,⟨t,?_⟩,⟨rfl,rfl⟩,st',fun b hb=>(hf b hb).1⟩⟩
  rw[Int.mul_one]
 done:=by
  intro X hP hw hK hc i pins s σ H E I hf st hg
  subst hP hw hK
  obtain⟨f0,f1,f2,f3,f4,f5⟩:=hf it (by simp)
  exact wpAny_pyNext_range_end (I.ok.hd hc) st (by have:n≤i:=hg;omega) fun h' eb=>⟨rfl,I.turned (t':=s.toks) (fun b o hb e=>eb b o hb e) f0 f1 f3 f4 f5⟩
 self:=fun _ _ _ _ _ st h=>wpAny_pyIter_rangeiter st h
end L2
namespace L2
open PySem PySem.Spec PyProof.Rows
section
variable {X:Cx} {tg:Expr}
noncomputable def iList(K:Nc)(tl:TE):TI:=fun σ H R=>tl σ H fun x H1=>∃a,x=.ref a∧(∃xs,SqL K H1 a xs)∧R (Itl K a) H1
theorem kl9{l:Expr}{tl:TE}(hl:PE X l tl):PI X tg l (iList X.K tl):=by
 intro pins s σ H R I h
 refine thn (hl pins s σ H _ I h) fun v s1 zz=>?_
 obtain⟨x,H1,I1,r1,q1⟩:=zz
 obtain⟨a,e,⟨xs,hq⟩,q⟩:=q1
 subst e
 cases r1
 obtain⟨its,rv,p,hz⟩:=I1.list hq
 refine wpAny_pyIter_list p.isList ?_
 refine⟨s1.heap.objs.size,[s1.heap.objs.size],_,_,H1,rfl,I1.kept (t':=s1.toks) fun b o e=>Heap.get?_push_of_some _ e,kjg a _,⟨_,Heap.get?_push_size _ rfl,rfl,rfl⟩,fun b hb=>?_,q⟩
 have e:b=s1.heap.objs.size:=by simpa using hb
 subst e
 exact I1.fpOk (Nd _) (I1.hok.fresh (Nd _))
theorem kkL{pins:List (Addr×Obj)}{σ:St}{H:Hp}{s:Shared}{R:It→Hp→Prop}{E:Value→Shared→Prop}{lo hi:Int}{t u v:Tok}{tk:Nat}(I:Inv X pins σ H s)(h1: -(2 ^ 62)≤lo)(h2:lo<2 ^ 62)(h3: -(2 ^ 62)≤hi)(h4:hi<2 ^ 62)
  (q:R (Itr lo (hi-lo).toNat) H):wpAny (model X.prog X.w) X.A (pyIter (.ref s.heap.objs.size)) (PIE X pins σ tg R) E {s with heap:=s.heap.push {cls:=.type "range",data:=.fields #[.int lo t, .int hi u, .int 1 v]},toks:=tk}:=by
 refine wpAny_pyIter_range (IsRange.new ..) (small_one h1 h2 h3 h4) ?_
 have I1:Inv X pins σ H {s with heap:=s.heap.push {cls:=.type "range",data:=.fields #[.int lo t, .int hi u, .int 1 v]},toks:=tk}:=I.kept fun b o e=>Heap.get?_push_of_some _ e
 refine⟨(s.heap.push {cls:=.type "range",data:=.fields #[.int lo t, .int hi u, .int 1 v]}).objs.size,[(s.heap.push {cls:=.type "range",data:=.fields #[.int lo t, .int hi u, .int 1 v]}).objs.size],_,_,H,rfl,
  I1.kept (t':=tk) fun b o e=>Heap.get?_push_of_some _ e,kiQ _ lo (hi-lo).toNat,?_,fun b hb=>?_,q⟩
 ·have e1:lo+((0:Nat):Int)*1=lo:=by simp
  have e2:(((hi-lo).toNat:Nat):Int)-((0:Nat):Int)=Builtin.Range.rangeSize lo hi 1:=by rw[rangeSize_one];split <;> omega
  show IsRangeIter _ _ (lo+((0:Nat):Int)*1) ((((hi-lo).toNat:Nat):Int)-((0:Nat):Int)) 1
  rw[e1,e2]
  exact Heap.get?_push_size _ rfl
 ·have e:b=(s.heap.push {cls:=.type "range",data:=.fields #[.int lo t, .int hi u, .int 1 v]}).objs.size:=by simpa using hb
  subst e
  exact I1.fpOk (Nd _) (I1.hok.fresh (Nd _))
noncomputable def iRng1(ta:TA):TI:=fun σ H R=>ta σ H fun vs H1=>∃j:Int,vs=[.int j]∧-(2 ^ 62)≤j∧j<2 ^ 62∧R (Itr 0 j.toNat) H1
theorem kaY{a:Expr}{ta:TA}{p pos:Pos}(hg:Gl X "range")(hm:X.mg "range"=none)(ha:PA X [a] ta)(hs:starEach [a] X.env=[(false,eval a X.env)]:=by rfl):PI X tg (.Call (.Name "range" p) [a] [] pos) (iRng1 ta):=by
 intro pins s σ H R I h
 refine Call_ (kcX I hg hm boot_range (PyProof.Rows.callWith_type1 (thn (ha pos pins s σ H _ I h) fun us s1 zz=>?_) hs rfl))
 obtain⟨vs,H1,I1,r1,q1⟩:=zz
 obtain⟨j,e,q1,q2,q⟩:=q1
 subst e
 cases r1 with
 |cons r rr=>
  cases rr
  obtain⟨t,rfl⟩:=r
  exact call_range_1 (kkL I1 (by omega) (by omega) q1 q2 (by simpa using q))
noncomputable def tFor(wi:TI)(g:TG)(tb:TS):TS:=fun D σ H=>wi σ H fun J H1=>∃W:Nat→Nat→St→Hp→Prop,(∃m,W 0 m σ H1)∧∀i m σ H,W i m σ H→
 (J.stop i H∧D.nx σ H)∨(J.go i H∧∃N:St→Hp→Prop,(∀σ' H',N σ' H'→∃m',m'<m∧W (i+1) m' σ' H')∧∀x H',J.yld i H x H'→g x σ H' fun σ2 H2=>tb {D with nx:=N,ct:=N,bk:=D.nx} σ2 H2)
noncomputable def kii(fp:List Addr)(h:Heap):List (Addr×Obj):=fp.filterMap fun b=>(h.get? b).map fun o=>(b,o)
theorem kc3{fp:List Addr}{h:Heap}{b:Addr}{o:Obj}(hb:b∈fp)(e:h.get? b=some o):(b,o)∈kii fp h:=List.mem_filterMap.mpr ⟨b,hb,by rw[e];rfl⟩
theorem kj1{fp:List Addr}{h:Heap}{p:Addr×Obj}(hp:p∈kii fp h):p.1∈fp∧h.get? p.1=some p.2:=by
 obtain⟨b,hb,e⟩:=List.mem_filterMap.mp hp
 cases q:h.get? b with
 |none=>rw[q] at e;cases e
 |some o=>
  rw[q] at e
  have e':(b,o)=p:=Option.some.inj e
  subst e'
  exact⟨hb,q⟩
theorem Inv.pinned{pins:List (Addr×Obj)}{σ:St}{H:Hp}{s:Shared}{fp:List Addr}(I:Inv X pins σ H s)(hf:∀b∈fp,FpOk X pins H b)(ho:∀b∈fp,∃o,s.heap.get? b=some o∧∀v,o.data≠.cell v):Inv X (pins++kii fp s.heap) σ H s:=
 I.pins_of fun p hp=>(NR.mp hp).elim (fun z=>I.pin p (NS _ z)) fun z=>by
  obtain⟨hb,e⟩:=kj1 z
  obtain⟨f0,f1,f2,_⟩:=hf p.1 hb
  obtain⟨o,e',d⟩:=ho p.1 hb
  rw[e] at e';cases e'
  exact⟨e,f0,f1,f2,d⟩
theorem Inv.unpinned{pins pl:List (Addr×Obj)}{σ:St}{H:Hp}{s:Shared}(I:Inv X (pins++pl) σ H s):Inv X pins σ H s:=I.pins_of fun p hp=>I.pin p (NS _ (El _ hp))
theorem kaR{iter:Expr}{body:List Stmt}{wi:TI}{g:TG}{tb:TS}{pos:Pos}(hp:PassesOwn (model X.prog X.w) X.A X.env X.xe)(hc:X.calm=true)(hi:PI X tg iter wi)(hg:PG X tg g)(hb:PSs X body tb)
  (hs:∀x,foldedSetIterable iter X.env x=pure x:=by intro _;rfl):PS X (.For tg iter body [] pos) (tFor wi g tb):=by
 intro pins s σ H D I h
 refine wpAny_For (thn (hi pins s σ H _ I h) fun v s1 h1=>thn h1 fun itv s2 h2=>?_) hs
 obtain⟨it,fp,tn,J,H2,e,I2,T,st2,f2,W,⟨m0,w0⟩,turn⟩:=h2
 subst e
 have stat:∀{H':Hp},(∀b∈fp,H' b=none)→∀b∈fp,FpOk X pins H' b:=fun hn b hb=>⟨hn b hb,(f2 b hb).2⟩
 refine codeAny_forLoop_any (fun n s'=>∃i σ' H',Inv X pins σ' H' s'∧tn i s'.heap∧(∀b∈fp,H' b=none)∧W i n σ' H') ?_ m0 ⟨0,σ,H2,I2,st2,fun b hb=>(f2 b hb).1,w0⟩
 rintro n s3 ⟨i,σ3,H3,I3,st3,fr3,w3⟩
 rcases turn i n σ3 H3 w3 with⟨stop,qn⟩|⟨go,N,hN,step⟩
 ·refine wpAny_passesOwn hp (thn (T.done X rfl rfl rfl hc i pins s3 σ3 H3 X.xe I3 (stat fr3) st3 stop) fun r s4 zz=>?_)
  obtain⟨hr,I4⟩:=zz
  subst hr
  exact wpAny_execs_nil ⟨σ3,H3,I4,qn⟩
 ·refine wpAny_passesOwn hp (thn (T.item X rfl rfl rfl hc i pins s3 σ3 H3 X.xe I3 (stat fr3) st3 go) fun r s4 zz=>?_)
  obtain⟨u,hr,h4⟩:=zz
  subst hr
  refine wpAny_passesOwn hp (thn h4 fun _ s5 zz=>?_)
  obtain⟨x,H5,I5,r5,y5,st5,fr5⟩:=zz
  have I5':=I5.pinned (stat fr5) (T.obj _ _ st5)
  refine wpAny_passesOwn hp (thn (hg _ s5 σ3 H5 x u _ I5' r5 (step x H5 y5)) fun _ s6 zz=>?_)
  obtain⟨σ6,H6,I6,q6⟩:=zz
  refine wpAny_passesOwn hp (thn (hb _ s6 σ6 H6 _ I6 q6) fun f s7 q7=>?_)
  have again:∀{σ7:St}{H7:Hp},Inv X (pins++kii fp s5.heap) σ7 H7 s7→N σ7 H7→∃m,m<n∧∃i σ' H',Inv X pins σ' H' s7∧tn i s7.heap∧(∀b∈fp,H' b=none)∧W i m σ' H':=fun {σ7 H7} I7 n7=>by
   obtain⟨m',hm,w7⟩:=hN σ7 H7 n7
   refine⟨m',hm,i+1,σ7,H7,I7.unpinned,T.keep _ _ _ st5 fun b hb o e=>(I7.pin (b,o) (NS _ (NS _ (kc3 hb e)))).1,fun b hb=>?_,w7⟩
   obtain⟨o,e,d⟩:=T.obj _ _ st5 b hb
   exact(I7.pin (b,o) (NS _ (NS _ (kc3 hb e)))).2.1
  cases f with
  |next=>obtain⟨σ7,H7,I7,n7⟩:=q7;exact again I7 n7
  |cont=>obtain⟨σ7,H7,I7,n7⟩:=q7;exact again I7 n7
  |brk=>obtain⟨σ7,H7,I7,q7⟩:=q7;exact⟨σ7,H7,I7.unpinned,q7⟩
  |ret v=>obtain⟨x7,σ7,H7,I7,r7,q7⟩:=q7;exact⟨x7,σ7,H7,I7.unpinned,r7,q7⟩
end
theorem kaZ{K:Nc}{a:Addr}{xs:List V}{g:TG}{tb:TS}{D:Ends}{σ:St}{H:Hp}(Pv:Nat→St→Hp→Prop)(h0:Pv 0 σ H)(hl:∀i σ H,i≤xs.length→Pv i σ H→SqL K H a xs)
  (hs:∀i x σ H,xs[i]?=some x→Pv i σ H→g x σ H fun σ2 H2=>tb {D with nx:=Pv (i+1),ct:=Pv (i+1),bk:=D.nx} σ2 H2) (hd:∀σ H,Pv xs.length σ H→D.nx σ H):
  ∃W:Nat→Nat→St→Hp→Prop,(∃m,W 0 m σ H)∧∀i m σ H,W i m σ H→
   ((Itl K a).stop i H∧D.nx σ H)∨((Itl K a).go i H∧∃N:St→Hp→Prop,(∀σ' H',N σ' H'→∃m',m'<m∧W (i+1) m' σ' H')∧∀x H',(Itl K a).yld i H x H'→g x σ H' fun σ2 H2=>tb {D with nx:=N,ct:=N,bk:=D.nx} σ2 H2):=by
 refine⟨fun i m σ H=>m=xs.length-i∧i≤xs.length∧Pv i σ H,⟨xs.length,by simp,NO _,h0⟩,?_⟩
 rintro i m σ H ⟨rfl,hi,p⟩
 have q:=hl i σ H hi p
 by_cases hlt:i<xs.length
 ·refine .inr ⟨⟨xs,xs[i],q,by simp[hlt]⟩,Pv (i+1),fun σ' H' p'=>⟨xs.length-(i+1),by omega,rfl,hlt,p'⟩,fun x H' y=>?_⟩
  obtain⟨e,y⟩:=y
  subst e
  exact hs i x σ _ (y xs q) p
 ·have e:i=xs.length:=by omega
  subst e
  exact .inl ⟨⟨xs,q,Nd _⟩,hd σ H p⟩
theorem kbb{lo:Int}{n:Nat}{g:TG}{tb:TS}{D:Ends}{σ:St}{H:Hp}(Pv:Nat→St→Hp→Prop)(h0:Pv 0 σ H)
  (hs:∀i σ H,i<n→Pv i σ H→g (.int (lo+i)) σ H fun σ2 H2=>tb {D with nx:=Pv (i+1),ct:=Pv (i+1),bk:=D.nx} σ2 H2) (hd:∀σ H,Pv n σ H→D.nx σ H):
  ∃W:Nat→Nat→St→Hp→Prop,(∃m,W 0 m σ H)∧∀i m σ H,W i m σ H→
   ((Itr lo n).stop i H∧D.nx σ H)∨((Itr lo n).go i H∧∃N:St→Hp→Prop,(∀σ' H',N σ' H'→∃m',m'<m∧W (i+1) m' σ' H')∧∀x H',(Itr lo n).yld i H x H'→g x σ H' fun σ2 H2=>tb {D with nx:=N,ct:=N,bk:=D.nx} σ2 H2):=by
 refine⟨fun i m σ H=>m=n-i∧i≤n∧Pv i σ H,⟨n,by simp,NO _,h0⟩,?_⟩
 rintro i m σ H ⟨rfl,hi,p⟩
 by_cases hlt:i<n
 ·refine .inr ⟨hlt,Pv (i+1),fun σ' H' p'=>⟨n-(i+1),by omega,rfl,hlt,p'⟩,fun x H' y=>?_⟩
  obtain⟨e,y⟩:=y
  subst e y
  exact hs i σ _ hlt p
 ·have e:i=n:=by omega
  subst e
  exact .inl ⟨Nd _,hd σ H p⟩
theorem kfJ{c:TT}{tb:TS}{D:Ends}{σ:St}{H:Hp}(Pv:St→Hp→Prop)(μ:St→Hp→Nat)(h0:Pv σ H)
  (hs:∀σ H,Pv σ H→c σ H fun b H1=>if b=true then tb {D with nx:=fun σ' H'=>Pv σ' H'∧μ σ' H'< μ σ H,ct:=fun σ' H'=>Pv σ' H'∧μ σ' H'< μ σ H,bk:=D.nx} σ H1 else D.nx σ H1)
  (mono:∀σ H Q Q',(∀b H1,Q b H1→Q' b H1)→c σ H Q→c σ H Q'):klm c tb D σ H:=by
 refine⟨fun m σ H=>m= μ σ H∧Pv σ H,⟨_,rfl,h0⟩,?_⟩
 rintro m σ H ⟨rfl,p⟩
 refine mono σ H _ _ (fun b H1 q=>?_) (hs σ H p)
 cases b with
 |true=>exact⟨_,fun σ' H' ⟨p',l⟩=>⟨_,l,rfl,p'⟩,q⟩
 |false=>exact q
end L2
namespace L2
open PySem PySem.Spec PyProof.Rows
noncomputable abbrev R2:=V→V→Hp→VK→Prop
noncomputable def OpR(X:Cx)(f:Value→Value→Sem Value)(r:R2):Prop:=
 ∀(pins:List (Addr×Obj))(s:Shared)(σ:St)(H:Hp)(x y:V)(v u:Value)(Q:VK),Inv X pins σ H s→RelV x v→RelV y u→r x y H Q→
  wpAny (model X.prog X.w) X.A (f v u) (EP X pins σ Q) X.xe s
noncomputable def UnR(X:Cx)(f:Value→Sem Value)(r:V→Hp→VK→Prop):Prop:=
 ∀(pins:List (Addr×Obj))(s:Shared)(σ:St)(H:Hp)(x:V)(v:Value)(Q:VK),Inv X pins σ H s→RelV x v→r x H Q→
  wpAny (model X.prog X.w) X.A (f v) (EP X pins σ Q) X.xe s
noncomputable def CallR(X:Cx)(f:Value)(r:List V→Hp→VK→Prop):Prop:=
 ∀(pins:List (Addr×Obj))(s:Shared)(σ:St)(H:Hp)(xs:List V)(us:List Value)(Q:VK),Inv X pins σ H s→Vals xs us→r xs H Q→
  wpAny (model X.prog X.w) X.A (call f us) (EP X pins σ Q) X.xe s
noncomputable def tOp(r:R2)(ta tb:TE):TE:=fun σ H Q=>ta σ H fun x H1=>tb σ H1 fun y H2=>r x y H2 Q
noncomputable def tUn(r:V→Hp→VK→Prop)(ta:TE):TE:=fun σ H Q=>ta σ H fun x H1=>r x H1 Q
noncomputable def rI(C:Int→Int→Prop)(g:Int→Int→V):R2:=fun x y H Q=>∃i j,x=.int i∧y=.int j∧C i j∧Q (g i j) H
noncomputable def rI0(g:Int→Int→V):R2:=fun x y H Q=>∃i j,x=.int i∧y=.int j∧Q (g i j) H
noncomputable def rU(g:Int→V):V→Hp→VK→Prop:=fun x H Q=>∃i,x=.int i∧Q (g i) H
section
variable {X:Cx} {a b c:Expr} {ta tb tc:TE} {pos:Pos}
theorem binT(ha:PE X a ta)(hb:PE X b tb){pins:List (Addr×Obj)}{s:Shared}{σ:St}{H:Hp}{R:V→V→Hp→Prop}(I:Inv X pins σ H s)
  (h:ta σ H fun x H1=>tb σ H1 fun y H2=>R x y H2) {Q:Value→Shared→Prop} {f:Value→Value→Sem Value}
  (hf:∀v u s2 x y H2,Inv X pins σ H2 s2→RelV x v→RelV y u→R x y H2→wpAny (model X.prog X.w) X.A (f v u) Q X.xe s2):
  wpAny (model X.prog X.w) X.A (eval a X.env) (fun v s₁=>wpAny (model X.prog X.w) X.A (eval b X.env) (fun u s₂=>wpAny (model X.prog X.w) X.A (f v u) Q X.xe s₂) X.xe s₁) X.xe s:=by
 refine thn (ha pins s σ H _ I h) fun v s1 zz=>?_
 obtain⟨x,H1,I1,r1,q1⟩:=zz
 refine thn (hb pins s1 σ H1 _ I1 q1) fun u s2 zz=>?_
 obtain⟨y,H2,I2,r2,q2⟩:=zz
 exact hf v u s2 x y H2 I2 r1 r2 q2
theorem pe_op{op:Operator}{r:R2}(ho:OpR X (binaryOp op) r)(ha:PE X a ta)(hb:PE X b tb):PE X (.BinOp a op b pos) (tOp r ta tb):=by
 intro pins s σ H Q I h
 exact wpAny_BinOp (binT ha hb I h fun v u s2 x y H2 I2 rx ry q=>ho pins s2 σ H2 x y v u Q I2 rx ry q)
theorem pe_un{op:UnaryOp}{r:V→Hp→VK→Prop}(ho:UnR X (unaryOp op) r)(ha:PE X a ta):PE X (.UnaryOp op a pos) (tUn r ta):=by
 intro pins s σ H Q I h
 exact UnaryOp_ (thn (ha pins s σ H _ I h) fun v s1 ⟨x,H1,I1,r1,q1⟩=>ho pins s1 σ H1 x v Q I1 r1 q1)
theorem opI{f:Value→Value→Sem Value}{C:Int→Int→Prop}{g:Int→Int→Int}
  (rule:∀(i j:Int)(t u:Tok)(s:Shared)(Q:Value→Shared→Prop)(E:Value→Shared→Prop),C i j→Q (.int (g i j) s.toks) {s with toks:=s.toks+1}→wpAny (model X.prog X.w) X.A (f (.int i t) (.int j u)) Q E s):
  OpR X f (rI C fun i j=>.int (g i j)):=by
 intro pins s σ H x y v u Q I rx ry h
 obtain⟨i,j,rfl,rfl,hc,q⟩:=h
 obtain⟨t,rfl⟩:=rx
 obtain⟨t',rfl⟩:=ry
 exact rule i j t t' s _ _ hc ⟨.int (g i j),H,I.tok _,⟨_,rfl⟩,q⟩
theorem opI0{f:Value→Value→Sem Value}{g:Int→Int→Int}
  (rule:∀(i j:Int)(t u:Tok)(s:Shared)(Q:Value→Shared→Prop)(E:Value→Shared→Prop),Q (.int (g i j) s.toks) {s with toks:=s.toks+1}→wpAny (model X.prog X.w) X.A (f (.int i t) (.int j u)) Q E s):
  OpR X f (rI0 fun i j=>.int (g i j)):=by
 intro pins s σ H x y v u Q I rx ry h
 obtain⟨i,j,rfl,rfl,q⟩:=h
 obtain⟨t,rfl⟩:=rx
 obtain⟨t',rfl⟩:=ry
 exact rule i j t t' s _ _ ⟨.int (g i j),H,I.tok _,⟨_,rfl⟩,q⟩
theorem opB0{f:Value→Value→Sem Value}{g:Int→Int→Bool}
  (rule:∀(i j:Int)(t u:Tok)(s:Shared)(Q:Value→Shared→Prop)(E:Value→Shared→Prop),Q (.bool (g i j)) s→wpAny (model X.prog X.w) X.A (f (.int i t) (.int j u)) Q E s):
  OpR X f (rI0 fun i j=>.bl (g i j)):=by
 intro pins s σ H x y v u Q I rx ry h
 obtain⟨i,j,rfl,rfl,q⟩:=h
 obtain⟨t,rfl⟩:=rx
 obtain⟨t',rfl⟩:=ry
 exact rule i j t t' s _ _ ⟨.bl (g i j),H,I,rfl,q⟩
noncomputable def CDiv(i j:Int):Prop:=0<j∧j<1073741824
noncomputable def CMul(i j:Int):Prop:=(-(2 ^ 64)<i∧i<2 ^ 64)∨(-(2 ^ 64)<j∧j<2 ^ 64)
theorem CMul.ok{i j:Int}(h:CMul i j):IntMulOk i j:=by
 rcases h with⟨h1,h2⟩|⟨h1,h2⟩
 ·exact .of_left (intBits_le_64 h1 h2)
 ·exact .of_right (intBits_le_64 h1 h2)
theorem kbR:OpR X (binaryOp .Add) (rI0 fun i j=>.int (i+j)):=opI0 fun _ _ _ _ _ _ _ q=>add_int q
theorem kcK:OpR X (binaryOp .Sub) (rI0 fun i j=>.int (i-j)):=opI0 fun _ _ _ _ _ _ _ q=>sub_int q
theorem kb7:OpR X (binaryOp .Mult) (rI CMul fun i j=>.int (i*j)):=opI fun _ _ _ _ _ _ _ hc q=>mul_int q hc.ok
theorem kaB:OpR X (binaryOp .FloorDiv) (rI CDiv fun i j=>.int (i/j)):=opI fun i j _ _ _ _ _ hc q=>by
 have h1:(0:Int)<j:=hc.1
 have h2:j<1073741824:=hc.2
 exact floordiv_int (by omega) (by rw[Int.fdiv_eq_ediv_of_nonneg i (by omega)];exact q) (.inl (PyProof.noPylong_small (by omega)))
theorem kaC:OpR X (binaryOp .Mod) (rI (fun _ j=>0<j) fun i j=>.int (i%j)):=opI fun i j _ _ _ _ _ hc q=>by
 have h1:(0:Int)<j:=hc
 exact mod_int' (by omega) (by rw[Int.fmod_eq_emod_of_nonneg i (by omega)];exact q)
theorem unI{f:Value→Sem Value}{g:Int→Int}
  (rule:∀(i:Int)(t:Tok)(s:Shared)(Q:Value→Shared→Prop)(E:Value→Shared→Prop),Q (.int (g i) s.toks) {s with toks:=s.toks+1}→wpAny (model X.prog X.w) X.A (f (.int i t)) Q E s):
  UnR X f (rU fun i=>.int (g i)):=by
 intro pins s σ H x v Q I rx h
 obtain⟨i,rfl,q⟩:=h
 obtain⟨t,rfl⟩:=rx
 exact rule i t s _ _ ⟨.int (g i),H,I.tok _,⟨_,rfl⟩,q⟩
theorem khO:UnR X (unaryOp .USub) (rU fun i=>.int (-i)):=unI fun _ _ _ _ _ q=>neg_int q
end
noncomputable def scal:V→V→Bool
 | .non, .non=>true| .non, .int _=>true| .int _, .non=>true| .non, .bl _=>true| .bl _, .non=>true| .non, .str _=>true| .str _, .non=>true
 | .int _, .int _=>true| .bl _, .bl _=>true| .str _, .str _=>true| .byt _, .byt _=>true
 | .int _, .str _=>true| .str _, .int _=>true| .bl _, .str _=>true| .str _, .bl _=>true
 |_,_=>false
noncomputable def rEq:R2:=fun x y H Q=>scal x y=true∧Q (.bl (decide (x=y))) H
noncomputable def rNe:R2:=fun x y H Q=>scal x y=true∧Q (.bl (!decide (x=y))) H
noncomputable def kkw{i j:Int}:decide (V.int i=V.int j)=(i==j):=by
 rw[Ep]
 simp
noncomputable def klN{i j:Bool}:decide (V.bl i=V.bl j)=(i==j):=by
 rw[Ep]
 simp
noncomputable def kkv{i j:Str}:decide (V.str i=V.str j)=(i==j):=by
 rw[Ep]
 simp
noncomputable def kkx{i j:Array UInt8}:decide (V.byt i=V.byt j)=(i.toList==j.toList):=by
 rw[Ep]
 cases i
 cases j
 simp
section
variable {X:Cx} {a b c:Expr} {ta tb tc:TE} {pos:Pos}
theorem kaW{pins:List (Addr×Obj)}{σ:St}{H:Hp}{s:Shared}{Q:VK}{k k':Bool}(I:Inv X pins σ H s)(q:Q (.bl k) H)(e:k=k'):EP X pins σ Q (.bool k') s:=by
 subst e
 exact⟨.bl k,H,I,rfl,q⟩
theorem op_eq:OpR X (compareOp .Eq) rEq:=by
 intro pins s σ H x y v u Q I rx ry h
 obtain⟨hs,q⟩:=h
 cases x with
 |non=>
  cases rx
  cases y with
  |non=>cases ry;exact PySem.EqNone.eq_none_none (kaW I q (by simp))
  |bl j=>cases ry;exact PySem.EqNone.eq_none_bool (kaW I q (by simp))
  |int j=>obtain⟨t',rfl⟩:=ry;exact PySem.EqNone.eq_none_int (kaW I q (by simp))
  |str j=>obtain⟨t',rfl⟩:=ry;exact PySem.EqNone.eq_none_str (kaW I q (by simp))
  |_=>exact absurd (show false=true from hs) Np
 |bl i=>
  cases rx
  cases y with
  |non=>cases ry;exact PySem.EqNone.eq_bool_none (kaW I q (by simp))
  |bl j=>cases ry;exact eq_bool (kaW I q klN)
  |str j=>obtain⟨t',rfl⟩:=ry;exact PySem.EqMixed.eq_bool_str (kaW I q (by simp))
  |_=>exact absurd (show false=true from hs) Np
 |int i=>
  obtain⟨t,rfl⟩:=rx
  cases y with
  |non=>cases ry;exact PySem.EqNone.eq_int_none (kaW I q (by simp))
  |int j=>obtain⟨t',rfl⟩:=ry;exact eq_int (kaW I q kkw)
  |str j=>obtain⟨t',rfl⟩:=ry;exact PySem.EqMixed.eq_int_str (kaW I q (by simp))
  |_=>exact absurd (show false=true from hs) Np
 |str i=>
  obtain⟨t,rfl⟩:=rx
  cases y with
  |non=>cases ry;exact PySem.EqNone.eq_str_none (kaW I q (by simp))
  |bl j=>cases ry;exact PySem.EqMixed.eq_str_bool (kaW I q (by simp))
  |int j=>obtain⟨t',rfl⟩:=ry;exact PySem.EqMixed.eq_str_int (kaW I q (by simp))
  |str j=>obtain⟨t',rfl⟩:=ry;exact eq_str (kaW I q kkv)
  |_=>exact absurd (show false=true from hs) Np
 |byt i=>
  obtain⟨t,rfl⟩:=rx
  cases y with
  |byt j=>obtain⟨t',rfl⟩:=ry;exact PySem.W.eq_bytes (kaW I q kkx)
  |_=>exact absurd (show false=true from hs) Np
 |_=>cases y <;> exact absurd (show false=true from hs) Np
theorem op_ne:OpR X (compareOp .NotEq) rNe:=by
 intro pins s σ H x y v u Q I rx ry h
 obtain⟨hs,q⟩:=h
 cases x with
 |non=>
  cases rx
  cases y with
  |non=>cases ry;exact PySem.EqNone.ne_none_none (kaW I q (by simp))
  |bl j=>cases ry;exact PySem.EqNone.ne_none_bool (kaW I q (by simp))
  |int j=>obtain⟨t',rfl⟩:=ry;exact PySem.EqNone.ne_none_int (kaW I q (by simp))
  |str j=>obtain⟨t',rfl⟩:=ry;exact PySem.EqNone.ne_none_str (kaW I q (by simp))
  |_=>exact absurd (show false=true from hs) Np
 |bl i=>
  cases rx
  cases y with
  |non=>cases ry;exact PySem.EqNone.ne_bool_none (kaW I q (by simp))
  |bl j=>cases ry;exact ne_bool (kaW I q (congrArg not klN))
  |str j=>obtain⟨t',rfl⟩:=ry;exact PySem.EqMixed.ne_bool_str (kaW I q (by simp))
  |_=>exact absurd (show false=true from hs) Np
 |int i=>
  obtain⟨t,rfl⟩:=rx
  cases y with
  |non=>cases ry;exact PySem.EqNone.ne_int_none (kaW I q (by simp))
  |int j=>obtain⟨t',rfl⟩:=ry;exact ne_int (kaW I q (congrArg not kkw))
  |str j=>obtain⟨t',rfl⟩:=ry;exact PySem.EqMixed.ne_int_str (kaW I q (by simp))
  |_=>exact absurd (show false=true from hs) Np
 |str i=>
  obtain⟨t,rfl⟩:=rx
  cases y with
  |non=>cases ry;exact PySem.EqNone.ne_str_none (kaW I q (by simp))
  |bl j=>cases ry;exact PySem.EqMixed.ne_str_bool (kaW I q (by simp))
  |int j=>obtain⟨t',rfl⟩:=ry;exact PySem.EqMixed.ne_str_int (kaW I q (by simp))
  |str j=>obtain⟨t',rfl⟩:=ry;exact ne_str (kaW I q (congrArg not kkv))
  |_=>exact absurd (show false=true from hs) Np
 |byt i=>
  obtain⟨t,rfl⟩:=rx
  cases y with
  |byt j=>obtain⟨t',rfl⟩:=ry;exact PySem.W.ne_bytes (kaW I q (congrArg not kkx))
  |_=>exact absurd (show false=true from hs) Np
 |_=>cases y <;> exact absurd (show false=true from hs) Np
theorem op_lt:OpR X (compareOp .Lt) (rI0 fun i j=>.bl (decide (i<j))):=opB0 fun _ _ _ _ _ _ _ q=>lt_int q
theorem op_gt:OpR X (compareOp .Gt) (rI0 fun i j=>.bl (decide (j<i))):=opB0 fun _ _ _ _ _ _ _ q=>gt_int q
theorem op_ge:OpR X (compareOp .GtE) (rI0 fun i j=>.bl (decide (j≤i))):=opB0 fun _ _ _ _ _ _ _ q=>ge_int q
theorem kfu:OpR X (compareOp .Is) (fun x y H Q=>y=.non∧Q (.bl (decide (x=.non))) H):=by
 intro pins s σ H x y v u Q I rx ry h
 obtain⟨rfl,q⟩:=h
 cases ry
 refine is_none_gen (kaW I q ?_)
 cases x <;> first
  |(cases rx;rfl)
  |(obtain⟨t,rfl⟩:=rx;rfl)
theorem kct:OpR X (compareOp .IsNot) (fun x y H Q=>y=.non∧Q (.bl (!decide (x=.non))) H):=by
 intro pins s σ H x y v u Q I rx ry h
 obtain⟨rfl,q⟩:=h
 cases ry
 refine isnot_none_gen (kaW I q ?_)
 cases x <;> first
  |(cases rx;rfl)
  |(obtain⟨t,rfl⟩:=rx;rfl)
theorem OpR.or{f:Value→Value→Sem Value}{r r':R2}(h:OpR X f r)(h':OpR X f r'):OpR X f (fun x y H Q=>r x y H Q∨r' x y H Q):=by
 intro pins s σ H x y v u Q I rx ry q
 rcases q with q|q
 ·exact h pins s σ H x y v u Q I rx ry q
 ·exact h' pins s σ H x y v u Q I rx ry q
theorem kav(b:Expr){op:CmpOp}(h:op≠.In:=by decide)(h2:op≠.NotIn:=by decide):behindInMarks op b=false:=by
 have e1:(op==CmpOp.In)=false:=by cases op <;> first|rfl|exact absurd rfl h
 have e2:(op==CmpOp.NotIn)=false:=by cases op <;> first|rfl|exact absurd rfl h2
 cases b <;> simp[behindInMarks,e1,e2]
theorem kb6{op:CmpOp}{r:R2}(ho:OpR X (compareOp op) r)(ha:PE X a ta)(hb:PE X b tb)(hm:behindInMarks op b=false):PE X (.Compare a [op] [b] pos) (tOp r ta tb):=by
 intro pins s σ H Q I h
 exact wpAny_Compare1 (binT ha hb I h fun v u s2 x y H2 I2 rx ry q=>ho pins s2 σ H2 x y v u Q I2 rx ry q) hm
noncomputable def tTest(t:TE):TT:=fun σ H Q=>t σ H fun x H'=>∃k,x=.bl k∧Q k H'
theorem kap{op:CmpOp}{r:R2}(ho:OpR X (compareOp op) r)(ha:PE X a ta)(hb:PE X b tb)(hm:behindInMarks op b=false):PT X (.Compare a [op] [b] pos) (tTest (tOp r ta tb)):=by
 intro pins s σ H Q I h
 refine wpAny_isTrue_Compare1 (thn (ha pins s σ H _ I h) fun v s1 ⟨x,H1,I1,r1,q1⟩=>thn (hb pins s1 σ H1 _ I1 q1) fun u s2 ⟨y,H2,I2,r2,q2⟩=>
  thn (ho pins s2 σ H2 x y v u _ I2 r1 r2 q2) fun c s3 ⟨z,H3,I3,r3,k,e,q3⟩=>?_) hm
 subst e
 cases r3
 exact wpAny_truthy_bool ⟨H3,I3,q3⟩
theorem kgP:(sizeLine:Nat)<2 ^ 63:=by rw[sizeLine_eq];decide
theorem vals1{x:V}{us:List Value}(r:Vals [x] us):∃u,us=[u]∧RelV x u:=by
 cases r with
 |cons r1 r2=>cases r2;exact⟨_,rfl,r1⟩
theorem vals2{x y:V}{us:List Value}(r:Vals [x,y] us):∃u w',us=[u,w']∧RelV x u∧RelV y w':=by
 cases r with
 |cons r1 r2=>
  cases r2 with
  |cons r3 r4=>cases r4;exact⟨_,_,rfl,r1,r3⟩
theorem ke8(hc:X.calm=true):CallR X (.builtin "max") (fun xs H Q=>∃i j,xs=[.int i, .int j]∧Q (.int (if j > i then j else i)) H):=by
 intro pins s σ H xs us Q I r h
 obtain⟨i,j,rfl,q⟩:=h
 obtain⟨u,w',rfl,⟨t,rfl⟩,⟨t',rfl⟩⟩:=vals2 r
 refine max_two_ints (I.ok.hd hc) fun h' tk k=>⟨_,H,I.kept k,?_,q⟩
 by_cases hj:j > i
 ·rw[if_pos hj,if_pos hj];exact⟨_,rfl⟩
 ·rw[if_neg hj,if_neg hj];exact⟨_,rfl⟩
theorem kcB(hc:X.calm=true):CallR X (.builtin "min") (fun xs H Q=>∃i j,xs=[.int i, .int j]∧Q (.int (if j<i then j else i)) H):=by
 intro pins s σ H xs us Q I r h
 obtain⟨i,j,rfl,q⟩:=h
 obtain⟨u,w',rfl,⟨t,rfl⟩,⟨t',rfl⟩⟩:=vals2 r
 refine min_two_ints (I.ok.hd hc) fun h' tk k=>⟨_,H,I.kept k,?_,q⟩
 by_cases hj:j<i
 ·rw[if_pos hj,if_pos hj];exact⟨_,rfl⟩
 ·rw[if_neg hj,if_neg hj];exact⟨_,rfl⟩
end
end L2
namespace L2
open PySem PySem.Spec PyProof.Rows
structure ObjM (h:Heap) (x dx C:Addr) (mA:Str→Option Value):Prop where
 obj:h.get? x=some (MC C dx)
 ns:h.Ns1 dx mA
 ne:dx≠x
noncomputable def kj7{h:Heap}{dx:Addr}{mA:Str→Option Value}(n:h.Ns1 dx mA):∃od,h.get? dx=some od∧∀name,Er name od=some (mA name):=by
 obtain⟨o,es,ep,ho,hd,hk,_,hm⟩:=n
 refine⟨o,ho,fun name=>?_⟩
 have e:=hm name
 unfold nsFind findBy at e
 rw[←Array.find?_toList] at e
 unfold Er
 rw[hd]
 dsimp only
 split
 ·rename_i y q
  rw[q] at e
  exact congrArg some e
 ·rename_i q
  rw[q] at e
  have a:es.toList.any (·.refKey)=false:=by
   rw[List.any_eq_false]
   intro y hy
   obtain⟨z,t,hkey⟩:=hk y (Array.mem_toList_iff.mp hy)
   simp[DictEntry.refKey,hkey]
  have a':¬es.toList.any (·.refKey)=true:=by rw[a];exact Np
  rw[if_neg a']
  exact congrArg some e
noncomputable def ObjM.look{h:Heap}{x dx C:Addr}{mA:Str→Option Value}(I:ObjM h x dx C mA):∃od,PySem.W.InstAt h x (MC C dx) C (some od)∧∀name,Er name od=some (mA name):=
 let⟨od,ho,hl⟩:=kj7 I.ns
 ⟨od,⟨I.obj,rfl,rfl,ho⟩,hl⟩
section
variable {prog:Program} {w:World} {A:Around} {E:Value→Shared→Prop} {s:Shared} {K:Nc} {x dx C f:Addr} {mA:Str→Option Value} {name:Str} {v:Value}
theorem get_map{expr:Bool}{Q:Value→Shared→Prop}(X:K.In s.heap)(I:ObjM s.heap x dx C mA)(hg:NY K C name=true)(hh:N3 K C=true)
  (ha:Ng K (.ref C) name=some none) (hv:mA name=some v) (hv':PySem.W.handedIn v=true) (h:Q v {s with toks:=s.toks+1}):
  wpAny (model prog w) A (getAttr (.ref x) name expr) Q E s:=by
 obtain⟨od,J,hl⟩:=I.look
 exact PySem.W.get_value X J (EX hg).1 (PySem.W.findObj_own hh ha rfl (by rw[hl,hv])) hv' h
theorem klb{pl:Sem Bool}{Q:Value×List Value→Shared→Prop}(X:K.In s.heap)(I:ObjM s.heap x dx C mA)(hg:NY K C name=true)
  (hf:Ng K (.ref C) name=some (some (.ref f))) (ht:N9 K (.ref f)=true) (hv:mA name=none) (h:Q (.ref f,[.ref x]) s):
  wpAny (model prog w) A (getMethod (.ref x) name pl) Q E s:=by
 obtain⟨od,J,hl⟩:=I.look
 exact PySem.W.method_fn X J (EX hg).1 (EX hg).2 hf (beq_iff_eq.mp ht) (by show(Er name od).map (·.isSome)=some false;rw[hl,hv];rfl) h
theorem klY{ns:List Str}{Q:Unit→Shared→Prop}(X:K.In s.heap)(I:ObjM s.heap x dx C mA)
  (hs:Ng K (.ref C) "__setattr__"=some (some (.builtin "object.__setattr__"))) (hp:Ma K C=true) (ht:EY K C name=some none) (hh:N3 K C=true)
  (hw:PySem.Within mA ns) (hsz:ns.length≤sizeLine)
  (h:∀h',ObjM h' x dx C (fun y=>if y=name then some v else mA y)→Heap.SameBut dx s.heap h'→Q () {s with heap:=h',toks:=s.toks+2}):
  wpAny (model prog w) A (setAttr (.ref x) name v) Q E s:=by
 obtain⟨od,J,hl⟩:=I.look
 refine PySem.W.set_plain X J hs (PySem.W.osa_open (s:={s with toks:=s.toks+1}) (r:=none) X J hp ht fun b=>?_)
 obtain⟨cd,hc,hd'⟩:=PySem.W.any_some hh
 have hx:s.heap.get? x=some ⟨.ref C,some dx, .plain,#[]⟩:=I.obj
 refine wpAny_bind (wpAny_pure (wpAny_bind (wpAny_bind (wpAny_loadPart hx (wpAny_bind (PySem.W.Looks.here (s:={s with toks:=s.toks+1}) (PySem.W.looks_clsIn X hc) ?_))))))
 rw[hd']
 refine wpAny_pure (a:=some dx) (wpAny_bind (wpAny_pure (wpAny_bind ?_)))
 refine wpAny_nsSet1 (s:={s with toks:=s.toks+1}) I.ns fun h' hn2 hs2=>?_
 obtain⟨oD,esD,epD,hoD,hdD,hcD⟩:=hn2.count (PySem.Within.cons name v hw)
 refine wpAny_bind (wpAny_lookBehind hoD (by rw[hdD];exact pastItsLine_dict (Nk hcD (by rw[NT];omega))) ?_)
 exact wpAny_pure (h _ ⟨(hs2.2 _ (Ne.symm I.ne)).trans I.obj,hn2,I.ne⟩ hs2)
theorem kkY{R:Result→Shared→Prop}{vs:List Value}{kw:List (Str×Value)}(X:K.In s.heap)(hm:N4 K C=true)
  (hi:Ng K (.ref C) "__init__"=some (some (.ref f))) (hf:NZ K (.ref f)=some (.type "function"))
  (h:codeAny (model prog w) (A.under (.builtin "type.__call__" ⟨.ref C::vs,kw⟩)) (.call (.ref f) ⟨.ref (s.heap.objs.size+1)::vs,kw⟩) (PySem.W.InitBack (s.heap.objs.size+1) R)
   {s with heap:=(s.heap.push Mu).push (MC C s.heap.objs.size)}):
  codeAny (model prog w) A (.call (.ref C) ⟨vs,kw⟩) R s:=by
 obtain⟨hh,g,d,t,os⟩:=s
 exact PySem.W.make_core (PySem.W.makes_of X hm) (PySem.W.looks_findIn X hi) (fun self=>PySem.W.bind_fn X self hf) (.inl rfl) h
end
noncomputable def putF(f:Str)(v:V):List (Str×V)→List (Str×V)
 |[]=>[(f,v)]
 |(g,x)::r=>if g=f then(g,v)::r else(g,x)::putF f v r
theorem kac(f g:Str)(v:V):∀fs:List (Str×V),(putF f v fs).lookup g=if g=f then some v else fs.lookup g
 | []=>by
  show Mn g [(f,v)]=_
  by_cases h:g=f
  ·have hb:(g==f)=true:=beq_iff_eq.mpr h
   simp only[Mn,hb,if_pos h]
  ·have hb:(g==f)=false:=beq_eq_false_iff_ne.mpr h
   simp only[Mn,hb,if_neg h]
 | (k,x)::r=>by
  have ih:=kac f g v r
  rw[show putF f v ((k,x)::r)=(if k=f then(k,v)::r else(k,x)::putF f v r) from rfl]
  by_cases hk:k=f
  ·rw[if_pos hk]
   by_cases h:g=k
   ·have hb:(g==k)=true:=beq_iff_eq.mpr h
    simp only[Mn,hb,if_pos (h.trans hk)]
   ·have hb:(g==k)=false:=beq_eq_false_iff_ne.mpr h
    simp only[Mn,hb,if_neg (fun e:g=f=>h (e.trans hk.symm))]
  ·rw[if_neg hk]
   by_cases h:g=k
   ·have hb:(g==k)=true:=beq_iff_eq.mpr h
    simp only[Mn,hb,if_neg (fun e:g=f=>hk (h.symm.trans e))]
   ·have hb:(g==k)=false:=beq_eq_false_iff_ne.mpr h
    simp only[Mn,hb]
    exact ih
theorem keX(f:Str)(v:V):∀fs:List (Str×V),f∈(putF f v fs).map (·.1)∧∀g,g∈fs.map (·.1)→g∈(putF f v fs).map (·.1)
 |[]=>⟨by simp[putF],fun g h=>by simp at h⟩
 | (k,x)::r=>by
  obtain⟨i1,i2⟩:=keX f v r
  rw[show putF f v ((k,x)::r)=(if k=f then(k,v)::r else(k,x)::putF f v r) from rfl]
  by_cases hk:k=f
  ·rw[if_pos hk]
   subst hk
   exact⟨by simp,fun g h=>by simpa using h⟩
  ·rw[if_neg hk]
   refine⟨?_,fun g h=>?_⟩
   ·rw[Nw]
    exact NC _ i1
   ·rw[Nw] at h⊢
    rcases NF.mp h with e|e
    ·exact NF.mpr (.inl e)
    ·exact NC _ (i2 g e)
theorem keU(f:Str)(v:V):∀fs:List (Str×V),(putF f v fs).length≤fs.length+1
 |[]=>by simp[putF]
 |(k,x)::r=>by
  have ih:=keU f v r
  rw[show putF f v ((k,x)::r)=(if k=f then(k,v)::r else(k,x)::putF f v r) from rfl]
  by_cases hk:k=f
  ·rw[if_pos hk,NT,NT];omega
  ·rw[if_neg hk,NT,NT];omega
theorem RelO.some_of{v:V}{o:Option Value}(r:RelO (some v) o):∃u,o=some u∧RelV v u:=by
 cases o with
 |none=>exact(show False from r).elim
 |some u=>exact⟨u,rfl,r⟩
theorem RelO.none_of{o:Option Value}(r:RelO none o):o=none:=by
 cases o with
 |none=>rfl
 |some u=>exact(show False from r).elim
theorem kkj{v:V}{u:Value}(r:RelV v u):PySem.W.handedIn u=true:=by
 cases v with
 |non=>cases(show u=Value.none from r);rfl
 |bl b=>cases(show u=Value.bool b from r);rfl
 |int i=>obtain⟨t,e⟩:=(show ∃t,u=Value.int i t from r);cases e;rfl
 |str x=>obtain⟨t,e⟩:=(show ∃t,u=Value.str x t from r);cases e;rfl
 |byt b=>obtain⟨t,e⟩:=(show ∃t,u=Value.bytes b t from r);cases e;rfl
 |flt b=>obtain⟨t,e⟩:=(show ∃t,u=Value.float b t from r);cases e;rfl
 |ref a=>cases(show u=Value.ref a from r);rfl
 |ty n=>cases(show u=Value.type n from r);rfl
section
variable {P:Program} {w:World} {H H':Hp} {h h':Heap} {a C dx:Addr} {fs fs':List (Str×V)}
theorem ke0(hok:HOk P w H h)(e:H a=some (.ins C dx fs)):∃mA,ObjM h a dx C mA∧(∀f,RelO (fs.lookup f) (mA f))∧PySem.Within mA (fs.map (·.1))∧fs.length≤1000∧H dx=some (.own a):=by
 obtain⟨d,z,ne,ob,mA,n,r,q⟩:=(show ObjOk P w H h a (.ins C dx fs) from hok a _ e)
 exact⟨mA,⟨ob,n,ne⟩,r,q,z,d⟩
end
structure Cls (K:Nc) (C:Addr):Prop where
 pg:NY K C Str.empty=true
 hd:N3 K C=true
 po:Ma K C=true
 sa:Ng K (.ref C) "__setattr__"=some (some (.builtin "object.__setattr__"))
noncomputable def Cls.get{K:Nc}{C:Addr}(c:Cls K C)(f:Str):NY K C f=true:=c.pg
noncomputable def NoAttr(K:Nc)(C:Addr)(f:Str):Prop:=Ng K (.ref C) f=some none
noncomputable def NoAttr.taker{K:Nc}{C:Addr}{f:Str}(n:NoAttr K C f):EY K C f=some none:=by
 unfold EY
 rw[show Ng K (.ref C) f=some none from n]
 rfl
structure Meth (K:Nc) (C:Addr) (m:Str) (f:Addr):Prop where
 at_:Ng K (.ref C) m=some (some (.ref f))
 fn:N9 K (.ref f)=true
 kp:Nz K (.ref f)=true
section
variable {X:Cx} {pins:List (Addr×Obj)} {σ:St} {H:Hp} {s:Shared} {a C dx:Addr} {fs:List (Str×V)} {f:Str} {v:V} {A:Around} {E:Value→Shared→Prop}
theorem ki7{b:Bool}{Q:Value→Shared→Prop}(I:Inv X pins σ H s)(e:H a=some (.ins C dx fs))(c:Cls X.K C)(n:NoAttr X.K C f)(l:fs.lookup f=some v)
  (h:∀u s',Inv X pins σ H s'→RelV v u→Q u s'):wpAny (model X.prog X.w) A (getAttr (.ref a) f b) Q E s:=by
 obtain⟨mA,O,r,_,_,_⟩:=ke0 I.hok e
 obtain⟨u,hu,ru⟩:=RelO.some_of (v:=v) (o:=mA f) (by rw[←l];exact r f)
 exact get_map I.kIn O (c.get f) c.hd n hu (kkj ru) (h u _ (I.tok _) ru)
theorem kfB{m:Str}{g:Addr}{pl:Sem Bool}{Q:Value×List Value→Shared→Prop}(I:Inv X pins σ H s)(e:H a=some (.ins C dx fs))(c:Cls X.K C)(k:Meth X.K C m g)(l:fs.lookup m=none)
  (h:Q (.ref g,[.ref a]) s):wpAny (model X.prog X.w) A (getMethod (.ref a) m pl) Q E s:=by
 obtain⟨mA,O,r,_,_,_⟩:=ke0 I.hok e
 have hn:mA m=none:=RelO.none_of (by rw[←l];exact r m)
 exact klb I.kIn O (c.get m) k.at_ k.fn hn h
theorem kiS{y:V}{u:Value}{Q:Unit→Shared→Prop}(I:Inv X pins σ H s)(e:H a=some (.ins C dx fs))(c:Cls X.K C)(n:NoAttr X.K C f)(hl:fs.length<1000)(ry:RelV y u)
  (h:∀s',Inv X pins σ (upd H a (.ins C dx (putF f y fs))) s'→Q () s'):wpAny (model X.prog X.w) A (setAttr (.ref a) f u) Q E s:=by
 obtain⟨mA,O,r,wi,_,ho⟩:=ke0 I.hok e
 have hz:(fs.map (·.1)).length≤sizeLine:=by rw[Nb,sizeLine_eq];omega
 refine klY I.kIn O c.sa c.po n.taker c.hd wi hz fun h' O' sb=>h _ ?_
 have hd:∃o,h'.get? dx=some o:=let⟨o,_,_,e',_⟩:=O'.ns;⟨o,e'⟩
 refine I.write (x:=a) (e:=dx) (by rw[e];exact True.intro) (.inr ho) (fun b q hb z=>(sb.2 b hb).trans z) hd ?_
 refine⟨by rw[kak O.ne];exact ho,?_,O.ne,O'.obj,_,O'.ns,fun g=>?_,fun g hg=>?_⟩
 ·have:=keU f y fs;omega
 ·show RelO ((putF f y fs).lookup g) (if g=f then some u else mA g)
  rw[kac]
  by_cases q:g=f
  ·rw[if_pos q,if_pos q];exact ry
  ·rw[if_neg q,if_neg q];exact r g
 ·by_cases q:g=f
  ·rw[q];exact(keX f y fs).1
  ·refine(keX f y fs).2 g (wi g fun z=>hg ?_)
   show(if g=f then some u else mA g)=none
   rw[if_neg q];exact z
theorem Inv.made(I:Inv X pins σ H s):Inv X pins σ (upd (upd H s.heap.objs.size (.own (s.heap.objs.size+1))) (s.heap.objs.size+1) (.ins C s.heap.objs.size []))
  {s with heap:=(s.heap.push Mu).push (MC C s.heap.objs.size)}:=by
 have e1:(s.heap.push Mu).get? s.heap.objs.size=some Mu:=Heap.get?_push_size s.heap rfl
 have e2:((s.heap.push Mu).push (MC C s.heap.objs.size)).get? (s.heap.objs.size+1)=some (MC C s.heap.objs.size):=by
  have:=Heap.get?_push_size (s.heap.push Mu) (o:=MC C s.heap.objs.size) rfl
  rwa [Heap.size_push] at this
 have e3:(s.heap.push Mu).Ns s.heap.objs.size (fun _=>none):=⟨Mu,#[],_,e1,rfl,(fun e he=>absurd he (by simp)),fun _=>rfl⟩
 have I1:=I.laid (a:=s.heap.objs.size) (o:=.own (s.heap.objs.size+1)) (h':=s.heap.push Mu) (t':=s.toks) (fun b u q=>Heap.get?_push_of_some _ q) (Nd _) ⟨_,e1⟩
 refine I1.laid (a:=s.heap.objs.size+1) (o:=.ins C s.heap.objs.size []) (t':=s.toks) (fun b u q=>Heap.get?_push_of_some _ q) (Es (Heap.size_push _ _)) ?_
 have ne:s.heap.objs.size≠s.heap.objs.size+1:=NL (EZ _)
 refine⟨by rw[kak ne,kad],NO _,ne,e2,fun _=>none,(Heap.Ns1.of_empty e3).at fun o q=>Heap.get?_push_of_some _ q,fun _=>True.intro,fun y hy=>absurd rfl hy⟩
theorem kmu{prog:Program}{w:World}{env:Env}{e:Expr}{f:Str}{pos:Pos}{s:Shared}{Q:Value→Shared→Prop}(hb:attributeBase e f env (eval e env)=eval e env)
  (h:wpAny (model prog w) A (eval e env) (fun o s₁=>wpAny (model prog w) A (getAttr o f true) Q E s₁) E s):wpAny (model prog w) A (eval (.Attribute e f pos) env) Q E s:=
 Attribute_any_ h (by rw[arm_eval_Attribute,hb])
end
noncomputable def tFld(K:Nc)(ta:TE)(f:Str):TE:=fun σ H Q=>ta σ H fun x H1=>∃a C dx fs v,x=.ref a∧H1 a=some (.ins C dx fs)∧Cls K C∧NoAttr K C f∧fs.lookup f=some v∧Q v H1
noncomputable def sFld(K:Nc)(ta tv:TE)(f:Str):TS:=fun D σ H=>tv σ H fun y H1=>ta σ H1 fun x H2=>∃a C dx fs,x=.ref a∧H2 a=some (.ins C dx fs)∧Cls K C∧NoAttr K C f∧fs.length<1000∧
 D.nx σ (upd H2 a (.ins C dx (putF f y fs)))
section
variable {X:Cx} {o e value:Expr} {f:Str} {pos pos' tpos:Pos} {ta tv:TE}
theorem kmF(he:PE X e ta)(hb:attributeBase e f X.env (eval e X.env)=eval e X.env):PE X (.Attribute e f pos) (tFld X.K ta f):=by
 intro pins s σ H Q I h
 refine kmu hb (thn (he pins s σ H _ I h) fun u s1 zz=>?_)
 obtain⟨x,H1,I1,rx,a,C,dx,fs,v,ex,ea,c,n,l,q⟩:=zz
 subst ex
 obtain rfl:u=Value.ref a:=rx
 exact ki7 I1 ea c n l fun u' s2 I2 ru=>⟨v,H1,I2,ru,q⟩
theorem kaJ(ha:PE X o ta)(hv:PE X value tv)(hs:swapsWith value (some (.Attribute o f pos')) pos.line X.env=pure false):PS X (.Assign [.Attribute o f pos'] value pos) (sFld X.K ta tv f):=by
 intro pins s σ H D I h
 refine plainObj_wpAny_Assign_Attribute (thn (hv pins s σ H _ I h) fun u s1 ⟨y,H1,I1,ry,q⟩=>thn (ha pins s1 σ H1 _ I1 q) fun ov s2 zz=>?_) hs
 obtain⟨x,H2,I2,rx,a,C,dx,fs,ex,ea,c,n,l,q2⟩:=zz
 subst ex
 obtain rfl:ov=Value.ref a:=rx
 exact kiS I2 ea c n l ry fun s3 I3=>⟨σ,_,I3,q2⟩
end
section
variable {X:Cx} {pins:List (Addr×Obj)} {σ:St} {H:Hp} {s:Shared} {A:Around} {E:Value→Shared→Prop} {Q:Value→Shared→Prop} {c:Value} {b:Bool}
inductive TyOf (K:Nc) (H:Hp):V→Value→Prop where
 |non:TyOf K H .non (.type "NoneType")
 |bl (x:Bool):TyOf K H (.bl x) (.type "bool")
 |int (i:Int):TyOf K H (.int i) (.type "int")
 |str (x:Str):TyOf K H (.str x) (.type "str")
 |flt (x:UInt64):TyOf K H (.flt x) (.type "float")
 |lst {a:Addr} {xs:List V} (e:H a=some (.lst xs)):TyOf K H (.ref a) (.type "list")
 |frz {a:Addr} {o:Obj} {xs:List V} (e:H a=some (.frz o (.lst xs))):TyOf K H (.ref a) (.type "list")
 |tup {a:Addr} {xs:List V} (e:H a=some (.tup xs)):TyOf K H (.ref a) (.type "tuple")
 |dK {a:Addr} {kvs:List (Key×V)} (e:H a=some (.dK kvs)):TyOf K H (.ref a) (.type "dict")
 |dT {a:Addr} {kvs:List (List Key×V)} (e:H a=some (.dT kvs)):TyOf K H (.ref a) (.type "dict")
 | ins {a C dx:Addr} {fs:List (Str×V)} (e:H a=some (.ins C dx fs)) (cl:Cls K C) (ha:Ng K (.ref C) "__class__"=some (some (.builtin "object.__class__")))
   (hn:M5 K (.builtin "object.__class__") "__get__"=some (some (.builtin "getset_descriptor.__get__"))) (htk:E1 K (.builtin "object.__class__")=some true)
   (hm:Nm K C (.type "object")=some true):TyOf K H (.ref a) (.ref C)
theorem kkf{x:V}{u t:Value}(I:Inv X pins σ H s)(rx:RelV x u)(ty:TyOf X.K H x t)(e:NA X.K t c=some b)(h:∀tk,Q (.bool b) {s with toks:=tk}):
  wpAny (model X.prog X.w) A (call (.builtin "isinstance") [u,c]) Q E s:=by
 cases ty with
 |non=>cases(show u=Value.none from rx);exact Mo PySem.W.kitx_none I.kIn True.intro e (fun z=>nomatch z) h
 |bl y=>cases(show u=Value.bool y from rx);exact Mo PySem.W.kitx_bool I.kIn True.intro e (fun z=>nomatch z) h
 |int i=>obtain⟨t,q⟩:=(show ∃t,u=Value.int i t from rx);cases q;exact Mo PySem.W.kitx_int I.kIn True.intro e (fun z=>nomatch z) h
 |str y=>obtain⟨t,q⟩:=(show ∃t,u=Value.str y t from rx);cases q;exact Mo PySem.W.kitx_str I.kIn True.intro e (fun z=>nomatch z) h
 |flt y=>obtain⟨t,q⟩:=(show ∃t,u=Value.float y t from rx);cases q;exact Mo PySem.W.kitx_float I.kIn True.intro e (fun z=>nomatch z) h
 | @lst a xs ea=>
  cases(show u=Value.ref a from rx)
  obtain⟨_,_,n,_,h1⟩:=(show ObjOk X.prog X.w H s.heap a (.lst xs) from I.hok a _ ea)
  exact Mo PySem.W.kitx_list I.kIn ⟨_,h1,rfl⟩ e (fun z=>nomatch z) h
 | @frz a ob xs ea=>
  cases(show u=Value.ref a from rx)
  obtain⟨_,_,_,n,_,h1⟩:=(show ObjOk X.prog X.w H s.heap a (.frz ob (.lst xs)) from I.hok a _ ea)
  exact Mo PySem.W.kitx_list I.kIn ⟨_,h1,rfl⟩ e (fun z=>nomatch z) h
 | @tup a xs ea=>
  cases(show u=Value.ref a from rx)
  obtain⟨_,_,_,p⟩:=(show ObjOk X.prog X.w H s.heap a (.tup xs) from I.hok a _ ea)
  obtain⟨o,h1,h2,_⟩:=p
  exact Mo PySem.W.kitx_tuple I.kIn ⟨o,h1,h2⟩ e (fun z=>nomatch z) h
 | @dK a kvs ea=>
  cases(show u=Value.ref a from rx)
  obtain⟨_,_,vs,_,p⟩:=(show ObjOk X.prog X.w H s.heap a (.dK kvs) from I.hok a _ ea)
  obtain⟨o,es,ep,h1,h2,_⟩:=p
  exact Mo PySem.W.kitx_dict I.kIn ⟨o,h1,h2.1⟩ e (fun z=>nomatch z) h
 | @dT a kvs ea=>
  cases(show u=Value.ref a from rx)
  obtain⟨_,_,xs,_,o,es,ep,h1,h2,_⟩:=(show ObjOk X.prog X.w H s.heap a (.dT kvs) from I.hok a _ ea)
  exact Mo PySem.W.kitx_dict I.kIn ⟨o,h1,h2.1⟩ e (fun z=>nomatch z) h
 | @ins a C dx fs ea cl ha hn htk hm=>
  cases(show u=Value.ref a from rx)
  obtain⟨mA,O,_⟩:=ke0 I.hok ea
  obtain⟨od,J,_⟩:=O.look
  exact Mo (PySem.W.kitx_own (cl.get _) cl.hd ha hn htk hm) I.kIn J e (fun z=>nomatch z) h
end
end L2
namespace L2
open PySem PySem.Spec PyProof.Rows
structure Room (k:Nat) (A:Around):Prop where
 hd:A.handled=none
 dp:A.depth+3*k+5<recursionLimit
 un:A.units+16*k+200<cLine
noncomputable def Room.mono{j k:Nat}{A:Around}(r:Room k A)(h:j≤k):Room j A:=⟨r.hd,by have:=r.dp;omega,by have:=r.un;omega⟩
noncomputable def Room.deeper{k:Nat}{A:Around}(r:Room (k+1) A)(env:Env):Room k (A.deeper env):=
 ⟨r.hd,by have:=r.dp;show A.depth+1+3*k+5<_;omega,by have:=r.un;show A.units+3+16*k+200<_;omega⟩
noncomputable def Room.in1{k:Nat}{A:Around}(r:Room (k+1) A):Room k A.in1:=
 ⟨r.hd,by have:=r.dp;show A.depth+3*k+5<_;omega,by have:=r.un;show A.units+1+16*k+200<_;omega⟩
noncomputable def ki4{A:Around}{C:Addr}{us:List Value}{kw:List (Str×Value)}:(A.under (.builtin "type.__call__" ⟨.ref C::us,kw⟩)).depth=A.depth+1:=by
 first|rfl|simp[Around.under,Code.weight,Code.isCreation,Code.isGuard,Code.isCaller,Code.frames,Code.isFrame,guardIds]
noncomputable def ki3{A:Around}{C:Addr}{us:List Value}{kw:List (Str×Value)}:(A.under (.builtin "type.__call__" ⟨.ref C::us,kw⟩)).units=A.units+1:=by
 first|rfl|simp[Around.under,Code.cUnits,Code.frames,Code.isFrame]
noncomputable def Room.make{k:Nat}{A:Around}(r:Room (k+1) A)(C:Addr)(us:List Value)(kw:List (Str×Value)):Room k (A.under (.builtin "type.__call__" ⟨.ref C::us,kw⟩)):=
 ⟨r.hd,by have:=r.dp;rw[ki4];omega,by have:=r.un;rw[ki3];omega⟩
noncomputable def Room.depth{k:Nat}{A:Around}(r:Room k A):A.depth<recursionLimit:=by have:=r.dp;omega
noncomputable def Room.units{k:Nat}{A:Around}(r:Room k A):A.units+64<cLine:=by have:=r.un;omega
noncomputable def Room.units0{k:Nat}{A:Around}(r:Room k A):A.units<cLine:=by have:=r.un;omega
noncomputable def tNil:TA:=fun _ H Q=>Q [] H
noncomputable def tCons(ta:TE)(tr:TA):TA:=fun σ H Q=>ta σ H fun x H1=>tr σ H1 fun xs H2=>Q (x::xs) H2
section
variable {X:Cx} {e:Expr} {es:List Expr} {te:TE} {t:TA} {pos:Pos}
theorem kae:PA X [] tNil:=fun _ _ _ _ H Q I h=>Calls.spliced_nil ⟨[],H,I, .nil,h⟩
theorem kaa(ha:PE X e te)(hr:PA X es t)(hs:starEach (e::es) X.env=(false,eval e X.env)::starEach es X.env:=by rfl):PA X (e::es) (tCons te t):=by
 intro pos pins s σ H Q I h
 rw[hs]
 show wpAny _ _ (spliced ((false,eval e X.env)::backTo pos (starEach es X.env))) _ _ s
 refine Calls.spliced_cons (thn (ha pins s σ H _ I h) fun u s1 zz=>?_)
 obtain⟨x,H1,I1,r1,q1⟩:=zz
 exact thn (hr pos pins s1 σ H1 _ I1 q1) fun us s2 ⟨xs,H2,I2,r2,q2⟩=>⟨x::xs,H2,I2, .cons r1 r2,q2⟩
noncomputable def tTup(t:TA):TE:=fun σ H Q=>t σ H fun xs H1=>xs.length≤sizeLine∧∀p,H1 p=none→Q (.ref p) (upd H1 p (.tup xs))
noncomputable def tLst(t:TA):TE:=fun σ H Q=>t σ H fun xs H1=>xs.length≤sizeLine∧∀p,H1 p=none→Q (.ref p) (upd H1 p (.lst xs))
theorem kb5{x1}(h:PA X es t):PE X (.Tuple es x1 pos) (tTup t):=by
 intro pins s σ H Q I hq
 refine wpAny_Tuple_spliced (thn (h pos pins s σ H _ I hq) fun us s1 ⟨xs,H1,I1,r,z,q⟩=>⟨by rw[←r.length];exact z,?_⟩)
 have hf:H1 s1.heap.objs.size=none:=I1.hok.fresh (Nd _)
 refine⟨.ref s1.heap.objs.size,upd H1 s1.heap.objs.size (.tup xs),I1.laid (t':=s1.toks) (fun b u e=>Heap.get?_push_of_some _ e) (Nd _) ?_,rfl,q _ hf⟩
 exact⟨z,us,r,⟨_,Heap.get?_push_size _ rfl,rfl,_,rfl⟩⟩
theorem kaT(h:PA X es t):PE X (.List es pos) (tLst t):=by
 intro pins s σ H Q I hq
 refine wpAny_List_spliced (thn (h pos pins s σ H _ I hq) fun us s1 ⟨xs,H1,I1,r,z,q⟩=>⟨by rw[←r.length];exact z,?_⟩)
 have hf:H1 s1.heap.objs.size=none:=I1.hok.fresh (Nd _)
 refine⟨.ref s1.heap.objs.size,upd H1 s1.heap.objs.size (.lst xs),I1.laid (t':=s1.toks) (fun b u e=>Heap.get?_push_of_some _ e) (Nd _) ?_,rfl,q _ hf⟩
 exact⟨z,us,0,r,Heap.get?_push_size _ rfl⟩
end
noncomputable abbrev Sp:=List V→Hp→VK→XK→Prop
noncomputable abbrev CXT:=List Env→Hp→Shared→XK→Value→Shared→Prop
structure Env0 (P:Program) (w:World) (K:Nc) (mg:Str→Option Value) (base:Heap) (A:Around) (outer:List Env) (s:Shared) (H:Hp):Prop where
 frames:A.frames=some outer
 mod:Mod K mg base
 bs:∀b o,base.get? b=some o→s.heap.get? b=some o∧H b=none
 bsz:base.objs.size≤s.heap.objs.size
 funs:s.heap.FunFrames base outer
 frf:∀b∈frs outer,H b=none
 hok:HOk P w H s.heap
 bare:AllBare s.gens
noncomputable def CE(outer:List Env)(P:Program)(w:World)(H:Hp)(s:Shared)(Q:VK)(u:Value)(s':Shared):Prop:=
 ∃v H',s'.os=s.os∧AllBare s'.gens∧Un (frs outer) [] H H' s.heap s'.heap∧HOk P w H' s'.heap∧RelV v u∧Q v H'
noncomputable def CR(CX:CXT)(outer:List Env)(P:Program)(w:World)(H:Hp)(s:Shared)(Q:VK)(E:XK)(r:Result)(s':Shared):Prop:=
 match r with
 | .ok (.ret u)=>CE outer P w H s Q u s'
 | .ok _=>False
 | .error e=>CX outer H s E e s'
structure FnOk (P:Program) (w:World) (K:Nc) (mg:Str→Option Value) (base:Heap) (CX:CXT) (k:Nat) (f:Addr) (fd:FuncData) (ps:List Str) (sp:Sp):Prop where
 len:∀vs H Q E,sp vs H Q E→vs.length=ps.length
 run:∀(A:Around)(outer:List Env)(s:Shared)(H:Hp)(args:Args)(us:List Value)(vs:List V)(Q:VK)(E:XK),Room k A→Env0 P w K mg base A outer s H→BindsTo s fd args (ps.zip us)→Vals vs us→sp vs H Q E→
  codeAny (model P w) A (.call (.ref f) args) (CR CX outer P w H s Q E) s
theorem FnOk.mono{P:Program}{w:World}{K:Nc}{mg:Str→Option Value}{base:Heap}{CX:CXT}{j k:Nat}{f:Addr}{fd:FuncData}{ps:List Str}{sp:Sp}(F:FnOk P w K mg base CX j f fd ps sp)(h:j≤k):
  FnOk P w K mg base CX k f fd ps sp:=⟨F.len,fun A outer s H args us vs Q E hr=>F.run A outer s H args us vs Q E (hr.mono h)⟩
theorem FnOk.imp{P:Program}{w:World}{K:Nc}{mg:Str→Option Value}{base:Heap}{CX:CXT}{k:Nat}{f:Addr}{fd:FuncData}{ps:List Str}{sp sp':Sp}(F:FnOk P w K mg base CX k f fd ps sp)
  (h:∀vs H Q E,sp' vs H Q E→sp vs H Q E):FnOk P w K mg base CX k f fd ps sp':=
 ⟨fun vs H Q E q=>F.len vs H Q E (h _ _ _ _ q),fun A outer s H args us vs Q E hr he hb hv hs=>F.run A outer s H args us vs Q E hr he hb hv (h _ _ _ _ hs)⟩
theorem Env0.make{P:Program}{w:World}{K:Nc}{mg:Str→Option Value}{base:Heap}{A:Around}{outer:List Env}{s:Shared}{H:Hp}(e:Env0 P w K mg base A outer s H)(C:Addr)(us:List Value)(kw:List (Str×Value)):
  Env0 P w K mg base (A.under (.builtin "type.__call__" ⟨.ref C::us,kw⟩)) outer s H:=⟨by first|exact e.frames|(simpa[Around.under,Code.envs,Code.isFrame,pushEnvs] using e.frames),e.mod,e.bs,e.bsz,e.funs,e.frf,e.hok,e.bare⟩
theorem Env0.in1{P:Program}{w:World}{K:Nc}{mg:Str→Option Value}{base:Heap}{A:Around}{outer:List Env}{s:Shared}{H:Hp}(e:Env0 P w K mg base A outer s H):
  Env0 P w K mg base A.in1 outer s H:=⟨e.frames,e.mod,e.bs,e.bsz,e.funs,e.frf,e.hok,e.bare⟩
section
variable {X:Cx} {pins:List (Addr×Obj)} {σ:St} {H:Hp} {s s':Shared}
theorem Inv.env0(I:Inv X pins σ H s):Env0 X.prog X.w X.K X.mg X.base X.A X.stack s H:=
 ⟨I.ok.frames,I.ok.mod,I.bs,Nk I.ok.bsz I.sz,I.stack,I.stkFree,I.hok,I.bare⟩
theorem Inv.after{Q:VK}{u:Value}(I:Inv X pins σ H s)(h:CE X.stack X.prog X.w H s Q u s'):EP X pins σ Q u s':=by
 obtain⟨v,H',os,bare,un,hok,r,q⟩:=h
 obtain⟨hh,g,d,t,os'⟩:=s'
 obtain rfl:os'=s.os:=os
 exact⟨v,H',I.call (h':=hh) (g':=g) (d':=d) (t':=t) (ch:=[]) un hok bare (fun b z=>absurd z (by simp)),r,q⟩
end
noncomputable def tCall(sp:Sp)(dvs:List V)(E:XK)(t:TA):TE:=fun σ H Q=>t σ H fun vs H1=>sp (vs++dvs) H1 Q E
noncomputable def tMeth(C:Addr)(m:Str)(sp:Sp)(dvs:List V)(E:XK)(ta:TE)(t:TA):TE:=fun σ H Q=>ta σ H fun x H1=>∃a dx fs,x=.ref a∧H1 a=some (.ins C dx fs)∧fs.lookup m=none∧
 t σ H1 fun vs H2=>sp (x::(vs++dvs)) H2 Q E
noncomputable def tMake(C:Addr)(sp:Sp)(dvs:List V)(E:XK)(t:TA):TE:=fun σ H Q=>t σ H fun vs H1=>∀x dx,H1 x=none→H1 dx=none→dx≠x→
 sp (.ref x::(vs++dvs)) (upd (upd H1 dx (.own x)) x (.ins C dx [])) (fun v H2=>v=.non∧Q (.ref x) H2) E
noncomputable def Binds(K:Nc)(fd:FuncData)(ps:List Str)(ds:List Value):Prop:=
 ∀(s:Shared)(us:List Value),K.In s.heap→(us++ds).length=ps.length→BindsTo s fd ⟨us,[]⟩ (ps.zip (us++ds))
noncomputable def Binds.all{K:Nc}{fd:FuncData}{ps:List Str}(h:∀us:List Value,us.length=ps.length→bindArgs fd ⟨us,[]⟩=pure (ps.zip us)):Binds K fd ps []:=fun s us _ hl=>by
 rw[Mv] at hl⊢
 exact .of_eq (h us hl)
noncomputable def kdE(CX:CXT)(X:Cx)(E:XK):Prop:=∀(pins:List (Addr×Obj))(σ:St)(H:Hp)(s:Shared)(e:Value)(s':Shared),Inv X pins σ H s→CX X.stack H s E e s'→X.xe e s'
section
variable {X:Cx} {CX:CXT} {k:Nat} {f C:Addr} {fd:FuncData} {ps:List Str} {sp:Sp} {dvs:List V} {ds:List Value} {E:XK} {x m:Str} {p pos apos:Pos} {e o:Expr} {es:List Expr} {ta:TE} {t:TA}
theorem kid{pins:List (Addr×Obj)}{σ:St}{H:Hp}{s:Shared}{Q:VK}{us:List Value}{vs:List V}(F:FnOk X.prog X.w X.K X.mg X.base CX k f fd ps sp)(hr:Room k X.A)(hb:Binds X.K fd ps ds)(hd:Vals dvs ds)(hx:kdE CX X E)
  (I:Inv X pins σ H s) (r:Vals vs us) (h:sp (vs++dvs) H Q E):wpAny (model X.prog X.w) X.A (call (.ref f) us) (EP X pins σ Q) X.xe s:=by
 have r2:Vals (vs++dvs) (us++ds):=r.append hd
 have hl:(us++ds).length=ps.length:=by rw[←r2.length];exact F.len _ _ _ _ h
 refine wpAny_call (codeAny_mono (F.run X.A X.stack s H ⟨us,[]⟩ (us++ds) (vs++dvs) Q E hr I.env0 (hb s us I.kIn hl) r2 h) fun r s' hq=>?_)
 cases r with
 |error e=>exact hx pins σ H s e s' I hq
 |ok fl=>
  cases fl with
  |ret u=>exact I.after hq
  |next=>exact False.elim hq
  |brk=>exact False.elim hq
  |cont=>exact False.elim hq
theorem kjT(F:FnOk X.prog X.w X.K X.mg X.base CX k f fd ps sp)(hr:Room k X.A)(hg:Gl X x)(hm:X.mg x=some (.ref f))(hk:Nz X.K (.ref f)=true)(hb:Binds X.K fd ps ds)(hd:Vals dvs ds)(hx:kdE CX X E)
  (ha:PA X (e::es) t) (hdb:(x==("__debug__" :Str))=false:=by decide) (he:starEach (e::es) X.env=(false,eval e X.env)::starEach es X.env:=by rfl) (hpl:(backTo pos (starEach es X.env)).any (·.1)=false:=by rfl):
  PE X (.Call (.Name x p) (e::es) [] pos) (tCall sp dvs E t):=by
 intro pins s σ H Q I h
 refine wpAny_Call_Name_kw (kf7 I hg hm ?_ hdb)
 refine Et (h₀:=X.base) I.ok.mod.kin hk (thn (ha pos pins s σ H _ I h) fun us s1 ⟨vs,H1,I1,r,q⟩=>⟨I1.kIn,?_⟩) he hpl
 exact kid F hr hb hd hx I1 r q
theorem kdO{pl:Sem Bool}(he:PE X o ta)(c:Cls X.K C)(hm:Meth X.K C m f)(F:FnOk X.prog X.w X.K X.mg X.base CX k f fd ps sp)(hr:Room k X.A)(hb:Binds X.K fd ps ds)(hd:Vals dvs ds)(hx:kdE CX X E)(ha:PA X (e::es) t)
  (hst:starEach (e::es) X.env=(false,eval e X.env)::starEach es X.env:=by rfl) (hpl:(backTo pos (starEach es X.env)).any (·.1)=false:=by rfl)
  (ht:eval (.Call (.Attribute o m apos) (e::es) [] pos) X.env=(do
   let ov ←eval o X.env
   standAt apos.atName
   let(f,first) ←holding [ov] (getMethod ov m pl)
   callWith pos f first (backTo pos (starEach (e::es) X.env)) (backToKw pos (keywordEach [] X.env))):=by rfl):
  PE X (.Call (.Attribute o m apos) (e::es) [] pos) (tMeth C m sp dvs E ta t):=by
 intro pins s σ H Q I h
 refine E2 (pl:=pl) (thn (he pins s σ H _ I h) fun u s1 zz=>?_) ht
 obtain⟨x,H1,I1,rx,a,dx,fs,ex,ea,l,q⟩:=zz
 subst ex
 obtain rfl:u=Value.ref a:=rx
 refine kfB I1 ea c hm l ?_
 refine Et (first:=[.ref a]) (h₀:=X.base) I.ok.mod.kin hm.kp (thn (ha pos pins s1 σ H1 _ I1 q) fun us s2 ⟨vs,H2,I2,r,q2⟩=>⟨I2.kIn,?_⟩) hst hpl
 exact kid (us:=.ref a::us) (vs:=.ref a::vs) F hr hb hd hx I2 (.cons rfl r) q2
theorem ken{pl:Sem Bool}(he:PE X o ta)(c:Cls X.K C)(hm:Meth X.K C m f)(F:FnOk X.prog X.w X.K X.mg X.base CX k f fd ps sp)(hr:Room k X.A)(hb:Binds X.K fd ps ds)(hd:Vals dvs ds)(hx:kdE CX X E)
  (ht:eval (.Call (.Attribute o m apos) [] [] pos) X.env=(do
   let ov ←eval o X.env
   standAt apos.atName
   let(f,first) ←holding [ov] (getMethod ov m pl)
   callWith pos f first (backTo pos (starEach [] X.env)) (backToKw pos (keywordEach [] X.env))):=by rfl):
  PE X (.Call (.Attribute o m apos) [] [] pos) (tMeth C m sp dvs E ta tNil):=by
 intro pins s σ H Q I h
 refine E2 (pl:=pl) (thn (he pins s σ H _ I h) fun u s1 zz=>?_) ht
 obtain⟨x,H1,I1,rx,a,dx,fs,ex,ea,l,q⟩:=zz
 subst ex
 obtain rfl:u=Value.ref a:=rx
 refine kfB I1 ea c hm l ?_
 exact Dw (first:=[.ref a]) I1.kIn hm.kp (kid (us:=[.ref a]) (vs:=[.ref a]) F hr hb hd hx I1 (.cons rfl .nil) q)
structure Mk (K:Nc) (C f:Addr):Prop where
 makes:N4 K C=true
 init:Ng K (.ref C) "__init__"=some (some (.ref f))
 fn:N9 K (.ref f)=true
 kp:Nz K (.ref C)=true
theorem kic{pins:List (Addr×Obj)}{σ:St}{H:Hp}{s:Shared}{Q:VK}{us:List Value}{vs:List V}(M:Mk X.K C f)(F:FnOk X.prog X.w X.K X.mg X.base CX k f fd ps sp)(hr:Room (k+1) X.A)(hb:Binds X.K fd ps ds)(hd:Vals dvs ds)
  (hx:kdE CX X E) (I:Inv X pins σ H s) (r:Vals vs us)
  (h:∀x dx,H x=none→H dx=none→dx≠x→sp (.ref x::(vs++dvs)) (upd (upd H dx (.own x)) x (.ins C dx [])) (fun v H2=>v=.non∧Q (.ref x) H2) E):
  wpAny (model X.prog X.w) X.A (call (.ref C) us) (EP X pins σ Q) X.xe s:=by
 have hq:=h (s.heap.objs.size+1) s.heap.objs.size (I.hok.fresh (MK _)) (I.hok.fresh (Nd _)) (NL (EZ _))
 have I2:=Inv.made (C:=C) I
 have r2:Vals (V.ref (s.heap.objs.size+1)::(vs++dvs)) (Value.ref (s.heap.objs.size+1)::(us++ds)):=.cons rfl (r.append hd)
 have hl:(Value.ref (s.heap.objs.size+1)::us++ds).length=ps.length:=by
  have e:=r2.length
  rw[F.len _ _ _ _ hq] at e
  exact e.symm
 refine wpAny_call (kkY (f:=f) I.kIn M.makes M.init (beq_iff_eq.mp M.fn) (codeAny_mono (F.run _ X.stack _ _ ⟨Value.ref (s.heap.objs.size+1)::us,[]⟩ (Value.ref (s.heap.objs.size+1)::(us++ds)) _ _ E (hr.make C us [])
  (I2.env0.make C us []) (hb _ (Value.ref (s.heap.objs.size+1)::us) I2.kIn hl) r2 hq) fun r s' hq'=>?_))
 cases r with
 |error e=>exact hx pins σ _ _ e s' I2 hq'
 | ok fl=>
  cases fl with
  |ret u=>
   obtain⟨v,H',I3,rv,ev,q3⟩:=I2.after hq'
   subst ev
   exact⟨rv,⟨V.ref (s.heap.objs.size+1),H',I3,rfl,q3⟩⟩
  |next=>exact False.elim hq'
  |brk=>exact False.elim hq'
  |cont=>exact False.elim hq'
theorem kbc(M:Mk X.K C f)(F:FnOk X.prog X.w X.K X.mg X.base CX k f fd ps sp)(hr:Room (k+1) X.A)(hg:Gl X x)(hm:X.mg x=some (.ref C))(hb:Binds X.K fd ps ds)(hd:Vals dvs ds)(hx:kdE CX X E)
  (ha:PA X (e::es) t) (hdb:(x==("__debug__" :Str))=false:=by decide) (he:starEach (e::es) X.env=(false,eval e X.env)::starEach es X.env:=by rfl) (hpl:(backTo pos (starEach es X.env)).any (·.1)=false:=by rfl):
  PE X (.Call (.Name x p) (e::es) [] pos) (tMake C sp dvs E t):=by
 intro pins s σ H Q I h
 refine wpAny_Call_Name_kw (kf7 I hg hm ?_ hdb)
 refine Et (h₀:=X.base) I.ok.mod.kin M.kp (thn (ha pos pins s σ H _ I h) fun us s1 ⟨vs,H1,I1,r,q⟩=>⟨I1.kIn,?_⟩) he hpl
 exact kic M F hr hb hd hx I1 r q
theorem kkO(M:Mk X.K C f)(F:FnOk X.prog X.w X.K X.mg X.base CX k f fd ps sp)(hr:Room (k+1) X.A)(hg:Gl X x)(hm:X.mg x=some (.ref C))(hb:Binds X.K fd ps ds)(hd:Vals dvs ds)(hx:kdE CX X E)
  (hdb:(x==("__debug__" :Str))=false:=by decide):PE X (.Call (.Name x p) [] [] pos) (tMake C sp dvs E tNil):=by
 intro pins s σ H Q I h
 refine wpAny_Call_Name_kw (kf7 I hg hm ?_ hdb)
 exact Dw I.kIn M.kp (kic (us:=[]) M F hr hb hd hx I .nil h)
end
section
variable {X:Cx} {CX:CXT} {k:Nat} {f C:Addr} {fd:FuncData} {ps ks:List Str} {sp:Sp} {E:XK} {x m:Str} {p pos apos kpos:Pos} {e o:Expr} {es:List Expr} {kws:List Keyword} {te ta:TE} {t tk:TA} {nm:Option Str}
variable {g:List Value→List Value→List Value} {gV:List V→List V→List V}
end
structure kat (N P:List Str) (sc:Scope):Prop where
 kind:sc.kind=.function
 co:sc.isCoroutine=false
 gen:sc.isGenerator=false
 nd:N.Nodup
 pre:N.take P.length=P
 par:∀x∈P,sc.names.lookup x=some .local∨sc.names.lookup x=some .cell
 nofree:∀y∈sc.names,y.2≠.free
theorem kg0{kindOf:Str→Option NameKind}{x:Str}:∀{binds:List (Str×Value)}{m:Str→Option Value},(∀v,(x,v)∉binds)→bindL kindOf binds m x=m x
 |[],_,_=>rfl
 | (n,v)::r,m,h=>by
  unfold bindL
  rw[kg0 fun w hw=>h w (NC _ hw)]
  split
  ·have:x≠n:=by rintro rfl;exact h v NJ
   simp[this]
  ·rfl
theorem kg2{kindOf:Str→Option NameKind}{x:Str}:∀{binds:List (Str×Value)}{m:Str→Option Value},(∀v,(x,v)∉binds)→bindC kindOf binds m x=m x
 |[],_,_=>rfl
 | (n,v)::r,m,h=>by
  unfold bindC
  rw[kg2 fun w hw=>h w (NC _ hw)]
  split
  ·rfl
  ·have:x≠n:=by rintro rfl;exact h v NJ
   simp[this]
theorem kg1{kindOf:Str→Option NameKind}{x:Str}{v:Value}:∀{P:List Str}{vs:List Value}{i:Nat}{m:Str→Option Value},P.Nodup→P[i]?=some x→vs[i]?=some v→kindOf x=some .local→
  bindL kindOf (P.zip vs) m x=some v
 |[],_,_,_,_,h,_,_=>by simp at h
 |_::_,[],_,_,_,_,h,_=>by simp at h
 |p::P,w::vs,0,m,nd,h1,h2,hk=>by
  simp at h1 h2;subst h1;subst h2
  show bindL kindOf ((p,w)::P.zip vs) m p=_
  unfold bindL
  rw[kg0 fun v hv=>(Mj.mp nd).1 (MD hv).1,if_pos hk]
  simp
 |p::P,w::vs,i+1,m,nd,h1,h2,hk=>by
  show bindL kindOf ((p,w)::P.zip vs) m x=_
  unfold bindL
  exact kg1 (i:=i) (Mj.mp nd).2 (by simpa using h1) (by simpa using h2) hk
theorem kg3{kindOf:Str→Option NameKind}{x:Str}{v:Value}:∀{P:List Str}{vs:List Value}{i:Nat}{m:Str→Option Value},P.Nodup→P[i]?=some x→vs[i]?=some v→kindOf x≠some .local→
  bindC kindOf (P.zip vs) m x=some v
 |[],_,_,_,_,h,_,_=>by simp at h
 |_::_,[],_,_,_,_,h,_=>by simp at h
 |p::P,w::vs,0,m,nd,h1,h2,hk=>by
  simp at h1 h2;subst h1;subst h2
  show bindC kindOf ((p,w)::P.zip vs) m p=_
  unfold bindC
  rw[kg2 fun v hv=>(Mj.mp nd).1 (MD hv).1,if_neg hk]
  simp
 |p::P,w::vs,i+1,m,nd,h1,h2,hk=>by
  show bindC kindOf ((p,w)::P.zip vs) m x=_
  unfold bindC
  exact kg3 (i:=i) (Mj.mp nd).2 (by simpa using h1) (by simpa using h2) hk
noncomputable def start(N:List Str)(vs:List V):St:=vs.map some++Nh (N.length-vs.length) none
noncomputable def cxOf(CX:CXT)(P:Program)(w:World)(K:Nc)(mg:Str→Option Value)(base:Heap)(N:List Str)(qual:Str)(scope:Scope)(f:Addr)(cd:Value)(A:Around)(outer:List Env)(s:Shared)(H:Hp)(E:XK):Cx where
 prog:=P
 w:=w
 K:=K
 mg:=mg
 base:=base
 A:=A.deeper (envOfC qual scope s.heap.objs.size f cd)
 N:=N
 s₀:=s
 H₀:=H
 env:=envOfC qual scope s.heap.objs.size f cd
 outer:=outer
 stack:=envOfC qual scope s.heap.objs.size f cd::outer
 ex:=[]
 calm:=true
 fn:=fun _=>true
 pn:=[]
 xe:=fun e s'=>wpAny (model P w) (A.deeper (envOfC qual scope s.heap.objs.size f cd)) (leaving (envOfC qual scope s.heap.objs.size f cd) e) (fun _ s''=>CX outer H s E e s'') (fun e' s''=>CX outer H s E e' s'') s'
noncomputable def kes{sc:Scope}{n:Nat}{x:Str}(h:sc.names.lookup x=some .cell):∃c,(cellsFrom n sc.names []).lookup x=some c:=by
 have q:=Dx sc.names n [] (.inl h)
 exact Option.isSome_iff_exists.mp q
theorem kkg{CX:CXT}{P:Program}{w:World}{K:Nc}{mg:Str→Option Value}{base:Heap}{N ps:List Str}{qual:Str}{scope:Scope}{f:Addr}{cd:Value}{A:Around}{outer:List Env}{s s1:Shared}{H:Hp}{E:XK}{us:List Value}{vs:List V}
  (S:kat N ps scope) (hd:A.handled=none) (e0:Env0 P w K mg base A outer s H) (hl:vs.length=ps.length) (r:Vals vs us)
  (x:InCallC s s.heap.objs.size (bindL (envOfC qual scope s.heap.objs.size f cd).kindOf (ps.zip us) fun _=>none) (cellsFrom (s.heap.objs.size+1) scope.names []) (bindC (envOfC qual scope s.heap.objs.size f cd).kindOf (ps.zip us) fun _=>none) s1):
  Inv (cxOf CX P w K mg base N qual scope f cd A outer s H E) [] (start N vs) H s1:=by
 have hpl:ps.length≤N.length:=by have:=congrArg MV S.pre;rw[Nv] at this;omega
 obtain⟨h1,tk,rfl,hk⟩:=x.done
 have noA:∀b:Addr,b∉(cxOf CX P w K mg base N qual scope f cd A outer s H E).ex:=fun b z=>absurd (show b∈([]:List Addr) from z) (by simp)
 refine⟨⟨e0.mod,S.kind,rfl,rfl,Nd _,fun y z c h1 h2=>?_,fun y hy=>?_,fun y c _ h=>?_,fun _=>hd,Around.frames_deeper e0.frames, .inr ⟨rfl,rfl⟩,fun b z=>absurd z (noA b),e0.bs,e0.bsz,fun b _ _=>noA b,fun b z=>absurd z (noA b),e0.funs,e0.frf⟩,
  rfl,e0.bare,Un.kept hk,⟨_,x.toInCall.ns,fun i y v h1 h2 h3=>?_⟩,fun y c h=>⟨_,x.cell y c h⟩,e0.hok.fresh (Nd _),fun y c h=>?_,fun p hp=>absurd (show p∈([]:List (Addr×Obj)) from hp) (by simp),e0.hok.kept hk,?_⟩
 ·exact name_of_addr x.apart (PySem.mem_of_lookup h1) (PySem.mem_of_lookup h2)
 ·have hy:scope.names.lookup y=some .cell∨scope.names.lookup y=some .free:=hy
  rcases hy with hy|hy
  ·exact kes hy
  ·exact absurd rfl (S.nofree _ (PySem.mem_of_lookup hy))
 ·exact Nq (x.above y c (PySem.mem_of_lookup h))
 ·have hi:i<vs.length:=by
   unfold start at h2
   by_cases hi:i<vs.length
   ·exact hi
   ·rw[MW (by simpa using hi)] at h2
    rw[E3] at h2
    split at h2 <;> cases h2
  have ha:vs[i]?=some v:=by
   unfold start at h2
   rw[M6 (by simpa using hi),Ni] at h2
   cases e:vs[i]? with
   |none=>rw[e] at h2;cases h2
   |some a=>rw[e] at h2;cases h2;rfl
  obtain⟨u,hu,rv⟩:=r.get ha
  have hp:ps[i]?=some y:=by
   rw[←S.pre,Dy (by omega)];exact h1
  have ndP:ps.Nodup:=by rw[←S.pre];exact S.nd.sublist (E4 _ _)
  refine⟨u,rv,?_⟩
  rcases S.par y (Nj hp) with k|k
  ·exact .inl ⟨k,kg1 ndP hp hu k⟩
  ·obtain⟨c,e⟩:=kes (n:=s.heap.objs.size+1) k
   refine .inr ⟨.inl k,c,e,?_⟩
   have q:=x.cell y c e
   rw[kg3 ndP hp hu (by show scope.names.lookup y≠_;rw[k];decide)] at q
   exact q
 ·exact e0.hok.fresh (Nq (x.above y c (PySem.mem_of_lookup h)))
 ·unfold start
  show _=N.length
  rw[Nr,Nb,Mf]
  omega
theorem fn_of{CX:CXT}{P:Program}{w:World}{K:Nc}{mg:Str→Option Value}{base:Heap}{k:Nat}{f:Addr}{name qual:Str}{params:Arguments}{body:List Stmt}{scope:Scope}{dV kV doc pm cdv ct oc:Value}{an od:Option Addr}
  {osl:Array (Option Value)} {N ps:List Str} {sp:Sp} (lk:K.lookup f=some ⟨oc,od, .func (Nx name qual params body scope dV kV doc pm an cdv ct),osl⟩) (hcd:NU K cdv qual=true) (S:kat N ps scope)
  (len:∀vs H Q E,sp vs H Q E→vs.length=ps.length)
  (hbody:∀(A:Around)(outer:List Env)(s:Shared)(H:Hp)(vs:List V)(Q:VK)(E:XK),Room k (A.deeper (envOfC qual scope s.heap.objs.size f cdv))→sp vs H Q E→
   ∃t,PSs (cxOf CX P w K mg base N qual scope f cdv A outer s H E) body t∧t {nx:=fun _ H'=>Q .non H',rt:=Q} (start N vs) H):
  FnOk P w K mg base CX (k+1) f (Nx name qual params body scope dV kV doc pm an cdv ct) ps sp:=by
 refine⟨len,fun A outer s H args us vs Q E hr e0 hb r hsp=>?_⟩
 have hl:=len _ _ _ _ hsp
 have KX:K.In s.heap:=e0.mod.kin.keeps fun b o e=>(e0.bs b o e).1
 have lim:s.heap.NoLimit:=e0.mod.nolimit.keeps fun b o e=>(e0.bs b o e).1
 have hkind:∀y∈ps.zip us,scope.names.lookup y.1=some .local∨(scope.names.lookup y.1=some .cell∧((cellsFrom (s.heap.objs.size+1) scope.names []).lookup y.1).isSome=true):=fun⟨n,v⟩ hy=>by
  rcases S.par n (MD hy).1 with q|q
  ·exact .inl q
  ·exact .inr ⟨q,Dx _ _ _ (.inl q)⟩
 refine codeAny_call_function hr.depth (KX _ _ lk) rfl S.co S.gen rfl (PySem.W.codeRec_of KX hcd) (hb _ _ _ _ ?_)
 refine wpAny_newFunctionEnv_cells S.kind hkind fun env he s1 x=>?_
 subst he
 refine⟨lim.keeps x.toInCall.keep,codeAny_func ?_⟩
 obtain⟨t,ht,hq⟩:=hbody A outer s H vs Q E (hr.deeper _) hsp
 have I:Inv (cxOf CX P w K mg base N qual scope f cdv A outer s H E) [] (start N vs) H s1:=kkg S hr.hd e0 hl r x
 refine wpAny_mono (ht [] s1 (start N vs) H _ I hq) (fun fl s' hs=>?_) fun e s' hs=>hs
 have fin:∀{σ':St}{H':Hp}{v:V}{u:Value},Inv (cxOf CX P w K mg base N qual scope f cdv A outer s H E) [] σ' H' s'→RelV v u→Q v H'→CE outer P w H s Q u s':=
  fun {σ' H' v u} J rv q=>⟨v,H',J.os,J.bare,J.base,J.hok,rv,q⟩
 cases fl with
 |ret u=>
  obtain⟨v,σ',H',J,rv,q⟩:=hs
  exact fin J rv q
 |next=>
  obtain⟨σ',H',J,q⟩:=hs
  exact fin (v:=V.non) (u:=Value.none) J rfl q
 |brk=>
  obtain⟨_,_,_,q⟩:=hs
  exact False.elim q
 |cont=>
  obtain⟨_,_,_,q⟩:=hs
  exact False.elim q
end L2
namespace L2
open PySem PySem.Spec PyProof.Rows
section
variable {X:Cx} {x:Str} {p pos:Pos} {e:Expr} {es:List Expr} {t:TA} {id T:String} {r:List V→Hp→VK→Prop}
noncomputable def tCB(r:List V→Hp→VK→Prop)(t:TA):TE:=fun σ H Q=>t σ H fun vs H1=>r vs H1 Q
theorem kan(hc:CallR X (.builtin id) r)(hg:Gl X x)(hm:X.mg x=none)(hv:bootBuiltins x=some (.builtin id))(ha:PA X (e::es) t)(hn:x≠"__name__":=by decide)(hdb:(x==("__debug__" :Str))=false:=by decide)
  (he:starEach (e::es) X.env=(false,eval e X.env)::starEach es X.env:=by rfl) (hpl:(backTo pos (starEach es X.env)).any (·.1)=false:=by rfl):PE X (.Call (.Name x p) (e::es) [] pos) (tCB r t):=by
 intro pins s σ H Q I h
 refine wpAny_Call_Name_kw (kcX I hg hm hv ?_ hn hdb)
 exact PyProof.Rows.callWith_builtin1 (thn (ha pos pins s σ H _ I h) fun us s1 ⟨vs,H1,I1,r1,q1⟩=>hc pins s1 σ H1 vs us Q I1 r1 q1) he hpl
theorem kaQ(hc:CallR X (.type T) r)(hg:Gl X x)(hm:X.mg x=none)(hv:bootBuiltins x=some (.type T))(ha:PA X (e::es) t)(hn:x≠"__name__":=by decide)(hdb:(x==("__debug__" :Str))=false:=by decide)
  (he:starEach (e::es) X.env=(false,eval e X.env)::starEach es X.env:=by rfl) (hpl:(backTo pos (starEach es X.env)).any (·.1)=false:=by rfl):PE X (.Call (.Name x p) (e::es) [] pos) (tCB r t):=by
 intro pins s σ H Q I h
 refine wpAny_Call_Name_kw (kcX I hg hm hv ?_ hn hdb)
 exact PyProof.Rows.callWith_type1 (thn (ha pos pins s σ H _ I h) fun us s1 ⟨vs,H1,I1,r1,q1⟩=>hc pins s1 σ H1 vs us Q I1 r1 q1) he hpl
end
end L2
namespace HT
open PySem PyProof.Rows
section
open PySem.SeqAt
open PySem.AutoSeq1 (wpAny_loadPart')
open PySem.MeetsSeq PySem.MeetsSeq2 PySem.MeetsSeq3
end
section
variable {prog:Program} {w:World} {A:Around} {E:Value→Shared→Prop} {s:Shared}
noncomputable def sIx(n d:Nat):Option Int→Nat
 |none=>d
 |some v=>if v<0 then(v+(n:Int)).toNat else min v.toNat n
theorem sIx_none(n d:Nat):sIx n d none=d:=rfl
theorem sIx_nat(n d k:Nat):sIx n d (some (k:Int))=min k n:=by
 show(if(k:Int)<0 then((k:Int)+(n:Int)).toNat else min (k:Int).toNat n)=min k n
 rw[if_neg (by omega),Int.toNat_natCast]
end
end HT
namespace L2
open PySem PySem.Spec PyProof.Rows
noncomputable abbrev TO:=St→Hp→(Option Int→Hp→Prop)→Prop
noncomputable def PO(X:Cx)(e:Option Expr)(t:TO):Prop:=
 ∀(pins:List (Addr×Obj))(s:Shared)(σ:St)(H:Hp)(Q:Option Int→Hp→Prop),Inv X pins σ H s→t σ H Q→
  wpAny (model X.prog X.w) X.A (evalPart e X.env) (fun u s'=>∃o H',Inv X pins σ H' s'∧IsPart u o∧Q o H') X.xe s
noncomputable def klW:TO:=fun _ H Q=>Q none H
noncomputable def tPart(t:TE):TO:=fun σ H Q=>t σ H fun x H1=>∃i,x=.int i∧Q (some i) H1
theorem intsAre_of{ns:List Int}:∀{us:List Value},Vals (ns.map V.int) us→IntsAre us ns:=by
 induction ns with
 |nil=>intro us r;rw[MX] at r;cases r;exact .nil
 | cons n ns ih=>
  intro us r
  rw[Nw] at r
  cases r with
  |cons r1 r2=>
   obtain⟨t,e⟩:=r1
   subst e
   exact .cons n t (ih r2)
section
variable {X:Cx} {e:Expr} {te:TE} {lo hi:Option Expr} {tl th:TO} {pos p2:Pos}
theorem kjQ:PO X none klW:=by
 intro pins s σ H Q I h
 rw[evalPart_none]
 exact wpAny_pure ⟨none,H,I, .none,h⟩
theorem kfZ(h:PE X e te):PO X (some e) (tPart te):=by
 intro pins s σ H Q I hw
 rw[evalPart_some]
 refine thn (h pins s σ H _ I hw) fun u s1 zz=>?_
 obtain⟨x,H1,I1,r1,q1⟩:=zz
 obtain⟨i,rfl,q⟩:=q1
 obtain⟨t,rfl⟩:=r1
 exact⟨some i,H1,I1, .int i t,q⟩
noncomputable def SlR(X:Cx)(r:V→Option Int→Option Int→Hp→VK→Prop):Prop:=
 ∀(pins:List (Addr×Obj))(s:Shared)(σ:St)(H:Hp)(x:V)(v vl vu:Value)(lo hi:Option Int)(sl:Addr)(Q:VK),Inv X pins σ H s→RelV x v→s.heap.IsSliceOf sl vl vu .none→IsPart vl lo→IsPart vu hi→r x lo hi H Q→
  ∃T id,typeLookup (.type T) "__getitem__"=pure (some (.builtin id))∧s.TypeIs v T∧wpAny (model X.prog X.w) X.A (getItem v (.ref sl)) (EP X pins σ Q) X.xe s
theorem SlR.or{r r':V→Option Int→Option Int→Hp→VK→Prop}(h:SlR X r)(h':SlR X r'):SlR X (fun x lo hi H Q=>r x lo hi H Q∨r' x lo hi H Q):=by
 intro pins s σ H x v vl vu lo hi sl Q I rx hs pl pu q
 rcases q with q|q
 ·exact h pins s σ H x v vl vu lo hi sl Q I rx hs pl pu q
 ·exact h' pins s σ H x v vl vu lo hi sl Q I rx hs pl pu q
noncomputable def tSl(r:V→Option Int→Option Int→Hp→VK→Prop)(te:TE)(tl th:TO):TE:=fun σ H Q=>te σ H fun x H1=>tl σ H1 fun l H2=>th σ H2 fun u H3=>r x l u H3 Q
theorem kf0{r:V→Option Int→Option Int→Hp→VK→Prop}(hr:SlR X r)(he:PE X e te)(hl:PO X lo tl)(hu:PO X hi th):PE X (.Subscript e (.Slice lo hi none p2) pos) (tSl r te tl th):=by
 intro pins s σ H Q I h
 refine Subscript_ (thn (he pins s σ H _ I h) fun v s1 zz=>?_)
 obtain⟨x,H1,I1,r1,q1⟩:=zz
 refine wpAny_Slice (thn (hl pins s1 σ H1 _ I1 q1) fun vl s2 ⟨l,H2,I2,pl,q2⟩=>thn (hu pins s2 σ H2 _ I2 q2) fun vu s3 zz=>?_)
 obtain⟨u,H3,I3,pu,q3⟩:=zz
 rw[evalPart_none]
 refine wpAny_pure ?_
 have I4:Inv X pins σ H3 {s3 with heap:=s3.heap.push {cls:=.type "slice",data:=.fields #[vl,vu, .none]}}:=I3.kept (t':=s3.toks) fun b ob q=>Heap.get?_push_of_some _ q
 obtain⟨T,id,hT,ht,hg⟩:=hr pins {s3 with heap:=s3.heap.push {cls:=.type "slice",data:=.fields #[vl,vu, .none]}} σ H3 x v vl vu l u s3.heap.objs.size Q I4 r1 (Heap.IsSliceOf.new ..) pl pu q3
 show wpAny (model X.prog X.w) X.A (subscriptTail e (.Slice lo hi none p2) v (.ref s3.heap.objs.size)) (EP X pins σ Q) X.xe {s3 with heap:=s3.heap.push {cls:=.type "slice",data:=.fields #[vl,vu, .none]}}
 exact tail_any (ops:=[.ref s3.heap.objs.size,v]) ht hT hg (by with_unfolding_all rfl)
noncomputable def cutV(xs:List V)(lo hi:Option Int):List V:=(xs.drop (HT.sIx xs.length 0 lo)).take (HT.sIx xs.length xs.length hi-HT.sIx xs.length 0 lo)
theorem khG(xs:List V)(lo hi:Option Int):(cutV xs lo hi).length≤xs.length:=by
 unfold cutV
 rw[Nv,Mw]
 omega
end
end L2
namespace L2
open PySem PySem.Spec PyProof.Rows
noncomputable def ixN(n:Nat)(i:Int):Option Nat:=if 0≤i then(if i<n then some i.toNat else none) else if -(n:Int)≤i then some (i+n).toNat else none
noncomputable def atI{α:Type}(xs:List α)(i:Int):Option α:=(ixN xs.length i).bind fun j=>xs[j]?
noncomputable def kke{n:Nat}{i:Int}{j:Nat}(h:ixN n i=some j):seqIndex? i n=some j∧j<n∧-(n:Int)≤i∧i<n:=by
 unfold ixN at h
 by_cases h0:0≤i
 ·rw[if_pos h0] at h
  by_cases h1:i<n
  ·rw[if_pos h1] at h
   have e:i.toNat=j:=Option.some.inj h
   exact⟨by rw[seqIndex_of h0 h1,e],by omega,by omega,h1⟩
  ·rw[if_neg h1] at h;cases h
 ·rw[if_neg h0] at h
  by_cases h1: -(n:Int)≤i
  ·rw[if_pos h1] at h
   have e:(i+n).toNat=j:=Option.some.inj h
   exact⟨by rw[seqIndex_neg (by omega) h1,e],by omega,h1,by omega⟩
  ·rw[if_neg h1] at h;cases h
theorem khJ{α:Type}{xs:List α}{i:Int}{v: α}(h:atI xs i=some v):∃j,seqIndex? i xs.length=some j∧xs[j]?=some v∧j<xs.length∧-(xs.length:Int)≤i∧i<xs.length:=by
 unfold atI at h
 cases e:ixN xs.length i with
 |none=>rw[e] at h;cases h
 |some j=>
  rw[e] at h
  obtain⟨h1,h2,h3,h4⟩:=kke e
  exact⟨j,h1,h,h2,h3,h4⟩
noncomputable def kaA{α:Type}{xs:List α}{j:Nat}{v: α}(h:xs[j]?=some v):atI xs (j:Int)=some v:=by
 have hj:j<xs.length:=(Nu.mp h).1
 have e:ixN xs.length (j:Int)=some j:=by
  unfold ixN
  rw[if_pos (by omega),if_pos (by omega)];simp
 unfold atI;rw[e];exact h
noncomputable def kmx(b:Expr):Prop:=∀o i,subscripted b false o i=operate [o,i] (getItem o i)
noncomputable def IxR(X:Cx)(r:R2):Prop:=
 ∀(value slice:Expr)(pins:List (Addr×Obj))(s:Shared)(σ:St)(H:Hp)(x y:V)(v u:Value)(Q:VK),Inv X pins σ H s→RelV x v→RelV y u→r x y H Q→
  subscripted slice false v u=operate [v,u] (getItem v u)→wpAny (model X.prog X.w) X.A (subscriptTail value slice v u) (EP X pins σ Q) X.xe s
noncomputable def MtR(X:Cx)(id:String)(r:V→List V→Hp→VK→Prop):Prop:=
 ∀(pins:List (Addr×Obj))(s:Shared)(σ:St)(H:Hp)(x:V)(xs:List V)(v:Value)(us:List Value)(Q:VK),Inv X pins σ H s→RelV x v→Vals xs us→r x xs H Q→
  wpAny (model X.prog X.w) X.A (call (.builtin id) (v::us)) (EP X pins σ Q) X.xe s
section
variable {X:Cx} {a b:Expr} {ta tb:TE} {pos:Pos}
theorem IxR.or{r r':R2}(h:IxR X r)(h':IxR X r'):IxR X (fun x y H Q=>r x y H Q∨r' x y H Q):=by
 intro value slice pins s σ H x y v u Q I rx ry q hs
 rcases q with q|q
 ·exact h value slice pins s σ H x y v u Q I rx ry q hs
 ·exact h' value slice pins s σ H x y v u Q I rx ry q hs
theorem MtR.or{id:String}{r r':V→List V→Hp→VK→Prop}(h:MtR X id r)(h':MtR X id r'):MtR X id (fun x xs H Q=>r x xs H Q∨r' x xs H Q):=by
 intro pins s σ H x xs v us Q I rx rs q
 rcases q with q|q
 ·exact h pins s σ H x xs v us Q I rx rs q
 ·exact h' pins s σ H x xs v us Q I rx rs q
theorem pe_ix{r:R2}(hr:IxR X r)(ha:PE X a ta)(hb:PE X b tb)(hs:kmx b):PE X (.Subscript a b pos) (tOp r ta tb):=by
 intro pins s σ H Q I h
 exact Subscript_ (binT ha hb I h fun v u s2 x y H2 I2 rx ry q=>hr a b pins s2 σ H2 x y v u Q I2 rx ry q (hs _ _))
noncomputable def rIxL(K:Nc):R2:=fun x y H Q=>∃p xs i v,x=.ref p∧y=.int i∧SqL K H p xs∧atI xs i=some v∧Q v H
noncomputable def rIxT(K:Nc):R2:=fun x y H Q=>∃p xs i v,x=.ref p∧y=.int i∧SqT K H p xs∧atI xs i=some v∧Q v H
theorem kaw:IxR X (rIxL X.K):=by
 intro value slice pins s σ H x y v u Q I rx ry h hs
 obtain⟨p,xs,i,z,rfl,rfl,hq,he,q⟩:=h
 cases rx
 obtain⟨t,rfl⟩:=ry
 obtain⟨its,r,pl,hz⟩:=I.list hq
 obtain⟨j,h1,h2,h3,h4,h5⟩:=khJ he
 obtain⟨w,ew,rw'⟩:=r.get h2
 have hl:=r.length
 have hn:=kgP
 have fin:EP X pins σ Q w s:=⟨z,H,I,rw',q⟩
 by_cases h0:0≤i
 ·have hj:i.toNat=j:=by
   rw[seqIndex_of h0 h5] at h1
   exact Option.some.inj h1
  exact item_listR pl.isList h0 (by omega) (by rw[hj];simpa using ew) fin hs
 ·have hj:(i+(its.toArray.size:Int)).toNat=j:=by
   rw[seqIndex_neg (by omega) h4] at h1
   rw[NG,←hl]
   exact Option.some.inj h1
  exact subscriptTail_builtinR (x:=w) pl.isList.typeIs slot_list_getitem.lookup
   (wpAny_getItem_list_neg (Q:=fun r s'=>r=w∧EP X pins σ Q r s') pl.isList (by omega) (by rw[NG] <;> omega) (by omega) (by rw[hj];simpa using ew) ⟨rfl,fin⟩) hs
theorem kcz:IxR X (rIxT X.K):=by
 intro value slice pins s σ H x y v u Q I rx ry h hs
 obtain⟨p,xs,i,z,rfl,rfl,hq,he,q⟩:=h
 cases rx
 obtain⟨t,rfl⟩:=ry
 obtain⟨its,r,pl,hz⟩:=I.tuple hq
 obtain⟨j,h1,h2,h3,h4,h5⟩:=khJ he
 obtain⟨w,ew,rw'⟩:=r.get h2
 have hl:=r.length
 have hn:=kgP
 have fin:EP X pins σ Q w s:=⟨z,H,I,rw',q⟩
 exact subscriptTail_builtinR (x:=w) pl.typeIs slot_tuple_getitem.lookup
  (getItem_tuple (j:=j) (Q:=fun r s'=>r=w∧EP X pins σ Q r s') pl (by omega) (by omega) (by rw[NG,←hl];exact h1) (by simpa using ew) ⟨rfl,fin⟩) hs
theorem ki2(its:List Value)(n j:Nat)(u:Value):Obj.mapSeq (·.setIfInBounds j u) {cls:=.type "list",data:=.seq its.toArray n}= {cls:=.type "list",data:=.seq (its.set j u).toArray n}:=by
 simp[Obj.mapSeq]
theorem Inv.lst{pins:List (Addr×Obj)}{σ:St}{H:Hp}{s:Shared}{p:Addr}{xs:List V}(I:Inv X pins σ H s)(h:H p=some (.lst xs)):
  ∃(its:List Value)(n:Nat),Vals xs its∧s.heap.get? p=some {cls:=.type "list",data:=.seq its.toArray n}∧xs.length≤sizeLine:=by
 obtain⟨z,its,n,r,e⟩:=I.hok p _ h
 exact⟨its,n,r,e,z⟩
theorem Inv.lstUpd{pins:List (Addr×Obj)}{σ:St}{H:Hp}{s:Shared}{p:Addr}{xs ys:List V}{its its':List Value}{n n':Nat}{f:Obj→Obj}(I:Inv X pins σ H s)(h:H p=some (.lst xs))
  (ho:s.heap.get? p=some {cls:=.type "list",data:=.seq its.toArray n}) (hf:f {cls:=.type "list",data:=.seq its.toArray n}= {cls:=.type "list",data:=.seq its'.toArray n'}) (r:Vals ys its') (hz:ys.length≤sizeLine) (t:Nat):
  Inv X pins σ (upd H p (.lst ys)) {s with heap:=s.heap.update p f,toks:=t}:=by
 have e:(s.heap.update p f).get? p=some {cls:=.type "list",data:=.seq its'.toArray n'}:=by
  rw[Heap.get?_update_self f ho (by rw[hf] <;> rfl),hf]
 refine I.write (x:=p) (e:=p) (by rw[h];trivial) (.inl rfl) (fun b u hb q=>(Heap.get?_update_other _ _ (Ne.symm hb)).trans q) ⟨_,e⟩ ?_
 exact⟨hz,its',n',r,e⟩
noncomputable def rSetL:V→V→V→Hp→(Hp→Prop)→Prop:=fun o i v H Q=>∃p xs k j,o=.ref p∧i=.int k∧H p=some (.lst xs)∧ixN xs.length k=some j∧Q (upd H p (.lst (xs.set j v)))
theorem set_list:PSet X rSetL:=by
 intro pins s σ H o i v ov iv u Q I ro ri rv h
 obtain⟨p,xs,k,j,rfl,rfl,hp,hj,q⟩:=h
 cases ro
 obtain⟨t,rfl⟩:=ri
 obtain⟨its,n,r,ho,hz⟩:=I.lst hp
 obtain⟨h1,h2,h3,h4⟩:=kke hj
 have hl:=r.length
 have hn:=kgP
 have I':Inv X pins σ (upd H p (.lst (xs.set j v))) {s with heap:=s.heap.update p (Obj.mapSeq (·.setIfInBounds j u))}:=
  I.lstUpd hp ho (ki2 its n j u) (r.set rv j) (by rw[ME];exact hz) s.toks
 by_cases h0:0≤k
 ·have hk:k.toNat=j:=by
   rw[seqIndex_of h0 h4] at h1
   exact Option.some.inj h1
  exact PySem.W.ki_setAt ho h0 (by omega) (by rw[NG,←hl];exact h4) (by rw[hk];exact⟨_,I',q⟩)
 ·have hk:(k+(its.toArray.size:Int)).toNat=j:=by
   rw[seqIndex_neg (by omega) h3] at h1
   rw[NG,←hl]
   exact Option.some.inj h1
  exact PySem.W.ki_setBack ho (by omega) (by rw[NG,←hl];exact h3) (by omega) (by rw[hk];exact⟨_,I',q⟩)
theorem kgs(lo hi:Option Int)(n:Nat):(sliceBounds lo hi none n).1=((HT.sIx n 0 lo:Nat):Int)∧(sliceBounds lo hi none n).2.1=((HT.sIx n n hi:Nat):Int)∧(sliceBounds lo hi none n).2.2=1:=by
 refine⟨?_,?_,rfl⟩
 ·cases lo with
  |none=>simp[sliceBounds,HT.sIx]
  |some i=>
   simp only[sliceBounds,HT.sIx,E5,show(1:Int) > 0 by decide,if_true]
   by_cases h:i<0
   ·simp only[h,if_true] <;> omega
   ·simp only[h,if_false] <;> omega
 ·cases hi with
  |none=>simp[sliceBounds,HT.sIx]
  |some i=>
   simp only[sliceBounds,HT.sIx,E5,show(1:Int) > 0 by decide,if_true]
   by_cases h:i<0
   ·simp only[h,if_true] <;> omega
   ·simp only[h,if_false] <;> omega
theorem kfO(its:List Value)(lo hi:Option Int):slicePick its.toArray lo hi none=((its.drop (HT.sIx its.length 0 lo)).take (HT.sIx its.length its.length hi-HT.sIx its.length 0 lo)).toArray:=by
 obtain⟨h1,h2,h3⟩:=kgs lo hi its.toArray.size
 unfold slicePick
 rw[h1,h2,h3]
 simp only[sliceRange_one,pick_run,NG] <;> rfl
noncomputable def rSlL(K:Nc):V→Option Int→Option Int→Hp→VK→Prop:=fun x lo hi H Q=>∃a xs,x=.ref a∧SqL K H a xs∧∀p,H p=none→Q (.ref p) (upd H p (.lst (cutV xs lo hi)))
theorem khj:SlR X (rSlL X.K):=by
 intro pins s σ H x v vl vu lo hi sl Q I rx hs pl pu h
 obtain⟨a,xs,rfl,hx,q⟩:=h
 cases rx
 obtain⟨its,r,ht,hz⟩:=I.list hx
 have hlen:=r.length
 refine⟨"list",_,slot_list_getitem.lookup,ht.isList.typeIs,?_⟩
 refine wpAny_getItem_list_slice ht.isList hs pl pu .none (by simp) ?_ (by rw[NG] <;> omega)
 rw[kfO,←hlen]
 refine⟨.ref s.heap.objs.size,_,I.laid (t':=s.toks) (o:=.lst (cutV xs lo hi)) (fun b ob q=>Heap.get?_push_of_some _ q) (Nd _) ?_,rfl,q _ (I.hok.fresh (Nd _))⟩
 exact⟨Nk (khG xs lo hi) hz,_,0,(r.drop (HT.sIx xs.length 0 lo)).take (HT.sIx xs.length xs.length hi-HT.sIx xs.length 0 lo),Heap.get?_push_size _ rfl⟩
noncomputable def flatV:V→Bool
 | .non=>true
 | .bl _=>true
 | .int _=>true
 | .str _=>true
 |_=>false
noncomputable def eqV:V→V→Bool
 | .non, .non=>true
 | .bl a, .bl b=>a==b
 | .bl a, .int b=>(if a then 1 else 0)==b
 | .int a, .bl b=>a==(if b then 1 else 0)
 | .int a, .int b=>a==b
 | .str a, .str b=>a==b
 |_,_=>false
theorem klM{A:Around}{s:Shared}{y x:V}{u v:Value}(ry:RelV y u)(rx:RelV x v)(fy:flatV y=true)(fx:flatV x=true):SeqAt.EqAt A s u v (eqV y x):=by
 cases y with
 |non=>
  cases ry
  cases x with
  |non=>cases rx;exact SeqAt.EqAt.same _
  |bl b=>cases rx;exact SeqAt.EqAt.none_bool b
  |int b=>obtain⟨t,rfl⟩:=rx;exact SeqAt.EqAt.none_int b t
  |str b=>obtain⟨t,rfl⟩:=rx;exact SeqAt.EqAt.none_str b t
  |_=>exact absurd (show false=true from fx) Np
 |bl a=>
  cases ry
  cases x with
  |non=>cases rx;exact SeqAt.EqAt.bool_none a
  |bl b=>cases rx;exact SeqAt.EqAt.bool_bool a b
  |int b=>obtain⟨t,rfl⟩:=rx;exact SeqAt.EqAt.bool_int a b t
  |str b=>obtain⟨t,rfl⟩:=rx;exact SeqAt.EqAt.bool_str a b t
  |_=>exact absurd (show false=true from fx) Np
 |int a=>
  obtain⟨t',rfl⟩:=ry
  cases x with
  |non=>cases rx;exact SeqAt.EqAt.int_none a t'
  |bl b=>cases rx;exact SeqAt.EqAt.int_bool a t' b
  |int b=>obtain⟨t,rfl⟩:=rx;exact SeqAt.EqAt.int_int a t' b t
  |str b=>obtain⟨t,rfl⟩:=rx;exact SeqAt.EqAt.int_str a t' b t
  |_=>exact absurd (show false=true from fx) Np
 |str a=>
  obtain⟨t',rfl⟩:=ry
  cases x with
  |non=>cases rx;exact SeqAt.EqAt.str_none a t'
  |bl b=>cases rx;exact SeqAt.EqAt.str_bool a t' b
  |int b=>obtain⟨t,rfl⟩:=rx;exact SeqAt.EqAt.str_int a t' b t
  |str b=>obtain⟨t,rfl⟩:=rx;exact SeqAt.EqAt.str_str a t' b t
  |_=>exact absurd (show false=true from fx) Np
 |_=>exact absurd (show false=true from fy) Np
noncomputable def eqU(x:V)(u:Value):Bool:=match u with
 | .none=>eqV .non x
 | .bool b=>eqV (.bl b) x
 | .int i _=>eqV (.int i) x
 | .str z _=>eqV (.str z) x
 |_=>false
theorem klL{x y:V}{u:Value}(r:RelV y u)(f:flatV y=true):eqU x u=eqV y x:=by
 cases y with
 |non=>cases r;rfl
 |bl b=>cases r;rfl
 |int i=>obtain⟨t,rfl⟩:=r;rfl
 |str z=>obtain⟨t,rfl⟩:=r;rfl
 |_=>exact absurd (show false=true from f) Np
theorem kfc{x:V}:∀{xs:List V}{us:List Value},Vals xs us→xs.all flatV=true→us.any (eqU x)=xs.any fun y=>eqV y x
 |_,_, .nil,_=>rfl
 |y::xs,u::us, .cons r t,f=>by
  rw[Eu,MY] at f
  rw[ML,ML,klL r f.1,kfc t f.2]
theorem kdz{A:Around}{s:Shared}{x:V}{v:Value}(rx:RelV x v)(fx:flatV x=true):∀{xs:List V}{us:List Value},Vals xs us→xs.all flatV=true→∀u∈us,SeqAt.EqAt A s u v (eqU x u)
 |_,_, .nil,_=>fun u hu=>by cases hu
 |y::xs,u::us, .cons r t,f=>fun u' hu=>by
  rw[Eu,MY] at f
  rcases NF.mp hu with rfl|hu
  ·rw[klL r f.1];exact klM r rx f.1 fx
  ·exact kdz rx fx t f.2 u' hu
noncomputable def inV(x:V)(xs:List V):Bool:=xs.any fun y=>eqV y x
noncomputable def rIn(K:Nc)(neg:Bool):R2:=fun x y H Q=>∃p xs,y=.ref p∧(SqL K H p xs∨SqT K H p xs)∧flatV x=true∧xs.all flatV=true∧Q (.bl (if neg then !inV x xs else inV x xs)) H
theorem kcU:OpR X (compareOp .In) (rIn X.K false):=by
 intro pins s σ H x y v u Q I rx ry h
 obtain⟨p,xs,rfl,hq,fx,fs,q⟩:=h
 cases ry
 rcases hq with hq|hq
 ·obtain⟨its,r,pl,hz⟩:=I.list hq
  refine SeqAt.in_listAt (eqU x) pl.isList (fun w hw=>kdz rx fx r fs w (by simpa using hw)) ⟨.bl _,H,I,rfl,?_⟩
  rw[show its.toArray.any (eqU x)=its.any (eqU x) by simp,kfc r fs]
  exact q
 ·obtain⟨its,r,pl,hz⟩:=I.tuple hq
  refine SeqAt.in_tupleAt (eqU x) pl (fun w hw=>kdz rx fx r fs w (by simpa using hw)) ⟨.bl _,H,I,rfl,?_⟩
  rw[show its.toArray.any (eqU x)=its.any (eqU x) by simp,kfc r fs]
  exact q
theorem kgB:OpR X (compareOp .NotIn) (rIn X.K true):=by
 intro pins s σ H x y v u Q I rx ry h
 obtain⟨p,xs,rfl,hq,fx,fs,q⟩:=h
 cases ry
 rcases hq with hq|hq
 ·obtain⟨its,r,pl,hz⟩:=I.list hq
  refine SeqAt.notIn_listAt (eqU x) pl.isList (fun w hw=>kdz rx fx r fs w (by simpa using hw)) ⟨.bl _,H,I,rfl,?_⟩
  rw[show its.toArray.any (eqU x)=its.any (eqU x) by simp,kfc r fs]
  exact q
 ·obtain⟨its,r,pl,hz⟩:=I.tuple hq
  refine SeqAt.notIn_tupleAt (eqU x) pl (fun w hw=>kdz rx fx r fs w (by simpa using hw)) ⟨.bl _,H,I,rfl,?_⟩
  rw[show its.toArray.any (eqU x)=its.any (eqU x) by simp,kfc r fs]
  exact q
theorem kao:CallR X (.builtin "len") (fun xs H Q=>∃p ys,xs=[.ref p]∧(SqL X.K H p ys∨SqT X.K H p ys)∧Q (.int ys.length) H):=by
 intro pins s σ H xs us Q I r h
 obtain⟨p,ys,rfl,hq,q⟩:=h
 obtain⟨u,rfl,rx⟩:=vals1 r
 cases rx
 have hn:=kgP
 rcases hq with hq|hq
 ·obtain⟨its,r',pl,hz⟩:=I.list hq
  have hlen:=r'.length
  exact Calls.call_len_list pl.isList (by simp only[NG] <;> omega) ⟨.int ys.length,H,I.tok _,⟨s.toks+1,by rw[NG,hlen]⟩,q⟩
 ·obtain⟨its,r',pl,hz⟩:=I.tuple hq
  have hlen:=r'.length
  exact len_tuple pl (by simp only[NG] <;> omega) ⟨.int ys.length,H,I.tok _,⟨s.toks+1,by rw[NG,hlen]⟩,q⟩
theorem CallR.or{f:Value}{r r':List V→Hp→VK→Prop}(h:CallR X f r)(h':CallR X f r'):CallR X f (fun xs H Q=>r xs H Q∨r' xs H Q):=by
 intro pins s σ H xs us Q I rs q
 rcases q with q|q
 ·exact h pins s σ H xs us Q I rs q
 ·exact h' pins s σ H xs us Q I rs q
theorem kaD:CallR X (.type "list") (fun xs H Q=>∃p ys,xs=[.ref p]∧(SqL X.K H p ys∨SqT X.K H p ys)∧∀l,H l=none→Q (.ref l) (upd H l (.lst ys))):=by
 intro pins s σ H xs us Q I r h
 obtain⟨p,ys,rfl,hq,q⟩:=h
 obtain⟨u,rfl,rx⟩:=vals1 r
 cases rx
 have fin:∀(its:List Value),Vals ys its→ys.length≤sizeLine→∀(h':Heap)(c':Nat),(∀b o',s.heap.get? b=some o'→h'.get? b=some o')→
   h'.get? s.heap.objs.size=some {cls:=.type "list",dict:=none,data:=.seq its.toArray c',slots:=#[]}→EP X pins σ Q (.ref s.heap.objs.size) {s with heap:=h'}:=fun its r' hz h' c' kp e=>
  ⟨.ref s.heap.objs.size,_,I.laid (t':=s.toks) kp (Nd _) (show ObjOk X.prog X.w _ h' _ (.lst ys) from⟨hz,its,c',r',e⟩),rfl,q _ (I.hok.fresh (Nd _))⟩
 rcases hq with hq|hq
 ·obtain⟨its,r',pl,hz⟩:=I.list hq
  have hlen:=r'.length
  obtain⟨o,ho,hc,n,hd⟩:=pl.isList
  exact call_list_seq p (.inl rfl) ho hc hd (fun h' c' kp e=>fin its r' hz h' c' kp e) (by simp only[NG] <;> omega)
 ·obtain⟨its,r',pl,hz⟩:=I.tuple hq
  have hlen:=r'.length
  obtain⟨o,ho,hc,n,hd⟩:=pl
  exact call_list_seq p (.inr rfl) ho hc hd (fun h' c' kp e=>fin its r' hz h' c' kp e) (by simp only[NG] <;> omega)
noncomputable def tyV(K:Nc)(T:String)(x:V)(H:Hp):Prop:=match x with
 | .str _=>T="str"
 | .int _=>T="int"
 | .ref p=>(T="list"∧∃xs,SqL K H p xs)∨(T="tuple"∧∃o,K.lookup p=some o∧o.cls=.type "tuple"∧o.dict=none)∨
   (T="dict"∧((∃kvs,H p=some (.dK kvs))∨∃kvs,H p=some (.dT kvs)))∨(T="set"∧∃S n,H p=some (.set S n))
 |_=>False
theorem kll{pins:List (Addr×Obj)}{σ:St}{H:Hp}{s:Shared}{T:String}{x:V}{v:Value}(I:Inv X pins σ H s)(r:RelV x v)(ty:tyV X.K T x H):
  s.TypeIs v T∧∀a,v=.ref a→∃ob,s.heap.get? a=some ob∧ob.dict=none:=by
 cases x with
 |str z=>
  obtain⟨t,rfl⟩:=r
  cases(show T="str" from ty)
  exact⟨typeIs_str s z t,fun _ e=>nomatch e⟩
 |int i=>
  obtain⟨t,rfl⟩:=r
  cases(show T="int" from ty)
  exact⟨typeIs_int s i t,fun _ e=>nomatch e⟩
 | ref p=>
  cases r
  rcases ty with⟨rfl,xs,hq⟩|⟨rfl,o,hk,hc,hd⟩|⟨rfl,hk⟩|⟨rfl,S,n,hk⟩
  ·obtain⟨its,_,pl,_⟩:=I.list hq
   refine⟨pl.isList.typeIs,fun a e=>?_⟩
   cases e
   obtain⟨o,n,e,c,hd,_⟩:=pl
   exact⟨o,e,hd⟩
  ·refine⟨⟨o,I.kIn p o hk,hc⟩,fun a e=>?_⟩
   cases e
   exact⟨o,I.kIn _ o hk,hd⟩
  ·have z:∃o,s.heap.get? p=some o∧o.ExactDict:=by
    rcases hk with⟨kvs,hk⟩|⟨kvs,hk⟩
    ·obtain⟨_,_,_,_,o,_,_,e,ex,_⟩:=I.hok p _ hk
     exact⟨o,e,ex⟩
    ·obtain⟨_,_,_,_,o,_,_,e,ex,_⟩:=I.hok p _ hk
     exact⟨o,e,ex⟩
   obtain⟨o,e,ex⟩:=z
   refine⟨⟨o,e,ex.1⟩,fun a e2=>?_⟩
   cases e2
   exact⟨o,e,ex.2.1⟩
  ·obtain⟨o,_,_,_,e,ex,_⟩:=I.hok p _ hk
   refine⟨⟨o,e,ex.1⟩,fun a e2=>?_⟩
   cases e2
   exact⟨o,e,ex.2.1⟩
 |_=>exact False.elim ty
noncomputable def tBM(K:Nc)(T:String)(r:V→List V→Hp→VK→Prop)(to:TE)(t:TA):TE:=fun σ H Q=>to σ H fun x H1=>tyV K T x H1∧t σ H1 fun xs H2=>r x xs H2 Q
variable {o e:Expr} {es:List Expr} {to:TE} {t:TA} {name:Str} {apos cpos:Pos} {T id:String} {r:V→List V→Hp→VK→Prop}
theorem pe_bm(pa:PlainAttrs T)(slot:Slot T name id)(hty:typeOf (.builtin id)=pure (.type "method_descriptor"))(hm:MtR X id r)(ho:PE X o to)(ha:PA X (e::es) t)
  (hbase:attributeBase o name X.env (eval o X.env)=eval o X.env:=by rfl)
  (hfew:((backTo cpos (starEach (e::es) X.env)).all (fun x=>!x.1)&&(backToKw cpos (keywordEach [] X.env)).all (fun x=>x.1.isSome)
   &&decide ((e::es).length+([]:List Keyword).length+(if([]:List Keyword).isEmpty then 0 else 1)<30))=true:=by rfl)
  (hline:(apos.endLine==cpos.line)=true:=by rfl) (hs:starEach (e::es) X.env=(false,eval e X.env)::starEach es X.env:=by rfl) (hplain:(backTo cpos (starEach es X.env)).any (·.1)=false:=by rfl):
  PE X (.Call (.Attribute o name apos) (e::es) [] cpos) (tBM X.K T r to t):=by
 intro pins s σ H Q I h
 refine wpAny_Call_method_late hbase hfew hline rfl (thn (ho pins s σ H _ I h) fun v s1 zz=>?_)
 obtain⟨x,H1,I1,r1,ty,q1⟩:=zz
 obtain⟨h1,h2⟩:=kll I1 r1 ty
 refine⟨T,id,pa,slot,hty,h1,h2,?_⟩
 have hA:=ha cpos pins s1 σ H1 _ I1 q1
 rw[hs] at hA⊢
 refine Calls.callWith_builtin (by show(false||(backTo cpos (starEach es X.env)).any (·.1))=false;rw[hplain] <;> rfl) (Calls.evalArgs_plain ?_)
 exact thn hA fun us s2 ⟨vs,H2,I2,r2,q2⟩=>hm pins s2 σ H2 x vs v us Q I2 r1 r2 q2
end
end L2
namespace L2
open PySem PySem.Spec PyProof.Rows
noncomputable def MtM(X:Cx)(id:String)(r:V→List V→Hp→VK→Prop):Prop:=
 ∀(pins:List (Addr×Obj))(s:Shared)(σ:St)(H:Hp)(x:V)(xs:List V)(v:Value)(us:List Value)(Q:VK),Inv X pins σ H s→RelV x v→Vals xs us→r x xs H Q→
  wpAny (model X.prog X.w) X.A (call (.builtin id) (v::us)) (EP X pins σ Q) X.xe s
theorem Vals.one:∀{x:V}{us:List Value},Vals [x] us→∃u,us=[u]∧RelV x u
 |_,_, .cons r .nil=>⟨_,rfl,r⟩
theorem Vals.two:∀{x y:V}{us:List Value},Vals [x,y] us→∃u v,us=[u,v]∧RelV x u∧RelV y v
 |_,_,_, .cons r (.cons q .nil)=>⟨_,_,rfl,r,q⟩
theorem Vals.zero:∀{us:List Value},Vals [] us→us=[]
 |_, .nil=>rfl
theorem Vals.dropLast{xs:List V}{us:List Value}(h:Vals xs us):Vals xs.dropLast us.dropLast:=by
 induction h with
 |nil=>exact .nil
 |cons r t ih=>
  cases t with
  |nil=>exact .nil
  |cons q t'=>exact .cons r ih
theorem Vals.eraseIdx:∀{xs:List V}{us:List Value}(i:Nat),Vals xs us→Vals (xs.eraseIdx i) (us.eraseIdx i)
 |_,_,_, .nil=>.nil
 |_,_,0, .cons _ t=>t
 |_,_,i+1, .cons r t=>.cons r (Vals.eraseIdx i t)
theorem Vals.reverse{xs:List V}{us:List Value}(h:Vals xs us):Vals xs.reverse us.reverse:=by
 induction h with
 |nil=>exact .nil
 |cons r t ih=>rw[Ew,Ew];exact Vals.append ih (.cons r .nil)
theorem Vals.rep{xs:List V}{us:List Value}(h:Vals xs us):∀k:Nat,Vals (Nh k xs).flatten (Nh k us).flatten
 |0=>.nil
 |k+1=>by
  rw[Mr,Mr,NK,NK]
  exact Vals.append h (Vals.rep h k)
theorem foldl_rep(its:List Value):∀(k:Nat)(acc:List Value),
  List.foldl (fun x1 x2=>x1++x2) acc.toArray (Nh k its.toArray)=(acc++(Nh k its).flatten).toArray
 |0,acc=>by simp
 | k+1,acc=>by
  have e:acc.toArray++its.toArray=(acc++its).toArray:=by simp
  have e2:(acc++its)++(Nh k its).flatten=acc++(Nh (k+1) its).flatten:=by
   rw[Mr,NK,Mc]
  rw[←e2,←foldl_rep its k (acc++its),←e,Mr,List.foldl_cons]
section
variable {X:Cx} {pins:List (Addr×Obj)} {σ:St} {H:Hp} {s:Shared} {l b:Addr} {xs ys zs:List V}
theorem Inv.lset{its its':List Value}{n:Nat}{f:Array Value→Array Value}{t':Nat}(I:Inv X pins σ H s)(hH:H l=some (.lst xs))
  (e:s.heap.get? l=some {cls:=.type "list",data:=.seq its.toArray n}) (hf:f its.toArray=its'.toArray) (hv:Vals ys its') (hz:ys.length≤sizeLine):
  Inv X pins σ (upd H l (.lst ys)) {s with heap:=s.heap.update l (Obj.mapSeq f),toks:=t'}:=by
 have q:=PySem.IsL.update e f
 rw[hf] at q
 refine I.write (x:=l) (e:=l) (by rw[hH];exact trivial) (.inl rfl) (fun b' u hb hu=>(Heap.get?_update_other s.heap (Obj.mapSeq f) (Ne.symm hb)).trans hu) ⟨_,q⟩ ?_
 exact⟨hz,its',_,hv,q⟩
theorem Inv.lnew{its:List Value}{t':Nat}(I:Inv X pins σ H s)(hv:Vals ys its)(hz:ys.length≤sizeLine):
  Inv X pins σ (upd H s.heap.objs.size (.lst ys)) {s with heap:=s.heap.push {cls:=.type "list",data:=.seq its.toArray},toks:=t'}:=
 I.laid (fun _ _ q=>Heap.get?_push_of_some _ q) (Nd _) ⟨hz,its,0,hv,Heap.get?_push_size _ rfl⟩
theorem Inv.fresh(I:Inv X pins σ H s):H s.heap.objs.size=none:=I.hok.fresh (Nd _)
theorem Inv.lstM(I:Inv X pins σ H s)(hH:H l=some (.lst xs)):xs.length≤sizeLine∧∃(its:List Value)(n:Nat),Vals xs its∧xs.length=its.length∧s.heap.get? l=some {cls:=.type "list",data:=.seq its.toArray n}:=by
 obtain⟨z,its,n,r,e⟩:=I.hok l _ hH
 exact⟨z,its,n,r,r.length,e⟩
theorem kir{n:Nat}(h:n≤sizeLine):Builtin.List.listTooLong n=false:=by
 unfold Builtin.List.listTooLong
 exact decide_eq_false (by omega)
end
section
variable {X:Cx}
noncomputable def kl7:V→List V→Hp→VK→Prop:=fun x vs H Q=>∃l xs y,x=.ref l∧vs=[y]∧H l=some (.lst xs)∧xs.length<sizeLine∧Q .non (upd H l (.lst (xs++[y])))
theorem kaU:MtM X "list.append" kl7:=by
 intro pins s σ H x vs v us Q I rx rv h
 obtain⟨l,xs,y,rfl,rfl,hH,hz,q⟩:=h
 cases rx
 obtain⟨u,rfl,ru⟩:=rv.one
 obtain⟨z,its,n,r,hl,e⟩:=I.lstM hH
 refine call_meets F.slot_list_append ⟨_,e,rfl⟩ F.entry_list_append (F.args_list_append_2 _ _) (PySem.list_append l its.toArray n u (by rw[NG];omega)) ⟨e,?_⟩
 refine⟨.non,_,I.lset (its':=its++[u]) hH e (by simp) (r.append (.cons ru .nil)) ?_,rfl,q⟩
 rw[Nr,Ml]
 omega
noncomputable def kl6:V→List V→Hp→VK→Prop:=fun x vs H Q=>∃l b xs zs,x=.ref l∧vs=[.ref b]∧H l=some (.lst xs)∧H b=some (.lst zs)∧xs.length+zs.length≤sizeLine∧Q .non (upd H l (.lst (xs++zs)))
theorem keS:MtM X "list.extend" kl6:=by
 intro pins s σ H x vs v us Q I rx rv h
 obtain⟨l,b,xs,zs,rfl,rfl,hH,hB,hz,q⟩:=h
 cases rx
 obtain⟨u,rfl,ru⟩:=rv.one
 cases ru
 obtain⟨z,its,n,r,hl,e⟩:=I.lstM hH
 obtain⟨z2,its2,n2,r2,hl2,e2⟩:=I.lstM hB
 have hsz:its.toArray.size+its2.toArray.size≤sizeLine:=by rw[NG,NG];omega
 have hlong:¬(!its.toArray.isEmpty&&Builtin.List.listTooLong (its.toArray.size+its2.toArray.size))=true:=by
  rw[kir hsz,E6]
  exact Np
 refine call_meets F.slot_list_extend ⟨_,e,rfl⟩ F.entry_list_extend (F.args_list_extend_2 _ _)
  (AutoSeq1.list_extend_list_list_0 l its.toArray n b its2.toArray n2 hlong (by rw[NG];omega) (by omega)) ⟨e,e2,?_⟩
 refine⟨.non,_,I.lset (its':=its++its2) hH e (by simp) (r.append r2) ?_,rfl,q⟩
 rw[Nr]
 omega
noncomputable def rCat:R2:=fun x y H Q=>∃l b xs zs,x=.ref l∧y=.ref b∧H l=some (.lst xs)∧H b=some (.lst zs)∧xs.length+zs.length≤sizeLine∧∀p,H p=none→Q (.ref p) (upd H p (.lst (xs++zs)))
theorem kjY:OpR X (binaryOp .Add) rCat:=by
 intro pins s σ H x y v u Q I rx ry h
 obtain⟨l,b,xs,zs,rfl,rfl,hH,hB,hz,q⟩:=h
 cases rx
 cases ry
 obtain⟨z,its,n,r,hl,e⟩:=I.lstM hH
 obtain⟨z2,its2,n2,r2,hl2,e2⟩:=I.lstM hB
 refine PySem.P.add_list e e2 ?_ (by rw[NG,NG];omega)
 have ea:its.toArray++its2.toArray=(its++its2).toArray:=by simp
 rw[ea]
 exact⟨.ref _,_,I.lnew (t':=s.toks) (r.append r2) (by rw[Nr];omega),rfl,q _ I.fresh⟩
noncomputable def rRep:R2:=fun x y H Q=>∃l k xs,x=.ref l∧y=.int k∧H l=some (.lst xs)∧-(2 ^ 63)≤k∧k<2 ^ 63∧xs.length*k.toNat≤sizeLine∧
 ∀p,H p=none→Q (.ref p) (upd H p (.lst (Nh k.toNat xs).flatten))
theorem len_rep{α:Type}(xs:List α)(k:Nat):(Nh k xs).flatten.length=k*xs.length:=by
 induction k with
 |zero=>simp
 |succ k ih=>rw[Mr,NK,Nr,ih,Nat.succ_mul,Nat.add_comm]
theorem klF:OpR X (binaryOp .Mult) rRep:=by
 intro pins s σ H x y v u Q I rx ry h
 obtain⟨l,k,xs,rfl,rfl,hH,h1,h2,hz,q⟩:=h
 cases rx
 obtain⟨t,rfl⟩:=ry
 obtain⟨z,its,n,r,hl,e⟩:=I.lstM hH
 have hlen:its.toArray.size*k.toNat≤sizeLine:=by rw[NG,←hl];exact hz
 have hcap:¬its.toArray.size*k.toNat > (2 ^ 63-1)/8:=by
  have:(sizeLine:Nat)≤(2 ^ 63-1)/8:=by decide
  omega
 have hfit:¬(!Builtin.List.listFitsIndex k)=true:=by
  rw[fitsIndex_both h1 h2]
  exact Np
 have hlong:¬Builtin.List.listTooLong (its.toArray.size*k.toNat)=true:=by
  rw[kir hlen]
  exact Np
 have hnew:List.foldl (fun x1 x2=>x1++x2) #[] (Nh (if its.toArray.isEmpty=true then 0 else k.toNat) its.toArray)=(Nh k.toNat its).flatten.toArray:=by
  have f0:∀m:Nat,List.foldl (fun x1 x2=>x1++x2) #[] (Nh m its.toArray)=(Nh m its).flatten.toArray:=fun m=>by
   have:=foldl_rep its m []
   rw[MZ] at this
   exact this
  rw[f0]
  cases its with
  |nil=>simp
  |cons a r'=>rw[if_neg (by simp)]
 refine wpAny_binaryOp_repeat_ref (T:="list") (U:="int") (by decide) ⟨_,e,rfl⟩ (fun s'=>typeIs_int s' k t) noFill_list_mul F.fills_int_mul F.slot_int_rmul repeat_list F.slot_int_index.lookup
  (call_meets F.slot_int_rmul (typeIs_int s k t) F.entry_int_rmul (F.args_int_rmul_2 _ _) (int___rmul___int_list k t l its.toArray n)
   ⟨e,rfl,⟨_,e,rfl⟩,call_meets F.slot_list_mul ⟨_,e,rfl⟩ F.entry_list_mul (F.args_list_mul_2 _ _) (AutoListH.list___mul___list_int_3 l its.toArray n k t hfit hcap hlong) ⟨e,?_⟩⟩)
 rw[hnew]
 exact⟨.ref _,_,I.lnew (t':=s.toks) (r.rep k.toNat) (by rw[len_rep,Nat.mul_comm];exact hz),rfl,q _ I.fresh⟩
end
section
variable {prog:Program} {w:World} {A:Around} {E:Value→Shared→Prop} {s:Shared}
set_option maxRecDepth 100000 in
end
section
variable {X:Cx}
end
end L2
namespace Att
open PySem PySem.W PySem.Calls PyProof.Rows
theorem keZ{P:Params}{h:Heap}:∀(ns:List Int)(vs:List Value),WellAll P h vs (ns.map WData.int)→IntsAre vs ns:=by
 intro ns
 induction ns with
 |nil=>
  intro vs w
  rw[MX] at w
  cases w
  exact .nil
 | cons n ns ih=>
  intro vs w
  rw[Nw] at w
  cases w with
  |cons a b=>
   cases a
   exact .cons _ _ (ih _ b)
theorem kjG{l:OpenLaw}{n:Nat}(hn:l.most=some n){P:Params}{h:Heap}{args:List WData}{vals:List Value}
  (hpre:l.row.toRowW.claim.pre args=true) (hwl:WellAll P h vals args):
  ∃a vs ns,vals=[Value.ref a]∧args=[WData.list (ns.map WData.int)]∧h.get? a=some {cls:=.type "list",data:=.seq vs.toArray}∧IntsAre vs ns∧ns.length≤n:=by
 have hsh:WShape.hasAll [] args [.list .int]=true:=(pre_splitW hpre).1
 have hc:l.pre.holds [] {args:=args}=true:=(pre_splitW hpre).2
 obtain⟨d,r,rfl,h1,h2⟩:=hasAllW_cons hsh
 obtain rfl:=hasAllW_nil h2
 obtain⟨xs,rfl,h3⟩:=hasW_list h1
 obtain⟨ns,rfl⟩:=items_int h3
 have hlen:ns.length≤n:=by
  unfold OpenLaw.pre at hc
  have h4:(WTm.not (.lt (.lit (.int (n:Int))) (.len (.arg 0)))).holds [] {args:=[.list (ns.map .int)]}=true:=by
   have h4:=(holds_andW hc).1
   rw[hn] at h4
   exact h4
  have h5:=condW_of h4 (w_not (w_lt w_lit (w_len_list (w_arg rfl))))
  rw[Nb] at h5
  refine Nat.le_of_not_lt fun q=>?_
  have q':(n:Int)<((ns.length:Nat):Int):=by omega
  first
   |(rw[decide_eq_true q'] at h5;exact absurd h5 (by decide))
   |(simp at h5;omega)
 cases hwl with
 |cons w1 w2=>
  cases w2
  cases w1 with
  |list ho hall=>exact⟨_,_,ns,rfl,rfl,ho,keZ ns _ hall,hlen⟩
noncomputable def kjP(l:OpenLaw)(args:List WData):l.row.toRowW.claim.post args (.bool true) args=true:=
 postW_of (r:=l.row.toRowW) (X:=(true==true))
  (show WShape.has [] (.bool true) .bool=true by first|rfl|decide|simp[WShape.has,WShape.arms,WShape.armsAll])
  (show(WTm.eq .res (.lit (.bool true))).value [] {args:=args,res:=some (.bool true),after:=args}=some (.bool (true==true)) from w_eq_bool (w_res rfl) w_lit) rfl
theorem attach_call{l:OpenLaw}{n:Nat}{q:Program}{loose:List Str}{XP:(Str→Option Value)→Heap→Prop}{YP:World→Heap→Prop}{d:DefRec}
  (hn:l.most=some n) (hdf:d.params.defaults=[])
  (call:∀(w:World)(s₀ s₁:Shared)(mg mb:Str→Option Value)(fa:Addr)(o:Obj)(pm cd doc:Value)(a:Addr)(vs:List Value)(ns:List Int),
   Ground q loose [] XP w s₀ mg mb s₁.heap→YP w s₁.heap→
   s₁.heap.get? fa=some o→o.data=.func (docDef d.name d.params d.body d.scope pm cd doc)→s₁.heap.CodeRec cd d.name→mg d.name=some (.ref fa)→
   s₁.heap.get? a=some {cls:=.type "list",data:=.seq vs.toArray}→IntsAre vs ns→ns.length≤n→s₁.gens= #[]→
   codeAny (model l.prog w) callerA (.call (.ref fa) ⟨[.ref a],[]⟩) (fun r s'=>r=.ok (.ret (.bool true))∧OldK s₁.heap s'.heap∧s'.os=s₁.os∧AllBare s'.gens) s₁):
  WalkO q loose XP YP l.row.toRowW d [] (fun f vs=>PySem.call f vs):=by
 intro w s₀ s₁ mg mb G Y fa o pm cd doc dV kV ho hd hcd hD hmg hg args vals as hpre hlay hrd hwl hlo
 obtain rfl:dV=.none:=Dflts.none hD hdf
 obtain rfl:kV=.none:=Dflts.noKw hD
 obtain⟨a,vs,ns,rfl,rfl,hobj,hints,hlen⟩:=kjG hn hpre hwl
 refine enter_call (codeAny_mono (call w s₀ s₁ mg mb fa o pm cd doc a vs ns G Y ho (fd_plain hd) hcd hmg hobj hints hlen hg) fun r s' hq=>?_)
 obtain⟨rfl,h2,h3,h4⟩:=hq
 exact⟨.inl ⟨.bool true, .bool true,[],rfl,fun _=>rfl, .bool true,kjP l _,fun _=>⟨MF.nil,fun _ hm=>(nomatch hm)⟩⟩,h2,h3,h4⟩
section
variable {prog:Program} {w:World} {A:Around} {E:Value→Shared→Prop} {s:Shared} {K:Frag}
end
end Att
namespace L2
open PySem PySem.Spec PyProof.Rows
theorem kgj:∀{vs:List Value}{ns:List Int},IntsAre vs ns→Vals (ns.map V.int) vs
 |_,_, .nil=>.nil
 |_,_, .cons n t h=>.cons ⟨t,rfl⟩ (kgj h)
end L2
namespace L2
open PySem PySem.Spec PyProof.Rows
end L2
namespace L2
open PySem PySem.Spec PyProof.Rows
noncomputable def inClass(s:Stmt)(j:Nat):Stmt:=match s with
 | .ClassDef _ _ _ body _ _ _ _ _ _ _=>body.getD j (.Pass ⟨0,0,0,0⟩)
 |_=>.Pass ⟨0,0,0,0⟩
noncomputable def kaG(s:Stmt):Arguments:=match s with
 | .FunctionDef _ a _ _ _ _ _ _ _ _=>a
 |_=>{posonlyargs:=[],args:=[],vararg:=none,kwonlyargs:=[],kw_defaults:=[],kwarg:=none,defaults:=[]}
noncomputable def kaF(s:Stmt):List Stmt:=match s with
 | .FunctionDef _ _ b _ _ _ _ _ _ _=>b
 |_=>[]
noncomputable def kah(s:Stmt):Scope:=match s with
 | .FunctionDef _ _ _ _ _ _ sc _ _ _=>sc
 |_=>{kind:=.function,names:=[],isGenerator:=false,isCoroutine:=false}
noncomputable abbrev CX0:CXT:=fun _ _ _ _ _ _=>False
noncomputable abbrev E0:XK:=fun _ _ _=>False
noncomputable def pass0{X:Cx}:kdE CX0 X E0:=fun _ _ _ _ _ _ _ h=>h.elim
structure Fun (K:Nc) (x qual:Str) (st:Stmt) (f:Addr) (fd:FuncData):Prop where
 ex:∃(oc:Value)(od:Option Addr)(kV doc pm:Value)(an:Option Addr)(cdv ct:Value)(osl:Array (Option Value)),
  fd=Nx x qual (kaG st) (kaF st) (kah st) .none kV doc pm an cdv ct∧K.lookup f=some ⟨oc,od, .func fd,osl⟩∧NU K cdv qual=true
 kp:Nz K (.ref f)=true
section
variable {P:Program} {w:World} {K:Nc} {mg:Str→Option Value} {base:Heap}
theorem Fun.ok{x qual:Str}{st:Stmt}{f:Addr}{fd:FuncData}{N ps:List Str}{k:Nat}{sp:Sp}(F:Fun K x qual st f fd)(S:kat N ps (kah st))(len:∀vs H Q E,sp vs H Q E→vs.length=ps.length)
  (hbody:∀(cdv:Value)(A:Around)(outer:List Env)(s:Shared)(H:Hp)(vs:List V)(Q:VK)(E:XK),Room k (A.deeper (envOfC qual (kah st) s.heap.objs.size f cdv))→sp vs H Q E→
   ∃t,PSs (cxOf CX0 P w K mg base N qual (kah st) f cdv A outer s H E).nox (kaF st) t∧t {nx:=fun _ H'=>Q .non H',rt:=Q} (start N vs) H):FnOk P w K mg base CX0 (k+1) f fd ps sp:=by
 obtain⟨oc,od,kV,doc,pm,an,cdv,ct,osl,rfl,lk,hcd⟩:=F.ex
 refine fn_of lk hcd S len fun A outer s H vs Q E hr hsp=>?_
 obtain⟨t,h,q⟩:=hbody cdv A outer s H vs Q E hr hsp
 exact⟨t,h.nox,q⟩
theorem Fun.binds{x qual:Str}{st:Stmt}{f:Addr}{fd:FuncData}{ps:List Str}(F:Fun K x qual st f fd)
  (h:∀(kV doc pm:Value)(an:Option Addr)(cdv ct:Value)(us:List Value),us.length=ps.length→bindArgs (Nx x qual (kaG st) (kaF st) (kah st) .none kV doc pm an cdv ct) ⟨us,[]⟩=pure (ps.zip us)):Binds K fd ps []:=by
 obtain⟨oc,od,kV,doc,pm,an,cdv,ct,osl,rfl,lk,hcd⟩:=F.ex
 exact .all (h kV doc pm an cdv ct)
end
noncomputable def kar{n:Nat}(h:n≤1000):n<sizeLine:=Mx h (by decide)
section
variable {X:Cx}
theorem pv(i:Nat){x:Str}{pos:Pos}(hN:X.N[i]?=some x:=by rfl)(hv:Vis X.env.scope x:=by first|exact Or.inl rfl|exact Or.inr (Or.inl rfl)|exact Or.inr (Or.inr rfl))(hd:(x==("__debug__" :Str))=false:=by decide)
  (hcd:(x==("__classdict__" :Str))=false:=by decide):PE X (.Name x pos) (tVar i):=kmD hN hv hd hcd
end
noncomputable def iteF{A B:Prop}(h:B):if false=true then A else B:=by
 rw[if_neg Np]
 exact h
noncomputable def iteT{A B:Prop}(h:A):if true=true then A else B:=by
 rw[if_pos rfl]
 exact h
noncomputable def ite2{c A B:Prop} [Decidable c] (h1:c→A) (h2:¬c→B):if c then A else B:=by
 by_cases h:c
 ·rw[if_pos h]
  exact h1 h
 ·rw[if_neg h]
  exact h2 h
end L2
set_option maxHeartbeats 4000000
namespace L3
end L3
namespace L2
open PySem PySem.Spec PyProof.Rows
section
variable {X:Cx}
theorem log2_small{n:Nat}(h:n<2 ^ 200):n.log2<9000:=by
 by_cases h0:n=0
 ·subst h0
  decide
 ·have h1:n.log2<200:=(Nat.log2_lt h0).mpr h
  omega
noncomputable def CDivB(_ j:Int):Prop:=0<j∧j<2 ^ 199
theorem kf2:OpR X (binaryOp .FloorDiv) (rI CDivB fun i j=>.int (i/j)):=opI fun i j _ _ _ _ _ hc q=>by
 have h1:(0:Int)<j:=hc.1
 have h2:j<2 ^ 199:=hc.2
 have h3:j.natAbs<2 ^ 200:=by omega
 exact floordiv_int (by omega) (by rw[Int.fdiv_eq_ediv_of_nonneg i (by omega)];exact q) (.inl (PyProof.noPylong_of_log2 (log2_small h3)))
theorem ka2(hc:X.calm=true):CallR X (.builtin "sum") (fun xs H Q=>∃(p:Addr)(ns:List Int),xs=[.ref p]∧SqL X.K H p (ns.map V.int)∧Q (.int ns.sum) H):=by
 intro pins s σ H xs us Q I r h
 obtain⟨p,ns,rfl,hq,q⟩:=h
 obtain⟨u,rfl,rx⟩:=vals1 r
 cases rx
 obtain⟨its,r',pl,hz⟩:=I.list hq
 have hi:IntsAre its ns:=intsAre_of r'
 have ha:=hi.allInts
 obtain⟨zs,hx⟩:=ha.items
 have hl:=pl.isList
 rw[hx] at hl
 refine sum_intListG (I.ok.hd hc) hl fun h' tk t' hk=>⟨.int ns.sum,H,I.kept hk,⟨t',?_⟩,q⟩
 have e2:preSum (numAt zs) zs.size=(numsOf (intItems zs).toList).sum:=by
  rw[nums_intItems,preSum_eq,Mg (by simp)]
 have e3:numsOf its.toArray.toList=ns:=hi.numsOf
 rw[e2,←hx,e3]
noncomputable def eqVs:List V→List V→Bool
 |[],[]=>true
 |x::xs,y::ys=>eqV x y&&eqVs xs ys
 |_,_=>false
theorem kgb:∀{xs ys:List V},xs.length≠ys.length→eqVs xs ys=false
 |[],[],h=>absurd rfl h
 |[],_::_,_=>rfl
 |_::_,[],_=>rfl
 |x::xs,y::ys,h=>by
  show(eqV x y&&eqVs xs ys)=false
  rw[kgb (fun e=>h (by simp[e])),E6]
theorem kdN:∀(xs ys:List V),xs.length=ys.length→(Nf xs.length).all (fun j=>eqV (xs.getD j .non) (ys.getD j .non))=eqVs xs ys
 |[],[],_=>rfl
 |[],_::_,h=>by simp at h
 |_::_,[],h=>by simp at h
 |x::xs,y::ys,h=>by
  have ih:=kdN xs ys (by simpa using h)
  show(Nf (xs.length+1)).all _=(eqV x y&&eqVs xs ys)
  rw[Dz,Eu,List.all_map]
  show(eqV x y&&_)=_
  rw[←ih]
  rfl
theorem kiI:∀{x:V},flatV x=true→eqV x x=true
 | .non,_=>rfl
 | .bl b,_=>by simp[eqV]
 | .int i,_=>by simp[eqV]
 | .str z,_=>by simp[eqV]
theorem ke5:∀{xs:List V},xs.all flatV=true→eqVs xs xs=true
 |[],_=>rfl
 |x::xs,h=>by
  rw[Eu,MY] at h
  show(eqV x x&&eqVs xs xs)=true
  rw[kiI h.1,ke5 h.2]
  rfl
theorem kdB(ns:List Int):(ns.map V.int).all flatV=true:=by
 rw[M0]
 intro x hx
 obtain⟨n,_,rfl⟩:=Ny.mp hx
 rfl
noncomputable def rEqL(K:Nc)(neg:Bool):R2:=fun x y H Q=>∃a b xs ys,x=.ref a∧y=.ref b∧SqL K H a xs∧SqL K H b ys∧xs.all flatV=true∧ys.all flatV=true∧Q (.bl (if neg then !eqVs xs ys else eqVs xs ys)) H
theorem kkr{xs:List V}(h:xs.all flatV=true){j:Nat}(hj:j<xs.length):flatV xs[j]=true:=by
 rw[M0] at h
 exact h _ (E7 hj)
theorem kkt{A:Around}{s:Shared}{xs ys:List V}{us ws:List Value}(r:Vals xs us)(q:Vals ys ws)(fx:xs.all flatV=true)(fy:ys.all flatV=true):
  ∀j (h1:j<us.toArray.size) (h2:j<ws.toArray.size),SeqAt.EqAt A s us.toArray[j] ws.toArray[j] (eqV (xs.getD j .non) (ys.getD j .non)):=by
 intro j h1 h2
 have l1:=r.length
 have l2:=q.length
 have h1':j<us.length:=by simpa using h1
 have h2':j<ws.length:=by simpa using h2
 have k1:j<xs.length:=by omega
 have k2:j<ys.length:=by omega
 obtain⟨u,e1,r1⟩:=r.get (i:=j) (x:=xs[j]) (by simp[k1])
 obtain⟨w,e2,r2⟩:=q.get (i:=j) (x:=ys[j]) (by simp[k2])
 have g1:us.toArray[j]=u:=by
  have:=Nu.mp e1
  obtain⟨_,e⟩:=this
  simpa using e
 have g2:ws.toArray[j]=w:=by
  have:=Nu.mp e2
  obtain⟨_,e⟩:=this
  simpa using e
 have d1:xs.getD j .non=xs[j]:=by simp[k1]
 have d2:ys.getD j .non=ys[j]:=by simp[k2]
 rw[g1,g2,d1,d2]
 exact klM r1 r2 (kkr fx k1) (kkr fy k2)
theorem kmH(hu:X.A.units<cLine):OpR X (compareOp .Eq) (rEqL X.K false):=by
 intro pins s σ H x y v u Q I rx ry h
 obtain⟨a,b,xs,ys,rfl,rfl,hx,hy,fx,fy,q⟩:=h
 cases rx
 cases ry
 obtain⟨us,r1,p1,z1⟩:=I.list hx
 obtain⟨ws,r2,p2,z2⟩:=I.list hy
 have l1:=r1.length
 have l2:=r2.length
 by_cases hl:xs.length=ys.length
 ·refine SeqAt.eq_listAt p1.isList p2.isList (by simp;omega) hu (kkt r1 r2 fx fy) ⟨.bl (eqVs xs ys),H,I,?_,q⟩
  have e:us.toArray.size=xs.length:=by simp[l1]
  rw[e,kdN xs ys hl]
  rfl
 ·refine SeqAt.eq_list_lengthsAt p1.isList p2.isList (by simp;omega) hu ⟨.bl (eqVs xs ys),H,I,?_,q⟩
  rw[kgb hl]
  rfl
theorem kmG(hu:X.A.units<cLine):OpR X (compareOp .NotEq) (rEqL X.K true):=by
 intro pins s σ H x y v u Q I rx ry h
 obtain⟨a,b,xs,ys,rfl,rfl,hx,hy,fx,fy,q⟩:=h
 cases rx
 cases ry
 obtain⟨us,r1,p1,z1⟩:=I.list hx
 obtain⟨ws,r2,p2,z2⟩:=I.list hy
 have l1:=r1.length
 have l2:=r2.length
 show wpAny _ _ (richCompare .NotEq (.ref a) (.ref b)) _ _ s
 by_cases hl:xs.length=ys.length
 ·refine SeqAt.RcNeAt.lists p1.isList p2.isList (by simp;omega) hu (kkt r1 r2 fx fy) _ _ _ _ ⟨.bl (!eqVs xs ys),H,I,?_,q⟩
  have e:us.toArray.size=xs.length:=by simp[l1]
  rw[e,kdN xs ys hl]
  rfl
 ·refine SeqAt.RcNeAt.lists_lengths p1.isList p2.isList (by simp;omega) hu _ _ _ _ ⟨.bl (!eqVs xs ys),H,I,?_,q⟩
  rw[kgb hl]
  rfl
noncomputable def cV:V→Value
 | .ty n=>.type n
 | .ref a=>.ref a
 |_=>.none
theorem kaK:CallR X (.builtin "isinstance") (fun xs H Q=>∃x c t b,xs=[x,c]∧((∃n,c=.ty n)∨∃a,c=.ref a)∧TyOf X.K H x t∧NA X.K t (cV c)=some b∧Q (.bl b) H):=by
 intro pins s σ H xs us Q I r h
 obtain⟨x,c,t,b,rfl,hc,ty,e,q⟩:=h
 obtain⟨u,w',rfl,r1,r2⟩:=vals2 r
 have ew:w'=cV c:=by
  rcases hc with⟨n,rfl⟩|⟨a,rfl⟩
  ·exact r2
  ·exact r2
 subst ew
 exact kkf I r1 ty e fun tk=>⟨.bl b,H,I.tok tk,rfl,q⟩
theorem b_isi:bootBuiltins "isinstance"=some (.builtin "isinstance"):=by decide +kernel
theorem b_int:bootBuiltins "int"=some (.type "int"):=by decide +kernel
theorem kmT:bootBuiltins "bool"=some (.type "bool"):=by decide +kernel
theorem kbn:bootBuiltins "list"=some (.type "list"):=by decide +kernel
theorem b_sum:bootBuiltins "sum"=some (.builtin "sum"):=by decide +kernel
theorem b_min:bootBuiltins "min"=some (.builtin "min"):=by decide +kernel
theorem b_max:bootBuiltins "max"=some (.builtin "max"):=by decide +kernel
theorem b_len:bootBuiltins "len"=some (.builtin "len"):=by decide +kernel
theorem kbT(K:Nc)(t:Value):NA K t t=some true:=by
 unfold NA
 rw[if_pos (by simp)]
theorem kgR(K:Nc):NA K (.type "int") (.type "bool")=some false:=by
 have e:(Value.type "int" ==Value.type "bool")=false:=by decide +kernel
 unfold NA PySem.W.kitCls PySem.W.subIn
 rw[e,if_neg Np]
 show(if PySem.W.kitMeta "bool"=true then _ else _)=_
 rw[if_pos (by decide +kernel)]
 show(fastBuiltinMro "int").map (·.contains (Value.type "bool"))=some false
 decide +kernel
noncomputable def tCut(t:TS):TS:=fun D σ H=>∃P:St→Hp→Prop,t {D with nx:=P} σ H∧∀σ' H',P σ' H'→D.nx σ' H'
theorem kbG{st:Stmt}{t:TS}(h:PS X st t):PS X st (tCut t):=by
 intro pins s σ H D I hw
 obtain⟨P,h1,h2⟩:=hw
 refine thn (h pins s σ H {D with nx:=P} I h1) fun f s' q=>?_
 cases f with
 |next=>
  obtain⟨σ',H',I',q'⟩:=q
  exact⟨σ',H',I',h2 σ' H' q'⟩
 |brk=>exact q
 |cont=>exact q
 |ret u=>exact q
noncomputable def tCutE(t:TE):TE:=fun σ H Q=>∃P:V→Hp→Prop,t σ H P∧∀v H',P v H'→Q v H'
theorem kik{e:Expr}{t:TE}(h:PE X e t):PE X e (tCutE t):=by
 intro pins s σ H Q I hw
 obtain⟨P,h1,h2⟩:=hw
 exact thn (h pins s σ H P I h1) fun u s' ⟨v,H',I',r,q⟩=>⟨v,H',I',r,h2 v H' q⟩
noncomputable def Its(lo st:Int)(n:Nat):It:=⟨fun i _=>i<n,fun i H x H'=>H'=H∧x=.int (lo+i*st),fun i _=>n≤i⟩
theorem kjf{P:Program}{w:World}{K:Nc}{tg:Expr}(it:Addr)(lo st:Int)(n:Nat):Turn P w K tg (Its lo st n) [it] it (fun i h=>IsRangeIter h it (lo+(i:Nat)*st) ((n:Int)-(i:Nat)) st) where
 mem:=by simp
 obj:=fun i h st b hb=>by
  have e:b=it:=by simpa using hb
  subst e
  exact⟨_,st,fun v z=>by
   have z':Data.fields _=Data.cell v:=z
   cases z'⟩
 keep:=fun i h h' st k=>k it (by simp) _ st
 item:=by
  intro X hP hw hK hc i pins s σ H E I hf st' hg
  subst hP hw hK
  obtain⟨f0,f1,f2,f3,f4,f5⟩:=hf it (by simp)
  have W:=Walks.range (prog:=X.prog) (w:=X.w) (I.ok.hd hc) it lo st n
  refine W.item i s _ _ hg st' fun v h' tk hv st'' kk=>?_
  obtain⟨t,rfl⟩:=hv
  have I1:Inv X pins σ H {s with heap:=h',toks:=tk}:=I.turned (fun b o hb e=>kk b o (by simpa using hb) e) f0 f1 f3 f4 f5
  exact⟨_,rfl,go_of (s:={s with heap:=h',toks:=tk}) (n:="range_iterator") st'' rfl rfl (by decide) ⟨.int (lo+i*st),H,I1,⟨t,rfl⟩,⟨rfl,rfl⟩,st'',fun b hb=>(hf b hb).1⟩⟩
 done:=by
  intro X hP hw hK hc i pins s σ H E I hf st hg
  subst hP hw hK
  obtain⟨f0,f1,f2,f3,f4,f5⟩:=hf it (by simp)
  exact wpAny_pyNext_range_end (I.ok.hd hc) st (by have:n≤i:=hg;omega) fun h' eb=>⟨rfl,I.turned (t':=s.toks) (fun b o hb e=>eb b o hb e) f0 f1 f3 f4 f5⟩
 self:=fun _ _ _ _ _ st h=>wpAny_pyIter_rangeiter st h
theorem kgt{a b c:Int}(hc:0<c)(ha: -(2 ^ 31)≤a∧a<2 ^ 31)(hb: -(2 ^ 31)≤b∧b<2 ^ 31):0≤Builtin.Range.rangeSize a b c∧Builtin.Range.rangeSize a b c<2 ^ 33:=by
 unfold Builtin.Range.rangeSize
 rw[if_pos hc]
 split
 ·have h1:0≤(b-a-1)/c:=Int.ediv_nonneg (by omega) (by omega)
  have h2:(b-a-1)/c≤b-a-1:=Int.ediv_le_self _ (by omega)
  omega
 ·omega
theorem kiR{a b c:Int}(hc:0<c)(hc2:c<2 ^ 30)(ha: -(2 ^ 31)≤a∧a<2 ^ 31)(hb: -(2 ^ 31)≤b∧b<2 ^ 31):Builtin.Range.small a b c=true:=by
 have h:=kgt hc ha hb
 unfold Builtin.Range.small
 generalize Builtin.Range.rangeSize a b c=n at h
 simp only[Builtin.Range.rangeFitsLong,MY,Ex,decide_eq_true_eq,beq_iff_eq,show c > 0 from hc,if_true]
 omega
end
noncomputable def kmQ(xs:List V)(k:Nat):cutV xs none (some (k:Int))=xs.take k:=by
 unfold cutV
 rw[HT.sIx_none,HT.sIx_nat,M7,Nat.sub_zero,DA]
 omega
noncomputable def klf(ns:List Int)(lo hi:Option Int):∃ms:List Int,cutV (ns.map V.int) lo hi=ms.map V.int∧ms.length≤ns.length:=by
 refine⟨(ns.drop (HT.sIx ns.length 0 lo)).take (HT.sIx ns.length ns.length hi-HT.sIx ns.length 0 lo),?_,?_⟩
 ·unfold cutV
  rw[Nb,←E8,←M8]
 ·rw[Nv,Mw]
  omega
end L2
namespace L2
open PySem PySem.Spec PyProof.Rows
noncomputable def Inv.adopt{X:Cx}{pins:List (Addr×Obj)}{σ:St}{H:Hp}{s:Shared}{a:Addr}{o:HO}(I:Inv X pins σ H s)(f:FpOk X pins H a)(h0:X.s₀.heap.objs.size≤a)(new:ObjOk X.prog X.w (upd H a o) s.heap a o):Inv X pins σ (upd H a o) s:=by
 obtain⟨hn,hL,_,_,hC,hp⟩:=f
 have nt:∀b u,H b=some u→b≠a:=fun b u e=>kai e hn
 refine⟨I.ok,I.os,I.bare,⟨I.base.keep,I.base.slot,fun b ob e n hx=>?_,I.base.there,fun b xs e=>?_,fun b ob u e=>?_,fun b ps e=>?_⟩,I.loc,I.cell,?_,fun x c e=>?_,fun p hp'=>?_,fun b u e=>?_,I.len⟩
 ·rw[kak (NL (NM (Heap.lt_size e) h0))]
  exact I.base.free b ob e n hx
 ·have q:=I.base.tups b xs e
  rw[kak (nt _ _ q)]
  exact q
 ·have q:=I.base.frzs b ob u e
  rw[kak (nt _ _ q)]
  exact q
 ·obtain⟨m,q⟩:=I.base.tbls b ps e
  exact⟨m,by rw[kak (nt _ _ q)];exact q⟩
 ·rw[kak (Ne.symm hL)]
  exact I.free
 ·rw[kak (hC x c e)]
  exact I.freeC x c e
 ·obtain⟨e,n,r⟩:=I.pin p hp'
  exact⟨e,by rw[kak (hp p hp')];exact n,r⟩
 ·by_cases hb:b=a
  ·subst hb
   rw[kad] at e
   cases e
   exact new
  ·rw[kak hb] at e
   exact(I.hok b u e).stay (fun c v _ q=>q) (fun c q=>by rw[kak (nt _ _ q)];exact q) fun c xs q=>by rw[kak (nt _ _ q)];exact q
noncomputable def capσ(cap:List (Option Nat))(σ:St):St:=cap.map fun o=>match o with
 |some i=>(σ[i]?).getD none
 |none=>none
noncomputable def closL(cells:List (Str×Addr))(names:List (Str×NameKind)):List (Str×Addr)→List (Str×Addr):=fun acc=>names.foldl (fun acc p=>if p.2== .free then(p.1,(cells.lookup p.1).getD 0)::acc else acc) acc
theorem ke2{α β:Type}{f: α→β→Sem (ForInStep β)}{g: β→α→β}:∀(l:List α)(b: β),(∀x∈l,∀b,f x b=pure (.yield (g b x)))→forIn l b f=pure (l.foldl g b)
 |[],b,_=>by rw[List.forIn_nil];rfl
 |x::l,b,h=>by
  rw[List.forIn_cons,h x NJ]
  show forIn l (g b x) f=_
  rw[ke2 l (g b x) fun y hy=>h y (NC _ hy)]
  rfl
noncomputable def kgd{scope:Scope}{env:Env}(h:∀x∈scope.names,x.2=.free→∃c,env.cells.lookup x.1=some c):closureFor scope env=pure (closL env.cells scope.names []):=by
 unfold closureFor
 dsimp only
 rw[ke2 (g:=fun acc p=>if p.2== .free then(p.1,(env.cells.lookup p.1).getD 0)::acc else acc) scope.names [] fun x hx b=>?_]
 ·rfl
 ·obtain⟨n,k⟩:=x
  by_cases hk:k=.free
  ·subst hk
   obtain⟨c,ec⟩:=h _ hx rfl
   have ec':env.cells.lookup n=some c:=ec
   have e1:cellOf env n=pure c:=by unfold cellOf;rw[ec']
   simp only[beq_self_eq_true,if_true,e1,ec',Option.getD_some]
   rfl
  ·have:(k==NameKind.free)=false:=by simpa using hk
   simp only[this,Mh,if_false]
noncomputable def kfF(cells:List (Str×Addr))(p:Str×NameKind)(r:List (Str×NameKind))(acc:List (Str×Addr)):closL cells (p::r) acc=closL cells r (if p.2== .free then(p.1,(cells.lookup p.1).getD 0)::acc else acc):=rfl
theorem ker{cells:List (Str×Addr)}{x:Str}{c:Addr}:∀(names:List (Str×NameKind))(acc:List (Str×Addr)),(closL cells names acc).lookup x=some c→(((x,NameKind.free)∈names∧c=(cells.lookup x).getD 0)∨acc.lookup x=some c)
 |[],acc,h=>.inr h
 | (n,k)::r,acc,h=>by
  rw[kfF] at h
  rcases ker r _ h with⟨h1,h2⟩|h1
  ·exact .inl ⟨NC _ h1,h2⟩
  ·by_cases hk:k=.free
   ·subst hk
    simp only[beq_self_eq_true,if_true] at h1
    rw[N1] at h1
    by_cases hx:x=n
    ·subst hx
     simp only[beq_self_eq_true] at h1
     exact .inl ⟨NJ,(Option.some.inj h1).symm⟩
    ·have hb:(x==n)=false:=beq_eq_false_iff_ne.mpr hx
     rw[hb] at h1
     exact .inr h1
   ·have:(k==NameKind.free)=false:=by simpa using hk
    simp only[this,Mh,if_false] at h1
    exact .inr h1
theorem kc1{cells:List (Str×Addr)}{x:Str}:∀(names:List (Str×NameKind))(acc:List (Str×Addr)),((x,NameKind.free)∈names∨∃c,acc.lookup x=some c)→∃c,(closL cells names acc).lookup x=some c
 |[],acc,h=>by
  rcases h with h|h
  ·cases h
  ·exact h
 | (n,k)::r,acc,h=>by
  rw[kfF]
  refine kc1 r _ ?_
  by_cases hm:(x,NameKind.free)∈r
  ·exact .inl hm
  ·refine .inr ?_
   rcases h with h|⟨c,h⟩
   ·rcases NF.mp h with e|h
    ·cases e
     simp[N1]
    ·exact absurd h hm
   ·split
    ·rw[N1]
     by_cases hx:x=n
     ·subst hx
      simp
     ·have hb:(x==n)=false:=beq_eq_false_iff_ne.mpr hx
      rw[hb]
      exact⟨c,h⟩
    ·exact⟨c,h⟩
theorem kcJ:∀(names:List (Str×NameKind))(n:Nat)(acc acc':List (Str×Addr)),cellsFrom n names (acc++acc')=cellsFrom n names acc++acc'
 |[],_,_,_=>rfl
 |(m,k)::r,n,acc,acc'=>by
  unfold cellsFrom
  split
  ·exact kcJ r (n+1) ((m,n)::acc) acc'
  ·exact kcJ r n acc acc'
noncomputable def kcc(names:List (Str×NameKind))(n:Nat)(acc:List (Str×Addr))(x:Str):(cellsFrom n names acc).lookup x=((cellsFrom n names []).lookup x).or (acc.lookup x):=by
 rw[←List.lookup_append,←kcJ,MZ]
theorem kcI{x:Str}:∀(names:List (Str×NameKind))(n:Nat)(acc:List (Str×Addr)),(x,NameKind.cell)∉names→(cellsFrom n names acc).lookup x=acc.lookup x
 |[],_,_,_=>rfl
 | (m,k)::r,n,acc,h=>by
  unfold cellsFrom
  by_cases hk:k=.cell
  ·subst hk
   simp only[beq_self_eq_true,if_true]
   rw[kcI r _ _ fun z=>h (NC _ z),N1]
   have hx:x≠m:=fun e=>h (by rw[e];exact NJ)
   have hb:(x==m)=false:=beq_eq_false_iff_ne.mpr hx
   rw[hb]
  ·have:(k==NameKind.cell)=false:=by simpa using hk
   simp only[this,Mh,if_false]
   exact kcI r _ _ fun z=>h (NC _ z)
noncomputable def relN(names ns:List (Str×NameKind)):List (Str×NameKind):=names.map fun(n,k)=>if(k== .free&&ns.lookup n==some .cell) then(n, .cell) else(n,k)
noncomputable def kdm{scope:Scope}{env:Env}(hk:env.scope.kind=.function):(relabel scope env).names=relN scope.names env.scope.names:=by
 unfold relabel relN
 have e:(ScopeKind.function==ScopeKind.function)=true:=by decide
 simp only[hk,e,Bool.and_true]
 rfl
theorem kdf{ns:List (Str×NameKind)}{x:Str}:∀(names:List (Str×NameKind)),(relN names ns).lookup x=(names.lookup x).map fun k=>if(k== .free&&ns.lookup x==some .cell) then .cell else k
 |[]=>rfl
 | (n,k)::r=>by
  have ih:=kdf (ns:=ns) (x:=x) r
  show Mn x ((if(k== .free&&ns.lookup n==some .cell)=true then(n,NameKind.cell) else(n,k))::relN r ns)=_
  by_cases hx:x=n
  ·subst hx
   by_cases hc:(k== .free&&ns.lookup x==some .cell)=true
   ·rw[if_pos hc]
    simp only[N1,beq_self_eq_true,Ey]
    rw[if_pos hc]
   ·rw[if_neg hc]
    simp only[N1,beq_self_eq_true,Ey]
    rw[if_neg hc]
  ·have hb:(x==n)=false:=beq_eq_false_iff_ne.mpr hx
   by_cases hc:(k== .free&&ns.lookup n==some .cell)=true
   ·rw[if_pos hc]
    simp only[N1,hb]
    exact ih
   ·rw[if_neg hc]
    simp only[N1,hb]
    exact ih
theorem kl4{names ns:List (Str×NameKind)}{x:Str}(h:(relN names ns).lookup x=some .cell∨(relN names ns).lookup x=some .free):names.lookup x=some .cell∨names.lookup x=some .free:=by
 rw[kdf] at h
 cases e:names.lookup x with
 |none=>rw[e] at h;simp at h
 |some k=>
  rw[e] at h
  cases k <;> simp_all
noncomputable def kjN{names ns:List (Str×NameKind)}{x:Str}(h:names.lookup x=some .free):(relN names ns).lookup x=some .cell∨(relN names ns).lookup x=some .free:=by
 rw[kdf,h]
 by_cases hc:ns.lookup x==some .cell
 ·left;simp[hc]
 ·right;simp[hc]
structure CompScope (X:Cx) (scope:Scope) (N:List Str) (cap:List (Option Nat)):Prop where
 kind:scope.kind=.function
 names:∀x∈scope.names,x.2=.local→scope.names.lookup x.1=some .local
 free:∀x∈scope.names,x.2=.free→X.env.scope.names.lookup x.1=some .cell∨X.env.scope.names.lookup x.1=some .free
 nd:N.Nodup
 len:cap.length=N.length
 cap:∀(j i:Nat)(x:Str),cap[j]?=some (some i)→N[j]?=some x→X.N[i]?=some x∧scope.names.lookup x=some .free∧(x,NameKind.cell)∉scope.names
noncomputable def kd5(X:Cx)(scope:Scope)(C:Addr):List (Str×Addr):=cellsFrom (C+1) scope.names (closL X.env.cells scope.names [])
noncomputable def cxC(X:Cx)(scope:Scope)(N:List Str)(fp:List Addr)(s:Shared)(H:Hp)(C:Addr):Cx:=
 {X with N:=N,s₀:=s,H₀:=H,env:=compEnvC scope (kd5 X scope C) C X.env,outer:=X.stack,ex:=fp,fn:=fun x=>scope.names.lookup x==some .cell,pn:=[],xe:=fun _ _=>False}
theorem kf5{M:Model}{A:Around}{E:Value→Shared→Prop}{s:Shared}{scope:Scope}{globals:Addr}{cl:List (Str×Addr)}{qual:Str}{func:Option Addr}{code:Value}{outer:Env}{builtins:Addr}{Q:Env→Shared→Prop}
  (hQ:Q (newEnv scope s.heap.objs.size globals (cellsFrom (s.heap.objs.size+1) scope.names cl) qual func code (some outer) builtins) {s with heap:=pushCells (s.heap.push {cls:=.type "dict",data:=.dict #[]}) scope.names}):
  wpAny M A (newFunctionEnv scope globals cl [] qual func code (some outer) builtins) Q E s:=by
 simp only[newFunctionEnv,Option.isSome_some,if_true]
 refine wpAny_bind (wpAny_alloc ?_)
 refine wpAny_bind (wpAny_layCells _ (fun name kind cells=>by cases hkc:kind==NameKind.cell <;> simp[hkc]) _ _ _ _ ?_)
 rw[show({s with heap:=s.heap.push {cls:=.type "dict",data:=.dict #[]}}:Shared).heap.objs.size=s.heap.objs.size+1 from Heap.size_push ..]
 exact wpAny_bind (wpAny_pure (wpAny_pure hQ))
section
variable {X:Cx} {scope:Scope} {N:List Str} {cap:List (Option Nat)} {pins:List (Addr×Obj)} {σ:St} {H:Hp} {s:Shared}
theorem kjn(I:Inv X pins σ H s){b:Addr}(hb:b∈frs X.stack):b<s.heap.objs.size:=by
 obtain⟨_,o,ho,_⟩:=I.stack.mem hb
 exact Heap.lt_size ho
theorem kcA(S:CompScope X scope N cap)(I:Inv X pins σ H s):closureFor scope X.env=pure (closL X.env.cells scope.names []):=
 kgd fun x hx hf=>I.ok.has x.1 (S.free x hx hf)
theorem kcd{C:Addr}{x:Str}{c:Addr}(S:CompScope X scope N cap)(I:Inv X pins σ H s)(h:(kd5 X scope C).lookup x=some c):(cellsFrom (C+1) scope.names []).lookup x=some c∨X.env.cells.lookup x=some c:=by
 unfold kd5 at h
 rw[kcc] at h
 cases e:(cellsFrom (C+1) scope.names []).lookup x with
 |some c'=>
  rw[e] at h
  exact .inl h
 | none=>
  rw[e] at h
  have h':(closL X.env.cells scope.names []).lookup x=some c:=h
  rcases ker _ _ h' with⟨h1,h2⟩|h1
  ·obtain⟨c',ec⟩:=I.ok.has x (S.free _ h1 rfl)
   rw[ec] at h2
   rw[h2]
   exact .inr ec
  ·cases h1
theorem kk5{fp:List Addr}{C D:Addr}{o:Obj}{s4:Shared}{m:Str→Option Value}(S:CompScope X scope N cap)(I:Inv X pins σ H s)(f:∀b∈fp,FpOk X pins H b)(hfp:∀b∈fp,b<s.heap.objs.size)
  (hk:∀b u,s.heap.get? b=some u→s4.heap.get? b=some u) (hns:s4.heap.Ns C m) (hC:s.heap.objs.size≤C) (hD:s.heap.objs.size≤D) (hDC:D≠C) (eD:s4.heap.get? D=some o) (hcell:∀v,o.data≠.cell v)
  (hnew:CellsOk s4.heap (C+1) (cellsFrom (C+1) scope.names [])) (hos:s4.os=s.os) (hg:s4.gens=s.gens):Inv (cxC X scope N fp s H C) [(D,o)] (capσ cap σ) H s4:=by
 have stkne:∀b∈fp,b∉frs X.stack:=fun b hb hz=>by
  obtain⟨_,h1,h2,_⟩:=f b hb
  rcases NF.mp (I.stkSub b hz) with e|e
  ·exact h1 e
  ·exact h2 e
 have nw:∀{x:Str}{c:Addr},(cellsFrom (C+1) scope.names []).lookup x=some c→s4.heap.IsCell c none∧Nat.lt C c:=fun {x c} h=>hnew.empty x c (PySem.mem_of_lookup h)
 have od:∀{x:Str}{c:Addr},X.env.cells.lookup x=some c→c<s.heap.objs.size:=fun {x c} h=>let⟨_,q⟩:=I.cell x c h;q.lt
 refine⟨⟨I.ok.mod,S.kind,I.ok.glob,I.ok.blt,hC,fun x y c h1 h2=>?_,fun x h=>?_,fun x c h1 h2=>?_,I.ok.hd,I.ok.frames, .inl rfl,fun b hb=>⟨?_,fun x c e=>?_⟩,I.bs,Nk I.ok.bsz I.sz,fun b ob e hb=>?_,stkne,I.stack,I.stkFree⟩,
  hos,by rw[hg];exact I.bare,Un.kept hk,⟨m,hns,fun j x v e1 e2 e3=>?_⟩,fun x c e=>?_,I.hok.fresh hC,fun x c e=>?_,fun p hp=>?_,I.hok.kept hk,?_⟩
 ·rcases kcd S I h1 with q1|q1 <;> rcases kcd S I h2 with q2|q2
  ·exact name_of_addr hnew.apart (PySem.mem_of_lookup q1) (PySem.mem_of_lookup q2)
  ·exact absurd (Mx hC (nw q1).2) (Nat.not_lt_of_lt (od q2))
  ·exact absurd (Mx hC (nw q2).2) (Nat.not_lt_of_lt (od q1))
  ·exact I.ok.inj x y c q1 q2
 ·have h':(relabel scope X.env).names.lookup x=some .cell∨(relabel scope X.env).names.lookup x=some .free:=h
  rw[kdm I.ok.kind] at h'
  show ∃c,(cellsFrom (C+1) scope.names (closL X.env.cells scope.names [])).lookup x=some c
  rw[kcc]
  rcases kl4 h' with q|q
  ·obtain⟨c,e⟩:=kes (n:=C+1) q
   exact⟨c,by rw[e];rfl⟩
  ·obtain⟨c,e⟩:=kc1 (cells:=X.env.cells) scope.names [] (.inl (PySem.mem_of_lookup q))
   cases e2:(cellsFrom (C+1) scope.names []).lookup x with
   |some c'=>exact⟨c',rfl⟩
   |none=>exact⟨c,e⟩
 ·have h1':(scope.names.lookup x==some .cell)=true:=h1
  have q:scope.names.lookup x=some .cell:=by simpa using h1'
  obtain⟨c',e⟩:=kes (n:=C+1) q
  have h2':(cellsFrom (C+1) scope.names (closL X.env.cells scope.names [])).lookup x=some c:=h2
  rw[kcc,e] at h2'
  have h3:c'=c:=Option.some.inj h2'
  rw[←h3]
  exact Nq (Mx hC (nw e).2)
 ·exact NL (NM (hfp b hb) hC)
 ·rcases kcd S I e with q|q
  ·exact Me (Nat.lt_trans (NM (hfp b hb) hC) (nw q).2)
  ·exact(f b hb).2.2.2.2.1 x c q
 ·obtain⟨_,_,_,h4,_⟩:=f b hb
  rcases h4 with h4|h4
  ·exact I.ok.noex b ob e h4
  ·exact absurd (NM (Heap.lt_size e) (Nk I.ok.bsz h4)) (Mq _)
 ·
  have e2':(cap.map fun o=>match o with|some i=>(σ[i]?).getD none|none=>none)[j]?=some (some v):=e2
  rw[Ni] at e2'
  cases ec:cap[j]? with
  |none=>rw[ec] at e2';cases e2'
  | some oi=>
   rw[ec] at e2'
   cases oi with
   |none=>cases e2'
   | some i=>
    have e4:(σ[i]?).getD none=some v:=Option.some.inj e2'
    have e5: σ[i]?=some (some v):=by
     cases q: σ[i]? with
     |none=>rw[q] at e4;cases e4
     |some w=>rw[q] at e4;exact congrArg some e4
    obtain⟨h1,hf,hnc⟩:=S.cap j i x ec e1
    have hm:=PySem.mem_of_lookup hf
    have h2:=S.free _ hm rfl
    obtain⟨mo,_,hl⟩:=I.loc
    obtain⟨u,ru,lk⟩:=hl i x v h1 e5 (.inr h2)
    have h3:(relabel scope X.env).names.lookup x=some .cell∨(relabel scope X.env).names.lookup x=some .free:=by
     rw[kdm I.ok.kind]
     exact kjN hf
    refine⟨u,ru, .inr ⟨h3,?_⟩⟩
    rcases lk with⟨k1,_⟩|⟨_,c,ec',z⟩
    ·have k1':X.env.scope.names.lookup x=some .local:=k1
     rcases h2 with h2|h2 <;> rw[h2] at k1' <;> cases k1'
    ·obtain⟨c',ec2⟩:=kc1 (cells:=X.env.cells) scope.names [] (.inl hm)
     have ec3:(kd5 X scope C).lookup x=some c':=by
      unfold kd5
      rw[kcI _ _ _ hnc]
      exact ec2
     rcases ker _ _ ec2 with⟨_,q2⟩|q2
     ·rw[ec'] at q2
      have q3:c'=c:=q2
      subst q3
      obtain⟨oc,ho,hd⟩:=z
      exact⟨c',ec3,oc,hk _ _ ho,hd⟩
     ·cases q2
 ·rcases kcd S I e with q|q
  ·exact⟨none,(nw q).1⟩
  ·obtain⟨v,oc,ho,hd⟩:=I.cell x c q
   exact⟨v,oc,hk _ _ ho,hd⟩
 ·rcases kcd S I e with q|q
  ·exact I.hok.fresh (Nk hC (Nq (nw q).2))
  ·exact I.freeC x c q
 ·have e:p=(D,o):=by simpa[cxC] using hp
  subst e
  exact⟨eD,I.hok.fresh hD,hDC,fun hz=>absurd (kjn I hz) (Nat.not_lt.mpr hD),hcell⟩
 ·show(cap.map _).length=N.length
  rw[Nb,S.len]
theorem comp_back{fp:List Addr}{C:Addr}{σ':St}{H':Hp}{s':Shared}(I:Inv X pins σ H s)(f:∀b∈fp,FpOk X pins H b)(J:Inv (cxC X scope N fp s H C) [] σ' H' s'):Inv X pins σ H' s':=
 I.call' (ch:=fp) J.os J.base J.hok J.bare fun b hb=>let⟨_,h1,_,h3,h4,h5⟩:=f b hb;⟨h3,h1,h4,h5⟩
end
noncomputable def PIf(X:Cx)(ifs:List Expr)(t:TT):Prop:=∀(pins:List (Addr×Obj))(s:Shared)(σ:St)(H:Hp)(Q:Bool→Hp→Prop),Inv X pins σ H s→t σ H Q→
 wpAny (model X.prog X.w) X.A (forIn ifs true fun c r=>if r=true then do let ok ←isTrue c X.env (eval c X.env);pure (ForInStep.yield ok) else pure (ForInStep.yield r)) (TP X pins σ Q) X.xe s
noncomputable def tYes:TT:=fun _ H Q=>Q true H
noncomputable def kjR{X:Cx}:PIf X [] tYes:=fun _ _ _ H _ I h=>wpAny_tests_nil ⟨H,I,h⟩
noncomputable def khu{X:Cx}{c:Expr}{t:TT}(h:PT X c t):PIf X [c] t:=fun pins s σ H Q I hw=>wpAny_tests_one (h pins s σ H Q I hw)
theorem kgX{prog:Program}{w:World}{A:Around}{R:Result→Shared→Prop}{s:Shared}{elt target iter:Expr}{ifs:List Expr}{scope:Scope}{pos:Pos}{it acc:Value}{env:Env}(I:Nat→Shared→Prop)
  (turn:∀n s,I n s→wpAny (model prog w) A (pyNext it) (fun r s₁=>match r with
   |none=>R (.ok .next) s₁
   | some v=>wpAny (model prog w) A (letOwnedTupleGo target it v) (fun _ s₁'=>wpAny (model prog w) A (assign target env v) (fun _ s₂=>
     wpAny (model prog w) A (forIn ifs true fun c r=>if r=true then do let ok ←isTrue c env (eval c env);pure (ForInStep.yield ok) else pure (ForInStep.yield r)) (fun ok s₂'=>
      if ok=true then wpAny (model prog w) A (eval elt env) (fun x s₃=>
       wpAny (model prog w) A (call (.builtin "list.append") [acc,x]) (fun _ s₄=>∃m,m<n∧I m s₄) (fun _ _=>False) s₃) (fun _ _=>False) s₂'
      else ∃m,m<n∧I m s₂') (fun _ _=>False) s₂) (fun _ _=>False) s₁') (fun _ _=>False) s₁) (fun _ _=>False) s)
  (n:Nat) (h:I n s):codeAny (model prog w) A (.compLoop (.ListComp elt [⟨target,iter,ifs,0⟩] scope pos) 0 it acc env) R s:=by
 refine codeAny_loop rfl I (fun n s hI=>?_) n h
 show wpAny _ _ ((compTurn (.ListComp elt [⟨target,iter,ifs,0⟩] scope pos) 0 it acc env).onRaise (fun x=>do noteFrame x env;theTreesLotGoes x)) _ _ s
 refine wpAny_noted ?_
 rw[compTurn_list]
 refine wpAny_bind (wpAny_standAt (wpAny_bind (wpAny_mono (turn n s hI) (fun r s₁ h₁=>?_) fun _ _ h'=>h'.elim)))
 cases r with
 |none=>exact wpAny_pure h₁
 | some v=>
  refine wpAny_bind (wpAny_mono h₁ (fun _ s₁' h₁'=>?_) fun _ _ h'=>h'.elim)
  refine wpAny_bind (wpAny_mono h₁' (fun _ s₂ h₂=>wpAny_bind (wpAny_mono h₂ (fun ok s₂' h₂'=>?_) fun _ _ h'=>h'.elim)) fun _ _ h'=>h'.elim)
  cases ok with
  |false=>exact wpAny_pure ⟨rfl,h₂'⟩
  |true=>
   exact wpAny_bind (wpAny_bind (wpAny_mono h₂' (fun x s₃ h₃=>wpAny_bind (wpAny_mono h₃ (fun _ s₄ h₄=>wpAny_pure (wpAny_pure ⟨rfl,h₄⟩)) fun _ _ h'=>h'.elim)) fun _ _ h'=>h'.elim))
noncomputable def kln(wi:TI)(cap:List (Option Nat))(g:TG)(tt:TT)(te:TE):TE:=fun σ H Q=>wi σ H fun J H1=>∃W:Nat→Nat→St→List V→Hp→Prop,(∃m,W 0 m (capσ cap σ) [] H1)∧∀i m σ' ys H',W i m σ' ys H'→
 (J.stop i H'∧∀D,H' D=none→Q (.ref D) (upd H' D (.lst ys)))∨(J.go i H'∧ys.length<sizeLine∧∃(N:St→V→Hp→Prop)(N0:St→Hp→Prop),(∀σ2 y H4,N σ2 y H4→∃m',m'<m∧W (i+1) m' σ2 (ys++[y]) H4)∧(∀σ2 H4,N0 σ2 H4→∃m',m'<m∧W (i+1) m' σ2 ys H4)∧
  ∀x H2,J.yld i H' x H2→g x σ' H2 fun σ2 H3=>tt σ2 H3 fun b H4=>if b=true then te σ2 H4 (N σ2) else N0 σ2 H4)
noncomputable def tComp(wi:TI)(cap:List (Option Nat))(g:TG)(te:TE):TE:=fun σ H Q=>wi σ H fun J H1=>∃W:Nat→Nat→St→List V→Hp→Prop,(∃m,W 0 m (capσ cap σ) [] H1)∧∀i m σ' ys H',W i m σ' ys H'→
 (J.stop i H'∧∀D,H' D=none→Q (.ref D) (upd H' D (.lst ys)))∨(J.go i H'∧ys.length<sizeLine∧∃N:St→V→Hp→Prop,(∀σ2 y H4,N σ2 y H4→∃m',m'<m∧W (i+1) m' σ2 (ys++[y]) H4)∧
  ∀x H2,J.yld i H' x H2→g x σ' H2 fun σ2 H3=>te σ2 H3 (N σ2))
section
variable {X:Cx} {scope:Scope} {N:List Str} {cap:List (Option Nat)} {pins:List (Addr×Obj)} {σ:St} {H2:Hp} {s2:Shared} {tg elt iter:Expr} {ifs:List Expr} {pos:Pos} {g:TG} {tt:TT} {te:TE}
theorem kc5{fp:List Addr}{it:Addr}{tn:Nat→Heap→Prop}{J:It}{Q:VK}{RR:Value→Addr→Result→Shared→Prop}{E:Value→Shared→Prop}(S:CompScope X scope N cap)(hc:X.calm=true)
  (hg:∀fp s H C,PG (cxC X scope N fp s H C) tg g) (ht:∀fp s H C,PIf (cxC X scope N fp s H C) ifs tt) (he:∀fp s H C,PE (cxC X scope N fp s H C) elt te)
  (I2:Inv X pins σ H2 s2) (T:Turn X.prog X.w X.K tg J fp it tn) (st2:tn 0 s2.heap) (f2:∀b∈fp,FpOk X pins H2 b)
  (W:Nat→Nat→St→List V→Hp→Prop) {m0:Nat} (w0:W 0 m0 (capσ cap σ) [] H2)
  (turn:∀i m σ' ys H',W i m σ' ys H'→(J.stop i H'∧∀D,H' D=none→Q (.ref D) (upd H' D (.lst ys)))∨(J.go i H'∧ys.length<sizeLine∧∃(N:St→V→Hp→Prop)(N0:St→Hp→Prop),(∀σ2 y H4,N σ2 y H4→∃m',m'<m∧W (i+1) m' σ2 (ys++[y]) H4)∧(∀σ2 H4,N0 σ2 H4→∃m',m'<m∧W (i+1) m' σ2 ys H4)∧
   ∀x H2,J.yld i H' x H2→g x σ' H2 fun σ2 H3=>tt σ2 H3 fun b H4=>if b=true then te σ2 H4 (N σ2) else N0 σ2 H4))
  (hRR:∀(D C:Addr)(H':Hp)(s':Shared)(m:Str→Option Value),Inv X pins σ H' s'→FpOk X pins H' C→C≠D→s'.heap.Ns C m→Q (.ref D) H'→RR (.ref D) C (.ok .next) s'):
  wpAny (model X.prog X.w) X.A (newList []) (fun acc s₃=>wpAny (model X.prog X.w) X.A (newFunctionEnv scope X.env.globals (closL X.env.cells scope.names []) [] X.env.qual none .none (some X.env)) (fun cenv s₄=>
   codeAny (model X.prog X.w) X.A (.compStart (.ListComp elt [⟨tg,iter,ifs,0⟩] scope pos) 0 (.ref it) acc {cenv with scope:=relabel scope X.env}) (RR acc cenv.locals) s₄) E s₃) E s2:=by
 refine wpAny_newObj_type (kf5 ?_)
 dsimp only
 generalize hP:s2.heap.push {cls:=.type "list",dict:=none,data:=.seq ([]:List Value).toArray}=P
 have hnew:CellsOk (pushCells (P.push {cls:=.type "dict",data:=.dict #[]}) scope.names) (P.objs.size+1) (cellsFrom (P.objs.size+1) scope.names []):=by
  have q:=cellsFrom_ok scope.names (P.push {cls:=.type "dict",data:=.dict #[]}) (P.objs.size+1) [] ⟨fun _ _ hm=>(nomatch hm),MF.nil⟩ (by rw[Heap.size_push];exact Nd _)
  rwa [Heap.size_push] at q
 have hns₁:(pushCells (P.push {cls:=.type "dict",data:=.dict #[]}) scope.names).Ns P.objs.size (fun _=>none):=(Heap.Ns.new P (.type "dict")).keeps (pushCells_keeps _ _)
 have keep₁:∀b o,P.get? b=some o→(pushCells (P.push {cls:=.type "dict",data:=.dict #[]}) scope.names).get? b=some o:=fun b o e=>pushCells_keeps _ _ b o (Heap.get?_push_of_some _ e)
 generalize pushCells (P.push {cls:=.type "dict",data:=.dict #[]}) scope.names=h₁ at hnew hns₁ keep₁⊢
 have hC:P.objs.size=s2.heap.objs.size+1:=by rw[←hP,Heap.size_push]
 have hDC:s2.heap.objs.size≠P.objs.size:=by rw[hC];exact NL (EZ _)
 have hCle:s2.heap.objs.size≤P.objs.size:=by rw[hC];exact MK _
 have hDle:s2.heap.objs.size≤s2.heap.objs.size:=Nd _
 have old:∀b o,s2.heap.get? b=some o→h₁.get? b=some o:=fun b o e=>keep₁ b o (hP▸Heap.get?_push_of_some _ e)
 have hacc:h₁.get? s2.heap.objs.size=some {cls:=.type "list",data:=.seq ([]:List Value).toArray}:=keep₁ _ _ (hP▸Heap.get?_push_size _ rfl)
 have hfp:∀b∈fp,b<s2.heap.objs.size:=fun b hb=>let⟨_,e,_⟩:=T.obj 0 _ st2 b hb;Heap.lt_size e
 generalize hDd:s2.heap.objs.size=D at hacc hDC hDle⊢
 rw[hDd] at hCle hC
 generalize P.objs.size=C at hnew hns₁ hC hDC hCle⊢
 have dne:∀b∈fp,D≠b:=fun b hb=>Me (hDd▸hfp b hb)
 have cne:∀b∈fp,b≠C:=fun b hb=>NL (NM (hDd▸hfp b hb) hCle)
 have stkne:∀b∈fp,b∉frs X.stack:=fun b hb hz=>by
  obtain⟨_,h1,h2,_⟩:=f2 b hb
  rcases NF.mp (I2.stkSub b hz) with e|e
  ·exact h1 e
  ·exact h2 e
 have dfs:D∉frs X.stack:=fun hz=>absurd (kjn I2 hz) (by rw[hDd];exact Mq _)
 have dcell:∀x c,(kd5 X scope C).lookup x=some c→c≠D:=fun x c e z=>by
  rcases kcd S I2 e with e|e
  ·have q:Nat.lt C c:=(hnew.empty x c (PySem.mem_of_lookup e)).2
   rw[z] at q
   exact absurd (Mx hCle q) (Mq _)
  ·obtain⟨v,q⟩:=I2.cell x c e
   have:=q.lt
   rw[z,hDd] at this
   exact absurd this (Mq _)
 have bcell:∀b∈fp,∀x c,(kd5 X scope C).lookup x=some c→c≠b:=fun b hb x c e=>by
  rcases kcd S I2 e with e|e
  ·have q:Nat.lt C c:=(hnew.empty x c (PySem.mem_of_lookup e)).2
   exact Me (Nat.lt_trans (NM (hDd▸hfp b hb) hCle) q)
  ·exact(f2 b hb).2.2.2.2.1 x c e
 have stat:∀{o:Obj}{H':Hp},(∀b∈fp,H' b=none)→∀b∈fp,FpOk (cxC X scope N fp s2 H2 C) [(D,o)] H' b:=fun {o H'} hn b hb=>
  ⟨hn b hb,cne b hb,stkne b hb, .inl hb,bcell b hb,fun p hp=>by
   have e:p=(D,o):=by simpa[cxC] using hp
   subst e
   exact dne b hb⟩
 have loop:∀s₃:Shared,s₃= {s2 with heap:=h₁}→
   codeAny (model X.prog X.w) X.A (.compLoop (.ListComp elt [⟨tg,iter,ifs,0⟩] scope pos) 0 (.ref it) (.ref D) (compEnvC scope (kd5 X scope C) C X.env)) (RR (.ref D) C) s₃:=by
  rintro s₃ rfl
  have I3:Inv (cxC X scope N fp s2 H2 C) [(D,_)] (capσ cap σ) H2 {s2 with heap:=h₁}:=
   kk5 S I2 f2 hfp old hns₁ (by rw[hDd];exact hCle) (by rw[hDd];exact Nd _) hDC hacc (fun v z=>by cases z) hnew rfl rfl
  refine kgX (fun n s'=>∃i σ' ys H' its k,Inv (cxC X scope N fp s2 H2 C) [] σ' H' s'∧tn i s'.heap∧(∀b∈fp,H' b=none)∧H' D=none∧s'.heap.get? D=some {cls:=.type "list",data:=.seq (its:List Value).toArray k}∧Vals ys its∧ys.length≤sizeLine∧W i n σ' ys H') ?_ m0
   ⟨0,_,[],H2,[],_,I3.pins_of (fun p hp=>nomatch hp),T.keep _ _ _ st2 (fun b hb o e=>old b o e),fun b hb=>(f2 b hb).1,I2.hok.fresh (by rw[hDd];exact Nd _),hacc, .nil,NO _,w0⟩
  rintro n s3 ⟨i,σ3,ys,H3,its,k,J3,st3,fr3,hD3,e3,r3,z3,w3⟩
  have J3':Inv (cxC X scope N fp s2 H2 C) [(D,{cls:=.type "list",data:=.seq its.toArray k})] σ3 H3 s3:=J3.pins_of fun p hp=>by
   have e:p=(D,{cls:=.type "list",data:=.seq its.toArray k}):=by simpa using hp
   subst e
   exact⟨e3,hD3,hDC,dfs,fun v z=>by cases z⟩
  rcases turn i n σ3 ys H3 w3 with⟨stop,qn⟩|⟨go,hlt,N',N0',hN,hN0,step⟩
  ·refine thn (T.done (cxC X scope N fp s2 H2 C) rfl rfl rfl hc i _ s3 σ3 H3 (fun _ _=>False) J3' (stat fr3) st3 stop) fun r s4 zz=>?_
   obtain⟨hr,I4⟩:=zz
   subst hr
   have e4:=(I4.pin (D,{cls:=.type "list",data:=.seq its.toArray k}) (by simp[cxC])).1
   have B:Inv X pins σ H3 s4:=comp_back I2 f2 (I4.pins_of fun p hp=>nomatch hp)
   obtain⟨m,hm,_⟩:=I4.loc
   have fD:FpOk X pins H3 D:=I2.fpOk (by rw[hDd];exact Nd _) hD3
   have B':Inv X pins σ (upd H3 D (.lst ys)) s4:=B.adopt fD (by rw[←hDd];exact I2.sz) ⟨z3,its,k,r3,e4⟩
   refine hRR D C _ s4 m B' (I2.fpOk (by rw[hDd];exact hCle) ?_) hDC.symm hm (qn D hD3)
   rw[kak hDC.symm]
   exact I4.free
  ·refine thn (T.item (cxC X scope N fp s2 H2 C) rfl rfl rfl hc i _ s3 σ3 H3 (fun _ _=>False) J3' (stat fr3) st3 go) fun r s4 zz=>?_
   obtain⟨u,hr,h4⟩:=zz
   subst hr
   refine thn h4 fun _ s5 zz=>?_
   obtain⟨x,H5,I5,r5,y5,st5,fr5⟩:=zz
   have I5':=I5.pinned (stat fr5) (T.obj _ _ st5)
   refine thn (hg fp s2 H2 C _ s5 σ3 H5 x u _ I5' r5 (step x H5 y5)) fun _ s6 zz=>?_
   obtain⟨σ6,H6,I6,q6⟩:=zz
   refine thn (ht fp s2 H2 C _ s6 σ6 H6 _ I6 q6) fun ok s6' zz=>?_
   obtain⟨H6',I6',q6'⟩:=zz
   cases ok with
   | false=>
    have q6':N0' σ6 H6':=by simpa using q6'
    obtain⟨m',hm',w7⟩:=hN0 σ6 H6' q6'
    have p7:=I6'.pin (D,{cls:=.type "list",data:=.seq its.toArray k}) (by simp[cxC])
    have e7:s6'.heap.get? D=some {cls:=.type "list",data:=.seq its.toArray k}:=p7.1
    have pf:∀b∈fp,∀o,s5.heap.get? b=some o→s6'.heap.get? b=some o∧H6' b=none:=fun b hb o e=>
     let z:=I6'.pin (b,o) (NS _ (NS _ (kc3 hb e)))
     ⟨z.1,z.2.1⟩
    refine⟨m',hm',i+1,σ6,ys,H6',its,_,I6'.pins_of (fun p hp=>nomatch hp),T.keep _ _ _ st5 (fun b hb o e=>(pf b hb o e).1),fun b hb=>?_,p7.2.1,e7,r3,z3,w7⟩
    obtain⟨o,e,_⟩:=T.obj _ _ st5 b hb
    exact(pf b hb o e).2
   |true=>
   have q6':te σ6 H6' (N' σ6):=by simpa using q6'
   refine thn (he fp s2 H2 C _ s6' σ6 H6' _ I6' q6') fun v s7 zz=>?_
   obtain⟨y,H7,I7,r7,q7⟩:=zz
   obtain⟨m',hm',w7⟩:=hN σ6 y H7 q7
   have p7:=I7.pin (D,{cls:=.type "list",data:=.seq its.toArray k}) (by simp[cxC])
   have e7:s7.heap.get? D=some {cls:=.type "list",data:=.seq its.toArray k}:=p7.1
   have hl7:=r3.length
   refine call_meets F.slot_list_append ⟨_,e7,rfl⟩ F.entry_list_append (F.args_list_append_2 _ _) (PySem.list_append D its.toArray k v (by rw[NG];omega)) ⟨e7,?_⟩
   have q8:=PySem.IsL.update e7 (·.push v)
   have ex8:its.toArray.push v=(its++[v]).toArray:=by simp
   rw[ex8] at q8
   have pf:∀b∈fp,∀o,s5.heap.get? b=some o→s7.heap.get? b=some o∧H7 b=none:=fun b hb o e=>
    let z:=I7.pin (b,o) (NS _ (NS _ (kc3 hb e)))
    ⟨z.1,z.2.1⟩
   have I7':Inv (cxC X scope N fp s2 H2 C) [] σ6 H7 s7:=I7.pins_of fun p hp=>nomatch hp
   refine⟨m',hm',i+1,σ6,ys++[y],H7,its++[v],_,I7'.turned (it:=D) (fun b o hb e=>(Heap.get?_update_other _ _ (Ne.symm hb)).trans e) p7.2.1 hDC (.inr (by show s2.heap.objs.size≤D;rw[hDd];exact Nd _)) dcell (fun p hp=>nomatch hp),
    T.keep _ _ _ st5 (fun b hb o e=>(Heap.get?_update_other _ _ (dne b hb)).trans (pf b hb o e).1),fun b hb=>?_,p7.2.1,q8,r3.append (.cons r7 .nil),by rw[Nr,Ml];omega,w7⟩
   obtain⟨o,e,_⟩:=T.obj _ _ st5 b hb
   exact(pf b hb o e).2
 have st1:tn 0 h₁:=T.keep _ _ _ st2 (fun b hb o e=>old b o e)
 exact codeAny_compStart_list (loop _ rfl) (T.self X.A 0 _ _ _ st1 (loop _ rfl))
theorem kil{wi:TI}(S:CompScope X scope N cap)(hc:X.calm=true)(hi:PI X tg iter wi)(hg:∀fp s H C,PG (cxC X scope N fp s H C) tg g)(ht:∀fp s H C,PIf (cxC X scope N fp s H C) ifs tt)(he:∀fp s H C,PE (cxC X scope N fp s H C) elt te)
  (hs:∀x,foldedSetIterable iter X.env x=pure x:=by intro _;rfl):PE X (.ListComp elt [⟨tg,iter,ifs,0⟩] scope pos) (kln wi cap g tt te):=by
 intro pins s σ H Q I h
 rw[eval_ListComp]
 refine wpAny_comprehension_free (use:=none) rfl hs (kcA S I) S.kind S.names (thn (hi pins s σ H _ I h) fun v s1 h1=>thn h1 fun itv s2 h2=>?_)
 obtain⟨it,fp,tn,J,H2,e,I2,T,st2,f2,W,⟨m0,w0⟩,turn⟩:=h2
 subst e
 refine kc5 (RR:=fun acc C=>compPost (model X.prog X.w) X.A X.xe none (EP X pins σ Q) acc C) S hc hg ht he I2 T st2 f2 W w0 turn fun D C H' s' m B fC hCD hm q=>?_
 obtain⟨c0,c1,c2,c3,c4,c5⟩:=fC
 exact⟨m,hm,fun h' hs'=>⟨.ref D,H',B.turned (t':=s'.toks) (fun b o hb e=>(hs'.2 b hb).trans e) c0 c1 c3 c4 c5,rfl,q⟩⟩
theorem kkM{wi:TI}{i:Nat}{y:Str}{py spos:Pos}(S:CompScope X scope N cap)(hc:X.calm=true)(hi:PI X tg iter wi)(hg:∀fp s H C,PG (cxC X scope N fp s H C) tg g)(ht:∀fp s H C,PIf (cxC X scope N fp s H C) ifs tt)(he:∀fp s H C,PE (cxC X scope N fp s H C) elt te)
  (hA:PG X (.Name y py) (gName i)) (hsw:swapsWith (.ListComp elt [⟨tg,iter,ifs,0⟩] scope pos) (some (.Name y py)) spos.line X.env=pure true:=by rfl)
  (hs:∀x,foldedSetIterable iter X.env x=pure x:=by intro _;rfl):PS X (.Assign [.Name y py] (.ListComp elt [⟨tg,iter,ifs,0⟩] scope pos) spos) (tAsg (kln wi cap g tt te) (gName i)):=by
 intro pins s σ H D I h
 rw[exec_Assign_Name_used _ _ _ _ hsw]
 refine wpAny_bind (wpAny_standAt (wpAny_bind ?_))
 show wpAny _ X.A (do let _ ←comprehension (.ListComp elt [⟨tg,iter,ifs,0⟩] scope pos) scope X.env _ (newList []) false (eval iter X.env) (some (assign (.Name y py) X.env))) _ _ s
 refine wpAny_bind (wpAny_mono (wpAny_comprehension_free (use:=some (assign (.Name y py) X.env)) (Q:=fun _ s'=>SP X pins D .next s') rfl hs (kcA S I) S.kind S.names
  (thn (hi pins s σ H _ I h) fun v s1 h1=>thn h1 fun itv s2 h2=>?_)) (fun _ s' hq=>wpAny_pure (wpAny_pure hq)) fun _ _ e=>e)
 obtain⟨it,fp,tn,J,H2,e,I2,T,st2,f2,W,⟨m0,w0⟩,turn⟩:=h2
 subst e
 refine kc5 (Q:=fun v H'=>gName i v σ H' D.nx) (RR:=fun acc C=>compPost (model X.prog X.w) X.A X.xe (some (assign (.Name y py) X.env)) (fun _ s'=>SP X pins D .next s') acc C) S hc hg ht he I2 T st2 f2 W w0 turn fun D' C H' s' m B fC hCD hm q=>?_
 obtain⟨c0,c1,c2,c3,c4,c5⟩:=fC
 obtain⟨oC,es,ep,eC,dC,kC⟩:=hm
 have B':Inv X (pins++[(C,oC)]) σ H' s':=B.pins_of fun p hp=>by
  rcases NR.mp hp with hp|hp
  ·exact B.pin p (NS _ hp)
  ·have e:p=(C,oC):=by simpa using hp
   subst e
   exact⟨eC,c0,c1,c2,fun v z=>by rw[dC] at z;cases z⟩
 refine thn (hA _ s' σ H' (.ref D') (.ref D') _ B' rfl q) fun _ s'' zz=>?_
 obtain⟨σ2,H3,I3,q3⟩:=zz
 obtain⟨e3,n3,_⟩:=I3.pin (C,oC) (NS _ (NS _ (by simp)))
 exact⟨m,⟨oC,es,ep,e3,dC,kC⟩,fun h' hs'=>⟨σ2,H3,I3.unpinned.turned (t':=s''.toks) (fun b o hb e=>(hs'.2 b hb).trans e) n3 c1 c3 c4 c5,q3⟩⟩
theorem kgW{J:It}{Q:VK}{W:Nat→Nat→St→List V→Hp→Prop}(h:∀i m σ' ys H',W i m σ' ys H'→(J.stop i H'∧∀D,H' D=none→Q (.ref D) (upd H' D (.lst ys)))∨(J.go i H'∧ys.length<sizeLine∧∃N:St→V→Hp→Prop,(∀σ2 y H4,N σ2 y H4→∃m',m'<m∧W (i+1) m' σ2 (ys++[y]) H4)∧
   ∀x H2,J.yld i H' x H2→g x σ' H2 fun σ2 H3=>te σ2 H3 (N σ2))):∀i m σ' ys H',W i m σ' ys H'→(J.stop i H'∧∀D,H' D=none→Q (.ref D) (upd H' D (.lst ys)))∨(J.go i H'∧ys.length<sizeLine∧∃(N:St→V→Hp→Prop)(N0:St→Hp→Prop),(∀σ2 y H4,N σ2 y H4→∃m',m'<m∧W (i+1) m' σ2 (ys++[y]) H4)∧(∀σ2 H4,N0 σ2 H4→∃m',m'<m∧W (i+1) m' σ2 ys H4)∧
   ∀x H2,J.yld i H' x H2→g x σ' H2 fun σ2 H3=>tYes σ2 H3 fun b H4=>if b=true then te σ2 H4 (N σ2) else N0 σ2 H4):=by
 intro i m σ' ys H' w
 rcases h i m σ' ys H' w with h|⟨go,hl,N,hN,st⟩
 ·exact .inl h
 ·refine .inr ⟨go,hl,N,fun _ _=>False,hN,(fun _ _ z=>z.elim),fun x H2 y=>?_⟩
  have e:(fun(σ2:St)(H3:Hp)=>tYes σ2 H3 fun b H4=>if b=true then te σ2 H4 (N σ2) else False)=fun σ2 H3=>te σ2 H3 (N σ2):=by
   funext σ2 H3
   show(if true=true then te σ2 H3 (N σ2) else False)=te σ2 H3 (N σ2)
   rw[if_pos rfl]
  rw[e]
  exact st x H2 y
theorem kbp{wi:TI}(S:CompScope X scope N cap)(hc:X.calm=true)(hi:PI X tg iter wi)(hg:∀fp s H C,PG (cxC X scope N fp s H C) tg g)(he:∀fp s H C,PE (cxC X scope N fp s H C) elt te)
  (hs:∀x,foldedSetIterable iter X.env x=pure x:=by intro _;rfl):PE X (.ListComp elt [⟨tg,iter,[],0⟩] scope pos) (tComp wi cap g te):=by
 intro pins s σ H Q I h
 rw[eval_ListComp]
 refine wpAny_comprehension_free (use:=none) rfl hs (kcA S I) S.kind S.names (thn (hi pins s σ H _ I h) fun v s1 h1=>thn h1 fun itv s2 h2=>?_)
 obtain⟨it,fp,tn,J,H2,e,I2,T,st2,f2,W,⟨m0,w0⟩,turn⟩:=h2
 subst e
 refine kc5 (RR:=fun acc C=>compPost (model X.prog X.w) X.A X.xe none (EP X pins σ Q) acc C) S hc hg (fun _ _ _ _=>kjR) he I2 T st2 f2 W w0 (kgW turn) fun D C H' s' m B fC hCD hm q=>?_
 obtain⟨c0,c1,c2,c3,c4,c5⟩:=fC
 exact⟨m,hm,fun h' hs'=>⟨.ref D,H',B.turned (t':=s'.toks) (fun b o hb e=>(hs'.2 b hb).trans e) c0 c1 c3 c4 c5,rfl,q⟩⟩
theorem kcs{wi:TI}{i:Nat}{y:Str}{py spos:Pos}(S:CompScope X scope N cap)(hc:X.calm=true)(hi:PI X tg iter wi)(hg:∀fp s H C,PG (cxC X scope N fp s H C) tg g)(he:∀fp s H C,PE (cxC X scope N fp s H C) elt te)
  (hA:PG X (.Name y py) (gName i)) (hsw:swapsWith (.ListComp elt [⟨tg,iter,[],0⟩] scope pos) (some (.Name y py)) spos.line X.env=pure true:=by rfl)
  (hs:∀x,foldedSetIterable iter X.env x=pure x:=by intro _;rfl):PS X (.Assign [.Name y py] (.ListComp elt [⟨tg,iter,[],0⟩] scope pos) spos) (tAsg (tComp wi cap g te) (gName i)):=by
 intro pins s σ H D I h
 rw[exec_Assign_Name_used _ _ _ _ hsw]
 refine wpAny_bind (wpAny_standAt (wpAny_bind ?_))
 show wpAny _ X.A (do let _ ←comprehension (.ListComp elt [⟨tg,iter,[],0⟩] scope pos) scope X.env _ (newList []) false (eval iter X.env) (some (assign (.Name y py) X.env))) _ _ s
 refine wpAny_bind (wpAny_mono (wpAny_comprehension_free (use:=some (assign (.Name y py) X.env)) (Q:=fun _ s'=>SP X pins D .next s') rfl hs (kcA S I) S.kind S.names
  (thn (hi pins s σ H _ I h) fun v s1 h1=>thn h1 fun itv s2 h2=>?_)) (fun _ s' hq=>wpAny_pure (wpAny_pure hq)) fun _ _ e=>e)
 obtain⟨it,fp,tn,J,H2,e,I2,T,st2,f2,W,⟨m0,w0⟩,turn⟩:=h2
 subst e
 refine kc5 (Q:=fun v H'=>gName i v σ H' D.nx) (RR:=fun acc C=>compPost (model X.prog X.w) X.A X.xe (some (assign (.Name y py) X.env)) (fun _ s'=>SP X pins D .next s') acc C) S hc hg (fun _ _ _ _=>kjR) he I2 T st2 f2 W w0 (kgW (Q:=fun v H'=>gName i v σ H' D.nx) turn) fun D' C H' s' m B fC hCD hm q=>?_
 obtain⟨c0,c1,c2,c3,c4,c5⟩:=fC
 obtain⟨oC,es,ep,eC,dC,kC⟩:=hm
 have B':Inv X (pins++[(C,oC)]) σ H' s':=B.pins_of fun p hp=>by
  rcases NR.mp hp with hp|hp
  ·exact B.pin p (NS _ hp)
  ·have e:p=(C,oC):=by simpa using hp
   subst e
   exact⟨eC,c0,c1,c2,fun v z=>by rw[dC] at z;cases z⟩
 refine thn (hA _ s' σ H' (.ref D') (.ref D') _ B' rfl q) fun _ s'' zz=>?_
 obtain⟨σ2,H3,I3,q3⟩:=zz
 obtain⟨e3,n3,_⟩:=I3.pin (C,oC) (NS _ (NS _ (by simp)))
 exact⟨m,⟨oC,es,ep,e3,dC,kC⟩,fun h' hs'=>⟨σ2,H3,I3.unpinned.turned (t':=s''.toks) (fun b o hb e=>(hs'.2 b hb).trans e) n3 c1 c3 c4 c5,q3⟩⟩
end
section
variable {g:TG} {te:TE} {σ:St} {H:Hp} {R:List V→Hp→Addr→Prop}
theorem kaL{K:Nc}{a:Addr}{xs:List V}(Pv:Nat→St→List V→Hp→Prop)(h0:Pv 0 σ [] H)(hz:xs.length≤sizeLine)(hl:∀i σ ys H,i≤xs.length→Pv i σ ys H→SqL K H a xs∧ys.length=i)
  (hs:∀i x σ ys H,xs[i]?=some x→Pv i σ ys H→g x σ H fun σ2 H2=>te σ2 H2 fun y H3=>Pv (i+1) σ2 (ys++[y]) H3) (hd:∀σ ys H,Pv xs.length σ ys H→∀D,H D=none→R ys H D):
  ∃ W:Nat→Nat→St→List V→Hp→Prop,(∃m,W 0 m σ [] H)∧∀i m σ' ys H',W i m σ' ys H'→
   ((Itl K a).stop i H'∧∀D,H' D=none→R ys H' D)∨((Itl K a).go i H'∧ys.length<sizeLine∧∃N:St→V→Hp→Prop,(∀σ2 y H4,N σ2 y H4→∃m',m'<m∧W (i+1) m' σ2 (ys++[y]) H4)∧
    ∀x H2,(Itl K a).yld i H' x H2→g x σ' H2 fun σ2 H3=>te σ2 H3 (N σ2)):=by
 refine⟨fun i m σ ys H=>m=xs.length-i∧i≤xs.length∧Pv i σ ys H,⟨xs.length,by simp,NO _,h0⟩,?_⟩
 rintro i m σ ys H ⟨rfl,hi,p⟩
 obtain⟨q,el⟩:=hl i σ ys H hi p
 by_cases hlt:i<xs.length
 ·refine .inr ⟨⟨xs,xs[i],q,by simp[hlt]⟩,by omega,fun σ2 y H3=>Pv (i+1) σ2 (ys++[y]) H3,fun σ' y H' p'=>⟨xs.length-(i+1),by omega,rfl,hlt,p'⟩,fun x H' yl=>?_⟩
  obtain⟨e,yl⟩:=yl
  subst e
  exact hs i x σ ys _ (yl xs q) p
 ·have e:i=xs.length:=by omega
  subst e
  exact .inl ⟨⟨xs,q,Nd _⟩,hd σ ys H p⟩
theorem kfE{lo:Int}{n:Nat}(Pv:Nat→St→List V→Hp→Prop)(h0:Pv 0 σ [] H)(hz:n≤sizeLine)(hl:∀i σ ys H,i≤n→Pv i σ ys H→ys.length=i)
  (hs:∀i σ ys H,i<n→Pv i σ ys H→g (.int (lo+i)) σ H fun σ2 H2=>te σ2 H2 fun y H3=>Pv (i+1) σ2 (ys++[y]) H3) (hd:∀σ ys H,Pv n σ ys H→∀D,H D=none→R ys H D):
  ∃ W:Nat→Nat→St→List V→Hp→Prop,(∃m,W 0 m σ [] H)∧∀i m σ' ys H',W i m σ' ys H'→
   ((Itr lo n).stop i H'∧∀D,H' D=none→R ys H' D)∨((Itr lo n).go i H'∧ys.length<sizeLine∧∃N:St→V→Hp→Prop,(∀σ2 y H4,N σ2 y H4→∃m',m'<m∧W (i+1) m' σ2 (ys++[y]) H4)∧
    ∀x H2,(Itr lo n).yld i H' x H2→g x σ' H2 fun σ2 H3=>te σ2 H3 (N σ2)):=by
 refine⟨fun i m σ ys H=>m=n-i∧i≤n∧Pv i σ ys H,⟨n,by simp,NO _,h0⟩,?_⟩
 rintro i m σ ys H ⟨rfl,hi,p⟩
 have el:=hl i σ ys H hi p
 by_cases hlt:i<n
 ·refine .inr ⟨hlt,by omega,fun σ2 y H3=>Pv (i+1) σ2 (ys++[y]) H3,fun σ' y H' p'=>⟨n-(i+1),by omega,rfl,hlt,p'⟩,fun x H' yl=>?_⟩
  obtain⟨e,yl⟩:=yl
  subst e yl
  exact hs i σ ys _ hlt p
 ·have e:i=n:=by omega
  subst e
  exact .inl ⟨Nd _,hd σ ys H p⟩
end
theorem CompScope.plain{X:Cx}{scope:Scope}{N:List Str}(kind:scope.kind=.function)(names:∀x∈scope.names,x.2=.local→scope.names.lookup x.1=some .local)(_:∀x∈scope.names,x.2≠.cell)(nf:∀x∈scope.names,x.2≠.free)(nd:N.Nodup):
  CompScope X scope N (Nh N.length none):=by
 refine⟨kind,names,fun x hx hf=>absurd hf (nf x hx),nd,by simp,fun j i x e _=>?_⟩
 rw[E3] at e
 split at e
 ·cases e
 ·cases e
noncomputable def klO(scope:Scope)(ns:List (Str×NameKind))(XN N:List Str)(cap:List (Option Nat)):Bool:=
 scope.kind== .function&&scope.names.all (fun x=>!(x.2== .local)||scope.names.lookup x.1==some .local)&&scope.names.all (fun x=>!(x.2== .free)||(ns.lookup x.1==some .cell||ns.lookup x.1==some .free))&&decide N.Nodup&&decide (cap.length=N.length) &&
  (cap.zip N).all fun p=>match p.1 with
   |none=>true
   |some i=>XN[i]? ==some p.2&&scope.names.lookup p.2==some .free&&scope.names.all fun y=>!(y.1==p.2&&y.2== .cell)
noncomputable def CompScope.of{X:Cx}{scope:Scope}{N:List Str}{cap:List (Option Nat)}(ns:List (Str×NameKind))(XN:List Str)(hn:X.env.scope.names=ns)(hN:X.N=XN)(h:klO scope ns XN N cap=true):CompScope X scope N cap:=by
 unfold klO at h
 simp only[MY,decide_eq_true_eq,M0,Ex,Bool.not_eq_true',beq_iff_eq,beq_eq_false_iff_ne] at h
 obtain⟨⟨⟨⟨⟨h1,h2⟩,h3⟩,h4⟩,h5⟩,h6⟩:=h
 refine⟨h1,fun x hx hl=>?_,fun x hx hf=>?_,h4,h5,fun j i x e1 e2=>?_⟩
 ·rcases h2 x hx with q|q
  ·exact absurd hl q
  ·exact q
 ·rw[hn]
  rcases h3 x hx with q|q
  ·exact absurd hf q
  ·exact q
 ·have hz:(cap.zip N)[j]?=some (some i,x):=by
   rw[List.getElem?_zip_eq_some]
   exact⟨e1,e2⟩
  have q:=h6 _ (Nj hz)
  simp only[MY,beq_iff_eq,M0,Bool.not_eq_true',Bool.and_eq_false_iff,beq_eq_false_iff_ne] at q
  obtain⟨⟨q1,q2⟩,q3⟩:=q
  refine⟨by rw[hN];exact q1,q2,fun z=>?_⟩
  rcases q3 _ z with q|q
  ·exact q rfl
  ·exact q rfl
end L2
namespace L2
open PySem PySem.Spec PyProof.Rows
theorem Inv.turnedL{X:Cx}{pins:List (Addr×Obj)}{σ:St}{H:Hp}{s:Shared}{h':Heap}{t':Nat}{ch:List Addr}(I:Inv X pins σ H s)(k:∀b o,b∉ch→s.heap.get? b=some o→h'.get? b=some o)(hf:∀b∈ch,FpOk X pins H b):
  Inv X pins σ H {s with heap:=h',toks:=t'}:=by
 have nch:∀b u,H b=some u→b∉ch:=fun b u e z=>by
  have:=(hf b z).1
  rw[this] at e
  cases e
 refine I.step (g':=s.gens) (d':=s.drawn) (ch:=ch) (fun b hb=>let⟨_,h1,_,h3,h4,h5⟩:=hf b hb;⟨h3,h1,h4,h5⟩) (fun b o _ _ hc e _=>k b o hc e) (fun b o _ _ hc e _=>⟨o.slots,k b o hc e⟩) (fun _ _ _ _ n=>n)
  (fun b o hc e=>⟨o,k b o hc e⟩) (fun _ _ e=>e) (fun _ _ _ e=>e) (fun b ps e=>⟨#[],by rw[e];simp⟩) (fun m hm=>?_) (fun b u e=>?_) I.bare
 ·obtain⟨o,es,ep,ho,r⟩:=hm
  exact⟨o,es,ep,k _ o (fun z=>(hf _ z).2.1 rfl) ho,r⟩
 ·refine(I.hok b u e).stay (fun c v hc q=>k c v ?_ q) (fun _ q=>q) fun _ _ q=>q
  rcases hc with z|z
  ·rw[z];exact nch b u e
  ·exact nch c _ z
noncomputable def Ite(a:Addr):It:=⟨fun i H=>∃xs x,H a=some (.lst xs)∧xs[i]?=some x,fun i H x H'=>∃t y,H t=none∧x=.ref t∧H'=upd H t (.tup [.int i,y])∧∀xs,H a=some (.lst xs)→xs[i]?=some y,fun i H=>∃xs,H a=some (.lst xs)∧xs.length≤i⟩
theorem kjh{P:Program}{w:World}{K:Nc}{es:List Expr}{k:Nat}{pos:Pos}(a e it:Addr)(hne:e≠it):Turn P w K (.Tuple es k pos) (Ite a) [e,it] e (fun i h=>(∃old,IsEnum h e it ((i:Nat):Int) old)∧h.IsListIter it a i) where
 mem:=by simp
 obj:=fun i h st b hb=>by
  obtain⟨⟨old,he⟩,o,eo,c,d⟩:=st
  have hb':b=e∨b=it:=by simpa using hb
  rcases hb' with rfl|rfl
  ·exact⟨_,he,fun v z=>by
    have z':Data.fields _=Data.cell v:=z
    cases z'⟩
  ·exact⟨o,eo,fun v z=>by rw[d] at z;cases z⟩
 keep:=fun i h h' st k=>⟨let⟨old,he⟩:=st.1;⟨old,k e (by simp) _ he⟩,st.2.at fun o eo=>k it (by simp) o eo⟩
 item:=by
  intro X hP hw hK hc i pins s σ H E I hf st hg
  subst hP hw hK
  obtain⟨⟨old,he⟩,hit⟩:=st
  obtain⟨xs,x,hq,hx⟩:=hg
  obtain⟨its,n,r,ho,hz⟩:=I.lst hq
  obtain⟨u,hu,ru⟩:=r.get hx
  have hl:s.heap.IsList a its.toArray:=⟨_,ho,rfl,n,rfl⟩
  refine wpAny_pyNext_enum_item he hit hl (x:=u) (by simpa using hu) hne fun h1 heo hit1 ht1 hz1 hk1=>?_
  refine⟨.ref s.heap.objs.size,rfl,wpAny_letOwnedTupleGo_enum heo fun h2 he2 hs2=>?_⟩
  have hs2':Heap.SameBut e h1 h2:=hs2
  have el:e<s.heap.objs.size:=Heap.lt_size he
  have kk:∀b o,b∉[e,it]→s.heap.get? b=some o→h2.get? b=some o:=fun b o hb eo=>by
   have hb':b≠e∧b≠it:=by simpa using hb
   exact(hs2'.2 b hb'.1).trans (hk1 b o hb'.1 hb'.2 eo)
  have I1:Inv X pins σ H {s with heap:=h2,toks:=s.toks+1}:=I.turnedL (ch:=[e,it]) kk hf
  have fr:H s.heap.objs.size=none:=I.hok.fresh (Nd _)
  have ft:FpOk X pins H s.heap.objs.size:=I.fpOk (Nd _) fr
  have ht2:h2.get? s.heap.objs.size=some {cls:=.type "tuple",data:=.seq #[.int i s.toks,u]}:=(hs2'.2 _ (Me el)).trans ht1
  have I2:Inv X pins σ (upd H s.heap.objs.size (.tup [.int i,x])) {s with heap:=h2,toks:=s.toks+1}:=
   I1.adopt ft I.sz ⟨by show 2≤sizeLine;decide,[.int i s.toks,u], .cons ⟨_,rfl⟩ (.cons ru .nil),_,ht2,rfl,_,rfl⟩
  have hit2:h2.IsListIter it a (i+1):=hit1.extBut hs2'.extBut (Ne.symm hne)
  refine⟨.ref s.heap.objs.size,_,I2,rfl,⟨s.heap.objs.size,x,fr,rfl,rfl,fun ys hy=>by rw[hq] at hy;cases hy;exact hx⟩,⟨⟨u,?_⟩,hit2⟩,fun b hb=>?_⟩
  ·have e1:((i+1:Nat):Int)=(i:Int)+1:=rfl
   rw[e1]
   exact he2
  ·have hbl:b<s.heap.objs.size:=by
    have hb':b=e∨b=it:=by simpa using hb
    rcases hb' with rfl|rfl
    ·exact el
    ·obtain⟨o,eo,_⟩:=hit
     exact Heap.lt_size eo
   rw[kak (NL hbl)]
   exact(hf b hb).1
 done:=by
  intro X hP hw hK hc i pins s σ H E I hf st hg
  subst hP hw hK
  obtain⟨⟨old,he⟩,hit⟩:=st
  obtain⟨xs,hq,hx⟩:=hg
  obtain⟨its,n,r,ho,hz⟩:=I.lst hq
  have hl:s.heap.IsList a its.toArray:=⟨_,ho,rfl,n,rfl⟩
  have hlen:=r.length
  obtain⟨f0,f1,f2,f3,f4,f5⟩:=hf it (by simp)
  exact wpAny_pyNext_enum_end (I.ok.hd hc) he hit hl (by simp;omega) fun h' eb=>⟨rfl,I.turned (t':=s.toks) (fun b o hb e=>eb b o hb e) f0 f1 f3 f4 f5⟩
 self:=fun _ _ _ _ _ st h=>let⟨_,he⟩:=st.1;wpAny_pyIter_enum he h
section
variable {X:Cx}
noncomputable def iEnum(ta:TA):TI:=fun σ H R=>ta σ H fun vs H1=>∃a xs,vs=[.ref a]∧H1 a=some (.lst xs)∧R (Ite a) H1
theorem kjS{es:List Expr}{k:Nat}{tpos:Pos}{e:Expr}{ta:TA}{p pos:Pos}(hg:Gl X "enumerate")(hm:X.mg "enumerate"=none)(ha:PA X [e] ta)(he:starEach [e] X.env=(false,eval e X.env)::starEach [] X.env:=by rfl)
  (hpl:(backTo pos (starEach [] X.env)).any (·.1)=false:=by rfl):PI X (.Tuple es k tpos) (.Call (.Name "enumerate" p) [e] [] pos) (iEnum ta):=by
 intro pins s σ H R I h
 refine Call_ (kcX I hg hm boot_enumerate (PyProof.Rows.callWith_type1 (thn (ha pos pins s σ H _ I h) fun us s1 zz=>?_) he hpl))
 obtain⟨vs,H1,I1,r1,q1⟩:=zz
 obtain⟨a,xs,rfl,hq,q⟩:=q1
 obtain⟨u,rfl,rx⟩:=vals1 r1
 cases rx
 obtain⟨its,n,r,ho,hz⟩:=I1.lst hq
 refine call_enumerate_1 ho fun h' he' hit' hsz hk=>wpAny_pyIter_enum he' ?_
 have I2:Inv X pins σ H1 {s1 with heap:=h'}:=I1.kept (t':=s1.toks) hk
 refine⟨s1.heap.objs.size+1,[s1.heap.objs.size+1,s1.heap.objs.size],_,_,H1,rfl,I2,kjh a (s1.heap.objs.size+1) s1.heap.objs.size (Nat.succ_ne_self _),⟨⟨_,he'⟩,hit'⟩,fun b hb=>?_,q⟩
 have hb':b=s1.heap.objs.size+1∨b=s1.heap.objs.size:=by simpa using hb
 have hle:s1.heap.objs.size≤b:=by rcases hb' with rfl|rfl <;> omega
 exact I1.fpOk hle (I1.hok.fresh hle)
end
theorem klc{a:Addr}{xs:List V}{g:TG}{tb:TS}{D:Ends}{σ:St}{H:Hp}(Pv:Nat→St→Hp→Prop)(h0:Pv 0 σ H)(hl:∀i σ H,i≤xs.length→Pv i σ H→H a=some (.lst xs))
  (hs:∀i y t σ H,xs[i]?=some y→Pv i σ H→H t=none→g (.ref t) σ (upd H t (.tup [.int (i:Nat),y])) fun σ2 H2=>tb {D with nx:=Pv (i+1),ct:=Pv (i+1),bk:=D.nx} σ2 H2) (hd:∀σ H,Pv xs.length σ H→D.nx σ H):
  ∃W:Nat→Nat→St→Hp→Prop,(∃m,W 0 m σ H)∧∀i m σ H,W i m σ H→
   ((Ite a).stop i H∧D.nx σ H)∨((Ite a).go i H∧∃N:St→Hp→Prop,(∀σ' H',N σ' H'→∃m',m'<m∧W (i+1) m' σ' H')∧∀x H',(Ite a).yld i H x H'→g x σ H' fun σ2 H2=>tb {D with nx:=N,ct:=N,bk:=D.nx} σ2 H2):=by
 refine⟨fun i m σ H=>m=xs.length-i∧i≤xs.length∧Pv i σ H,⟨xs.length,by simp,NO _,h0⟩,?_⟩
 rintro i m σ H ⟨rfl,hi,p⟩
 have q:=hl i σ H hi p
 by_cases hlt:i<xs.length
 ·refine .inr ⟨⟨xs,xs[i],q,by simp[hlt]⟩,Pv (i+1),fun σ' H' p'=>⟨xs.length-(i+1),by omega,rfl,hlt,p'⟩,fun x H' y=>?_⟩
  obtain⟨t,y,hn,rfl,rfl,hy⟩:=y
  exact hs i y t σ _ (hy xs q) p hn
 ·have e:i=xs.length:=by omega
  subst e
  exact .inl ⟨⟨xs,q,Nd _⟩,hd σ H p⟩
section
variable {X:Cx}
end
section
variable {X:Cx}
end
end L2
namespace L2
open PySem PySem.Spec PyProof.Rows
noncomputable def ki5:typeLookup (.type "list_reverseiterator") "__len__"=pure none:=by rw[typeLookup_type,builtinLookup_eq_fast];kernel_rfl
noncomputable def kkZ:typeLookup (.type "list_reverseiterator") "__length_hint__"=pure (some (.builtin "list_reverseiterator.__length_hint__")):=by rw[typeLookup_type,builtinLookup_eq_fast];kernel_rfl
section
variable {prog:Program} {w:World} {A:Around} {E:Value→Shared→Prop} {s:Shared}
theorem kk6{it l:Addr}{i:Int}{Q:Bool→Shared→Prop}(x:s.heap.IsRevIter it l i)(h:Q false s):wpAny (model prog w) A (Builtin.List.listLengthHint (.ref it)) Q E s:=by
 unfold Builtin.List.listLengthHint
 refine wpAny_bind (wpAny_specialOf x.typeIs ki5 ?_)
 show wpAny _ A (specialOf (Value.ref it) (Str.ofString "__length_hint__") >>= _) _ _ _
 refine wpAny_bind (wpAny_specialOf x.typeIs kkZ ?_)
 generalize hid:("list_reverseiterator.__length_hint__" :String)=id0
 wp_delta
 rw[show splitId id0=some ("list_reverseiterator","__length_hint__") from by subst hid;decide +kernel]
 subst hid
 refine wpAny_bind (wpAny_isInstance (T:="list_reverseiterator") (b:=true) x.typeIs (by rw[isSubtype_type];kernel_rfl) ?_)
 refine wpAny_ite_split (fun z=>absurd z (by decide)) (fun _=>?_)
 refine wpAny_ite_split (fun _=>?_) (fun z=>absurd (by decide +kernel) z)
 refine wpAny_ite_split (fun z=>absurd z (by decide +kernel)) (fun _=>wpAny_pure h)
theorem ki9{R:Result→Shared→Prop}(hh:A.handled=none){it l S:Addr}{items:Array Value}{res:Value}{c0:Nat}(x:s.heap.IsRevIter it l ((items.size:Int)-1))(hl:s.heap.IsList l items)(hne:l≠it)(hSi:S≠it)(hSl:S≠l)(hz:items.size≤sizeLine)
  (hS:s.heap.get? S=some {cls:=.type "list",data:=.seq #[] c0})
  (hR:∀h' tk acc' c',(∀b o,b≠S→b≠it→s.heap.get? b=some o→h'.get? b=some o)→h'.get? S=some {cls:=.type "list",dict:=none,data:=.seq acc' c',slots:=#[]}→ItemsOf (fun i v=>items[items.size-1-i]?=some v) acc' items.size→
   R (.ok (.ret res)) {s with heap:=h',toks:=tk}):
  wpAny (model prog w) A.in1 (Builtin.List.listExtendWith (.ref S) (.ref it) res)
   (fun fin s'=>match fin with| .done f=>R (.ok f) s'| .again c'=>c'.quiet=true∧codeAny (model prog w) A c' R s') (fun e s'=>R (.error e) s') s:=by
 unfold Builtin.List.listExtendWith
 refine wpAny_bind (wpAny_typeOf x.typeIs ?_)
 have a1:Builtin.List.listSameRef (.ref S) (.ref it)=false:=by simp[Builtin.List.listSameRef,hSi]
 have a2:(Value.type "list_reverseiterator" ==Value.type "list")=false:=by decide
 have a3:(Value.type "list_reverseiterator" ==Value.type "tuple")=false:=by decide
 simp only[a1,a2,a3,Ez,Mh,if_false]
 refine wpAny_bind (wpAny_pyIter_revIter x (wpAny_bind (wpAny_holding (kk6 x ?_))))
 rw[if_neg (by decide)]
 have W:=(Walks.listRev (prog:=prog) (w:=w) (A:=A.in1) hh it l hne items).toS
 have hSf:S∉[it,l]:=fun hm=>by
  rcases NF.mp hm with e|hm
  ·exact hSi e
  ·exact hSl (Mi.mp hm)
 have st:0≤items.size∧s.heap.IsRevIter it l ((items.size:Int)-1-((0:Nat):Int))∧s.heap.IsList l items:=⟨NO _,by rw[show(items.size:Int)-1-((0:Nat):Int)=(items.size:Int)-1 by omega];exact x,hl⟩
 refine wpAny_pure ⟨plainId_quiet F.plain_extend_loop _,codeAny_extend_loopS W hz S hSf res items.size 0 s #[] c0 rfl (NO _) st hS (ItemsOf.nil _) fun s' acc' c' hm hS' hacc=>?_⟩
 rw[Moved.eq_with hm]
 refine hR s'.heap s'.toks acc' c' (fun b o h1 h2 e=>hm.heap b o (fun q=>?_) e) hS' hacc
 rcases NF.mp q with e|q
 ·exact h1 e
 ·exact h2 (Mi.mp q)
theorem kgO{R:Result→Shared→Prop}(hh:A.handled=none){it l S:Addr}{items:Array Value}(x:s.heap.IsRevIter it l ((items.size:Int)-1))(hl:s.heap.IsList l items)(hne:l≠it)(hSi:S≠it)(hSl:S≠l)(hz:items.size≤sizeLine)
  (hS:s.heap.get? S=some {cls:=.type "list",data:=.seq #[]})
  (hR:∀h' tk acc' c',(∀b o,b≠S→b≠it→s.heap.get? b=some o→h'.get? b=some o)→h'.get? S=some {cls:=.type "list",dict:=none,data:=.seq acc' c',slots:=#[]}→ItemsOf (fun i v=>items[items.size-1-i]?=some v) acc' items.size→
   R (.ok (.ret .none)) {s with heap:=h',toks:=tk}):
  wpAny (model prog w) A.in1 (Builtin.«list.__init__» ⟨[.ref S, .ref it],[]⟩)
   (fun fin s'=>match fin with| .done f=>R (.ok f) s'| .again c'=>c'.quiet=true∧codeAny (model prog w) A c' R s') (fun e s'=>R (.error e) s') s:=by
 show wpAny _ A.in1 (do let was ←Builtin.List.listItems (.ref S);Builtin.List.listUpdate (.ref S) (fun _=>#[]);letGo was.toList.reverse;Builtin.List.listExtendWith (.ref S) (.ref it) .none) _ _ s
 refine wpAny_bind ?_
 unfold Builtin.List.listItems
 refine wpAny_bind (wpAny_seqItems hS rfl (wpAny_pure ?_))
 show wpAny _ A.in1 (updateSeq S (fun _=>#[]) >>= fun _=>letGo (#[]:Array Value).toList.reverse >>= fun _=>Builtin.List.listExtendWith (.ref S) (.ref it) .none) _ _ s
 refine wpAny_bind (wpAny_updateSeq hS rfl ?_)
 have g2:=Heap.get?_update_self (Obj.mapSeq (fun _=>(#[]:Array Value))) hS rfl
 have ot:∀b o,b≠S→s.heap.get? b=some o→(s.heap.update S (Obj.mapSeq (fun _=>(#[]:Array Value)))).get? b=some o:=fun b o hb e=>(Heap.get?_update_other _ _ (Ne.symm hb)).trans e
 refine wpAny_bind (wpAny_letGo ?_)
 refine ki9 hh (x.at fun o e=>ot it o (Ne.symm hSi) e) (hl.at fun o e=>ot l o (Ne.symm hSl) e) hne hSi hSl hz g2 fun h' tk acc' c' hk hS' hacc=>?_
 exact hR h' tk acc' c' (fun b o h1 h2 e=>hk b o h1 h2 (ot b o h1 e)) hS' hacc
theorem kge{Q:Value→Shared→Prop}(hh:A.handled=none){it l:Addr}{items:Array Value}(x:s.heap.IsRevIter it l ((items.size:Int)-1))(hl:s.heap.IsList l items)(hne:l≠it)(hz:items.size≤sizeLine)
  (hQ:∀h' tk acc' c',(∀b o,b≠it→s.heap.get? b=some o→h'.get? b=some o)→h'.get? s.heap.objs.size=some {cls:=.type "list",dict:=none,data:=.seq acc' c',slots:=#[]}→ItemsOf (fun i v=>items[items.size-1-i]?=some v) acc' items.size→
   Q (.ref s.heap.objs.size) {s with heap:=h',toks:=tk}):wpAny (model prog w) A (call (.type "list") [.ref it]) Q E s:=by
 have il:it<s.heap.objs.size:=by obtain⟨o,e,_⟩:=x;exact Heap.lt_size e
 have ll:l<s.heap.objs.size:=by obtain⟨o,e,_⟩:=hl;exact Heap.lt_size e
 refine callType_codes (Q₁:=fun u s1=>u=.ref s.heap.objs.size∧s1= {s with heap:=s.heap.push {cls:=.type "list",data:=.seq #[]}}) F.called_list (F.typeCall_list_1 _) F.entry_list_init (code_list_new _ ⟨rfl,rfl⟩) fun u s1 q=>?_
 obtain⟨rfl,rfl⟩:=q
 have hS:(s.heap.push {cls:=.type "list",data:=.seq #[]}).get? s.heap.objs.size=some {cls:=.type "list",data:=.seq #[]}:=Heap.get?_push_size _ rfl
 refine⟨⟨_,hS,rfl⟩,F.args_list_init_2 _ _,kgO (A:=A.in1) hh (x.at fun o e=>Heap.get?_push_of_some _ e) (hl.at fun o e=>Heap.get?_push_of_some _ e) hne (Me il) (Me ll) hz hS fun h' tk acc' c' hk hS' hacc=>?_⟩
 exact⟨rfl,hQ h' tk acc' c' (fun b o hb e=>hk b o (NL (Heap.lt_size e)) hb (Heap.get?_push_of_some _ e)) hS' hacc⟩
end
noncomputable def kmw{its:List Value}{acc:Array Value}(h:ItemsOf (fun i v=>its.toArray[its.toArray.size-1-i]?=some v) acc its.toArray.size):acc=its.reverse.toArray:=by
 obtain⟨h1,h2⟩:=h
 apply Array.ext'
 apply E9
 intro i
 rcases Nat.lt_or_ge i acc.size with hi|hi
 ·have e:=h2 i acc[i] (by simp[hi])
  have hi':i<its.length:=by simpa[h1] using hi
  simp only[NG,List.getElem?_toArray] at e
  rw[Da,EA hi]
  show _=its.reverse[i]?
  rw[List.getElem?_reverse hi',e]
 ·rw[Da,DB hi]
  show _=its.reverse[i]?
  rw[EB (by simpa[h1] using hi)]
section
variable {X:Cx}
noncomputable def khP(K:Nc)(te:TE):TE:=fun σ H Q=>te σ H fun v H1=>∃a xs,v=.ref a∧SqL K H1 a xs∧∀l,H1 l=none→Q (.ref l) (upd H1 l (.lst xs.reverse))
theorem kiX{e:Expr}{te:TE}{p1 p2 pos1 pos2:Pos}(hc:X.calm=true)(h1:Gl X "list")(m1:X.mg "list"=none)(h2:Gl X "reversed")(m2:X.mg "reversed"=none)(he:PE X e te)(s1:starEach [e] X.env=[(false,eval e X.env)]:=by rfl)
  (s2:starEach [.Call (.Name "reversed" p2) [e] [] pos2] X.env=[(false,eval (.Call (.Name "reversed" p2) [e] [] pos2) X.env)]:=by rfl):PE X (.Call (.Name "list" p1) [.Call (.Name "reversed" p2) [e] [] pos2] [] pos1) (khP X.K te):=by
 intro pins s σ H Q I h
 refine wpAny_Call_Name_kw (kcX I h1 m1 kbn ?_ (by decide) (by decide))
 refine PyProof.Rows.callWith_type1 ?_ s2 rfl
 rw[s2]
 refine Calls.spliced_cons (wpAny_Call_Name_kw (kcX I h2 m2 boot_reversed ?_ (by decide) (by decide)))
 refine PyProof.Rows.callWith_type1 ?_ s1 rfl
 rw[s1]
 refine Calls.spliced_cons (thn (he pins s σ H _ I h) fun u s3 ⟨v,H1,I1,r1,a,xs,ev,hq,q⟩=>Calls.spliced_nil ?_)
 subst ev
 cases r1
 obtain⟨its,r',pl,hz⟩:=I1.list hq
 have hl:=pl.isList
 have hlen:=r'.length
 have al:a<s3.heap.objs.size:=by obtain⟨_,e,_⟩:=hl;exact Heap.lt_size e
 refine call_reversed_list hl (Calls.spliced_nil ?_)
 refine kge (I1.ok.hd hc) (it:=s3.heap.objs.size) (items:=its.toArray) ⟨_,Heap.get?_push_size _ rfl,rfl,rfl⟩ (hl.push _) (NL al) (by simp;omega) fun h' tk acc' c' hk hS hacc=>?_
 have e:=kmw hacc
 subst e
 have hsz:(s3.heap.push (revObj a ((its.toArray.size:Int)-1))).objs.size=s3.heap.objs.size+1:=Heap.size_push ..
 have I2:Inv X pins σ (upd H1 (s3.heap.push (revObj a ((its.toArray.size:Int)-1))).objs.size (.lst xs.reverse)) {s3 with heap:=h',toks:=tk}:=
  I1.laid (fun b o e=>hk b o (NL (Heap.lt_size e)) (Heap.get?_push_of_some _ e)) (by rw[hsz];exact MK _) (show ObjOk X.prog X.w _ h' _ (.lst xs.reverse) from⟨by rw[EC];exact hz,its.reverse,c',r'.reverse,hS⟩)
 exact⟨.ref _,_,I2,rfl,q _ (I1.hok.fresh (by rw[hsz];exact MK _))⟩
end
section
variable {X:Cx} {CX:CXT} {k:Nat} {f C:Addr} {fd:FuncData} {ps ks:List Str} {sp:Sp} {E:XK} {x:Str} {p pos:Pos} {e:Expr} {es:List Expr} {kws:List Keyword} {t tk:TA} {g:List Value→List Value→List Value} {gV:List V→List V→List V}
end
end L2
namespace L2
open PySem PySem.Spec PyProof.Rows
noncomputable def kbg(K:Nc):List V→Hp→VK→Prop:=fun xs H Q=>∃p ys,xs=[.ref p]∧(SqL K H p ys∨SqT K H p ys)∧∀l,H l=none→Q (.ref l) (upd H l (.lst ys))
noncomputable def kaE(K:Nc):List V→Hp→VK→Prop:=fun xs H Q=>∃p ys,xs=[.ref p]∧(SqL K H p ys∨SqT K H p ys)∧Q (.int ys.length) H
noncomputable def rSum(K:Nc):List V→Hp→VK→Prop:=fun xs H Q=>∃(p:Addr)(ns:List Int),xs=[.ref p]∧SqL K H p (ns.map V.int)∧Q (.int ns.sum) H
noncomputable def rIsi(K:Nc):List V→Hp→VK→Prop:=fun xs H Q=>∃x c t b,xs=[x,c]∧((∃n,c=.ty n)∨∃a,c=.ref a)∧TyOf K H x t∧NA K t (cV c)=some b∧Q (.bl b) H
section
variable {X:Cx} {K:Nc} {pos:Pos}
theorem kaj{e:Expr}{ta:TE}{f:Str}(he:PE X e ta)(hb:attributeBase e f X.env (eval e X.env)=eval e X.env)(hK:X.K=K:=by rfl):PE X (.Attribute e f pos) (tFld K ta f):=by
 subst hK
 exact kmF he hb
theorem kaz{tg l:Expr}{tl:TE}(hl:PE X l tl)(hK:X.K=K:=by rfl):PI X tg l (iList K tl):=by
 subst hK
 exact kl9 hl
theorem kbi{es:List Expr}{k:Nat}{t:TGs}{n:Nat}(hc:X.calm=true)(h:PGs X es t)(hK:X.K=K:=by rfl)
  (hn:(assignEach es X.env).length=n:=by rfl) (hst:(assignEach es X.env).findIdx? (·.1)=none:=by rfl):PG X (.Tuple es k pos) (gTup K n t):=by
 subst hK
 exact kmC hc h hn hst
theorem kdg{e:Expr}{te:TE}{p1 p2 pos1 pos2:Pos}(hc:X.calm=true)(h1:Gl X "list")(m1:X.mg "list"=none)(h2:Gl X "reversed")(m2:X.mg "reversed"=none)(he:PE X e te)(hK:X.K=K:=by rfl)(s1:starEach [e] X.env=[(false,eval e X.env)]:=by rfl)
  (s2:starEach [.Call (.Name "reversed" p2) [e] [] pos2] X.env=[(false,eval (.Call (.Name "reversed" p2) [e] [] pos2) X.env)]:=by rfl):PE X (.Call (.Name "list" p1) [.Call (.Name "reversed" p2) [e] [] pos2] [] pos1) (khP K te):=by
 subst hK
 exact kiX hc h1 m1 h2 m2 he s1 s2
end
end L2
namespace L2
open PySem PySem.Spec PyProof.Rows
inductive DEq (K:Nc) (H:Hp):Nat→V→V→Prop
 |flat {n:Nat} {x y:V} (fx:flatV x=true) (fy:flatV y=true) (e:eqV x y=true):DEq K H n x y
 |same {n:Nat} (a:Addr):DEq K H n (.ref a) (.ref a)
 |lst {n:Nat} {a b:Addr} {xs ys:List V} (ha:SqL K H a xs) (hb:SqL K H b ys) (hl:xs.length=ys.length) (h:∀(i:Nat)(x y:V),xs[i]?=some x→ys[i]?=some y→DEq K H n x y):DEq K H (n+1) (.ref a) (.ref b)
 |tup {n:Nat} {a b:Addr} {xs ys:List V} (ha:SqT K H a xs) (hb:SqT K H b ys) (hl:xs.length=ys.length) (h:∀(i:Nat)(x y:V),xs[i]?=some x→ys[i]?=some y→DEq K H n x y):DEq K H (n+1) (.ref a) (.ref b)
noncomputable def DEq.self{K:Nc}{H:Hp}{n:Nat}{x:V}(h:flatV x=true):DEq K H n x x:=.flat h h (kiI h)
noncomputable def DEq.int{K:Nc}{H:Hp}{n:Nat}(i:Int):DEq K H n (.int i) (.int i):=.self rfl
noncomputable def DEq.bl{K:Nc}{H:Hp}{n:Nat}(i:Bool):DEq K H n (.bl i) (.bl i):=.self rfl
noncomputable def DEq.non{K:Nc}{H:Hp}{n:Nat}:DEq K H n .non .non:=.self rfl
noncomputable def DEq.str{K:Nc}{H:Hp}{n:Nat}(i:Str):DEq K H n (.str i) (.str i):=.self rfl
section
variable {X:Cx}
end
noncomputable def Itz(a b:Addr):It:=⟨fun i H=>∃xs ys x y,H a=some (.lst xs)∧H b=some (.lst ys)∧xs[i]?=some x∧ys[i]?=some y,
 fun i H v H'=>∃t x y,H t=none∧v=.ref t∧H'=upd H t (.tup [x,y])∧(∀xs,H a=some (.lst xs)→xs[i]?=some x)∧∀ys,H b=some (.lst ys)→ys[i]?=some y,
 fun i H=>∃xs ys,H a=some (.lst xs)∧H b=some (.lst ys)∧(xs.length≤i∨ys.length≤i)⟩
theorem kkI{P:Program}{w:World}{K:Nc}{es:List Expr}{k:Nat}{pos:Pos}(a b z TI TO i1 i2:Addr)(nd:[z,TI,TO,i1,i2].Nodup):
  Turn P w K (.Tuple es k pos) (Itz a b) [z,TI,TO,i1,i2] z (fun i h=>IsZip h z TI TO .none∧IsPair h TI (.ref i1) (.ref i2)∧(∃u v,IsPair h TO u v)∧h.IsListIter i1 a i∧h.IsListIter i2 b i) where
 mem:=by simp
 obj:=fun i h st b hb=>by
  obtain⟨hz,hI,⟨_,_,hO⟩,⟨o1,e1,_,d1⟩,⟨o2,e2,_,d2⟩⟩:=st
  simp only[NF,My,or_false] at hb
  rcases hb with rfl|rfl|rfl|rfl|rfl
  ·exact⟨_,hz,fun v q=>by cases(show Data.fields _=Data.cell v from q)⟩
  ·exact⟨_,hI,fun v q=>by cases(show Data.seq _ _=Data.cell v from q)⟩
  ·exact⟨_,hO,fun v q=>by cases(show Data.seq _ _=Data.cell v from q)⟩
  ·exact⟨o1,e1,fun v q=>by rw[d1] at q;cases q⟩
  ·exact⟨o2,e2,fun v q=>by rw[d2] at q;cases q⟩
 keep:=fun i h h' st kk=>by
  obtain⟨hz,hI,⟨u,v,hO⟩,h1,h2⟩:=st
  exact⟨kk z (by simp) _ hz,kk TI (by simp) _ hI,⟨u,v,kk TO (by simp) _ hO⟩,h1.at fun o e=>kk i1 (by simp) o e,h2.at fun o e=>kk i2 (by simp) o e⟩
 item:=by
  intro X hP hw hK hc i pins s σ H E I hf st hg
  subst hP hw hK
  obtain⟨hz,hI,⟨u,v,hO⟩,h1,h2⟩:=st
  obtain⟨xs,ys,x,y,ha,hb,hx,hy⟩:=hg
  obtain⟨its1,n1,r1,ho1,_⟩:=I.lst ha
  obtain⟨its2,n2,r2,ho2,_⟩:=I.lst hb
  obtain⟨u1,g1,ru1⟩:=r1.get hx
  obtain⟨u2,g2,ru2⟩:=r2.get hy
  have L1:s.heap.IsList a its1.toArray:=⟨_,ho1,rfl,n1,rfl⟩
  have L2':s.heap.IsList b its2.toArray:=⟨_,ho2,rfl,n2,rfl⟩
  have off:∀{l:Addr}{zs:List V},H l=some (.lst zs)→l∉[z,TI,TO,i1,i2]:=fun {l zs} e m=>by
   have:=(hf l m).1
   rw[this] at e
   cases e
  have oa:=off ha
  have ob:=off hb
  have nd':=nd
  simp only[Mj,NF,My,or_false,not_or,ED,and_true,not_false_eq_true] at nd' oa ob
  obtain⟨⟨nzI,nzO,nz1,nz2⟩,⟨nIO,nI1,nI2⟩,⟨nO1,nO2⟩,n12⟩:=nd'
  have D:ZipApart z TI TO i1 i2 a b:=⟨Ne.symm nzI,Ne.symm nzO,Ne.symm nz1,Ne.symm nz2,nIO,nI1,nI2,nO1,nO2,n12,oa.1,oa.2.2.1,oa.2.2.2.1,oa.2.2.2.2,ob.1,ob.2.2.1,ob.2.2.2.1,ob.2.2.2.2⟩
  refine wpAny_pyNext_zip_item D hz hI hO h1 h2 L1 L2' (x:=u1) (y:=u2) (by simpa using g1) (by simpa using g2) fun h' a1 a2 a3 a4 a5 a6 a7=>?_
  refine⟨.ref s.heap.objs.size,rfl,wpAny_letOwnedTupleGo_zip a1 fun h2' z2 s2=>?_⟩
  have s2':Heap.SameBut z h' h2':=s2
  have zl:z<s.heap.objs.size:=Heap.lt_size hz
  have kk:∀b o,b∉[z,TI,TO,i1,i2]→s.heap.get? b=some o→h2'.get? b=some o:=fun b o hb eo=>by
   simp only[NF,My,or_false,not_or] at hb
   exact(s2'.2 b hb.1).trans (a7 b o hb.1 hb.2.2.1 hb.2.2.2.1 hb.2.2.2.2 eo)
  have I1:Inv X pins σ H {s with heap:=h2',toks:=s.toks}:=I.turnedL (ch:=[z,TI,TO,i1,i2]) kk hf
  have fr:H s.heap.objs.size=none:=I.hok.fresh (Nd _)
  have ft:FpOk X pins H s.heap.objs.size:=I.fpOk (Nd _) fr
  have t2:h2'.get? s.heap.objs.size=some {cls:=.type "tuple",data:=.seq #[u1,u2]}:=(s2'.2 _ (Me zl)).trans a5
  have I2:Inv X pins σ (upd H s.heap.objs.size (.tup [x,y])) {s with heap:=h2',toks:=s.toks}:=
   I1.adopt ft I.sz ⟨by show 2≤sizeLine;decide,[u1,u2], .cons ru1 (.cons ru2 .nil),_,t2,rfl,_,rfl⟩
  have hI2:IsPair h2' TI (.ref i1) (.ref i2):=(s2'.2 _ (Ne.symm nzI)).trans (a7 TI _ (Ne.symm nzI) nIO nI1 nI2 hI)
  refine⟨.ref s.heap.objs.size,_,I2,rfl,⟨s.heap.objs.size,x,y,fr,rfl,rfl,fun ws e=>by rw[ha] at e;cases e;exact hx,fun ws e=>by rw[hb] at e;cases e;exact hy⟩,
   ⟨z2,hI2,⟨_,_,(s2'.2 _ (Ne.symm nzO)).trans a2⟩,a3.extBut s2'.extBut (Ne.symm nz1),a4.extBut s2'.extBut (Ne.symm nz2)⟩,fun b hb=>?_⟩
  have hbl:b<s.heap.objs.size:=by
   simp only[NF,My,or_false] at hb
   rcases hb with rfl|rfl|rfl|rfl|rfl
   ·exact zl
   ·exact Heap.lt_size hI
   ·exact Heap.lt_size hO
   ·obtain⟨o,e,_⟩:=h1;exact Heap.lt_size e
   ·obtain⟨o,e,_⟩:=h2;exact Heap.lt_size e
  rw[kak (NL hbl)]
  exact(hf b hb).1
 done:=by
  intro X hP hw hK hc i pins s σ H E I hf st hg
  subst hP hw hK
  obtain⟨hz,hI,⟨u,v,hO⟩,h1,h2⟩:=st
  obtain⟨xs,ys,ha,hb,hx⟩:=hg
  obtain⟨its1,n1,r1,ho1,_⟩:=I.lst ha
  obtain⟨its2,n2,r2,ho2,_⟩:=I.lst hb
  have L1:s.heap.IsList a its1.toArray:=⟨_,ho1,rfl,n1,rfl⟩
  have L2':s.heap.IsList b its2.toArray:=⟨_,ho2,rfl,n2,rfl⟩
  have hlen1:=r1.length
  have hlen2:=r2.length
  have off:∀{l:Addr}{zs:List V},H l=some (.lst zs)→l∉[z,TI,TO,i1,i2]:=fun {l zs} e m=>by
   have:=(hf l m).1
   rw[this] at e
   cases e
  have oa:=off ha
  have ob:=off hb
  have nd':=nd
  simp only[Mj,NF,My,or_false,not_or,ED,and_true,not_false_eq_true] at nd' oa ob
  obtain⟨⟨nzI,nzO,nz1,nz2⟩,⟨nIO,nI1,nI2⟩,⟨nO1,nO2⟩,n12⟩:=nd'
  have D:ZipApart z TI TO i1 i2 a b:=⟨Ne.symm nzI,Ne.symm nzO,Ne.symm nz1,Ne.symm nz2,nIO,nI1,nI2,nO1,nO2,n12,oa.1,oa.2.2.1,oa.2.2.2.1,oa.2.2.2.2,ob.1,ob.2.2.1,ob.2.2.2.1,ob.2.2.2.2⟩
  refine wpAny_pyNext_zip_end (I.ok.hd hc) D hz hI hO h1 h2 L1 L2' ?_ fun h' hk=>⟨rfl,?_⟩
  ·rcases hx with hx|hx
   ·exact .inl (by simp;omega)
   ·exact .inr (by simp;omega)
  ·refine I.turnedL (t':=s.toks) (ch:=[z,TI,TO,i1,i2]) (fun b o hb e=>?_) hf
   simp only[NF,My,or_false,not_or] at hb
   exact hk b o hb.1 hb.2.2.1 hb.2.2.2.1 hb.2.2.2.2 e
 self:=fun _ _ _ _ _ st h=>wpAny_pyIter_zip st.1 h
noncomputable def kmm(n:Nat):([n+4,n+2,n+3,n,n+1]:List Nat).Nodup:=by
 simp only[Mj,NF,My,or_false,not_or,ED,and_true,not_false_eq_true]
 omega
noncomputable def kmn{n x:Nat}(h:x∈([n+4,n+2,n+3,n,n+1]:List Nat)):n≤x:=by
 simp only[NF,My,or_false] at h
 omega
section
variable {X:Cx}
noncomputable def iZip(ta:TA):TI:=fun σ H R=>ta σ H fun vs H1=>∃a b xs ys,vs=[.ref a, .ref b]∧H1 a=some (.lst xs)∧H1 b=some (.lst ys)∧R (Itz a b) H1
theorem kmS:bootBuiltins "zip"=some (.type "zip"):=by decide +kernel
theorem keG{es:List Expr}{k:Nat}{tpos:Pos}{e1 e2:Expr}{ta:TA}{p pos:Pos}(hg:Gl X "zip")(hm:X.mg "zip"=none)(ha:PA X [e1,e2] ta)(he:starEach [e1,e2] X.env=(false,eval e1 X.env)::starEach [e2] X.env:=by rfl)
  (hpl:(backTo pos (starEach [e2] X.env)).any (·.1)=false:=by rfl):PI X (.Tuple es k tpos) (.Call (.Name "zip" p) [e1,e2] [] pos) (iZip ta):=by
 intro pins s σ H R I h
 refine Call_ (kcX I hg hm kmS (PyProof.Rows.callWith_type1 (thn (ha pos pins s σ H _ I h) fun us s1 zz=>?_) he hpl))
 obtain⟨vs,H1,I1,r1,q1⟩:=zz
 obtain⟨a,b,xs,ys,rfl,qa,qb,q⟩:=q1
 cases r1 with
 | cons ra rr=>
  cases rr with
  |cons rb rr=>
   cases rr
   cases ra
   cases rb
   obtain⟨its1,n1,_,ho1,_⟩:=I1.lst qa
   obtain⟨its2,n2,_,ho2,_⟩:=I1.lst qb
   refine call_zip_2 (xs:=its1.toArray) (ys:=its2.toArray) ⟨_,ho1,rfl,n1,rfl⟩ ⟨_,ho2,rfl,n2,rfl⟩ fun h' b1 b2 b3 b4 b5 _ hk=>wpAny_pyIter_zip b1 ?_
   have I2:Inv X pins σ H1 {s1 with heap:=h'}:=I1.kept (t':=s1.toks) hk
   refine⟨s1.heap.objs.size+4,[s1.heap.objs.size+4,s1.heap.objs.size+2,s1.heap.objs.size+3,s1.heap.objs.size,s1.heap.objs.size+1],_,_,H1,rfl,I2,kkI a b _ _ _ _ _ (kmm _),⟨b1,b2,⟨_,_,b3⟩,b4,b5⟩,fun x hx=>?_,q⟩
   have hle:s1.heap.objs.size≤x:=kmn hx
   exact I1.fpOk hle (I1.hok.fresh hle)
end
theorem khF{a b:Addr}{xs ys:List V}{g:TG}{tb:TS}{D:Ends}{σ:St}{H:Hp}(Pv:Nat→St→Hp→Prop)(h0:Pv 0 σ H)(hl:∀i σ H,i≤min xs.length ys.length→Pv i σ H→H a=some (.lst xs)∧H b=some (.lst ys))
  (hs:∀i x y t σ H,xs[i]?=some x→ys[i]?=some y→Pv i σ H→H t=none→g (.ref t) σ (upd H t (.tup [x,y])) fun σ2 H2=>tb {D with nx:=Pv (i+1),ct:=Pv (i+1),bk:=D.nx} σ2 H2) (hd:∀σ H,Pv (min xs.length ys.length) σ H→D.nx σ H):
  ∃W:Nat→Nat→St→Hp→Prop,(∃m,W 0 m σ H)∧∀i m σ H,W i m σ H→
   ((Itz a b).stop i H∧D.nx σ H)∨((Itz a b).go i H∧∃N:St→Hp→Prop,(∀σ' H',N σ' H'→∃m',m'<m∧W (i+1) m' σ' H')∧∀x H',(Itz a b).yld i H x H'→g x σ H' fun σ2 H2=>tb {D with nx:=N,ct:=N,bk:=D.nx} σ2 H2):=by
 refine⟨fun i m σ H=>m=min xs.length ys.length-i∧i≤min xs.length ys.length∧Pv i σ H,⟨min xs.length ys.length,by simp,NO _,h0⟩,?_⟩
 rintro i m σ H ⟨rfl,hi,p⟩
 obtain⟨q1,q2⟩:=hl i σ H hi p
 by_cases hlt:i<min xs.length ys.length
 ·refine .inr ⟨⟨xs,ys,xs[i]'(by omega),ys[i]'(by omega),q1,q2,by simp[show i<xs.length by omega],by simp[show i<ys.length by omega]⟩,Pv (i+1),fun σ' H' p'=>⟨min xs.length ys.length-(i+1),by omega,rfl,hlt,p'⟩,fun x H' y=>?_⟩
  obtain⟨t,x,y,hn,rfl,rfl,h1,h2⟩:=y
  exact hs i x y t σ _ (h1 _ q1) (h2 _ q2) p hn
 ·have e:i=min xs.length ys.length:=by omega
  refine .inl ⟨⟨xs,ys,q1,q2,by omega⟩,?_⟩
  rw[e] at p
  exact hd σ H p
theorem kiM{a b:Addr}{xs ys:List V}{g:TG}{te:TE}{σ:St}{H:Hp}{R:List V→Hp→Addr→Prop}(Pv:Nat→St→List V→Hp→Prop)(h0:Pv 0 σ [] H)(hz:min xs.length ys.length≤sizeLine)(hl:∀i σ zs H,i≤min xs.length ys.length→Pv i σ zs H→H a=some (.lst xs)∧H b=some (.lst ys)∧zs.length=i)
  (hs:∀i x y t σ zs H,xs[i]?=some x→ys[i]?=some y→Pv i σ zs H→H t=none→g (.ref t) σ (upd H t (.tup [x,y])) fun σ2 H2=>te σ2 H2 fun z H3=>Pv (i+1) σ2 (zs++[z]) H3) (hd:∀σ zs H,Pv (min xs.length ys.length) σ zs H→∀D,H D=none→R zs H D):
  ∃ W:Nat→Nat→St→List V→Hp→Prop,(∃m,W 0 m σ [] H)∧∀i m σ' zs H',W i m σ' zs H'→
   ((Itz a b).stop i H'∧∀D,H' D=none→R zs H' D)∨((Itz a b).go i H'∧zs.length<sizeLine∧∃N:St→V→Hp→Prop,(∀σ2 y H4,N σ2 y H4→∃m',m'<m∧W (i+1) m' σ2 (zs++[y]) H4)∧
    ∀x H2,(Itz a b).yld i H' x H2→g x σ' H2 fun σ2 H3=>te σ2 H3 (N σ2)):=by
 refine⟨fun i m σ zs H=>m=min xs.length ys.length-i∧i≤min xs.length ys.length∧Pv i σ zs H,⟨min xs.length ys.length,by simp,NO _,h0⟩,?_⟩
 rintro i m σ zs H ⟨rfl,hi,p⟩
 obtain⟨q1,q2,el⟩:=hl i σ zs H hi p
 by_cases hlt:i<min xs.length ys.length
 ·refine .inr ⟨⟨xs,ys,xs[i]'(by omega),ys[i]'(by omega),q1,q2,by simp[show i<xs.length by omega],by simp[show i<ys.length by omega]⟩,by omega,fun σ2 y H3=>Pv (i+1) σ2 (zs++[y]) H3,fun σ' y H' p'=>⟨min xs.length ys.length-(i+1),by omega,rfl,hlt,p'⟩,fun x H' yl=>?_⟩
  obtain⟨t,x,y,hn,rfl,rfl,h1,h2⟩:=yl
  exact hs i x y t σ zs _ (h1 _ q1) (h2 _ q2) p hn
 ·have e:i=min xs.length ys.length:=by omega
  refine .inl ⟨⟨xs,ys,q1,q2,by omega⟩,?_⟩
  rw[e] at p
  exact hd σ zs H p
end L2
namespace L2
open PySem PySem.Spec PyProof.Rows
section
variable {g:TG} {tt:TT} {te:TE} {σ:St} {H:Hp} {R:List V→Hp→Addr→Prop}
theorem kgc{J:It}{n:Nat}(Pv:Nat→St→List V→Hp→Prop)(h0:Pv 0 σ [] H)(hz:n≤sizeLine)(hl:∀i σ ys H,i≤n→Pv i σ ys H→ys.length≤i)(hgo:∀i σ ys H,i<n→Pv i σ ys H→J.go i H)(hst:∀σ ys H,Pv n σ ys H→J.stop n H)
  (hs:∀i σ ys H x H',i<n→Pv i σ ys H→J.yld i H x H'→g x σ H' fun σ2 H2=>tt σ2 H2 fun b H3=>if b=true then te σ2 H3 (fun y H4=>Pv (i+1) σ2 (ys++[y]) H4) else Pv (i+1) σ2 ys H3) (hd:∀σ ys H,Pv n σ ys H→∀D,H D=none→R ys H D):
  ∃ W:Nat→Nat→St→List V→Hp→Prop,(∃m,W 0 m σ [] H)∧∀i m σ' ys H',W i m σ' ys H'→
   (J.stop i H'∧∀D,H' D=none→R ys H' D)∨(J.go i H'∧ys.length<sizeLine∧∃(N:St→V→Hp→Prop)(N0:St→Hp→Prop),(∀σ2 y H4,N σ2 y H4→∃m',m'<m∧W (i+1) m' σ2 (ys++[y]) H4)∧(∀σ2 H4,N0 σ2 H4→∃m',m'<m∧W (i+1) m' σ2 ys H4)∧
    ∀x H2,J.yld i H' x H2→g x σ' H2 fun σ2 H3=>tt σ2 H3 fun b H4=>if b=true then te σ2 H4 (N σ2) else N0 σ2 H4):=by
 refine⟨fun i m σ ys H=>m=n-i∧i≤n∧Pv i σ ys H,⟨n,by simp,NO _,h0⟩,?_⟩
 rintro i m σ ys H ⟨rfl,hi,p⟩
 have el:=hl i σ ys H hi p
 by_cases hlt:i<n
 ·refine .inr ⟨hgo i σ ys H hlt p,by omega,fun σ2 y H3=>Pv (i+1) σ2 (ys++[y]) H3,fun σ2 H3=>Pv (i+1) σ2 ys H3,fun σ' y H' p'=>⟨n-(i+1),by omega,rfl,hlt,p'⟩,fun σ' H' p'=>⟨n-(i+1),by omega,rfl,hlt,p'⟩,fun x H' yl=>?_⟩
  exact hs i σ ys H x H' hlt p yl
 ·have e:i=n:=by omega
  subst e
  exact .inl ⟨hst σ ys H p,hd σ ys H p⟩
theorem kja{K:Nc}{a:Addr}{xs:List V}(Pv:Nat→St→List V→Hp→Prop)(h0:Pv 0 σ [] H)(hz:xs.length≤sizeLine)(hl:∀i σ ys H,i≤xs.length→Pv i σ ys H→SqL K H a xs∧ys.length≤i)
  (hs:∀i x σ ys H,xs[i]?=some x→Pv i σ ys H→g x σ H fun σ2 H2=>tt σ2 H2 fun b H3=>if b=true then te σ2 H3 (fun y H4=>Pv (i+1) σ2 (ys++[y]) H4) else Pv (i+1) σ2 ys H3) (hd:∀σ ys H,Pv xs.length σ ys H→∀D,H D=none→R ys H D):
  ∃ W:Nat→Nat→St→List V→Hp→Prop,(∃m,W 0 m σ [] H)∧∀i m σ' ys H',W i m σ' ys H'→
   ((Itl K a).stop i H'∧∀D,H' D=none→R ys H' D)∨((Itl K a).go i H'∧ys.length<sizeLine∧∃(N:St→V→Hp→Prop)(N0:St→Hp→Prop),(∀σ2 y H4,N σ2 y H4→∃m',m'<m∧W (i+1) m' σ2 (ys++[y]) H4)∧(∀σ2 H4,N0 σ2 H4→∃m',m'<m∧W (i+1) m' σ2 ys H4)∧
    ∀x H2,(Itl K a).yld i H' x H2→g x σ' H2 fun σ2 H3=>tt σ2 H3 fun b H4=>if b=true then te σ2 H4 (N σ2) else N0 σ2 H4):=
 kgc Pv h0 hz (fun i σ ys H hi p=>(hl i σ ys H hi p).2) (fun i σ ys H hi p=>⟨xs,xs[i],(hl i σ ys H (Nq hi) p).1,by simp[hi]⟩) (fun σ ys H p=>⟨xs,(hl _ σ ys H (Nd _) p).1,Nd _⟩)
  (fun i σ ys H x H' hi p yl=>by
   obtain⟨e,q⟩:=yl
   subst e
   exact hs i x σ ys _ (q xs (hl i σ ys _ (Nq hi) p).1) p) hd
theorem khH{lo:Int}{n:Nat}(Pv:Nat→St→List V→Hp→Prop)(h0:Pv 0 σ [] H)(hz:n≤sizeLine)(hl:∀i σ ys H,i≤n→Pv i σ ys H→ys.length≤i)
  (hs:∀i σ ys H,i<n→Pv i σ ys H→g (.int (lo+i)) σ H fun σ2 H2=>tt σ2 H2 fun b H3=>if b=true then te σ2 H3 (fun y H4=>Pv (i+1) σ2 (ys++[y]) H4) else Pv (i+1) σ2 ys H3) (hd:∀σ ys H,Pv n σ ys H→∀D,H D=none→R ys H D):
  ∃ W:Nat→Nat→St→List V→Hp→Prop,(∃m,W 0 m σ [] H)∧∀i m σ' ys H',W i m σ' ys H'→
   ((Itr lo n).stop i H'∧∀D,H' D=none→R ys H' D)∨((Itr lo n).go i H'∧ys.length<sizeLine∧∃(N:St→V→Hp→Prop)(N0:St→Hp→Prop),(∀σ2 y H4,N σ2 y H4→∃m',m'<m∧W (i+1) m' σ2 (ys++[y]) H4)∧(∀σ2 H4,N0 σ2 H4→∃m',m'<m∧W (i+1) m' σ2 ys H4)∧
    ∀x H2,(Itr lo n).yld i H' x H2→g x σ' H2 fun σ2 H3=>tt σ2 H3 fun b H4=>if b=true then te σ2 H4 (N σ2) else N0 σ2 H4):=
 kgc Pv h0 hz hl (fun _ _ _ _ hi _=>hi) (fun _ _ _ _=>Nd _) (fun i σ ys H x H' hi p yl=>by
  obtain⟨e,q⟩:=yl
  subst e q
  exact hs i σ ys _ hi p) hd
theorem kjb{a:Addr}{xs:List V}(Pv:Nat→St→List V→Hp→Prop)(h0:Pv 0 σ [] H)(hz:xs.length≤sizeLine)(hl:∀i σ ys H,i≤xs.length→Pv i σ ys H→H a=some (.lst xs)∧ys.length≤i)
  (hs:∀i y t σ ys H,xs[i]?=some y→Pv i σ ys H→H t=none→g (.ref t) σ (upd H t (.tup [.int (i:Nat),y])) fun σ2 H2=>tt σ2 H2 fun b H3=>if b=true then te σ2 H3 (fun y H4=>Pv (i+1) σ2 (ys++[y]) H4) else Pv (i+1) σ2 ys H3) (hd:∀σ ys H,Pv xs.length σ ys H→∀D,H D=none→R ys H D):
  ∃ W:Nat→Nat→St→List V→Hp→Prop,(∃m,W 0 m σ [] H)∧∀i m σ' ys H',W i m σ' ys H'→
   ((Ite a).stop i H'∧∀D,H' D=none→R ys H' D)∨((Ite a).go i H'∧ys.length<sizeLine∧∃(N:St→V→Hp→Prop)(N0:St→Hp→Prop),(∀σ2 y H4,N σ2 y H4→∃m',m'<m∧W (i+1) m' σ2 (ys++[y]) H4)∧(∀σ2 H4,N0 σ2 H4→∃m',m'<m∧W (i+1) m' σ2 ys H4)∧
    ∀x H2,(Ite a).yld i H' x H2→g x σ' H2 fun σ2 H3=>tt σ2 H3 fun b H4=>if b=true then te σ2 H4 (N σ2) else N0 σ2 H4):=
 kgc Pv h0 hz (fun i σ ys H hi p=>(hl i σ ys H hi p).2) (fun i σ ys H hi p=>⟨xs,xs[i],(hl i σ ys H (Nq hi) p).1,by simp[hi]⟩) (fun σ ys H p=>⟨xs,(hl _ σ ys H (Nd _) p).1,Nd _⟩)
  (fun i σ ys H x H' hi p yl=>by
   obtain⟨t,y,hn,rfl,rfl,hy⟩:=yl
   exact hs i y t σ ys _ (hy xs (hl i σ ys _ (Nq hi) p).1) p hn) hd
end
section
variable {X:Cx}
noncomputable def isI(k:Int):Value→Bool
 | .int a _=>a==k
 |_=>false
noncomputable def kl5:V→List V→Hp→VK→Prop:=fun x vs H Q=>∃(l:Addr)(ns:List Int)(k:Int),x=.ref l∧vs=[.int k]∧H l=some (.lst (ns.map V.int))∧k∈ns∧Q .non (upd H l (.lst ((ns.erase k).map V.int)))
theorem keY:∀{ns:List Int}{us:List Value},Vals (ns.map V.int) us→∀(j:Nat)(n:Int),ns[j]?=some n→∃t,us[j]?=some (.int n t)
 |[],_,_,j,n,e=>by simp at e
 | m::ns,u::us, .cons r t,j,n,e=>by
  cases j with
  |zero=>
   have e':m=n:=by simpa using e
   subst e'
   obtain⟨t,rfl⟩:=r
   exact⟨t,rfl⟩
  |succ j=>
   obtain⟨q,h⟩:=keY t j n (by simpa using e)
   exact⟨q,by simpa using h⟩
theorem kfH:∀(ns:List Int)(k:Int)(m:Nat)(n:Int),m<ns.idxOf k→ns[m]?=some n→n≠k
 |[],_,_,_,_,e=>by simp at e
 | a::ns,k,m,n,h,e=>by
  rw[List.idxOf_cons] at h
  by_cases ha:a=k
  ·subst ha
   simp at h
  ·have hb:(a==k)=false:=beq_eq_false_iff_ne.mpr ha
   rw[hb] at h
   cases m with
   |zero=>
    have e':a=n:=by simpa using e
    rw[←e']
    exact ha
   |succ m=>exact kfH ns k m n (by simpa using h) (by simpa using e)
theorem kgK:∀(ns:List Int)(j:Nat),(ns.eraseIdx j).map V.int=(ns.map V.int).eraseIdx j
 |[],_=>rfl
 |_::_,0=>rfl
 |a::ns,j+1=>by
  show V.int a::(ns.eraseIdx j).map V.int=V.int a::(ns.map V.int).eraseIdx j
  rw[kgK ns j]
theorem kj3:MtM X "list.remove" kl5:=by
 intro pins s σ H x vs v us Q I rx rv h
 obtain⟨l,ns,k,rfl,rfl,hH,hk,q⟩:=h
 cases rx
 obtain⟨u,rfl,ru⟩:=rv.one
 obtain⟨t,rfl⟩:=ru
 obtain⟨z,its,n,r,hl,e⟩:=I.lstM hH
 have hln:its.length=ns.length:=by rw[←hl,Nb]
 have hj:ns.idxOf k<ns.length:=List.idxOf_lt_length_iff.mpr hk
 have at_:∀j (h:j<its.toArray.size),∃(n:Int)(t:Tok),ns[j]?=some n∧its.toArray[j]=.int n t:=fun j h=>by
  have h':j<ns.length:=by simpa[hln] using h
  obtain⟨tk,et⟩:=keY r j ns[j] (by simp[h'])
  refine⟨ns[j],tk,by simp[h'],?_⟩
  obtain⟨_,e'⟩:=Nu.mp et
  simpa using e'
 refine call_meets F.slot_list_remove ⟨_,e,rfl⟩ F.entry_list_remove (F.args_list_remove_2 _ _)
  (MeetsSeq.list_remove l its.toArray n (.int k t) (isI k) (fun y hy=>?_) (ns.idxOf k) (by simp[hln];exact hj) ?_ (fun m hm hlt=>?_) (by rw[NG];omega)) ⟨e,?_⟩
 ·obtain⟨j,hj',rfl⟩:=DC.mp hy
  obtain⟨n',t',_,e'⟩:=at_ j hj'
  rw[e']
  exact MeetsSeq.EqGives.int n' k t' t
 ·obtain⟨n',t',e1,e2⟩:=at_ (ns.idxOf k) (by simp[hln];exact hj)
  rw[e2]
  have:n'=k:=by
   rw[N5 hj] at e1
   have:=Option.some.inj e1
   rw[←this]
   exact List.getElem_idxOf hj
  simp[isI,this]
 ·obtain⟨n',t',e1,e2⟩:=at_ m hm
  rw[e2]
  simp[isI,kfH ns k m n' hlt e1]
 ·have er:ns.eraseIdx (ns.idxOf k)=ns.erase k:=(List.erase_eq_eraseIdx_of_idxOf rfl).symm
  refine⟨.non,_,I.lset (its':=its.eraseIdx (ns.idxOf k)) hH e ?_ ?_ ?_,rfl,q⟩
  ·show its.toArray.eraseIdxIfInBounds (ns.idxOf k)=(its.eraseIdx (ns.idxOf k)).toArray
   rw[List.eraseIdxIfInBounds_toArray]
  ·rw[←er,kgK]
   exact r.eraseIdx _
  ·rw[Nb]
   have:=Dc hk
   rw[Nb] at z
   omega
end
end L2
namespace L2
open PySem PySem.Spec PyProof.Rows
structure BaseT (K:Nc) (C:Addr) (m:Str) (f:Addr):Prop where
 rd:PySem.W.readsIn K C (.type "type")=true
 ga:M5 K (.ref C) "__getattribute__"=some (some (.builtin "type.__getattribute__"))
 fc:PySem.W.findCls K (.ref C) (.type "type") m=some (.val (.ref f))
section
variable {X:Cx} {CX:CXT} {k:Nat} {f C:Addr} {fd:FuncData} {ps:List Str} {sp:Sp} {dvs:List V} {ds:List Value} {E:XK} {x m:Str} {p pos apos:Pos} {e o:Expr} {es:List Expr} {ta:TE} {t:TA}
theorem keI{pl:Sem Bool}(B:BaseT X.K C m f)(F:FnOk X.prog X.w X.K X.mg X.base CX k f fd ps sp)(hr:Room k X.A)(hg:Gl X x)(hm:X.mg x=some (.ref C))(hk:Nz X.K (.ref f)=true)(hb:Binds X.K fd ps ds)(hd:Vals dvs ds)(hx:kdE CX X E)
  (ha:PA X (e::es) t) (hdb:(x==("__debug__" :Str))=false:=by decide)
  (hst:starEach (e::es) X.env=(false,eval e X.env)::starEach es X.env:=by rfl) (hpl:(backTo pos (starEach es X.env)).any (·.1)=false:=by rfl)
  (ht:eval (.Call (.Attribute (.Name x p) m apos) (e::es) [] pos) X.env=(do
   let ov ←eval (.Name x p) X.env
   standAt apos.atName
   let(f,first) ←holding [ov] (getMethod ov m pl)
   callWith pos f first (backTo pos (starEach (e::es) X.env)) (backToKw pos (keywordEach [] X.env))):=by rfl):
  PE X (.Call (.Attribute (.Name x p) m apos) (e::es) [] pos) (tCall sp dvs E t):=by
 intro pins s σ H Q I h
 refine E2 (pl:=pl) (thn (kbC (v:=.ref C) hg hm rfl hdb pins s σ H (fun y H1=>y=.ref C∧H1=H) I ⟨rfl,rfl⟩) fun u s1 zz=>?_) ht
 obtain⟨y,H1,I1,ry,ey,eH⟩:=zz
 subst ey eH
 obtain rfl:u=Value.ref C:=ry
 refine PySem.W.method_cls I1.kIn B.ga (PySem.W.cls_value I1.kIn B.rd B.fc rfl ?_)
 have I2:=I1.tok (s1.toks+1)
 refine Et (h₀:=X.base) I.ok.mod.kin hk (thn (ha pos pins _ σ H1 _ I2 h) fun us s2 ⟨vs,H2,I3,r,q2⟩=>⟨I3.kIn,?_⟩) hst hpl
 exact kid F hr hb hd hx I3 r q2
end
noncomputable def kmt:bootBuiltins "tuple"=some (.type "tuple"):=by decide +kernel
noncomputable def kca{n j:Nat}(h:j<n):ixN n (j:Int)=some j:=by
 unfold ixN
 rw[if_pos (by omega),if_pos (by omega)]
 simp
section
variable {X:Cx}
end
section
variable {X:Cx}
noncomputable def kmN(ta:TA):TI:=fun σ H R=>ta σ H fun vs H1=>∃i j k:Int,vs=[.int i, .int j, .int k]∧(-(2 ^ 31)≤i∧i<2 ^ 31)∧(-(2 ^ 31)≤j∧j<2 ^ 31)∧0<k∧k<2 ^ 30∧R (Its i k (Builtin.Range.rangeSize i j k).toNat) H1
theorem kiV{tg a b c:Expr}{ta:TA}{p pos:Pos}(hg:Gl X "range")(hm:X.mg "range"=none)(ha:PA X [a,b,c] ta)(he:starEach [a,b,c] X.env=(false,eval a X.env)::starEach [b,c] X.env:=by rfl)
  (hpl:(backTo pos (starEach [b,c] X.env)).any (·.1)=false:=by rfl):PI X tg (.Call (.Name "range" p) [a,b,c] [] pos) (kmN ta):=by
 intro pins s σ H R I h
 refine Call_ (kcX I hg hm boot_range (PyProof.Rows.callWith_type1 (thn (ha pos pins s σ H _ I h) fun us s1 zz=>?_) he hpl))
 obtain⟨vs,H1,I1,r1,q1⟩:=zz
 obtain⟨i,j,k,e,hi,hj,hk,hk2,q⟩:=q1
 subst e
 cases r1 with
 | cons r rr=>
  cases rr with
  | cons r' rr=>
   cases rr with
   | cons r'' rr=>
    cases rr
    obtain⟨t,rfl⟩:=r
    obtain⟨t',rfl⟩:=r'
    obtain⟨t'',rfl⟩:=r''
    refine call_range_3 (by omega) ?_ (.inl (PyProof.noPylong_small (by omega)))
    refine wpAny_pyIter_range (IsRange.new ..) (kiR hk hk2 hi hj) ?_
    have I2:Inv X pins σ H1 {s1 with heap:=s1.heap.push {cls:=.type "range",data:=.fields #[.int i t, .int j t', .int k t'']},toks:=s1.toks}:=I1.kept fun b o e=>Heap.get?_push_of_some _ e
    have hn:=kgt hk hi hj
    refine⟨(s1.heap.push {cls:=.type "range",data:=.fields #[.int i t, .int j t', .int k t'']}).objs.size,[(s1.heap.push {cls:=.type "range",data:=.fields #[.int i t, .int j t', .int k t'']}).objs.size],_,_,H1,rfl,
     I2.kept (t':=s1.toks) fun b o e=>Heap.get?_push_of_some _ e,kjf _ i k (Builtin.Range.rangeSize i j k).toNat,?_,fun b hb=>?_,q⟩
    ·have e1:i+((0:Nat):Int)*k=i:=by simp
     have e2:(((Builtin.Range.rangeSize i j k).toNat:Nat):Int)-((0:Nat):Int)=Builtin.Range.rangeSize i j k:=by omega
     show IsRangeIter _ _ (i+((0:Nat):Int)*k) ((((Builtin.Range.rangeSize i j k).toNat:Nat):Int)-((0:Nat):Int)) k
     rw[e1,e2]
     exact Heap.get?_push_size _ rfl
    ·have e:b=(s1.heap.push {cls:=.type "range",data:=.fields #[.int i t, .int j t', .int k t'']}).objs.size:=by simpa using hb
     subst e
     exact I2.fpOk (Nd _) (I2.hok.fresh (Nd _))
end
section
variable {g:TG} {te:TE} {σ:St} {H:Hp} {R:List V→Hp→Addr→Prop}
theorem kky{lo st:Int}{n:Nat}(Pv:Nat→St→List V→Hp→Prop)(h0:Pv 0 σ [] H)(hz:n≤sizeLine)(hl:∀i σ ys H,i≤n→Pv i σ ys H→ys.length=i)
  (hs:∀i σ ys H,i<n→Pv i σ ys H→g (.int (lo+i*st)) σ H fun σ2 H2=>te σ2 H2 fun y H3=>Pv (i+1) σ2 (ys++[y]) H3) (hd:∀σ ys H,Pv n σ ys H→∀D,H D=none→R ys H D):
  ∃ W:Nat→Nat→St→List V→Hp→Prop,(∃m,W 0 m σ [] H)∧∀i m σ' ys H',W i m σ' ys H'→
   ((Its lo st n).stop i H'∧∀D,H' D=none→R ys H' D)∨((Its lo st n).go i H'∧ys.length<sizeLine∧∃N:St→V→Hp→Prop,(∀σ2 y H4,N σ2 y H4→∃m',m'<m∧W (i+1) m' σ2 (ys++[y]) H4)∧
    ∀x H2,(Its lo st n).yld i H' x H2→g x σ' H2 fun σ2 H3=>te σ2 H3 (N σ2)):=by
 refine⟨fun i m σ ys H=>m=n-i∧i≤n∧Pv i σ ys H,⟨n,by simp,NO _,h0⟩,?_⟩
 rintro i m σ ys H ⟨rfl,hi,p⟩
 have el:=hl i σ ys H hi p
 by_cases hlt:i<n
 ·refine .inr ⟨hlt,by omega,fun σ2 y H3=>Pv (i+1) σ2 (ys++[y]) H3,fun σ' y H' p'=>⟨n-(i+1),by omega,rfl,hlt,p'⟩,fun x H' yl=>?_⟩
  obtain⟨e,yl⟩:=yl
  subst e yl
  exact hs i σ ys _ hlt p
 ·have e:i=n:=by omega
  subst e
  exact .inl ⟨Nd _,hd σ ys H p⟩
end
noncomputable def khk{L m:Nat}(hm:0<m):(Builtin.Range.rangeSize 0 ((L:Int)-(m:Int)+1) (m:Int)).toNat=L/m:=by
 unfold Builtin.Range.rangeSize
 rw[if_pos (by omega)]
 by_cases h:m≤L
 ·rw[if_pos (by omega),show(L:Int)-(m:Int)+1-0-1=((L-m:Nat):Int) by omega,←Int.natCast_ediv,Nat.div_eq_sub_div hm h]
  generalize (L-m)/m=q
  omega
 ·rw[if_neg (by omega),Nat.div_eq_of_lt (by omega)]
  rfl
end L2
namespace L2
open PySem PySem.Spec PyProof.Rows
inductive Src where
 |p (i:Nat)
 |k (j:Nat)
 |d (v:Value) (x:V)
noncomputable def Src.val(us ws:List Value):Src→Value
 | .p i=>us.getD i .none
 | .k j=>ws.getD j .none
 | .d v _=>v
noncomputable def Src.abs(vs zs:List V):Src→V
 | .p i=>vs.getD i .non
 | .k j=>zs.getD j .non
 | .d _ x=>x
noncomputable def Src.Ok:Src→Prop
 | .d v x=>RelV x v
 |_=>True
section
variable {X:Cx} {CX:CXT} {k:Nat} {f C:Addr} {fd:FuncData} {ps ks:List Str} {sp:Sp} {E:XK} {x:Str} {p pos:Pos} {kws:List Keyword} {tk:TA} {g:List Value→List Value→List Value} {gV:List V→List V→List V}
end
end L2
namespace L2
open PySem PySem.Spec PyProof.Rows
noncomputable def atK(kvs:List (Key×V))(k:Key):Option V:=(kvs.find? fun p=>decide (p.1=k)).map Prod.snd
theorem khI:∀{kvs:List (Key×V)}{vs:List (Key×Value)},KV kvs vs→∀k,RelO (atK kvs k) (valueAt vs k)
 |_,_, .nil,_=>True.intro
 | p::ps,q::qs, .cons h t,k=>by
  obtain⟨h1,h2⟩:=h
  have ih:=khI t k
  unfold atK valueAt at *
  by_cases e:p.1=k
  ·have e':q.1=k:=h1.symm.trans e
   simp only[M9,e,e',decide_true,Ey]
   exact h2
  ·have e':¬q.1=k:=fun z=>e (h1.trans z)
   simp only[M9,e,e',decide_false]
   exact ih
theorem kvAny:∀{kvs:List (Key×V)}{vs:List (Key×Value)},KV kvs vs→∀k:Key,atK kvs k=none→(vs.any fun p=>decide (p.1=k))=false
 |_,_, .nil,_,_=>rfl
 | p::ps,q::qs, .cons h t,k,hn=>by
  obtain⟨h1,h2⟩:=h
  unfold atK at hn
  by_cases e:p.1=k
  ·simp[M9,e] at hn
  ·have e':¬q.1=k:=fun z=>e (h1.trans z)
   rw[ML,decide_eq_false e',Bool.false_or]
   refine kvAny t k ?_
   unfold atK
   simpa[M9,e] using hn
theorem klH:∀{kvs:List (Key×V)}{vs:List (Key×Value)},KV kvs vs→∀{k:Key}{y:V}{u:Value},RelV y u→KV (kvs++[(k,y)]) (vs++[(k,u)])
 |_,_, .nil,_,_,_,r=>.cons ⟨rfl,r⟩ .nil
 |_,_, .cons h t,_,_,_,r=>.cons h (klH t r)
theorem kvLen:∀{kvs:List (Key×V)}{vs:List (Key×Value)},KV kvs vs→kvs.length=vs.length
 |_,_, .nil=>rfl
 |_,_, .cons _ t=>by rw[NT,NT,kvLen t]
theorem klG:∀{kvs:List (Key×V)}{vs:List (Key×Value)},KV kvs vs→Vals (kvs.map Prod.snd) (vs.map Prod.snd)
 |_,_, .nil=>.nil
 |_,_, .cons h t=>.cons h.2 (klG t)
section
variable {X:Cx}
noncomputable def kmy:TE:=fun _ H Q=>∀p,H p=none→Q (.ref p) (upd H p (.dK []))
theorem kkP{pos:Pos}:PE X (.Dict [] [] pos) kmy:=fun pins s σ H Q I h=>
 have big:sysModules<s.heap.objs.size:=Nat.lt_trans (by decide) (show mainGlobals<s.heap.objs.size from(I.mod.glob.keeps I.bk).lt)
 wpAny_Dict_empty ⟨.ref s.heap.objs.size,_,I.laid (a:=s.heap.objs.size) (o:=.dK []) (t':=s.toks) (fun _ _ q=>Heap.get?_push_of_some _ q) (Nd _)
  (show ObjOk X.prog X.w _ _ _ (.dK []) from⟨NO _,beq_eq_false_iff_ne.mpr (Ne.symm (NL big)),[], .nil,Heap.DictOf.new _⟩),rfl,h _ (I.hok.fresh (Nd _))⟩
noncomputable def rSetd:V→List V→Hp→VK→Prop:=fun x vs H Q=>∃(a:Addr)(kvs:List (Key×V))(i:Int)(y:V),x=.ref a∧vs=[.int i,y]∧H a=some (.dK kvs)∧kvs.length<sizeLine∧(∀v,atK kvs (.inl i)=some v→Q v H)∧(atK kvs (.inl i)=none→Q y (upd H a (.dK (kvs++[(.inl i,y)]))))
theorem kf6:MtM X "dict.setdefault" rSetd:=by
 intro pins s σ H x vs v us Q I rx rv h
 obtain⟨a,kvs,i,y,rfl,rfl,e,hz,h1,h2⟩:=h
 cases rx
 obtain⟨u1,u2,rfl,⟨t,rfl⟩,ru2⟩:=vals2 rv
 obtain⟨z,hd,ws,rel,dd⟩:=(show ObjOk X.prog X.w H s.heap a (.dK kvs) from I.hok a _ e)
 have key:(kdi X.prog X.w).is (Sum.inl i:Key) (.int i t)=true:=khz _ _ i t
 refine call_meetsIn DD dd.typeIs PySem.F.entry_dict_setdefault (PySem.F.args_dict_setdefault_3 _ _ _) (kt_meets_setdefault (kdi X.prog X.w) a key hd u2)
  ⟨ws,dd,by rw[←kvLen rel];exact z,fun v hv=>?_,fun hn h' dd' hs=>?_⟩
 ·have r:=khI rel (Sum.inl i)
  rw[hv] at r
  cases ea:atK kvs (Sum.inl i) with
  |none=>rw[ea] at r;exact(show False from r).elim
  |some w'=>
   rw[ea] at r
   exact⟨w',H,I.tok _,r,h1 w' ea⟩
 ·have r:=khI rel (Sum.inl i)
  rw[hn] at r
  have ea:atK kvs (Sum.inl i)=none:=by
   cases ea:atK kvs (Sum.inl i) with
   |none=>rfl
   |some w'=>rw[ea] at r;exact(show False from r).elim
  have est:stored ws (Sum.inl i:Key) u2=ws++[(Sum.inl i,u2)]:=by
   unfold stored
   rw[kvAny rel _ ea,if_neg Np]
  rw[est] at dd'
  have he:∃q,h'.get? a=some q:=let⟨q,_,_,hq,_⟩:=dd';⟨q,hq⟩
  refine⟨y,_,I.write (x:=a) (e:=a) (by rw[e];exact True.intro) (.inl rfl) (fun b q hb w'=>(hs.2 b hb).trans w') he ?_,ru2,h2 ea⟩
  exact(show ObjOk X.prog X.w _ h' a (.dK (kvs++[(.inl i,y)])) from⟨by rw[Nr,Ml];omega,hd,_,klH rel ru2,dd'⟩)
noncomputable def kji(te:TE):TE:=fun σ H Q=>te σ H fun v H1=>∃(a:Addr)(kvs:List (Key×V)),v=.ref a∧H1 a=some (.dK kvs)∧∀l,H1 l=none→Q (.ref l) (upd H1 l (.lst (kvs.map Prod.snd)))
theorem khv{e:Expr}{te:TE}{p1 pos1 apos cpos:Pos}(hc:X.calm=true)(h1:Gl X "list")(m1:X.mg "list"=none)(he:PE X e te)
  (hbase:attributeBase e "values" X.env (eval e X.env)=eval e X.env:=by rfl) (hline:(apos.endLine==cpos.line)=true:=by rfl)
  (s2:starEach [.Call (.Attribute e "values" apos) [] [] cpos] X.env=[(false,eval (.Call (.Attribute e "values" apos) [] [] cpos) X.env)]:=by rfl):PE X (.Call (.Name "list" p1) [.Call (.Attribute e "values" apos) [] [] cpos] [] pos1) (kji te):=by
 intro pins s σ H Q I h
 refine wpAny_Call_Name_kw (kcX I h1 m1 kbn ?_ (by decide) (by decide))
 refine PyProof.Rows.callWith_type1 ?_ s2 rfl
 rw[s2]
 refine Calls.spliced_cons (wpAny_Call_method0_late hbase hline (thn (he pins s σ H _ I h) fun u s3 zz=>?_))
 obtain⟨v,H1,I1,r1,a,kvs,ev,ea,q⟩:=zz
 subst ev
 cases r1
 obtain⟨t1,t2⟩:=kll (T:="dict") (x:=.ref a) (v:=.ref a) I1 rfl (.inr (.inr (.inl ⟨rfl, .inl ⟨kvs,ea⟩⟩)))
 obtain⟨z,hd,ws,rel,dd⟩:=(show ObjOk X.prog X.w H1 s3.heap a (.dK kvs) from I1.hok a _ ea)
 obtain⟨ep,hat⟩:=dd.dictAt
 refine⟨"dict","dict.values",DE,DF,PySem.F.type_dict_values,t1,t2,Calls.callWith_builtin rfl (PySem.evalArgs_none ?_)⟩
 refine call_meetsIn DF dd.typeIs PySem.F.entry_dict_values (PySem.F.args_dict_values_1 _) (meets_dict_values (kdi X.prog X.w) a hd) ⟨⟨ws,dd⟩,Calls.spliced_nil ?_⟩
 refine PySem.W.kdl_call (PySem.W.kdl_values (knd:=kdi X.prog X.w) (kvs:=ws) (ep:=ep)) (I1.ok.hd hc) ⟨⟨_,Heap.get?_push_size _ rfl,rfl,rfl⟩,hat.push _⟩ (by rw[←kvLen rel];exact z) fun h' tk acc' c' hk hS hacc=>?_
 have hv:acc'.toList=ws.map (·.2):=PySem.W.kdl_vals_eq acc'.toList (by rw[MU];exact hacc.1) fun j v' ej=>hacc.2 j v' (by rw[←Da];exact ej)
 generalize ho:({cls:=.type "dict_values",data:=.fields #[.ref a]}:Obj)=ob at *
 have hsz:(s3.heap.push ob).objs.size=s3.heap.objs.size+1:=Heap.size_push ..
 have rv:Vals (kvs.map Prod.snd) acc'.toList:=by rw[hv];exact klG rel
 have I2:Inv X pins σ (upd H1 (s3.heap.push ob).objs.size (.lst (kvs.map Prod.snd))) {s3 with heap:=h',toks:=tk}:=
  I1.laid (fun b o e=>hk b o (Heap.get?_push_of_some _ e)) (by rw[hsz];exact MK _) (show ObjOk X.prog X.w _ h' _ (.lst (kvs.map Prod.snd)) from⟨by rw[Nb];exact z,acc'.toList,c',rv,by simpa using hS⟩)
 exact⟨.ref _,_,I2,rfl,q _ (I1.hok.fresh (by rw[hsz];exact MK _))⟩
end
end L2
namespace L2
open PySem PySem.Spec PyProof.Rows
section
variable {X:Cx}
end
end L2
namespace Stb
open PySem PyProof.Rows
noncomputable def T(xs:Array Keyed)(i:Nat):Int:=match xs[i]? with
 |some p=>numOf p.2
 |none=>0
noncomputable def T_at{xs ys:Array Keyed}{i j:Nat}(h:xs[i]?=ys[j]?):T xs i=T ys j:=by unfold T;rw[h]
noncomputable def Lx(xs:Array Keyed)(i j:Nat):Prop:=K xs i<K xs j∨(K xs i=K xs j∧T xs i<T xs j)
noncomputable def Lx.trans{xs:Array Keyed}{i j k:Nat}(h:Lx xs i j)(h':Lx xs j k):Lx xs i k:=by unfold Lx at *;omega
noncomputable def Lx.le{xs:Array Keyed}{i j:Nat}(h:Lx xs i j):K xs i≤K xs j:=by unfold Lx at *;omega
noncomputable def Up(xs:Array Keyed)(k:Nat):Prop:=∀i j,i<j→j<k→Lx xs i j
noncomputable def Dn(xs:Array Keyed)(k:Nat):Prop:=∀i j,i<j→j<k→Lx xs j i
noncomputable def Lat(a₀ xs:Array Keyed)(k:Nat):Prop:=∀i j,i<j→k≤j→j<a₀.size→T xs i<T xs j
noncomputable def Lat.mono{a₀ xs:Array Keyed}{k k':Nat}(h:Lat a₀ xs k)(hk:k≤k'):Lat a₀ xs k':=fun i j h1 h2 h3=>h i j h1 (by omega) h3
theorem kiN{xs:Array Keyed}{src d:Nat}(hs:src<xs.size)(hd:d≤src)(k:Nat):
  ∃k',(K (bubble xs src d) k=K xs k'∧T (bubble xs src d) k=T xs k')∧k'=if k=src-d then src else if src-d<k∧k≤src then k-1 else k:=by
 refine⟨_,?_,rfl⟩
 have e:=getElem?_bubble hs d hd k
 have e':(bubble xs src d)[k]?=xs[if k=src-d then src else if src-d<k∧k≤src then k-1 else k]?:=by
  rw[e]
  split
  ·rfl
  ·split <;> rfl
 exact⟨K_congr e',T_at e'⟩
theorem kcN{xs:Array Keyed}{i j:Nat}(hj:j≤xs.size)(k:Nat):
  ∃k',(K (mirror xs i j ((j-i)/2)) k=K xs k'∧T (mirror xs i j ((j-i)/2)) k=T xs k')∧k'=if i≤k∧k<j then i+j-1-k else k:=by
 refine⟨_,?_,rfl⟩
 have e:=getElem?_mirror_all (i:=i) hj k
 have e':(mirror xs i j ((j-i)/2))[k]?=xs[if i≤k∧k<j then i+j-1-k else k]?:=by
  rw[e]
  split <;> rfl
 exact⟨K_congr e',T_at e'⟩
noncomputable def khC{a₀ xs:Array Keyed}{i j k:Nat}(hj:j≤xs.size)(hk:j≤k)(h:Lat a₀ xs k):Lat a₀ (mirror xs i j ((j-i)/2)) k:=by
 intro a b hab hkb hb
 obtain⟨a',⟨_,ea⟩,ha⟩:=kcN (i:=i) hj a
 obtain⟨b',⟨_,eb⟩,hb'⟩:=kcN (i:=i) hj b
 rw[ea,eb]
 rw[if_neg (by omega)] at hb'
 subst hb'
 refine h _ _ ?_ hkb hb
 rw[ha]
 split <;> omega
section
variable {prog:Program} {w:World} {A:Around} {E:Value→Shared→Prop} {s:Shared} {a₀:Array Keyed}
theorem asc{st:SortSt}{a nrem:Nat}{Q:AscSt→SortSt→Prop}(h0:IntKeys a₀)(hn:nrem≤a₀.size)(ha:1≤a)(han:a≤nrem)(hB:SBase a₀ st)(hs:Up (arrOf st) a)(hl:Lat a₀ (arrOf st) a)
  (h:∀n,a≤n→n≤nrem→Up (arrOf st) n→(n=nrem∨K (arrOf st) n<K (arrOf st) (n-1))→Q (none,n) st):wpS (model prog w) A E s (ascLoop a nrem) Q st:=by
 unfold ascLoop
 refine wpS_forRange (I:=fun x c st'=>st'=st∧c=(none,x)∧Up (arrOf st) x) ?turn ?over ⟨rfl,rfl,hs⟩
 case over=>
  rintro c st' ⟨rfl,rfl,u⟩
  rw[show max a nrem=nrem by omega] at u⊢
  exact h nrem han (Nd _) u (.inl rfl)
 case turn=>
  rintro x c st' hax hxn ⟨rfl,rfl,u⟩
  dsimp only
  refine wpS_bind (wpS_ltK hB h0 (by omega) (by omega) ?_)
  by_cases c1:K (arrOf st') x<K (arrOf st') (x-1)
  ·simp only[c1,decide_true,if_true]
   exact wpS_pure (h x hax (by omega) u (.inr c1))
  ·simp only[c1,decide_false,Mh,if_false]
   refine wpS_pure ⟨rfl,rfl,fun i j hij hj=>?_⟩
   by_cases hjx:j<x
   ·exact u i j hij hjx
   ·have e:j=x:=by omega
    subst e
    have t1:=hl (j-1) j (by omega) hax (by omega)
    have l1:Lx (arrOf st') (j-1) j:=by unfold Lx;omega
    by_cases e2:i=j-1
    ·rw[e2];exact l1
    ·exact(u i (j-1) (by omega) (by omega)).trans l1
theorem tail{st:SortSt}{n nrem:Nat}{Q:Option Nat→SortSt→Prop}(h0:IntKeys a₀)(hn:nrem≤a₀.size)(h1:1≤n)(hnn:n≤nrem)(hB:SBase a₀ st)(hs:Dn (arrOf st) n)(hl:Lat a₀ (arrOf st) n)
  (h:∀m st',SBase a₀ st'→1≤m→m≤nrem→Up (arrOf st') m→Lat a₀ (arrOf st') m→Q (some m) st'):wpS (model prog w) A E s (tail3 n nrem) Q st:=by
 unfold tail3
 have sz:n≤(arrOf st).size:=by rw[hB.size];omega
 refine wpS_bind (wpS_reverse ?_)
 have hB2:SBase a₀ (setArr st (mirror (arrOf st) 0 n ((n-0)/2))):=hB.setArr (mirror_perm _ _ _ _)
 have hl2:Lat a₀ (mirror (arrOf st) 0 n ((n-0)/2)) n:=khC sz (Nd _) hl
 refine wpS_bind (asc h0 hn h1 hnn hB2 ?_ hl2 fun m hm1 hm2 hu _=>wpS_pure (h m _ hB2 (by omega) hm2 hu (hl2.mono hm1)))
 intro i j hij hj
 show Lx (mirror (arrOf st) 0 n ((n-0)/2)) i j
 obtain⟨i',⟨k1,t1⟩,e1⟩:=kcN (i:=0) sz i
 obtain⟨j',⟨k2,t2⟩,e2⟩:=kcN (i:=0) sz j
 rw[if_pos (by omega)] at e1 e2
 have:=hs j' i' (by omega) (by omega)
 unfold Lx at this⊢
 rw[k1,k2,t1,t2]
 exact this
structure Fl (a₀ xs:Array Keyed) (x neq:Nat):Prop where
 few:neq+1≤x
 hd:Dn xs (x-(neq+1))
 cr:∀i j,i<x-(neq+1)→x-(neq+1)≤j→j<x→K xs j<K xs i
 tl:∀i j,x-(neq+1)≤i→i<j→j<x→K xs i=K xs j∧T xs i<T xs j
 lat:Lat a₀ xs x
theorem Fl.turned{xs:Array Keyed}{x neq:Nat}(h:Fl a₀ xs x neq)(hx:x≤xs.size):Dn (mirror xs (x-(neq+1)) x ((x-(x-(neq+1)))/2)) x∧(∀i,i<x→K xs (x-1)≤K (mirror xs (x-(neq+1)) x ((x-(x-(neq+1)))/2)) i)∧Lat a₀ (mirror xs (x-(neq+1)) x ((x-(x-(neq+1)))/2)) x∧
  ∀k,x≤k→K (mirror xs (x-(neq+1)) x ((x-(x-(neq+1)))/2)) k=K xs k:=by
 have hf:=h.few
 refine⟨fun i j hij hj=>?_,fun i hi=>?_,khC hx (Nd _) h.lat,fun k hk=>?_⟩
 ·obtain⟨i',⟨k1,t1⟩,e1⟩:=kcN (i:=x-(neq+1)) hx i
  obtain⟨j',⟨k2,t2⟩,e2⟩:=kcN (i:=x-(neq+1)) hx j
  unfold Lx
  rw[k1,k2,t1,t2]
  by_cases c1:j<x-(neq+1)
  ·rw[if_neg (by omega)] at e1 e2
   subst e1 e2
   exact h.hd i' j' hij c1
  ·rw[if_pos (by omega)] at e2
   by_cases c2:i<x-(neq+1)
   ·rw[if_neg (by omega)] at e1
    subst e1
    exact .inl (h.cr i' j' c2 (by omega) (by omega))
   ·rw[if_pos (by omega)] at e1
    have:=h.tl j' i' (by omega) (by omega) (by omega)
    omega
 ·obtain⟨i',⟨k1,_⟩,e1⟩:=kcN (i:=x-(neq+1)) hx i
  rw[k1]
  by_cases c2:i<x-(neq+1)
  ·rw[if_neg (by omega)] at e1
   subst e1
   have:=h.cr i' (x-1) c2 (by omega) (by omega)
   omega
  ·rw[if_pos (by omega)] at e1
   by_cases c3:i'=x-1
   ·rw[c3];exact Int.le_refl _
   ·have:=h.tl i' (x-1) (by omega) (by omega) (by omega)
    omega
 ·obtain⟨k',⟨k1,_⟩,e1⟩:=kcN (i:=x-(neq+1)) hx k
  rw[if_neg (by omega)] at e1
  rw[k1,e1]
theorem Fl.plain{xs:Array Keyed}{x:Nat}(h:Fl a₀ xs x 0):Dn xs x∧(∀i,i<x→K xs (x-1)≤K xs i):=by
 have hf:=h.few
 refine⟨fun i j hij hj=>?_,fun i hi=>?_⟩
 ·by_cases c1:j<x-(0+1)
  ·exact h.hd i j hij c1
  ·exact .inl (h.cr i j (by omega) (by omega) hj)
 ·by_cases c3:i=x-1
  ·rw[c3];exact Int.le_refl _
  ·have:=h.cr i (x-1) (by omega) (by omega) (by omega)
   omega
theorem Fl.next{xs:Array Keyed}{x:Nat}(hd:Dn xs x)(hk:∀i,i<x→K xs x<K xs i)(hl:Lat a₀ xs x):Fl a₀ xs (x+1) 0:=
 ⟨by omega,fun i j h1 h2=>hd i j h1 (by omega),fun i j h1 h2 h3=>by
  have e:j=x:=by omega
  subst e
  exact hk i (by omega),fun i j h1 h2 h3=>by omega,hl.mono (by omega)⟩
theorem desc{st:SortSt}{n nrem:Nat}{Q:DescSt→SortSt→Prop}(h0:IntKeys a₀)(hn:nrem≤a₀.size)(hnn:n≤nrem)(hB:SBase a₀ st)(hs:Fl a₀ (arrOf st) n 0)
  (h:∀m neq st',SBase a₀ st'→n≤m→m≤nrem→Fl a₀ (arrOf st') m neq→Q (none,m,neq) st'):wpS (model prog w) A E s (descLoop n nrem) Q st:=by
 unfold descLoop
 refine wpS_forRange (I:=fun x c st'=>∃neq,c=(none,x,neq)∧SBase a₀ st'∧Fl a₀ (arrOf st') x neq) ?turn ?over ⟨0,rfl,hB,hs⟩
 case over=>
  rintro c st' ⟨neq,rfl,hB',f⟩
  rw[show max n nrem=nrem by omega] at f⊢
  exact h nrem neq st' hB' hnn (Nd _) f
 case turn=>
  rintro x c st' hax hxn ⟨neq,rfl,hB',f⟩
  dsimp only
  have few:=f.few
  have sz:x≤(arrOf st').size:=by rw[hB'.size];omega
  refine wpS_bind (wpS_ltK hB' h0 (by omega) (by omega) ?_)
  by_cases c1:K (arrOf st') x<K (arrOf st') (x-1)
  ·simp only[c1,decide_true,if_true]
   by_cases c2:neq > 0
   ·rw[if_pos c2]
    obtain⟨d1,d2,d3,d4⟩:=f.turned sz
    refine wpS_bind (wpS_reverse (wpS_pure ⟨0,rfl,hB'.setArr (mirror_perm _ _ _ _),Fl.next d1 (fun i hi=>?_) d3⟩))
    have:=d2 i hi
    have e:=d4 x (Nd _)
    show K (mirror (arrOf st') _ _ _) x<K (mirror (arrOf st') _ _ _) i
    omega
   ·rw[if_neg c2]
    have e:neq=0:=by omega
    subst e
    obtain⟨d1,d2⟩:=f.plain
    exact wpS_pure ⟨0,rfl,hB',Fl.next d1 (fun i hi=>by have:=d2 i hi;omega) f.lat⟩
  ·simp only[c1,decide_false,Mh,if_false]
   refine wpS_bind (wpS_ltK hB' h0 (by omega) (by omega) ?_)
   by_cases c2:K (arrOf st') (x-1)<K (arrOf st') x
   ·simp only[c2,decide_true,if_true]
    exact wpS_pure (h x neq st' hB' hax (by omega) f)
   ·simp only[c2,decide_false,Mh,if_false]
    have ek:K (arrOf st') x=K (arrOf st') (x-1):=by omega
    refine wpS_pure ⟨neq+1,rfl,hB',⟨by omega,?_,?_,?_,f.lat.mono (by omega)⟩⟩
    ·rw[show x+1-(neq+1+1)=x-(neq+1) by omega]
     exact f.hd
    ·rw[show x+1-(neq+1+1)=x-(neq+1) by omega]
     intro i j h1 h2 h3
     by_cases c3:j<x
     ·exact f.cr i j h1 h2 c3
     ·have e:j=x:=by omega
      subst e
      rw[ek]
      exact f.cr i (j-1) h1 (by omega) (by omega)
    ·rw[show x+1-(neq+1+1)=x-(neq+1) by omega]
     intro i j h1 h2 h3
     by_cases c3:j<x
     ·exact f.tl i j h1 h2 c3
     ·have e:j=x:=by omega
      subst e
      refine⟨?_,f.lat i j h2 (Nd _) (by omega)⟩
      rw[ek]
      by_cases c4:i=j-1
      ·rw[c4]
      ·exact(f.tl i (j-1) h1 (by omega) (by omega)).1
theorem falls{st:SortSt}{n nrem:Nat}{Q:Option Nat→SortSt→Prop}(h0:IntKeys a₀)(hn:nrem≤a₀.size)(hnn:n+1≤nrem)(hB:SBase a₀ st)(hs:Fl a₀ (arrOf st) (n+1) 0)
  (h:∀m st',SBase a₀ st'→1≤m→m≤nrem→Up (arrOf st') m→Lat a₀ (arrOf st') m→Q (some m) st'):wpS (model prog w) A E s (descPart n nrem) Q st:=by
 unfold descPart
 refine wpS_bind (wpS_lift (wpAny_rule ⟨rfl,?_⟩))
 refine wpS_bind (desc h0 hn hnn hB hs fun m neq st' hB' hm1 hm2 f=>?_)
 dsimp only
 have sz:m≤(arrOf st').size:=by rw[hB'.size];omega
 by_cases c2:neq > 0
 ·rw[if_pos c2]
  obtain⟨d1,_,d3,_⟩:=f.turned sz
  exact wpS_bind (wpS_reverse (tail h0 hn (by omega) hm2 (hB'.setArr (mirror_perm _ _ _ _)) d1 d3 h))
 ·rw[if_neg c2]
  have e:neq=0:=by omega
  subst e
  exact tail h0 hn (by omega) hm2 hB' f.plain.1 f.lat h
theorem count{st:SortSt}{nrem:Nat}{Q:Option Nat→SortSt→Prop}(h0:IntKeys a₀)(hn:nrem≤a₀.size)(h1:1≤nrem)(hB:SBase a₀ st)(hl:Lat a₀ (arrOf st) 1)
  (h:∀m st',SBase a₀ st'→1≤m→m≤nrem→Up (arrOf st') m→Lat a₀ (arrOf st') m→Q (some m) st'):wpS (model prog w) A E s (countRun' 0 nrem) Q st:=by
 rw[countRun0_eq]
 refine wpS_bind (asc h0 hn (Nd 1) h1 hB (fun i j hij hj=>by omega) hl fun n hn1 hn2 hu hor=>?_)
 dsimp only
 by_cases c1:n=nrem
 ·rw[if_pos (by simpa using c1)]
  exact wpS_pure (h n st hB hn1 hn2 hu (hl.mono hn1))
 ·rw [if_neg (by simpa using c1)]
  have lt:K (arrOf st) n<K (arrOf st) (n-1):=hor.resolve_left c1
  by_cases c2:n > 1
  ·rw [if_pos c2]
   refine wpS_bind (wpS_ltK hB h0 (by omega) (by omega) ?_)
   by_cases c3:K (arrOf st) 0<K (arrOf st) (n-1)
   ·simp only[c3,decide_true,if_true]
    exact wpS_pure (h n st hB hn1 hn2 hu (hl.mono hn1))
   ·simp only[c3,decide_false,Mh,if_false]
    have sz:n≤(arrOf st).size:=by rw[hB.size];omega
    have same:∀i,i<n→K (arrOf st) i=K (arrOf st) (n-1):=fun i hi=>by
     by_cases z:i=0
     ·subst z
      have:=(hu 0 (n-1) (by omega) (by omega)).le
      omega
     ·have a1:=(hu 0 i (by omega) hi).le
      by_cases z2:i=n-1
      ·rw[z2]
      ·have a2:=(hu i (n-1) (by omega) (by omega)).le
       omega
    refine wpS_bind (wpS_reverse (falls h0 hn (by omega) (hB.setArr (mirror_perm _ _ _ _)) (Fl.next (fun i j hij hj=>?_) (fun i hi=>?_) (khC sz (Nd _) (hl.mono hn1))) h))
    ·show Lx (mirror (arrOf st) 0 n ((n-0)/2)) j i
     obtain⟨i',⟨k1,t1⟩,e1⟩:=kcN (i:=0) sz i
     obtain⟨j',⟨k2,t2⟩,e2⟩:=kcN (i:=0) sz j
     rw[if_pos (by omega)] at e1 e2
     have:=hu j' i' (by omega) (by omega)
     unfold Lx at this⊢
     rw[k1,k2,t1,t2]
     exact this
    ·show K (mirror (arrOf st) 0 n ((n-0)/2)) n<K (mirror (arrOf st) 0 n ((n-0)/2)) i
     obtain⟨i',⟨k1,_⟩,e1⟩:=kcN (i:=0) sz i
     obtain⟨n',⟨k2,_⟩,e2⟩:=kcN (i:=0) sz n
     rw[if_pos (by omega)] at e1
     rw[if_neg (by omega)] at e2
     subst e2
     rw[k1,k2,same i' (by omega)]
     exact lt
  ·rw[if_neg c2]
   have e:n=1:=by omega
   subst e
   refine falls h0 hn (by omega) hB (Fl.next (fun i j hij hj=>by omega) (fun i hi=>?_) hl) h
   have z:i=0:=by omega
   subst z
   exact lt
theorem insert{st:SortSt}{n ok:Nat}{Q:Bool→SortSt→Prop}(h0:IntKeys a₀)(hn:n≤a₀.size)(h1:1≤ok)(hok:ok≤n)(hB:SBase a₀ st)(hs:Up (arrOf st) ok)(hl:Lat a₀ (arrOf st) ok)
  (h:∀st',SBase a₀ st'→Up (arrOf st') n→Q true st'):wpS (model prog w) A E s (binarySort' 0 n ok) Q st:=by
 rw[binarySort'_eq]
 simp only[Ea]
 refine wpS_bind (wpS_mono (wpS_forRange (I:=fun k c st'=>c=(none,())∧SBase a₀ st'∧Up (arrOf st') (min k n)∧Lat a₀ (arrOf st') (min k n)) (Q:=fun c st'=>c=(none,())∧SBase a₀ st'∧Up (arrOf st') n) ?turn ?over ?begin) ?behind)
 case behind=>
  rintro c st' ⟨rfl,hB',hu⟩
  exact wpS_pure (h st' hB' hu)
 case begin=>
  rw[show max ok 1=ok by omega,show min ok n=ok by omega]
  exact⟨rfl,hB,hs,hl⟩
 case over=>
  rintro c st' ⟨hc,hB',hu,_⟩
  refine⟨hc,hB',?_⟩
  rwa [show min (max (max ok 1) n) n=n by omega] at hu
 case turn=>
  rintro k c st' hak hkn ⟨rfl,hB',hu,hla⟩
  rw[show min k n=k by omega] at hu hla
  have hk:k<a₀.size:=by omega
  refine wpS_bind (wpS_mono (wpS_forRange (I:=fun x c st''=>st''=st'∧∃l r,c=(none,l,r)∧l≤r∧r≤k∧r-l≤k-x∧(∀i,i<l→K (arrOf st') i≤K (arrOf st') k)∧(∀i,r≤i→i<k→K (arrOf st') k<K (arrOf st') i))
   (Q:=fun c st''=>st''=st'∧∃l r,c=(none,l,r)∧l≤k∧(∀i,i<l→K (arrOf st') i≤K (arrOf st') k)∧(∀i,l≤i→i<k→K (arrOf st') k<K (arrOf st') i)) ?turn2 ?over2 ?begin2) ?behind2)
  case begin2=>exact⟨rfl,0,k,rfl,by omega,by omega,by omega,fun i hi=>by omega,fun i a b=>by omega⟩
  case over2=>
   rintro c st'' ⟨rfl,l,r,rfl,hlr,hrk,hm,lo,hi⟩
   have e:l=r:=by omega
   subst e
   exact⟨rfl,l,l,rfl,hrk,lo,hi⟩
  case turn2=>
   rintro x c st'' _ hxk ⟨rfl,l,r,rfl,hlr,hrk,hm,lo,hi⟩
   dsimp only
   by_cases c1:l≥r
   ·rw[if_pos c1]
    have e:l=r:=by omega
    subst e
    exact wpS_pure ⟨rfl,l,l,rfl,hrk,lo,hi⟩
   ·rw[if_neg c1]
    refine wpS_bind (wpS_ltK hB' h0 hk (by omega) ?_)
    by_cases c2:K (arrOf st'') k<K (arrOf st'') ((l+r)/2)
    ·simp only[c2,decide_true,if_true]
     refine wpS_pure ⟨rfl,l,(l+r)/2,rfl,by omega,by omega,by omega,lo,fun i a b=>?_⟩
     by_cases z:i=(l+r)/2
     ·rw[z];exact c2
     ·exact Int.lt_of_lt_of_le c2 (hu _ _ (by omega) b).le
    ·simp only[c2,decide_false,Mh,if_false]
     refine wpS_pure ⟨rfl,(l+r)/2+1,r,rfl,by omega,by omega,by omega,fun i a=>?_,hi⟩
     by_cases z:i=(l+r)/2
     ·rw[z];omega
     ·exact Int.le_trans (hu i ((l+r)/2) (by omega) (by omega)).le (Int.not_lt.mp c2)
  case behind2=>
   rintro c st'' ⟨rfl,l,r,rfl,hlk,lo,hi⟩
   show wpS _ _ _ _ (do moveDown' k l;pure (ForInStep.yield (none,()))) _ _
   rw[moveDown'_eq]
   have hks:k<(arrOf st'').size:=by rw[hB'.size];exact hk
   refine wpS_bind (wpS_modify (wpS_pure ⟨rfl,hB'.setArr (bubble_perm _ _ _),?_,?_⟩))
   ·rw [show min (k+1) n=k+1 by omega]
    intro i j hij hj
    show Lx (bubble (arrOf st'') k (k-l)) i j
    obtain⟨i',⟨k1,t1⟩,e1⟩:=kiN hks (show k-l≤k by omega) i
    obtain⟨j',⟨k2,t2⟩,e2⟩:=kiN hks (show k-l≤k by omega) j
    rw[show k-(k-l)=l by omega] at e1 e2
    unfold Lx
    rw[k1,k2,t1,t2]
    by_cases z1:i=l
    ·rw[if_pos z1] at e1
     rw[if_neg (by omega),if_pos (by omega)] at e2
     subst e1
     exact .inl (hi j' (by omega) (by omega))
    ·rw[if_neg z1] at e1
     by_cases z2:j=l
     ·rw[if_pos z2] at e2
      rw[if_neg (by omega)] at e1
      subst e2
      have a1:=lo i' (by omega)
      have a2:=hla i' j' (by omega) (Nd _) hk
      omega
     ·rw[if_neg z2] at e2
      refine hu i' j' ?_ ?_
      ·rw[e1,e2]
       repeat' split
       all_goals omega
      ·rw[e2]
       split <;> omega
   ·rw[show min (k+1) n=k+1 by omega]
    intro a b hab hkb hb
    show T (bubble (arrOf st'') k (k-l)) a<T (bubble (arrOf st'') k (k-l)) b
    obtain⟨a',⟨_,t1⟩,e1⟩:=kiN hks (show k-l≤k by omega) a
    obtain⟨b',⟨_,t2⟩,e2⟩:=kiN hks (show k-l≤k by omega) b
    rw[show k-(k-l)=l by omega] at e1 e2
    rw[if_neg (by omega),if_neg (by omega)] at e2
    subst e2
    rw[t1,t2]
    refine hla a' b' ?_ (by omega) hb
    rw[e1]
    repeat' split
    all_goals omega
noncomputable def Done(a₀:Array Keyed)(st:SortSt):Prop:=(arrOf st).Perm a₀∧failedOf st=none∧pendingOf st= #[(0,a₀.size,0)]∧Up (arrOf st) a₀.size
theorem done{st:SortSt}(hB:SBase a₀ st)(hu:Up (arrOf st) a₀.size):Done a₀ (setPending st ((pendingOf st).push (0,a₀.size,0))):=⟨hB.perm,hB.failed,by show(pendingOf st).push _=_;rw[hB.pend];rfl,hu⟩
theorem runs{st:SortSt}{Q:Unit→SortSt→Prop}(h0:IntKeys a₀)(hB:SBase a₀ st)(h2:2≤a₀.size)(h64:a₀.size<64)(hl:Lat a₀ (arrOf st) 1)
  (h:∀st',(arrOf st').Perm a₀→failedOf st'=none→Up (arrOf st') a₀.size→Q () st'):wpS (model prog w) A E s sortRuns' Q st:=by
 rw[sortRuns'_eq]
 refine wpS_bind (wpS_get ?_)
 dsimp only
 have mr:minRun' a₀.size a₀.size 0=a₀.size:=by
  obtain⟨f,hf⟩:∃f,a₀.size=f+1:=⟨a₀.size-1,by omega⟩
  have z:minRun' (f+1) a₀.size 0=a₀.size:=by rw[minRun'_succ,if_pos h64];rfl
  rwa [←hf] at z
 simp only[hB.size,mr]
 refine wpS_bind (wpS_mono (wpS_forRange (I:=fun x c st'=>(x=0∧c=(none,0)∧st'=st)∨(1≤x∧c=(none,a₀.size)∧Done a₀ st')) (Q:=fun c st'=>c=(none,a₀.size)∧Done a₀ st') ?turn ?over (.inl ⟨rfl,rfl,rfl⟩)) ?behind)
 case over=>
  rintro c st' (⟨hx,_,_⟩|⟨_,hc,hD⟩)
  ·omega
  ·exact⟨hc,hD⟩
 case turn=>
  rintro x c st' _ hx (⟨rfl,rfl,rfl⟩|⟨hx1,rfl,hD⟩)
  ·dsimp only
   rw[if_neg (by omega)]
   simp only[Nat.sub_zero,MM,Ea]
   refine wpS_bind (count h0 (Nd _) (by omega) hB hl fun m st2 hB2 hm1 hm2 hu2 hl2=>?_)
   dsimp only
   by_cases c1:m<a₀.size
   ·rw[if_pos c1]
    refine wpS_bind (wpS_lift (wpAny_rule ⟨rfl,?_⟩))
    refine wpS_bind (insert h0 (Nd _) hm1 hm2 hB2 hu2 hl2 fun st3 hB3 hu3=>?_)
    simp only[Bool.not_true,Mh,if_false]
    refine wpS_bind (wpS_get ?_)
    have hb:(pendingOf st3).back?=none:=by rw[hB3.pend];rfl
    rw[hb]
    dsimp only
    exact wpS_bind (wpS_modify (wpS_pure (.inr ⟨by omega,rfl,done hB3 hu3⟩)))
   ·rw[if_neg c1]
    have e:m=a₀.size:=by omega
    subst e
    refine wpS_bind (wpS_get ?_)
    have hb:(pendingOf st2).back?=none:=by rw[hB2.pend];rfl
    rw[hb]
    dsimp only
    exact wpS_bind (wpS_modify (wpS_pure (.inr ⟨by omega,rfl,done hB2 hu2⟩)))
  ·dsimp only
   rw[if_pos (Nd _)]
   exact wpS_pure ⟨rfl,hD⟩
 case behind=>
  rintro c st' ⟨rfl,hD⟩
  dsimp only
  refine wpS_bind (wpS_mono (wpS_forRange (I:=fun _ c st''=>st''=st'∧c=(none,())) (Q:=fun c st''=>st''=st'∧c=(none,())) ?_ (fun _ _ z=>z) ⟨rfl,rfl⟩) ?_)
  ·rintro x c st'' _ _ ⟨rfl,rfl⟩
   refine wpS_bind (wpS_get ?_)
   rw[if_pos (by rw[hD.2.2.1];exact Nd 1)]
   exact wpS_pure ⟨rfl,rfl⟩
  ·rintro c st'' ⟨rfl,rfl⟩
   exact wpS_pure (h _ hD.1 hD.2.1 hD.2.2.2)
end
end Stb
namespace Stb
open PySem PyProof.Rows
structure SJ (J:Shared→Prop) (n0:Nat):Prop where
 sz:∀s,J s→n0≤s.heap.objs.size
 push:∀s c xs n,J s→J {s with heap:=s.heap.push (seqObj c xs n)}
 upd:∀s b g,J s→n0≤b→J {s with heap:=s.heap.update b (Obj.mapSeq g)}
noncomputable def Tells(J:Shared→Prop)(n0:Nat)(k:Int)(s:Shared)(v:Value)(s':Shared):Prop:=(∃t,v=.int k t)∧J s'∧∀b o,n0≤b→s.heap.get? b=some o→s'.heap.get? b=some o
noncomputable def Rows(keys:Array Value)(vs:List Value)(out:Array Value):Prop:=∃xs:Array Keyed,xs.Perm (keys.zip vs.toArray)∧Up xs xs.size∧out=xs.map (·.2)
section
variable {prog:Program} {w:World} {A:Around} {E:Value→Shared→Prop} {s:Shared} {J:Shared→Prop} {n0:Nat} {a kS:Addr} {vs:List Value} {kz:List Int} {keys:Array Value} {e e1:Nat} {P:PySem.Fin→Shared→Prop}
theorem tailK(S:SJ J n0)(hJ:J s)(hk:s.heap.get? kS=some (seqObj "list" keys e))(ha:s.heap.get? a=some (seqObj "list" #[] e1))(ne:kS≠a)(nk:n0≤kS)(na:n0≤a){st:SortSt}(hz:keys.size≤64)(hp:(arrOf st).Perm (keys.zip vs.toArray))(hu:Up (arrOf st) (arrOf st).size)
  (hf:failedOf st=none) (hv:vs.length≤64) (h:∀h' out c,J {s with heap:=h'}→h'.get? a=some (seqObj "list" out c)→Rows keys vs out→P (.done (.ret .none)) {s with heap:=h'}):wpAny (model prog w) A (ksk_tail a false e1 (.ref kS) st) P E s:=by
 have sz2:(arrOf st).size≤64:=by
  have hvs:vs.toArray.size=vs.length:=by simp
  rw[hp.size_eq,EE]
  omega
 have q1:=Heap.SameBut.update s.heap kS (Obj.mapSeq fun _=>(#[]:Array Value))
 have g1:(s.heap.update kS (Obj.mapSeq fun _=>(#[]:Array Value))).get? a=some (seqObj "list" #[] e1):=(q1.2 a ne.symm).trans ha
 have J1:=S.upd s kS (fun _=>#[]) hJ nk
 have J2:=S.upd _ a (fun _=>(arrOf st).map (·.2)) J1 na
 unfold ksk_tail
 try dsimp only
 refine wpAny_bind (listUpdate_at hk rfl ?_ (by rw[sizeLine_eq];omega) (NO _))
 refine wpAny_bind (wpAny_letGo ?_)
 refine wpAny_bind (seqEpoch_at g1 rfl ?_)
 refine wpAny_bind (listUpdate_at g1 rfl ?_ (NO _) (by simp only[Mh,if_false,Array.size_map];rw[sizeLine_eq];omega))
 rw[hf]
 simp only[bne_self_eq_false,Mh,if_false]
 exact wpAny_pure (h _ _ _ J2 (get?_update_seq g1 fun _=>(arrOf st).map (·.2)) ⟨arrOf st,hp,hu,rfl⟩)
theorem zip_T{keys:Array Value}{vs:List Value}{i:Nat}(hl:keys.size=vs.length):T (keys.zip vs.toArray) i=match vs[i]? with|some v=>numOf v|none=>0:=by
 unfold T
 have hvs:vs.toArray.size=vs.length:=by simp
 cases ev:vs[i]? with
 |none=>
  have hi:vs.length≤i:=ET.mp ev
  have e:(keys.zip vs.toArray)[i]?=none:=DB (by rw[EE];omega)
  rw[e]
 | some v=>
  have hi:i<vs.length:=(Nu.mp ev).1
  have hz:i<(keys.zip vs.toArray).size:=by rw[EE];omega
  have ev':vs[i]=v:=by
   rw[N5 hi] at ev
   exact Option.some.inj ev
  have e:(keys.zip vs.toArray)[i]?=some (keys[i]'(by omega),vs[i]):=by
   rw[EA hz]
   simp
  rw[e,ev']
theorem endK(S:SJ J n0)(hJ:J s)(hk:s.heap.get? kS=some (seqObj "list" keys e))(ha:s.heap.get? a=some (seqObj "list" #[] e1))(ne:kS≠a)(nk:n0≤kS)(na:n0≤a)(hi:IntsAre keys.toList kz)(hl:keys.size=vs.length)(h64:vs.length<64)
  (up:∀(i j:Nat)(x y:Value),i<j→vs[i]?=some x→vs[j]?=some y→numOf x<numOf y)
  (h:∀h' out c,J {s with heap:=h'}→h'.get? a=some (seqObj "list" out c)→Rows keys vs out→P (.done (.ret .none)) {s with heap:=h'}):wpAny (model prog w) A (ksk_end a false vs.toArray e1 (.ref kS) keys) P E s:=by
 have hvs:vs.toArray.size=vs.length:=by simp
 have zs:(keys.zip vs.toArray).size=vs.length:=by rw[EE];omega
 unfold ksk_end
 try dsimp only
 simp only[Mh,if_false]
 by_cases h2:vs.toArray.size<2
 ·rw[if_pos h2,if_pos h2]
  refine wpAny_bind (wpAny_pure ?_)
  rw[StateT.run_pure]
  refine wpAny_bind (wpAny_pure ?_)
  try dsimp only
  refine tailK (st:=SortSt.mk' general' (keys.zip vs.toArray) #[] 7 none) S hJ hk ha ne nk na (by omega) (Array.Perm.refl _) ?_ rfl (by omega) h
  intro i j hij hj
  have hj2:j<(keys.zip vs.toArray).size:=hj
  rw[zs] at hj2
  rw[NG] at h2
  omega
 ·rw[if_neg h2,if_neg h2]
  rw[NG] at h2
  rw[ksk_kind hi (by rw[hl];omega)]
  refine wpAny_bind (wpAny_pure ?_)
  have lat:Lat (keys.zip vs.toArray) (keys.zip vs.toArray) 1:=fun i j hij _ hj=>by
   rw[zs] at hj
   rw[zip_T hl,zip_T hl,N5 (show i<vs.length by omega),N5 hj]
   exact up i j _ _ hij (N5 (show i<vs.length by omega)) (N5 hj)
  refine wpAny_bind (wpAny_mono (runs (a₀:=keys.zip vs.toArray) (st:=SortSt.mk' oneType' (keys.zip vs.toArray) #[] 7 none) (Q:=fun _ st'=>(arrOf st').Perm (keys.zip vs.toArray)∧failedOf st'=none∧Up (arrOf st') (keys.zip vs.toArray).size)
   (ksk_intKeys hi) ⟨Array.Perm.refl _,rfl,rfl,rfl⟩ (by rw[zs];omega) (by rw[zs];exact h64) lat fun st' b1 b2 b3=>⟨b1,b2,b3⟩) ?_ fun _ _ z=>z)
  rintro⟨⟨⟩,st'⟩ s' ⟨rfl,b1,b2,b3⟩
  try dsimp only
  exact tailK S hJ hk ha ne nk na (by omega) b1 (by rw[b1.size_eq];exact b3) b2 (by omega) h
theorem restK{f:Value}(S:SJ J n0)(hJ:J s)(hk:s.heap.get? kS=some (seqObj "list" #[] 0))(ha:s.heap.get? a=some (seqObj "list" #[] e1))(ne:kS≠a)(nk:n0≤kS)(na:n0≤a)(hl:kz.length=vs.length)(h64:vs.length<64)
  (up:∀(i j:Nat)(x y:Value),i<j→vs[i]?=some x→vs[j]?=some y→numOf x<numOf y)
  (turn:∀(i:Nat)(v:Value)(k:Int),vs[i]?=some v→kz[i]?=some k→∀s',J s'→wpAny (model prog w) A (call f [v]) (Tells J n0 k s') (fun _ _=>False) s')
  (h:∀s' keys out c,J s'→s'.heap.get? a=some (seqObj "list" out c)→IntsAre keys.toList kz→keys.size=vs.length→Rows keys vs out→P (.done (.ret .none)) s'):wpAny (model prog w) A (ksk_rest a f false vs.toArray e1 (.ref kS)) P E s:=by
 unfold ksk_rest
 refine wpAny_bind (wpAny_rule ?_)
 first
  |rw[List.forIn_toArray]
  |rw[←Array.forIn_toList]
 refine wpAny_bind (ksk_fold (fun i s'=>J s'∧∃kA e,s'.heap.get? kS=some (seqObj "list" kA e)∧s'.heap.get? a=some (seqObj "list" #[] e1)∧IntsAre kA.toList (kz.take i)) vs 0 s ⟨hJ,#[],0,hk,ha,by simpa using IntsAre.nil⟩ ?turnP ?doneP)
 case turnP=>
  rintro j x s' hx ⟨J',kA,e,g1,g2,hi⟩
  simp only[Ea] at hi⊢
  have hj:j<vs.length:=(Nu.mp hx).1
  obtain⟨k,ek⟩:∃k,kz[j]?=some k:=⟨_,N5 (by omega)⟩
  have lz:kA.size≤vs.length:=by
   have h1:=hi.length
   rw[MU,Nv] at h1
   omega
  refine wpAny_bind (wpAny_attempt (wpAny_mono (turn j x k hx ek s' J') (fun v s'' hT=>?_) fun _ _ z=>z.elim))
  obtain⟨⟨t,rfl⟩,J2,kp⟩:=hT
  try dsimp only
  have g1':=kp _ _ nk g1
  have g2':=kp _ _ na g2
  have q1:=Heap.SameBut.update s''.heap kS (Obj.mapSeq (·.push (.int k t)))
  refine wpAny_bind (listUpdate_at g1' rfl ?_ (by rw[sizeLine_eq];omega) (Nk (Es (Array.size_push ..)) (by rw[sizeLine_eq];omega)))
  have et:kz.take (j+1)=kz.take j++[k]:=by rw[Ms,ek];simp
  have ep:(kA.push (Value.int k t)).toList=kA.toList++[Value.int k t]:=by simp
  exact wpAny_pure ⟨rfl,S.upd _ kS _ J2 nk,kA.push (.int k t),_,get?_update_seq g1' (·.push (.int k t)),(q1.2 a ne.symm).trans g2',by rw[ep,et];exact ksk_snoc hi⟩
 case doneP=>
  rintro s' ⟨J',kA,e,g1,g2,hi⟩
  have e3:kz.take (0+vs.length)=kz:=Mg (by omega)
  rw[e3] at hi
  have lk:kA.size=vs.length:=by
   have:=hi.length
   rw[MU] at this
   omega
  try dsimp only
  refine wpAny_bind (listItems_at g1 rfl ?_)
  exact endK S J' g1 g2 ne nk na hi lk h64 up fun h' out c z1 z2 z3=>h _ kA out c z1 z2 hi lk z3
theorem sortK{f:Value}{n:Nat}(S:SJ J n0)(hJ:J s)(ho:s.heap.get? a=some (seqObj "list" vs.toArray n))(na:n0≤a)(hl:kz.length=vs.length)(h64:vs.length<64)
  (up:∀(i j:Nat)(x y:Value),i<j→vs[i]?=some x→vs[j]?=some y→numOf x<numOf y)
  (turn:∀(i:Nat)(v:Value)(k:Int),vs[i]?=some v→kz[i]?=some k→∀s',J s'→wpAny (model prog w) A (call f [v]) (Tells J n0 k s') (fun _ _=>False) s')
  (h:∀s' keys out c,J s'→s'.heap.get? a=some (seqObj "list" out c)→IntsAre keys.toList kz→keys.size=vs.length→Rows keys vs out→P (.done (.ret .none)) s'):wpAny (model prog w) A (ksk_tree a f false) P E s:=by
 have la:a<s.heap.objs.size:=Heap.lt_size ho
 have J1:=S.upd s a (fun _=>#[]) hJ na
 have J2:=S.push _ "tuple" vs.toArray 0 J1
 have J3:=S.push _ "list" #[] 0 J2
 obtain⟨e1,g1⟩:∃e1,(s.heap.update a (Obj.mapSeq fun _=>(#[]:Array Value))).get? a=some (seqObj "list" #[] e1):=⟨_,get?_update_seq ho fun _=>#[]⟩
 have sz:((s.heap.update a (Obj.mapSeq fun _=>(#[]:Array Value))).push (seqObj "tuple" vs.toArray 0)).objs.size=s.heap.objs.size+1:=by rw[size_push',Heap.size_update]
 have n0s:=S.sz s hJ
 unfold ksk_tree
 refine wpAny_bind (listItems_at ho rfl ?_)
 refine wpAny_bind (listUpdate_at ho rfl ?_ (by rw[NG,sizeLine_eq];omega) (NO _))
 refine wpAny_bind (seqEpoch_at g1 rfl ?_)
 refine wpAny_bind (wpAny_newTuple ?_ (by show vs.length≤_;rw[sizeLine_eq];omega))
 refine wpAny_bind (wpAny_newList ?_ (NO _))
 refine wpAny_holding ?_
 refine restK (s:={s with heap:=((s.heap.update a (Obj.mapSeq fun _=>(#[]:Array Value))).push (seqObj "tuple" vs.toArray 0)).push (seqObj "list" #[] 0)}) (kS:=((s.heap.update a (Obj.mapSeq fun _=>(#[]:Array Value))).push (seqObj "tuple" vs.toArray 0)).objs.size)
  S J3 (Heap.get?_push_size _ rfl) (Heap.get?_push_of_some _ (Heap.get?_push_of_some _ g1)) (by rw[sz];exact Me (Nat.lt_succ_of_lt la)) (by rw[sz];omega) na hl h64 up turn h
end
section
variable {prog:Program} {w:World} {A:Around} {E:Value→Shared→Prop} {s:Shared} {J:Shared→Prop} {n0:Nat} {vs:List Value} {kz:List Int} {Q:Value→Shared→Prop}
theorem sortedK{l f:Addr}(S:SJ J n0)(hJ:J s)(hL:s.heap.IsList l vs.toArray)(hl:kz.length=vs.length)(h64:vs.length<64)
  (up:∀(i j:Nat)(x y:Value),i<j→vs[i]?=some x→vs[j]?=some y→numOf x<numOf y)
  (turn:∀(i:Nat)(v:Value)(k:Int),vs[i]?=some v→kz[i]?=some k→∀s',J s'→wpAny (model prog w) A.in1.in1 (call (.ref f) [v]) (Tells J n0 k s') (fun _ _=>False) s')
  (h:∀s' D keys out c,n0≤D→J s'→s'.heap.get? D=some (seqObj "list" out c)→IntsAre keys.toList kz→keys.size=vs.length→Rows keys vs out→Q (.ref D) s'):wpAny (model prog w) A (call (.builtin "sorted") [.ref l] [(Str.ofString "key", .ref f)]) Q E s:=by
 refine call_function_entry_kw kind_sorted plain_sorted entry_sorted (ksk_s1 _ _) ?_
 unfold Builtin.«sorted»
 refine wpAny_bind (m:=checkCount "sorted" 1 1 _) (wpAny_pure ?_)
 refine wpAny_bind (collect_list hL ?_ (by rw[sizeLine_eq];omega))
 refine wpAny_bind (wpAny_newList ?_ (by rw[sizeLine_eq];omega))
 have n0s:=S.sz s hJ
 have J1:=S.push s "list" #[] 0 hJ
 have J2:=S.upd _ s.heap.objs.size (· ++vs.toArray) J1 n0s
 have J3:=S.push _ "list" vs.toArray 0 J2
 have sz:((s.heap.push (seqObj "list" #[] 0)).update s.heap.objs.size (Obj.mapSeq (· ++vs.toArray))).objs.size=s.heap.objs.size+1:=by rw[Heap.size_update,size_push']
 have g1:(((s.heap.push (seqObj "list" #[] 0)).update s.heap.objs.size (Obj.mapSeq (· ++vs.toArray))).push (seqObj "list" vs.toArray 0)).get? (s.heap.objs.size+1)=some (seqObj "list" vs.toArray 0):=by
  rw[←sz]
  exact Heap.get?_push_size _ rfl
 show wpAny _ _ _ _ _ {s with heap:=((s.heap.push (seqObj "list" #[] 0)).update s.heap.objs.size (Obj.mapSeq (· ++vs.toArray))).push (seqObj "list" vs.toArray 0)}
 rw[sz]
 refine wpAny_bind (wpAny_holding (wpAny_call_entry_kw slot_list_sort ⟨_,g1,rfl⟩ entry_list_sort ?inner (ksk_l1 _ _)))
 case inner=>
  show wpAny (model prog w) A.in1.in1 (Builtin.«list.sort» ⟨[.ref (s.heap.objs.size+1)],[(Str.ofString "key", .ref f)]⟩) _ _ _
  rw[ksk_t1]
  refine sortK (s:={s with heap:=((s.heap.push (seqObj "list" #[] 0)).update s.heap.objs.size (Obj.mapSeq (· ++vs.toArray))).push (seqObj "list" vs.toArray 0)}) S J3 g1 (by omega) hl h64 up turn fun s' keys out c z1 z2 z3 z4 z5=>⟨_,rfl,?_⟩
  exact wpAny_pure ⟨_,rfl,h s' _ keys out c (by omega) z1 z2 z3 z4 z5⟩
end
end Stb
namespace L2
open PySem PySem.Spec PyProof.Rows
structure kdF (X:Cx) (scope:Scope) (x:Str) (N:List Str) (cap:List (Option Nat)):Prop where
 S:CompScope X scope N (none::cap)
 hd:N[0]?=some x
 par:scope.names.lookup x=some .local
 co:scope.isCoroutine=false
 gen:scope.isGenerator=false
 nocell:∀y∈scope.names,y.2≠.cell
noncomputable abbrev kka(X:Cx)(scope:Scope)(qual:Str)(L f c:Addr):Env:=PySem.W.envX qual scope L f (.ref c) (closL X.env.cells scope.names [])
noncomputable def cxL(X:Cx)(A:Around)(scope:Scope)(N:List Str)(qual:Str)(f c:Addr)(s:Shared)(H:Hp):Cx:=
 {X with A:=A.deeper (kka X scope qual s.heap.objs.size f c),N:=N,s₀:=s,H₀:=H,env:=kka X scope qual s.heap.objs.size f c,outer:=X.stack,stack:=kka X scope qual s.heap.objs.size f c::X.stack,ex:=[],fn:=fun _=>false,calm:=true,pn:=[],xe:=fun _ _=>False}
section
variable {X:Cx} {A:Around} {scope:Scope} {x:Str} {N:List Str} {cap:List (Option Nat)} {pins:List (Addr×Obj)} {σ:St} {H:Hp} {s s1:Shared} {qual:Str} {f c:Addr}
theorem kcY(S:kdF X scope x N cap)(I:Inv X pins σ H s){y:Str}{a:Addr}(h:(closL X.env.cells scope.names []).lookup y=some a):X.env.cells.lookup y=some a:=by
 rcases ker _ _ h with⟨h1,h2⟩|h1
 ·obtain⟨a',ea⟩:=I.ok.has y (S.S.free _ h1 rfl)
  rw[ea] at h2
  rw[h2]
  exact ea
 ·cases h1
theorem kmj(S:kdF X scope x N cap)(I:Inv X pins σ H s)(hfr:A.frames=some X.stack)(hh:A.handled=none){v:V}{u:Value}(r:RelV v u){h1:Heap}{t:Nat}(hns:h1.Ns s.heap.objs.size fun y=>[(x,u)].reverse.lookup y)(hk:∀b o,s.heap.get? b=some o→h1.get? b=some o):
  Inv (cxL X A scope N qual f c s H) [] (some v::capσ cap σ) H {s with heap:=h1,toks:=t}:=by
 have noA:∀b:Addr,b∉(cxL X A scope N qual f c s H).ex:=fun b z=>absurd (show b∈([]:List Addr) from z) (by simp)
 have od:∀{y:Str}{a:Addr},X.env.cells.lookup y=some a→a<s.heap.objs.size:=fun {y a} h=>let⟨_,q⟩:=I.cell y a h;q.lt
 refine⟨⟨I.ok.mod,S.S.kind,rfl,rfl,Nd _,fun y z a e1 e2=>I.ok.inj y z a (kcY S I e1) (kcY S I e2),fun y hy=>?_,fun y a e1 _=>?_,fun _=>hh,Around.frames_deeper hfr, .inr ⟨rfl,rfl⟩,fun b z=>absurd z (noA b),I.bs,Nk I.ok.bsz I.sz,fun b _ _=>noA b,fun b z=>absurd z (noA b),I.stack,I.stkFree⟩,
  rfl,I.bare,Un.kept hk,⟨_,hns,fun j y w e1 e2 e3=>?_⟩,fun y a e=>?_,I.hok.fresh (Nd _),fun y a e=>I.freeC y a (kcY S I e),fun p hp=>absurd (show p∈([]:List (Addr×Obj)) from hp) (by simp),I.hok.kept hk,?_⟩
 ·have hy':scope.names.lookup y=some .cell∨scope.names.lookup y=some .free:=hy
  rcases hy' with q|q
  ·exact absurd rfl (S.nocell _ (PySem.mem_of_lookup q))
  ·exact kc1 (cells:=X.env.cells) scope.names [] (.inl (PySem.mem_of_lookup q))
 ·cases(show false=true from e1)
 ·cases j with
  | zero=>
   have ex:y=x:=by
    have e1':N[0]?=some y:=e1
    rw[S.hd] at e1'
    exact(Option.some.inj e1').symm
   have ev:w=v:=by
    have e2':some (some v)=some (some w):=e2
    exact(Option.some.inj (Option.some.inj e2')).symm
   subst ex ev
   refine⟨u,r, .inl ⟨S.par,?_⟩⟩
   simp
  | succ j=>
   have e2':(capσ cap σ)[j]?=some (some w):=by simpa using e2
   have e2'':(cap.map fun o=>match o with|some i=>(σ[i]?).getD none|none=>none)[j]?=some (some w):=e2'
   rw[Ni] at e2''
   cases ec:cap[j]? with
   |none=>rw[ec] at e2'';cases e2''
   | some oi=>
    rw[ec] at e2''
    cases oi with
    |none=>cases e2''
    | some i=>
     have e4:(σ[i]?).getD none=some w:=Option.some.inj e2''
     have e5: σ[i]?=some (some w):=by
      cases q: σ[i]? with
      |none=>rw[q] at e4;cases e4
      |some w'=>rw[q] at e4;exact congrArg some e4
     obtain⟨q1,hf,_⟩:=S.S.cap (j+1) i y (by simpa using ec) e1
     have hm:=PySem.mem_of_lookup hf
     have q2:=S.S.free _ hm rfl
     obtain⟨mo,_,hl⟩:=I.loc
     obtain⟨u',ru,lk⟩:=hl i y w q1 e5 (.inr q2)
     refine⟨u',ru, .inr ⟨.inr hf,?_⟩⟩
     rcases lk with⟨k1,_⟩|⟨_,a,ea,z⟩
     ·have k1':X.env.scope.names.lookup y=some .local:=k1
      rcases q2 with q2|q2 <;> rw[q2] at k1' <;> cases k1'
     ·obtain⟨a',ea2⟩:=kc1 (cells:=X.env.cells) scope.names [] (.inl hm)
      have e6:=kcY S I ea2
      rw[ea] at e6
      have e7:a=a':=Option.some.inj e6
      subst e7
      obtain⟨oc,ho,hd⟩:=z
      exact⟨a,ea2,oc,hk _ _ ho,hd⟩
 ·obtain⟨w,oc,ho,hd⟩:=I.cell y a (kcY S I e)
  exact⟨w,oc,hk _ _ ho,hd⟩
 ·have:=S.S.len
  show(some v::capσ cap σ).length=N.length
  rw[←this,NT,NT]
  unfold capσ
  rw[Nb]
theorem kk2{name:Str}{params:Arguments}{body:Expr}{pm ctv:Value}{te:TE}{v:V}{u:Value}{Q:VK}(S:kdF X scope x N cap)(I:Inv X pins σ H s)(hfr:A.frames=some X.stack)(hh:A.handled=none)(hdp:A.depth<recursionLimit)
  (ho:s.heap.get? f=some (EF name qual params body scope (closL X.env.cells scope.names []) pm c ctv)) (hcd:s.heap.CodeRec (.ref c) qual)
  (hbind:bindArgs (PySem.W.kla_fn name qual params body scope (closL X.env.cells scope.names []) pm (.ref c) ctv) ⟨[u],[]⟩=pure [(x,u)]) (r:RelV v u) (he:PE (cxL X A scope N qual f c s H) body te) (hq:te (some v::capσ cap σ) H Q):
  wpAny (model X.prog X.w) A (call (.ref f) [u]) (fun w' s'=>∃v' H',Inv X pins σ H' s'∧RelV v' w'∧Q v' H'∧Un (frs X.stack) [] H H' s.heap s'.heap∧s.heap.objs.size≤s'.heap.objs.size) (fun _ _=>False) s:=by
 refine wpAny_call (PySem.W.kla_callFunE hdp ho rfl S.co S.gen rfl hcd ?_)
 rw[hbind]
 refine wpAny_pure (wpAny_newFunctionEnv S.nocell (fun y hy=>?_) (fun h1 hns hsb=>⟨I.nolimit.fresh _ hsb,?_⟩) S.S.kind)
 ·rw[Mi] at hy
  subst hy
  exact S.par
 have hk:∀b o,s.heap.get? b=some o→h1.get? b=some o:=fun b o e=>hsb.extBut b o (NL (Heap.lt_size e)) (Heap.get?_push_of_some _ e)
 have J:=kmj (A:=A) (qual:=qual) (f:=f) (c:=c) (t:=s.toks+1) S I hfr hh r hns hk
 refine PySem.W.kla_codeExpr (wpAny_mono (he [] _ _ _ Q J hq) (fun w' s' hw=>?_) fun _ _ z=>z.elim)
 obtain⟨v',H',J',rv,qv⟩:=hw
 exact⟨v',H',I.call' (ch:=[]) J'.os J'.base J'.hok J'.bare (fun b hb=>by simp at hb),rv,qv,J'.base,J'.sz⟩
end
end L2
namespace L2
open PySem PySem.Spec PyProof.Rows
noncomputable def CodeO(c:Addr)(qual:Str):HO:=.ext fun h=>h.CodeRec (.ref c) qual
noncomputable def lamN(p:Pos):Str:=if p.col=38 then "first_use.<locals>.<lambda>" else "falling_groups.<locals>.<lambda>"
noncomputable def kk3{p p':Pos}(h:p.col=p'.col):lamN p=lamN p':=by unfold lamN;rw[h]
noncomputable def TbAt(P:Addr)(H:Hp):Prop:=∃ps:Array Value,H P=some (.tbl ps)∧TriplesOk ps.toList∧∀pos c,codeAmong pos ps.toList=some c→∃c',c=.ref c'∧H c'=some (CodeO c' (lamN pos))
structure Grew (P:Addr) (H H':Hp):Prop where
 kp:∀b o,b≠P→H b=some o→H' b=some o
 tb:TbAt P H'
theorem kkF{pos:Pos}{a b:Int}{c:Value}(l:List Value)(h:TriplesOk l){x:Value}(e:codeAmong pos (l++[rawInt a,rawInt b,c])=some x):codeAmong pos l=some x∨(x=c∧b=pos.col):=by
 fun_induction TriplesOk l with
 |case1=>
  right
  unfold rawInt codeAmong at e
  simp only[MZ] at e
  split at e
  next hc=>exact⟨(Option.some.inj e).symm,by simpa using(Bool.and_eq_true_iff.mp hc).2⟩
  ·simp[codeAmong] at e
 | case2 n t m u d rest ih=>
  simp only[EG,codeAmong] at e⊢
  split at e
  ·left
   rename_i hc
   rw[if_pos hc]
   exact e
  ·rename_i hc
   rw[if_neg hc]
   exact ih h e
 |case3=>exact h.elim
noncomputable def CodeK(K:Nc)(c P:Addr):Prop:=
 ∃o vs file tf flags tg inF text tt,K.lookup c=some o∧o.cls=.type "code"∧o.data=.fields vs∧vs[11]?=some (.ref P)∧vs.getD 11 .none=.ref P∧vs.getD 18 .none=.str file tf∧vs.getD 7 .none=.int flags tg∧vs.getD 9 .none=.bool inF∧vs.getD 10 .none=.int text tt∧c≠P
noncomputable def CodeK.hd{K:Nc}{c P:Addr}{h:Heap}(x:CodeK K c P)(X:K.In h):PySem.W.CodeHd h c P:=by
 obtain⟨o,vs,file,tf,flags,tg,inF,text,tt,e,r⟩:=x
 exact⟨o,vs,file,tf,flags,tg,inF,text,tt,X _ _ e,r⟩
noncomputable def BltM(mg:Str→Option Value)(base:Heap):Prop:=∃bm ob,mg "__builtins__"=some (.ref bm)∧bm≠builtinsNs∧base.get? bm=some ob∧ob.cls=.type "module"∧ob.dict=some builtinsNs∧ob.data=.plain
section
variable {X:Cx} {scope:Scope} {x:Str} {N:List Str} {cap:List (Option Nat)} {pins:List (Addr×Obj)} {σ:St} {H:Hp} {s:Shared} {c0 P:Addr} {params:Arguments} {body:Expr} {lpos:Pos}
theorem kk1{E:Value→Shared→Prop}{Q:Value→Shared→Prop}(S:kdF X scope x N cap)(I:Inv X pins σ H s)(hcode:X.env.code=.ref c0)(CK:CodeK X.K c0 P)(hB:BltM X.mg X.base)(TB:TbAt P H)(hq:X.env.qual++ "<lambda>"=(lamN lpos))(hdef:defaultsOf params X.env=([],[]))
  (h:∀(s':Shared)(H':Hp)(f c:Addr)(pm ctv:Value),Inv X pins σ H' s'→Grew P H H'→s'.heap.get? f=some (EF "<lambda>" (lamN lpos) params body scope (closL X.env.cells scope.names []) pm c ctv)→H' f=none→s.heap.objs.size≤f→(∀b,s.heap.objs.size≤b→s'.heap.objs.size≤b→H' b=none)→H' c=some (CodeO c (lamN lpos))→Q (.ref f) s'):
  wpAny (model X.prog X.w) X.A (eval (.Lambda params body scope lpos) X.env) Q E s:=by
 obtain⟨ps,eP,ht,hor⟩:=TB
 have hP:s.heap.get? P=some (EH ps):=(show ObjOk X.prog X.w H s.heap P (.tbl ps) from I.hok P _ eP)
 have hg:=I.mod.glob.keeps I.bk
 have nbP:∀b o,X.base.get? b=some o→b≠P:=fun b o e z=>by
  have:=(I.bs b o e).2
  rw[z,eP] at this
  cases this
 have hgP:mainGlobals≠P:=by
  obtain⟨o,_,_,e,_⟩:=I.mod.glob
  exact nbP _ o e
 have hb:s.heap.BuiltinsAt X.mg P:=by
  obtain⟨bm,ob,b1,b2,b3,b4,b5,b6⟩:=hB
  refine⟨bm,ob,b1,b2,fun z=>?_,nbP _ ob b3,I.bk _ _ b3,b4,b5,b6⟩
  obtain⟨o,es,ep,e,hd,_⟩:=I.mod.glob
  rw[←z,b3] at e
  cases e
  rw[b6] at hd
  cases hd
 have CH:=CK.hd I.kIn
 refine PySem.W.kla_eval hdef ?_
 rw[hq]
 cases hor':codeAmong lpos ps.toList with
 | none=>
  have hnf:=hor'
  refine PySem.W.kla_makeFunction (mg:=X.mg) (kcA S.S I) I.ok.glob hg hcode CH hP ht hnf hgP hb fun c' ctv h' tk hx hge hlt hrec htb=>?_
  have hc0:H c'=none:=I.hok.fresh hge
  have nPc:P≠c':=kai eP hc0
  have szP:P<s.heap.objs.size:=Heap.lt_size hP
  generalize hob:EF "<lambda>" (lamN lpos) params body scope (closL X.env.cells scope.names []) ((X.mg "__name__").getD .none) c' ctv=ob
  have k2:∀b o,b≠P→s.heap.get? b=some o→(h'.push ob).get? b=some o:=fun b o hbp e=>Heap.get?_push_of_some _ (hx b o hbp e)
  have nN:∀{b:Addr},H b=none→b≠P:=fun {b} n z=>by rw[z,eP] at n;cases n
  have at2:∀{b:Addr},b≠P→b≠c'→(upd (upd H P (.tbl (ps++ #[rawInt lpos.line,rawInt lpos.col, .ref c']))) c' (CodeO c' (lamN lpos))) b=H b:=fun {b} h1 h2=>by rw[kak h2,kak h1]
  have eP2:(upd (upd H P (.tbl (ps++ #[rawInt lpos.line,rawInt lpos.col, .ref c']))) c' (CodeO c' (lamN lpos))) P=some (.tbl (ps++ #[rawInt lpos.line,rawInt lpos.col, .ref c'])):=by rw[kak nPc,kad]
  have ec2:(upd (upd H P (.tbl (ps++ #[rawInt lpos.line,rawInt lpos.col, .ref c']))) c' (CodeO c' (lamN lpos))) c'=some (CodeO c' (lamN lpos)):=kad
  have fresh2:∀b,s.heap.objs.size≤b→(h'.push ob).objs.size≤b→(upd (upd H P (.tbl (ps++ #[rawInt lpos.line,rawInt lpos.col, .ref c']))) c' (CodeO c' (lamN lpos))) b=none:=fun b h1 h2=>by
   rw[Heap.size_push] at h2
   rw[at2 (Me (NM szP h1)) (Me (NM hlt (Nat.le_of_succ_le h2)))]
   exact I.hok.fresh h1
  have ff:(upd (upd H P (.tbl (ps++ #[rawInt lpos.line,rawInt lpos.col, .ref c']))) c' (CodeO c' (lamN lpos))) h'.objs.size=none:=by
   have h1:s.heap.objs.size≤h'.objs.size:=Nk hge (Nq hlt)
   rw[at2 (Me (NM szP h1)) (Me hlt)]
   exact I.hok.fresh h1
  generalize upd (upd H P (.tbl (ps++ #[rawInt lpos.line,rawInt lpos.col, .ref c']))) c' (CodeO c' (lamN lpos))=H2 at *
  have un:Un X.fs [] H H2 s.heap (h'.push ob):=by
   refine⟨fun b o e n _ _=>k2 b o (nN n) e,fun b o e n _ _=>⟨o.slots,k2 b o (nN n) e⟩,fun b o e n _=>?_,fun b o e _=>?_,fun b xs e=>?_,fun b o u e=>?_,fun b qs e=>?_⟩
   ·rw[at2 (nN n) (NL (NM (Heap.lt_size e) hge))]
    exact n
   ·by_cases hbp:b=P
    ·subst hbp
     exact⟨_,Heap.get?_push_of_some _ htb⟩
    ·exact⟨o,k2 b o hbp e⟩
   ·rw[at2 (ne_of e eP (by intro z;cases z)) (kai e hc0)]
    exact e
   ·rw[at2 (ne_of e eP (by intro z;cases z)) (kai e hc0)]
    exact e
   ·by_cases hbp:b=P
    ·subst hbp
     rw[eP] at e
     cases e
     exact⟨_,eP2⟩
    ·refine⟨#[],?_⟩
     rw[at2 hbp (kai e hc0),e]
     simp
  have hok2:HOk X.prog X.w H2 (h'.push ob):=fun b u e=>by
   by_cases hbp:b=P
   ·subst hbp
    rw[eP2] at e
    cases e
    exact(show(h'.push ob).get? b=some _ from Heap.get?_push_of_some _ htb)
   ·by_cases hbc:b=c'
    ·subst hbc
     rw[ec2] at e
     cases e
     obtain⟨cc,oc,vs,t,e1,e2,e3,e4⟩:=hrec
     cases e1
     refine(show ObjOk X.prog X.w H2 (h'.push ob) b (CodeO b (lamN lpos)) from⟨⟨b,oc,vs,t,rfl,Heap.get?_push_of_some _ e2,e3,e4⟩,⟨oc,Heap.get?_push_of_some _ e2⟩,fun h1 h2 q k=>?_⟩)
     obtain⟨c3,o3,vs3,t3,z1,z2,z3,z4⟩:=q
     cases z1
     exact⟨b,o3,vs3,t3,rfl,k _ z2,z3,z4⟩
    ·rw[at2 hbp hbc] at e
     have nown:∀d y,H d=some (.own y)→d≠P∧d≠c':=fun d y r=>⟨ne_of r eP (by intro z;cases z),kai r hc0⟩
     refine(I.hok b u e).stay (fun d v hd r=>k2 d v ?_ r) (fun d r=>by rw[at2 (nown d b r).1 (nown d b r).2];exact r) fun d xs r=>by rw[at2 (ne_of r eP (by intro z;cases z)) (kai r hc0)];exact r
     rcases hd with rfl|hd
     ·exact hbp
     ·exact(nown d b hd).1
  subst hob
  refine h _ H2 h'.objs.size c' _ ctv (I.un (t':=tk) un hok2) ⟨fun b o hbp e=>by rw[at2 hbp (kai e hc0)];exact e,_,eP2,?_,fun pos d ed=>?_⟩ (Heap.get?_push_size _ rfl) ff (Nk hge (Nq hlt)) fresh2 ec2
  ·have:=TriplesOk_snoc lpos.line lpos.col (.ref c') ps.toList ht
   simpa using this
  ·have ed':codeAmong pos (ps.toList++[rawInt lpos.line,rawInt lpos.col, .ref c'])=some d:=by simpa using ed
   rcases kkF ps.toList ht ed' with z|z
   ·obtain⟨d',rfl,ed2⟩:=hor pos d z
    exact⟨d',rfl,by rw[at2 (ne_of ed2 eP (by intro z;cases z)) (kai ed2 hc0)];exact ed2⟩
   ·exact⟨c',z.1,by rw[kk3 (p:=pos) (p':=lpos) (by have:=z.2;omega)];exact ec2⟩
 |some cv=>
  have hf:=hor'
  obtain⟨c',rfl,ec'⟩:=hor lpos cv hf
  refine PySem.W.kla_makeFunctionHit (mg:=X.mg) (kcA S.S I) I.ok.glob hg hcode CH hP ht hf hb fun ctv h' tk hk hsz=>?_
  have k2:∀b o,s.heap.get? b=some o→(h'.push (EF "<lambda>" (lamN lpos) params body scope (closL X.env.cells scope.names []) ((X.mg "__name__").getD .none) c' ctv)).get? b=some o:=fun b o e=>Heap.get?_push_of_some _ (hk b o e)
  exact h _ H h'.objs.size c' _ ctv (I.kept (t':=tk) k2) ⟨fun b o _ e=>e,ps,eP,ht,hor⟩ (Heap.get?_push_size _ rfl) (I.hok.fresh hsz) hsz (fun b h1 _=>I.hok.fresh h1) ec'
end
end L2
namespace L2
open PySem PySem.Spec PyProof.Rows
theorem kiC:∀{ns:List Int}{us:List Value},Vals (ns.map V.int) us→IntsAre us ns
 |[],_, .nil=>.nil
 |n::ns,_, .cons h t=>by
  obtain⟨tk,rfl⟩:=h
  exact .cons n tk (kiC t)
theorem khN:∀{us:List Value}{ns:List Int},IntsAre us ns→Vals (ns.map V.int) us
 |_,_, .nil=>.nil
 |_,_, .cons n t h=>.cons ⟨t,rfl⟩ (khN h)
theorem kkK{ns:List Int}{key:Int→Int}{keys:Array Value}{us:List Value}{out:Array Value}(hu:IntsAre us ns)(hk:IntsAre keys.toList (ns.map key))(hl:keys.size=us.length)(h:Stb.Rows keys us out):
  ∃ms:List Int,IntsAre out.toList ms∧ms.Perm ns∧ms.Pairwise fun a b=>key a<key b∨(key a=key b∧a<b):=by
 obtain⟨xs,hp,hup,rfl⟩:=h
 have pl:xs.toList.Perm (keys.toList.zip us):=by
  rw[←ksk_zip]
  exact Array.perm_iff_toList_perm.mp hp
 have mem:∀p∈keys.toList.zip us,p.2∈us∧numOf p.1=key (numOf p.2):=fun p hp=>by
  obtain⟨i,hi,rfl⟩:=List.mem_iff_getElem.mp hp
  have l1:i<keys.toList.length:=by
   rw[List.length_zip] at hi
   omega
  have l2:i<us.length:=by
   rw[List.length_zip] at hi
   omega
  rw[List.getElem_zip]
  refine⟨E7 l2,?_⟩
  have e1:(keys.toList.map numOf)[i]?=(ns.map key)[i]?:=by rw[hk.nums]
  have e2:(us.map numOf)[i]?=ns[i]?:=by rw[hu.nums]
  rw[Ni,N5 l1,Ni] at e1
  rw[Ni,N5 l2] at e2
  rw[←e2] at e1
  exact Option.some.inj e1
 have memx:∀p∈xs.toList,p.2∈us∧numOf p.1=key (numOf p.2):=fun p hp=>mem p (pl.mem_iff.mp hp)
 refine⟨xs.toList.map fun p=>numOf p.2,?_,?_,?_⟩
 ·have e:(xs.map (·.2)).toList=xs.toList.map (·.2):=by simp
  rw[e]
  have:=intsAre_map (xs.toList.map (·.2)) fun v hv=>by
   obtain⟨p,hp',rfl⟩:=Ny.mp hv
   exact hu.all _ (memx p hp').1
  rw[NH] at this
  exact this
 ·have h1:=pl.map (fun p:Keyed=>numOf p.2)
  have e2:(keys.toList.zip us).map (fun p:Keyed=>numOf p.2)=ns:=by
   have e3:(keys.toList.zip us).map (fun p:Keyed=>numOf p.2)=((keys.toList.zip us).map Prod.snd).map numOf:=by rw[NH];rfl
   rw[e3,List.map_snd_zip (by have e:=MU (xs:=keys);omega),hu.nums]
  rw[e2] at h1
  exact h1
 ·rw[MN]
  intro i j hi hj hij
  have hi':i<xs.size:=by simpa using hi
  have hj':j<xs.size:=by simpa using hj
  have q:=hup i j hij hj'
  have ki:=(memx xs[i] (by simp)).2
  have kj:=(memx xs[j] (by simp)).2
  unfold Stb.Lx Stb.T at q
  rw[K_eq hi',K_eq hj',EA hi',EA hj'] at q
  simp only[MG,Array.getElem_toList]
  rw[←ki,←kj]
  exact q
section
variable {X:Cx} {scope:Scope} {x:Str} {N:List Str} {cap:List (Option Nat)} {pins:List (Addr×Obj)} {σ:St} {H:Hp} {s1:Shared} {f:Addr} {fo:Obj}
noncomputable def Held(X:Cx)(pins:List (Addr×Obj))(σ:St)(H:Hp)(n0:Nat)(f:Addr)(fo:Obj)(s:Shared):Prop:=Inv X pins σ H s∧n0≤s.heap.objs.size∧s.heap.get? f=some fo
theorem kmk(I:Inv X pins σ H s1)(hf:f<s1.heap.objs.size):Stb.SJ (Held X pins σ H s1.heap.objs.size f fo) s1.heap.objs.size where
 sz:=fun s h=>h.2.1
 push:=fun s c xs n h=>⟨h.1.kept (t':=s.toks) fun b o e=>Heap.get?_push_of_some _ e,Nk h.2.1 (by rw[Heap.size_push];exact MK _),Heap.get?_push_of_some _ h.2.2⟩
 upd:=fun s b g h hb=>by
  obtain⟨q1,q2,q3,q4,q5,q6⟩:=I.fpOk hb (I.hok.fresh hb)
  have sb:=Heap.SameBut.update s.heap b (Obj.mapSeq g)
  exact⟨h.1.turned (t':=s.toks) (it:=b) (fun d o hd e=>(sb.2 d hd).trans e) q1 q2 q4 q5 q6,by rw[Heap.size_update];exact h.2.1,(sb.2 f (NL (NM hf hb))).trans h.2.2⟩
noncomputable def kkJ(K:Nc)(P:Addr)(tl:TE)(cap:List (Option Nat))(te:TE):TE:=fun σ H Q=>tl σ H fun v H1=>∃(a:Addr)(ns:List Int)(key:Int→Int),v=.ref a∧SqL K H1 a (ns.map V.int)∧ns.length<64∧ns.Pairwise (· < ·)∧TbAt P H1∧a≠P∧
 (∀H2,Grew P H1 H2→∀n∈ns,te (some (.int n)::capσ cap σ) H2 fun v H3=>v=.int (key n)∧H3=H2)∧
 ∀(H2:Hp)(l:Addr)(ms:List Int),Grew P H1 H2→H1 l=none→H2 l=none→ms.Perm ns→(ms.Pairwise fun a b=>key a<key b∨(key a=key b∧a<b))→Q (.ref l) (upd H2 l (.lst (ms.map V.int)))
theorem kli:bootBuiltins "sorted"=some (.builtin "sorted"):=by decide +kernel
theorem Grew.seq{K:Nc}{P:Addr}{H H':Hp}{a:Addr}{xs:List V}(g:Grew P H H')(ha:a≠P)(h:SqL K H a xs):SqL K H' a xs:=by
 rcases h with(h|⟨o,h⟩)|h
 ·exact .inl (.inl (g.kp _ _ ha h))
 ·exact .inl (.inr ⟨o,g.kp _ _ ha h⟩)
 ·exact .inr h
theorem kiW{l:Expr}{tl te:TE}{c0 P:Addr}{params:Arguments}{body:Expr}{lpos p pos kpos:Pos}(hl:PE X l tl)(S:kdF X scope x N cap)(hc:X.calm=true)(hdp:X.A.depth<recursionLimit)(hcode:X.env.code=.ref c0)(CK:CodeK X.K c0 P)(hB:BltM X.mg X.base)
  (hg:Gl X "sorted") (hm:X.mg "sorted"=none) (hbind:∀(cl:List (Str×Addr))(pm:Value)(c:Addr)(ctv u:Value),bindArgs (PySem.W.kla_fn "<lambda>" (lamN lpos) params body scope cl pm (.ref c) ctv) ⟨[u],[]⟩=pure [(x,u)])
  (he:∀A f c s H,PE (cxL X A scope N (lamN lpos) f c s H) body te) (hq:X.env.qual++ "<lambda>"=(lamN lpos)) (hdef:defaultsOf params X.env=([],[]):=by rfl) (s1:starEach [l] X.env=[(false,eval l X.env)]:=by rfl):
  PE X (.Call (.Name "sorted" p) [l] [⟨some "key", .Lambda params body scope lpos,kpos⟩] pos) (kkJ X.K P tl cap te):=by
 intro pins s σ H Q I h
 refine wpAny_Call_Name_kw (kcX I hg hm kli ?_ (by decide) (by decide))
 refine callWith_kw ?_ (by rw[s1];rfl) (by rw[s1];rfl)
 rw[s1]
 refine Calls.spliced_cons (thn (hl pins s σ H _ I h) fun u s3 ⟨v,H1,I1,r1,a,ns,key,ev,hS,h64,hup,TB,haP,hte,q⟩=>Calls.spliced_nil ?_)
 subst ev
 cases r1
 show wpAny _ _ (evalAll ((do let v ←eval (.Lambda params body scope lpos) X.env;standAt pos;pure v):: [])) _ _ s3
 refine wpAny_evalAll_cons (wpAny_bind (kk1 S I1 hcode CK hB TB hq hdef fun s4 H4 lf c pm ctv I4 G ef ff hsf hfr ec=>wpAny_bind (wpAny_standAt (wpAny_pure (wpAny_evalAll_nil ?_)))))
 show wpAny _ _ (call (.builtin "sorted") [.ref a] [(Str.ofString "key", .ref lf)]) _ _ s4
 obtain⟨its,rv,pl,hz⟩:=I4.list (G.seq haP hS)
 have hi:=kiC rv
 have lu:=hi.length
 have lf4:lf<s4.heap.objs.size:=Heap.lt_size ef
 have rising:∀(i j:Nat)(y z:Value),i<j→its[i]?=some y→its[j]?=some z→numOf y<numOf z:=fun i j y z hij ey ez=>by
  have e1:ns[i]?=some (numOf y):=by rw[←hi.nums,Ni,ey];rfl
  have e2:ns[j]?=some (numOf z):=by rw[←hi.nums,Ni,ez];rfl
  obtain⟨l1,q1⟩:=Nu.mp e1
  obtain⟨l2,q2⟩:=Nu.mp e2
  have:=MN.mp hup i j l1 l2 hij
  rw[q1,q2] at this
  exact this
 refine Stb.sortedK (kz:=ns.map key) (J:=Held X pins σ H4 s4.heap.objs.size lf _) (kmk I4 lf4) ⟨I4,Nd _,ef⟩ pl.isList (by rw[Nb,lu]) (by omega) rising (fun i v k ev ek s5 hJ=>?_) fun s5 D keys out cc hD hJ eD hk hkl hR=>?_
 ·have en:ns[i]?=some (numOf v):=by rw[←hi.nums,Ni,ev];rfl
  have ek':k=key (numOf v):=by
   rw[Ni,en] at ek
   exact(Option.some.inj ek).symm
  subst ek'
  obtain⟨n,t,rfl⟩:=hi.all v (Nj ev)
  have hcr:s5.heap.CodeRec (.ref c) (lamN lpos):=(show ObjOk X.prog X.w H4 s5.heap c (CodeO c (lamN lpos)) from hJ.1.hok c _ ec).1
  refine wpAny_mono (kk2 (A:=X.A.in1.in1) (v:=.int n) (u:=.int n t) S hJ.1 I.ok.frames (I.ok.hd hc) hdp hJ.2.2 hcr (hbind _ _ _ _ _) ⟨t,rfl⟩ (he _ _ _ _ _) (hte H4 G n (Nj en))) (fun w' s6 hw=>?_) fun _ _ z=>z
  obtain⟨v',H6,I6,rv',⟨e1,e2⟩,un,sz6⟩:=hw
  subst e1 e2
  have nst:∀b,s3.heap.objs.size≤b→b∉frs X.stack:=fun b hb z=>absurd (kjn I1 z) (Nat.not_lt.mpr hb)
  have s34:s3.heap.objs.size≤s4.heap.objs.size:=Nq (Mx hsf lf4)
  have kp:∀b o,s3.heap.objs.size≤b→H6 b=none→s5.heap.get? b=some o→s6.heap.get? b=some o:=fun b o hb hn e=>un.keep b o e hn (nst b hb) (by simp)
  refine⟨rv',⟨I6,?_,kp lf _ hsf ff hJ.2.2⟩,fun b o hb e=>kp b o (Nk s34 hb) (I4.hok.fresh hb) e⟩
  exact Nk hJ.2.1 sz6
 ·obtain⟨ms,m1,m2,m3⟩:=kkK hi hk (by omega) hR
  have hn:H4 D=none:=I4.hok.fresh hD
  have fp:=I4.fpOk hD hn
  have h10:H1 D=none:=I1.hok.fresh (Nk (Nq (Mx hsf lf4)) hD)
  have vm:=khN m1
  have lz:(ms.map V.int).length≤sizeLine:=by
   rw[Nb,m2.length_eq,sizeLine_eq]
   omega
  refine⟨.ref D,_,hJ.1.adopt (a:=D) (o:=.lst (ms.map V.int)) fp ?_ ?_,rfl,q H4 D ms G h10 hn m2 m3⟩
  ·exact Nk I4.sz hD
  ·exact(show ObjOk X.prog X.w _ s5.heap D (.lst (ms.map V.int)) from⟨lz,out.toList,cc,vm,by simpa using eD⟩)
end
end L2
namespace L2
open PySem PySem.W PyProof.Rows
section
variable {X:Cx}
noncomputable def kmA:V→List V→Hp→VK→Prop:=fun x vs H Q=>∃(l:Addr)(ns:List Int)(k:Int),x=.ref l∧vs=[.int k]∧H l=some (.lst (ns.map V.int))∧Q (.int (ns.count k:Nat)) H
theorem ke7:∀{ns:List Int}{us:List Value}(k:Int),Vals (ns.map V.int) us→us.countP (isI k)=ns.count k
 |[],_,_, .nil=>rfl
 |m::ns,_::us,k, .cons r t=>by
  obtain⟨tk,rfl⟩:=r
  rw[List.countP_cons,Dd,ke7 k t]
  rfl
theorem kkW:MtM X "list.count" kmA:=by
 intro pins s σ H x vs v us Q I rx rv h
 obtain⟨l,ns,k,rfl,rfl,hH,q⟩:=h
 cases rx
 obtain⟨u,rfl,ru⟩:=rv.one
 obtain⟨t,rfl⟩:=ru
 obtain⟨z,its,n,r,hl,e⟩:=I.lstM hH
 refine call_meets F.slot_list_count ⟨_,e,rfl⟩ F.entry_list_count (F.args_list_count_2 _ _)
  (MeetsSeq.list_count l its.toArray n (.int k t) (isI k) (fun y hy=>?_)) ⟨e,?_⟩
 ·obtain⟨j,hj',rfl⟩:=DC.mp hy
  have hjl:j<its.length:=by simpa using hj'
  have hln:its.length=ns.length:=by rw[←hl,Nb]
  obtain⟨tk,et⟩:=keY r j ns[j] (by simp)
  obtain⟨_,e'⟩:=Nu.mp et
  have e2:its.toArray[j]=.int ns[j] tk:=by simpa using e'
  rw[e2]
  exact MeetsSeq.EqGives.int _ k tk t
 ·refine⟨.int (ns.count k:Nat),H,I.tok _,⟨s.toks,?_⟩,q⟩
  rw[List.toList_toArray,ke7 k r]
end
end L2
namespace L2
open PySem PySem.W PyProof.Rows
section
variable {X:Cx} {pins:List (Addr×Obj)} {σ:St} {H:Hp} {s:Shared} {A:Around} {E:Value→Shared→Prop} {Q:Value→Shared→Prop}
theorem ps_no{st:Stmt}:PS X st (fun _ _ _=>False):=fun _ _ _ _ _ _ h=>h.elim
end
end L2
namespace L2
open PySem PySem.W PyProof.Rows
section
variable {X:Cx}
theorem kf9:PGet X (rIxL X.K):=by
 intro pins s σ H o i ov iv Q I ro ri h
 obtain⟨p,xs,i,z,rfl,rfl,hq,he,q⟩:=h
 cases ro
 obtain⟨t,rfl⟩:=ri
 obtain⟨its,r,pl,hz⟩:=I.list hq
 obtain⟨j,h1,h2,h3,h4,h5⟩:=khJ he
 obtain⟨w,ew,rw'⟩:=r.get h2
 have hl:=r.length
 have hn:=kgP
 have fin:EP X pins σ Q w s:=⟨z,H,I,rw',q⟩
 by_cases h0:0≤i
 ·have hj:i.toNat=j:=by
   rw[seqIndex_of h0 h5] at h1
   exact Option.some.inj h1
  exact wpAny_getItem_list pl.isList h0 (by omega) (by rw[hj];simpa using ew) fin
 ·have hj:(i+(its.toArray.size:Int)).toNat=j:=by
   rw[seqIndex_neg (by omega) h4] at h1
   rw[NG,←hl]
   exact Option.some.inj h1
  exact wpAny_getItem_list_neg pl.isList (by omega) (by rw[NG] <;> omega) (by omega) (by rw[hj];simpa using ew) fin
end
end L2
namespace L2
open PySem PySem.Spec PyProof.Rows
section
variable {prog:Program} {w:World} {A:Around} {E:Value→Shared→Prop} {s:Shared}
end
end L2
namespace L2
open PySem PySem.Spec PyProof.Rows
section
variable {prog:Program} {w:World} {A:Around} {E:Value→Shared→Prop} {s:Shared}
end
section
variable {X:Cx}
end
end L2
namespace L2
open PySem PySem.Spec PyProof.Rows
section
variable {X:Cx}
end
end L2
namespace L2
open PySem PySem.Spec PyProof.Rows
noncomputable def nxo:HO→Bool
 | .ext _=>false
 |_=>true
noncomputable def NX(H:Hp)(p:Addr):Prop:=∀φ,H p≠some (.ext φ)
noncomputable def nx{H:Hp}{p:Addr}{o:HO}(h:H p=some o)(n:nxo o=true:=by rfl):NX H p:=fun φ z=>by
 rw[h] at z
 cases z
 cases n
noncomputable def nx0{H:Hp}{p:Addr}(h:H p=none):NX H p:=fun φ z=>by
 rw[h] at z
 cases z
noncomputable def kc9{H:Hp}{p q:Addr}{o:HO}(h:NX H p)(n:nxo o=true:=by rfl):NX (upd H q o) p:=fun φ z=>by
 by_cases e:p=q
 ·subst e
  rw[kad] at z
  cases z
  cases n
 ·rw[kak e] at z
  exact h φ z
noncomputable abbrev Ev(H H':Hp)(b:Addr)(o:HO):Prop:=match o with
 | .tbl _=>(∃ps,H' b=some (.tbl ps))∧(TbAt b H→TbAt b H')
 |o=>H' b=some o
noncomputable def ev_eq{H H':Hp}{b:Addr}{o:HO}(e:H' b=some o)(t:TbAt b H→TbAt b H'):Ev H H' b o:=by
 cases o <;> first|exact e|exact⟨⟨_,e⟩,t⟩
noncomputable def kga{H H':Hp}{b:Addr}{o:HO}(e:Ev H H' b o):∃o',H' b=some o':=by
 cases o <;> first|exact⟨_,e⟩|exact⟨_,e.1.choose_spec⟩
theorem kbE{H H1 H2:Hp}{b:Addr}{o:HO}(e:Ev H H1 b o)(k:∀o,H1 b=some o→Ev H1 H2 b o):Ev H H2 b o:=by
 cases o with
 |tbl ps=>
  obtain⟨⟨ps1,e1⟩,t1⟩:=e
  obtain⟨e2,t2⟩:=(show Ev H1 H2 b (.tbl ps1) from k _ e1)
  exact⟨e2,fun h=>t2 (t1 h)⟩
 |_=>exact k _ e
noncomputable def kdW{b p:Addr}{H:Hp}{o:HO}(h:TbAt b H)(n:b≠p)(hx:NX H p):TbAt b (upd H p o):=by
 obtain⟨ps,e,t,hor⟩:=h
 refine⟨ps,by rw[kak n];exact e,t,fun pos d ed=>?_⟩
 obtain⟨c,rfl,z2⟩:=hor pos d ed
 have hc:c≠p:=fun e=>by
  subst e
  exact hx _ z2
 exact⟨c,rfl,by rw[kak hc];exact z2⟩
noncomputable def Same(H H':Hp):Prop:=∀b o,H b=some o→Ev H H' b o
noncomputable def Same.refl(H:Hp):Same H H:=fun _ _ h=>ev_eq h fun t=>t
noncomputable def Same.trans{H H1 H2:Hp}(a:Same H H1)(b:Same H1 H2):Same H H2:=fun c o h=>kbE (a c o h) fun o' e=>b c o' e
theorem Same.free{H H':Hp}(e:Same H H'){l:Addr}(h:H' l=Option.none):H l=Option.none:=by
 cases q:H l with
 |none=>rfl
 |some o=>
  obtain⟨o',e'⟩:=kga (e l o q)
  rw[e'] at h
  cases h
noncomputable def Same.seq{K:Nc}{H H':Hp}{a:Addr}{xs:List V}(e:Same H H')(h:SqL K H a xs):SqL K H' a xs:=by
 rcases h with(h|⟨o,h⟩)|h
 ·exact .inl (.inl (e _ _ h))
 ·exact .inl (.inr ⟨o,e _ _ h⟩)
 ·exact .inr h
noncomputable def Same.tb{H H':Hp}(s:Same H H'){b:Addr}(h:TbAt b H):TbAt b H':=by
 obtain⟨ps,e,r⟩:=id h
 exact(show Ev H H' b (.tbl ps) from s b _ e).2 h
noncomputable def Grew.same{P:Addr}{H H':Hp}(g:Grew P H H')(TB:TbAt P H):Same H H':=fun b o e=>by
 obtain⟨ps,eP,ht,hor⟩:=TB
 by_cases h:b=P
 ·subst h
  rw[eP] at e
  cases e
  obtain⟨qs,e1,_⟩:=id g.tb
  exact⟨⟨qs,e1⟩,fun _=>g.tb⟩
 ·refine ev_eq (g.kp b o h e) fun t=>?_
  obtain⟨qs,e1,t1,h1⟩:=t
  refine⟨qs,g.kp b _ h e1,t1,fun pos d ed=>?_⟩
  obtain⟨c,rfl,z⟩:=h1 pos d ed
  exact⟨c,rfl,g.kp c _ (ne_of z eP (by intro z;cases z)) z⟩
end L2
namespace L2
open PySem PySem.Spec PyProof.Rows
noncomputable def kgo(K:Nc)(tP:Addr):Sp:=fun vs H Q _=>∃(a:Addr)(ns:List Int),vs=[.ref a]∧SqL K H a (ns.map V.int)∧ns.length≤63∧TbAt tP H∧∀H',Q (.bl true) H'
theorem kj8{P:Program}{w:World}{K:Nc}{mg mb:Str→Option Value}{k:Nat}{fa a tP c0:Addr}{fd:FuncData}{x:Str}{s₁:Shared}{vs:List Value}{ns:List Int}
  (KX:K.In s₁.heap) (hns:s₁.heap.Ns mainGlobals mg) (hb:s₁.heap.Ns builtinsNs mb) (hbb:∀x:Str,x≠"__name__"→mb x=bootBuiltins x) (hlim:s₁.heap.NoLimit) (hg:s₁.gens= #[])
  (ha:s₁.heap.get? a=some {cls:=.type "list",data:=.seq vs.toArray}) (hi:IntsAre vs ns) (hl:ns.length≤63) (hr:Room k callerA) (hT:s₁.heap.get? tP=some (EH #[])) (CK:CodeK K c0 tP) (kT:K.lookup tP=none) (hBM:BltM mg s₁.heap)
  (F:∀base:Heap,K.In base→base.Ns mainGlobals mg→BltM mg base→FnOk P w K mg base CX0 k fa fd [x] (kgo K tP)) (hbind:∀(s:Shared)(u:Value),BindsTo s fd ⟨[u],[]⟩ [(x,u)]):
  codeAny (model P w) callerA (.call (.ref fa) ⟨[.ref a],[]⟩) (fun r s'=>r=.ok (.ret (.bool true))∧OldK s₁.heap s'.heap∧s'.os=s₁.os∧AllBare s'.gens) s₁:=by
 have rv:=kgj hi
 have lenV:=hi.length
 have hlz:ns.length≤sizeLine:=Nk hl (by decide)
 have nTa:tP≠a:=fun e=>by
  rw[e,ha] at hT
  have:=Option.some.inj hT
  injection this with z
  cases z
 have core:∀H:Hp,SqL K H a (ns.map V.int)→HOk P w H s₁.heap→H tP=some (.tbl #[])→(∀b,b≠tP→H b=none∨(b=a∧∃o xs,H b=some (.frz o (.lst xs))))→(H a≠none→K.lookup a=none)→
   codeAny (model P w) callerA (.call (.ref fa) ⟨[.ref a],[]⟩) (fun r s'=>r=.ok (.ret (.bool true))∧OldK s₁.heap s'.heap∧s'.os=s₁.os∧AllBare s'.gens) s₁:=by
  intro H hS hok eT hO hK
  have base_of:∀{b:Addr}{o:Obj},s₁.heap.get? b=some o→H b=none→(hidT s₁.heap H).get? b=some o:=fun e n=>kk7 e n
  have noT:∀{b:Addr}{o:Obj},s₁.heap.get? b=some o→o.cls≠.none→(∀us n,o.data≠.seq us n)→H b=none:=fun {b o} e hc hd=>by
   by_cases hbT:b=tP
   ·rw[hbT,hT] at e
    cases e
    exact absurd rfl hc
   ·rcases hO b hbT with z|⟨z,_⟩
    ·exact z
    ·rw[z,ha] at e
     cases e
     exact absurd rfl (hd _ _)
  have noA:∀{b:Addr}{o:Obj}{es:Array DictEntry}{ep:Nat},s₁.heap.get? b=some o→o.data=.dict es ep→H b=none:=fun {b o es ep} e d=>by
   by_cases hbT:b=tP
   ·rw[hbT,hT] at e
    cases e
    cases d
   ·rcases hO b hbT with z|⟨z,_⟩
    ·exact z
    ·rw[z,ha] at e
     cases e
     cases d
  have nsK:∀{b:Addr}{m:Str→Option Value},s₁.heap.Ns b m→(hidT s₁.heap H).Ns b m:=fun {b m} ⟨o,es,ep,e,d,r⟩=>⟨o,es,ep,base_of e (noA e d),d,r⟩
  have hKb:K.In (hidT s₁.heap H):=fun b o e=>base_of (KX b o e) (by
   by_cases hbT:b=tP
   ·rw[hbT,kT] at e
    cases e
   ·rcases hO b hbT with z|⟨z,o',xs,z2⟩
    ·exact z
    ·subst z
     rw[hK (by rw[z2];simp)] at e
     cases e)
  have hM:Mod K mg (hidT s₁.heap H):=⟨hKb,nsK hns,⟨mb,nsK hb,hbb⟩,let⟨mc,h1,h2⟩:=hlim;⟨mc,nsK h1,h2⟩⟩
  have hBb:BltM mg (hidT s₁.heap H):=by
   obtain⟨bm,ob,b1,b2,b3,b4,b5,b6⟩:=hBM
   exact⟨bm,ob,b1,b2,base_of b3 (noT b3 (by rw[b4];intro z;cases z) (fun us n z=>by rw[b6] at z;cases z)),b4,b5,b6⟩
  have e0:Env0 P w K mg (hidT s₁.heap H) callerA [] s₁ H:=⟨rfl,hM,fun b o e=>kmd e,Es (kki _ _),trivial,fun b hb=>absurd (show b∈([]:List Addr) from hb) (by simp),hok, .of_eq hg⟩
  have hsp:kgo K tP [.ref a] H (fun v _=>v=.bl true) fun _ _ _=>False:=⟨a,ns,rfl,hS,hl,⟨#[],eT,by trivial,fun pos c e=>by cases e⟩,fun _=>rfl⟩
  refine codeAny_mono ((F _ hKb (nsK hns) hBb).run callerA [] s₁ H ⟨[.ref a],[]⟩ [.ref a] [.ref a] _ _ hr e0 (hbind s₁ (.ref a)) (.cons rfl .nil) hsp) fun r s' h=>?_
  cases r with
  |error e=>exact(show False from h).elim
  | ok fl=>
   cases fl with
   |next=>exact False.elim h
   |brk=>exact False.elim h
   |cont=>exact False.elim h
   | ret u=>
    obtain⟨v,H',os,bare,un,hok',r',q⟩:=h
    have q':v=.bl true:=q
    subst q'
    obtain rfl:u=Value.bool true:=r'
    have kp:∀b o,b≠tP→s₁.heap.get? b=some o→s'.heap.get? b=some o:=fun b o hbT e=>by
     rcases hO b hbT with z|⟨z,o',xs,z2⟩
     ·exact un.keep b o e z (fun z=>absurd (show b∈([]:List Addr) from z) (by simp)) (by simp)
     ·have z3:=un.frzs b o' _ z2
      obtain⟨e1,_⟩:=hok b _ z2
      obtain⟨e2,_⟩:=hok' b _ z3
      rw[e] at e1
      cases e1
      exact e2
    obtain⟨more,eM⟩:=un.tbls tP #[] eT
    have tM:s'.heap.get? tP=some (EH (#[]++more)):=(show ObjOk P w H' s'.heap tP (.tbl (#[]++more)) from hok' tP _ eM)
    refine⟨rfl,⟨fun b o e=>?_,fun b o e=>?_⟩,os,bare⟩
    ·by_cases hbT:b=tP
     ·subst hbT
      rw[hT] at e
      cases e
      obtain⟨oc,us,_,_,_,_,_,_,_,c1,c2,c3,c4,_⟩:=CK
      exact .inr (.inl ⟨⟨c0,oc,us,KX _ _ c1,c2,c3,c4⟩,rfl,#[],more,rfl,tM⟩)
     ·exact .inl (kp b o hbT e)
    ·by_cases hbT:b=tP
     ·subst hbT
      exact⟨_,tM⟩
     ·exact⟨o,kp b o hbT e⟩
 cases hk:K.lookup a with
 | some o=>
  have e:=KX a o hk
  rw[ha] at e
  cases e
  refine core (fun b=>if b=tP then some (.tbl #[]) else none) (.inr ⟨_,vs.toArray,_,hk,rfl,rfl,rfl,by rw[NG,lenV];exact hlz,by simpa using rv⟩) (fun b u z=>?_) (if_pos rfl) (fun b hbT=>.inl (if_neg hbT)) fun z=>absurd (if_neg nTa.symm) z
  by_cases hbT:b=tP
  ·have z':=(if_pos hbT).symm.trans z
   cases z'
   subst hbT
   exact(show s₁.heap.get? b=some _ from hT)
  ·have z':=(if_neg hbT).symm.trans z
   cases z'
 | none=>
  refine core (fun b=>if b=tP then some (.tbl #[]) else if b=a then some (.frz {cls:=.type "list",data:=.seq vs.toArray} (.lst (ns.map V.int))) else none) (.inl (.inr ⟨{cls:=.type "list",data:=.seq vs.toArray},by show(if a=tP then _ else _)=_;rw[if_neg nTa.symm,if_pos rfl]⟩)) (fun b u z=>?_) (if_pos rfl) (fun b hbT=>?_) fun _=>hk
  ·by_cases hbT:b=tP
   ·have z':=(if_pos hbT).symm.trans z
    cases z'
    subst hbT
    exact(show s₁.heap.get? b=some _ from hT)
   ·have z1:=(if_neg hbT).symm.trans z
    by_cases hb2:b=a
    ·have z':=(if_pos hb2).symm.trans z1
     cases z'
     subst hb2
     exact⟨ha,by rw[Nb];exact hlz,vs,_,rv,ha⟩
    ·have z':=(if_neg hb2).symm.trans z1
     cases z'
  ·by_cases hb2:b=a
   ·exact .inr ⟨hb2,_,_,by show(if b=tP then _ else _)=_;rw[if_neg hbT,if_pos hb2]⟩
   ·exact .inl (by show(if b=tP then _ else _)=_;rw[if_neg hbT,if_neg hb2])
theorem walkT_of{l:PySem.W.OpenLaw}{k:Nat}{q:Program}{loose:List Str}{XP:(Str→Option Value)→Heap→Prop}{YP:World→Heap→Prop}{d:DefRec}{K:Params→Nc}{ts:List Addr}{x:Str}
  (hn:l.most=some 63) (hdf:d.params.defaults=[]) (hr:Room k callerA) (hY:∀(w:World)(h:Heap),YP w h→(K w.params).In h) (hTs:∀(w:World)(h:Heap),YP w h→∀P∈ts,h.get? P=some (EH #[]))
  (F:∀(w:World)(mg:Str→Option Value)(fa:Addr)(h:Heap),(K w.params).In h→h.Ns mainGlobals mg→mg d.name=some (.ref fa)→
   ∃(fd:FuncData)(tP c0:Addr),tP∈ts∧CodeK (K w.params) c0 tP∧(K w.params).lookup tP=none∧(∀(s:Shared)(u:Value),BindsTo s fd ⟨[u],[]⟩ [(x,u)])∧
    ∀base:Heap,(K w.params).In base→base.Ns mainGlobals mg→BltM mg base→FnOk l.prog w (K w.params) mg base CX0 k fa fd [x] (kgo (K w.params) tP)):
  PySem.W.WalkO q loose XP YP l.row.toRowW d [] (fun f vs=>PySem.call f vs):=by
 refine Att.attach_call hn hdf fun w s₀ s₁ mg mb fa o pm cd doc a vs ns G Y ho hd hcd hmg hobj hints hlen hg=>?_
 have KX:=hY w _ Y
 obtain⟨fd,tP,c0,hm,CK,kT,hb,hF⟩:=F w mg fa _ KX G.T.g hmg
 obtain⟨bm,ob,b1,b2,b3,b4,b5,b6⟩:=G.T.bmain
 exact kj8 KX G.T.g G.T.b G.T.builtins G.T.nolimit hg hobj hints hlen hr (hTs w _ Y tP hm) CK kT ⟨bm,ob,b1,b2,b3,b4,b5,b6⟩ hF hb
end L2
namespace L2
open PySem PySem.Spec PyProof.Rows
noncomputable def nd1(x:Str):([x]:List Str).Nodup:=by simp
noncomputable def But(x:Addr)(H H':Hp):Prop:=∀b o,b≠x→H b=some o→Ev H H' b o
noncomputable def But.trans{x:Addr}{H H1 H2:Hp}(a:But x H H1)(b:But x H1 H2):But x H H2:=fun c o n h=>kbE (a c o n h) fun o' e=>b c o' n e
noncomputable def But.same{x:Addr}{H H1 H2:Hp}(a:But x H H1)(b:Same H1 H2):But x H H2:=fun c o n h=>kbE (a c o n h) fun o' e=>b c o' e
noncomputable def But.of_same{x:Addr}{H H1:Hp}(b:Same H H1):But x H H1:=fun c o _ h=>b c o h
noncomputable def But.refl{x:Addr}{H:Hp}:But x H H:=fun b o _ h=>Same.refl H b o h
noncomputable def kay{x:Addr}{H:Hp}{o:HO}(hx:NX H x:=by first|exact nx kad|exact nx (by assumption)|exact nx0 (by assumption)|exact kc9 (nx kad) rfl|exact kc9 (nx (by assumption)) rfl):But x H (upd H x o):=fun b u n e=>ev_eq (by rw[kak n];exact e) fun t=>kdW t n hx
noncomputable def kal{H:Hp}{p:Addr}{o:HO}(hp:H p=none):Same H (upd H p o):=fun b u e=>ev_eq (by rw[kak (kai e hp)];exact e) fun t=>kdW t (kai e hp) (nx0 hp)
noncomputable def kaq{H H':Hp}{p:Addr}{o:HO}(hp:H p=none)(s:Same H H')(hx:NX H' p:=by first|exact nx (by assumption)|exact nx kad|exact kc9 (nx (by assumption)) rfl|exact kc9 (nx kad) rfl|exact kc9 (nx0 (by assumption)) rfl|exact kc9 (kc9 (nx (by assumption)) rfl) rfl):Same H (upd H' p o):=fun b u e=>
 kbE (s b u e) fun u' e'=>ev_eq (by rw[kak (kai e hp)];exact e') fun t=>kdW t (kai e hp) hx
noncomputable def kbl{H:Hp}{x dx C:Addr}(hx:H x=none)(nd:H dx=none):Same H (upd (upd H dx (.own x)) x (.ins C dx [])):=fun b u e=>by
 have n1:=kai e hx
 have n2:=kai e nd
 exact ev_eq (by rw[kak n1,kak n2];exact e) fun t=>kdW (kdW t n2 (nx0 nd)) n1 (kc9 (nx0 hx) rfl)
noncomputable def kbH{H H':Hp}{x dx C:Addr}(hx:H x=none)(nd:H dx=none)(k:But x (upd (upd H dx (.own x)) x (.ins C dx [])) H'):Same H H':=fun b o e=>kbE (kbl (C:=C) hx nd b o e) fun o' e'=>k b o' (kai e hx) e'
noncomputable def kdA{H:Hp}{x dx C y:Addr}(h:(upd (upd H dx (.own x)) x (.ins C dx [])) y=none):H y=none:=by
 by_cases e1:y=x
 ·subst e1
  rw[kad] at h
  cases h
 ·rw[kak e1] at h
  by_cases e2:y=dx
  ·subst e2
   rw[kad] at h
   cases h
  ·rw[kak e2] at h
   exact h
noncomputable def kgL{H:Hp}{x dx C y:Addr}{o:HO}(nx:H x=none)(nd:H dx=none)(h:H y=some o):(upd (upd H dx (.own x)) x (.ins C dx [])) y=some o:=by
 rw[kak (kai h nx),kak (kai h nd)]
 exact h
theorem kam{f:Str}{v:V}:∀{fs:List (Str×V)}{n:Nat},fs.length≤n→(putF f v fs).length≤n+1
 |[],n,_=>by
  show 1≤n+1
  omega
 | (g,x)::r,n,h=>by
  show(if g=f then(g,v)::r else(g,x)::putF f v r).length≤n+1
  have h':r.length+1≤n:=h
  split
  ·show r.length+1≤n+1
   omega
  ·show(putF f v r).length+1≤n+1
   have:=kam (f:=f) (v:=v) (fs:=r) (n:=n-1) (by omega)
   omega
noncomputable def few{fs:List (Str×V)}(h:fs.length≤20):fs.length<1000:=by omega
theorem int_at{ns:List Int}{i:Nat}{x:V}(h:(ns.map V.int)[i]?=some x):∃z,ns[i]?=some z∧x=V.int z:=by
 rw[Ni] at h
 cases e:ns[i]? with
 |none=>rw[e] at h;cases h
 |some z=>rw[e] at h;exact⟨z,rfl,(Option.some.inj h).symm⟩
theorem kcf{ns:List Addr}{i:Nat}{x:V}(h:(ns.map V.ref)[i]?=some x):∃z,ns[i]?=some z∧x=V.ref z:=by
 rw[Ni] at h
 cases e:ns[i]? with
 |none=>rw[e] at h;cases h
 |some z=>rw[e] at h;exact⟨z,rfl,(Option.some.inj h).symm⟩
theorem kba{α:Type}{g: α→V}{ns:List α}{i:Nat}{x:V}(h:(ns.map g)[i]?=some x):∃z,ns[i]?=some z∧x=g z:=by
 rw[Ni] at h
 cases e:ns[i]? with
 |none=>rw[e] at h;cases h
 |some z=>rw[e] at h;exact⟨z,rfl,(Option.some.inj h).symm⟩
noncomputable def at_lt{α:Type}{xs:List α}{i:Nat}{x: α}(h:xs[i]?=some x):i<xs.length:=(Nu.mp h).1
noncomputable def at_of{α:Type}{xs:List α}{i:Nat}(h:i<xs.length):∃x,xs[i]?=some x:=⟨xs[i],by simp[h]⟩
noncomputable def kbJ{α:Type}{rs:List α}{i:Nat}{r: α}(h:rs[i]?=some r):rs.take (i+1)=rs.take i++[r]:=by
 rw[Ms,h]
 rfl
inductive P2 {α β:Type} (R: α→β→Prop):List α→List β→Prop
 |nil:P2 R [] []
 |cons {a: α} {b: β} {as:List α} {bs:List β} (h:R a b) (t:P2 R as bs):P2 R (a::as) (b::bs)
section
variable {α β:Type} {R R': α→β→Prop} {as as':List α} {bs bs':List β}
theorem P2.of(hl:as.length=bs.length)(h:∀(i:Nat)(a: α)(b: β),as[i]?=some a→bs[i]?=some b→R a b):P2 R as bs:=by
 induction as generalizing bs with
 |nil=>
  cases bs with
  |nil=>exact .nil
  |cons b bs=>cases hl
 |cons a as ih=>
  cases bs with
  |nil=>cases hl
  |cons b bs=>exact .cons (h 0 a b rfl rfl) (ih (by simpa using hl) fun i x y e1 e2=>h (i+1) x y (by simpa using e1) (by simpa using e2))
theorem P2.len(h:P2 R as bs):as.length=bs.length:=by
 induction h with
 |nil=>rfl
 |cons r t ih=>simp[ih]
theorem P2.get(h:P2 R as bs){i:Nat}{a: α}{b: β}(e1:as[i]?=some a)(e2:bs[i]?=some b):R a b:=by
 induction h generalizing i with
 |nil=>simp at e1
 | cons r t ih=>
  cases i with
  |zero=>
   simp at e1 e2
   subst e1 e2
   exact r
  |succ i=>exact ih (by simpa using e1) (by simpa using e2)
theorem P2.at(h:P2 R as bs){i:Nat}{a: α}(e1:as[i]?=some a):∃b,bs[i]?=some b∧R a b:=by
 obtain⟨b,e2⟩:=at_of (xs:=bs) (i:=i) (by rw[←h.len];exact at_lt e1)
 exact⟨b,e2,h.get e1 e2⟩
theorem P2.mono(h:P2 R as bs)(k:∀a b,R a b→R' a b):P2 R' as bs:=by
 induction h with
 |nil=>exact .nil
 |cons r t ih=>exact .cons (k _ _ r) ih
theorem P2.append(h:P2 R as bs)(h':P2 R as' bs'):P2 R (as++as') (bs++bs'):=by
 induction h with
 |nil=>exact h'
 |cons r t ih=>exact .cons r ih
theorem P2.snoc(h:P2 R as bs){a: α}{b: β}(r:R a b):P2 R (as++[a]) (bs++[b]):=h.append (.cons r .nil)
theorem P2.take(h:P2 R as bs)(k:Nat):P2 R (as.take k) (bs.take k):=by
 induction h generalizing k with
 |nil=>simpa using P2.nil
 |cons r t ih=>
  cases k with
  |zero=>exact .nil
  |succ k=>exact .cons r (ih k)
theorem P2.drop(h:P2 R as bs)(k:Nat):P2 R (as.drop k) (bs.drop k):=by
 induction h generalizing k with
 |nil=>simpa using P2.nil
 |cons r t ih=>
  cases k with
  |zero=>exact .cons r t
  |succ k=>exact ih k
theorem P2.reverse(h:P2 R as bs):P2 R as.reverse bs.reverse:=by
 induction h with
 |nil=>exact .nil
 |cons r t ih=>
  rw[Ew,Ew]
  exact ih.append (.cons r .nil)
end
theorem rep1(n:Nat)(v:V):(Nh n [v]).flatten=Nh n v:=by
 induction n with
 |zero=>rfl
 |succ n ih=>rw[Mr,NK,ih,Mr];rfl
noncomputable def kjM(n:Nat)(z:Int):Nh n (V.int z)=(Nh n z).map V.int:=by simp
noncomputable def kfw(k:Int):(!decide (V.int k=V.non))=true:=by simp
noncomputable def kfv:(!decide (V.non=V.non))=false:=by simp
noncomputable def oV:Option Int→V
 |none=>.non
 |some z=>.int z
structure TxtB (mg:Str→Option Value):Prop where
 range:mg "range"=none
 len:mg "len"=none
 min:mg "min"=none
 max:mg "max"=none
 isi:mg "isinstance"=none
 bool:mg "bool"=none
 int:mg "int"=none
 list:mg "list"=none
 sum:mg "sum"=none
 enum:mg "enumerate"=none
 any:mg "any"=none
 all:mg "all"=none
 rev:mg "reversed"=none
 zip:mg "zip"=none
 abs:mg "abs"=none
 sorted:mg "sorted"=none
 tuple:mg "tuple"=none
 str:mg "str"=none
structure FunD (K:Nc) (x qual:Str) (st:Stmt) (f:Addr) (fd:FuncData):Prop where
 ex:∃(oc:Value)(od:Option Addr)(dV kV doc pm:Value)(an:Option Addr)(cdv ct:Value)(osl:Array (Option Value)),
  fd=Nx x qual (kaG st) (kaF st) (kah st) dV kV doc pm an cdv ct∧K.lookup f=some ⟨oc,od, .func fd,osl⟩∧NU K cdv qual=true
 kp:Nz K (.ref f)=true
theorem FunD.ok{P:Program}{w:World}{K:Nc}{mg:Str→Option Value}{base:Heap}{x qual:Str}{st:Stmt}{f:Addr}{fd:FuncData}{N ps:List Str}{k:Nat}{sp:Sp}(F:FunD K x qual st f fd)(S:kat N ps (kah st))(len:∀vs H Q E,sp vs H Q E→vs.length=ps.length)
  (hbody:∀(cdv:Value)(A:Around)(outer:List Env)(s:Shared)(H:Hp)(vs:List V)(Q:VK)(E:XK),Room k (A.deeper (PyProof.Rows.envOfC qual (kah st) s.heap.objs.size f cdv))→sp vs H Q E→
   ∃t,PSs (cxOf CX0 P w K mg base N qual (kah st) f cdv A outer s H E).nox (kaF st) t∧t {nx:=fun _ H'=>Q .non H',rt:=Q} (start N vs) H):FnOk P w K mg base CX0 (k+1) f fd ps sp:=by
 obtain⟨oc,od,dV,kV,doc,pm,an,cdv,ct,osl,rfl,lk,hcd⟩:=F.ex
 refine fn_of lk hcd S len fun A outer s H vs Q E hr hsp=>?_
 obtain⟨t,h,q⟩:=hbody cdv A outer s H vs Q E hr hsp
 exact⟨t,h.nox,q⟩
theorem FunD.okC{P:Program}{w:World}{K:Nc}{mg:Str→Option Value}{base:Heap}{x qual:Str}{st:Stmt}{f:Addr}{fd:FuncData}{N ps:List Str}{k:Nat}{sp:Sp}(F:FunD K x qual st f fd)(S:kat N ps (kah st))(len:∀vs H Q E,sp vs H Q E→vs.length=ps.length)
  (hbody:∀(A:Around)(outer:List Env)(s:Shared)(H:Hp)(vs:List V)(Q:VK)(E:XK),Room k (A.deeper (PyProof.Rows.envOfC qual (kah st) s.heap.objs.size f fd.code))→sp vs H Q E→
   ∃t,PSs (cxOf CX0 P w K mg base N qual (kah st) f fd.code A outer s H E).nox (kaF st) t∧t {nx:=fun _ H'=>Q .non H',rt:=Q} (start N vs) H):FnOk P w K mg base CX0 (k+1) f fd ps sp:=by
 obtain⟨oc,od,dV,kV,doc,pm,an,cdv,ct,osl,rfl,lk,hcd⟩:=F.ex
 refine fn_of lk hcd S len fun A outer s H vs Q E hr hsp=>?_
 obtain⟨t,h,q⟩:=hbody A outer s H vs Q E hr hsp
 exact⟨t,h.nox,q⟩
theorem kbx{K:Nc}{x qual:Str}{st:Stmt}{f:Addr}{oc:Value}{od an:Option Addr}{osl:Array (Option Value)}{dV kV doc pm cdv ct:Value}(l:K.lookup f=some ⟨oc,od, .func (Nx x qual (kaG st) (kaF st) (kah st) dV kV doc pm an cdv ct),osl⟩)
  (c:NU K cdv qual=true) (k:Nz K (.ref f)=true):FunD K x qual st f (Nx x qual (kaG st) (kaF st) (kah st) dV kV doc pm an cdv ct):=⟨⟨oc,od,dV,kV,doc,pm,an,cdv,ct,osl,rfl,l,c⟩,k⟩
structure Dn (K:Nc) (mg:Str→Option Value) (x:Str) (st:Stmt) (ps:List Str) (f:Addr) (fd:FuncData):Prop where
 F:FunD K x x st f fd
 b:Binds K fd ps []
 m:mg x=some (.ref f)
structure Isi (K:Nc) (C:Addr):Prop where
 ha:Ng K (.ref C) "__class__"=some (some (.builtin "object.__class__"))
 hn:M5 K (.builtin "object.__class__") "__get__"=some (some (.builtin "getset_descriptor.__get__"))
 ht:E1 K (.builtin "object.__class__")=some true
 hm:Nm K C (.type "object")=some true
noncomputable def kaS{K:Nc}{A B:Addr}{b:Bool}(mA:Nm K A (.ref B)=some b)(ob:Nm K B (.type "object")=some true)(ty:NZ K (.ref B)=some (.type "type"))(ne:A≠B):NA K (.ref A) (.ref B)=some b:=by
 have e:(Value.ref A==Value.ref B)=false:=beq_eq_false_iff_ne.mpr fun z=>ne (by injection z)
 obtain⟨cd,a,_⟩:=Option.bind_eq_some_iff.mp ob
 unfold NA PySem.W.kitCls PySem.W.subIn
 rw[e,if_neg Np]
 show(if((PySem.W.clsIn K B).isSome&&NZ K (.ref B)==some (.type "type"))=true then Nm K A (.ref B) else none)=some b
 rw[a,ty,mA,if_pos (by simp)]
noncomputable def kbu{K:Nc}{A B:Addr}(h:Nm K A (.ref B)=some false)(hA:Nm K A (.ref A)=some true):A≠B:=fun e=>by
 rw[←e,hA] at h
 cases h
structure ClsT (K:Nc) (mg:Str→Option Value) (nm:Str) (C:Addr):Prop where
 cl:Cls K C
 m:mg nm=some (.ref C)
 isi:Isi K C
 self:Nm K C (.ref C)=some true
 ty:NZ K (.ref C)=some (.type "type")
 makes:N4 K C=true
 kp:Nz K (.ref C)=true
structure MthT (K:Nc) (C:Addr) (m qual:Str) (st:Stmt) (ps:List Str) (f:Addr) (fd:FuncData):Prop where
 at_:Ng K (.ref C) m=some (some (.ref f))
 fn:N9 K (.ref f)=true
 F:FunD K m qual st f fd
 b:Binds K fd ps []
noncomputable def MthT.me{K:Nc}{C:Addr}{m qual:Str}{st:Stmt}{ps:List Str}{f:Addr}{fd:FuncData}(h:MthT K C m qual st ps f fd):Meth K C m f:=⟨h.at_,h.fn,h.F.kp⟩
noncomputable def MthT.mk'{K:Nc}{mg:Str→Option Value}{C:Addr}{nm qual:Str}{st:Stmt}{ps:List Str}{f:Addr}{fd:FuncData}(h:MthT K C "__init__" qual st ps f fd)(c:ClsT K mg nm C):Mk K C f:=⟨c.makes,h.at_,h.fn,c.kp⟩
end L2
namespace L2
open PySem PySem.Spec PyProof.Rows
section
variable {X:Cx}
theorem pcl{k:Nat}{f:Addr}{fd:FuncData}{ps:List Str}{sp:Sp}{x:Str}{st:Stmt}{e:Expr}{es:List Expr}{t:TA}{p pos:Pos}(F:FnOk X.prog X.w X.K X.mg X.base CX0 k f fd ps sp)(hr:Room k X.A)(D:Dn X.K X.mg x st ps f fd)(ha:PA X (e::es) t)
  (hg:Gl X x:=by rfl) (hdb:(x==("__debug__" :Str))=false:=by decide) (he:starEach (e::es) X.env=(false,eval e X.env)::starEach es X.env:=by rfl) (hpl:(backTo pos (starEach es X.env)).any (·.1)=false:=by rfl):
  PE X (.Call (.Name x p) (e::es) [] pos) (tCall sp [] E0 t):=kjT F hr hg D.m D.F.kp D.b .nil pass0 ha hdb he hpl
theorem psl{i:Nat}{x:Str}{e:Expr}{te:TE}{pos pos':Pos}(hN:X.N.Nodup)(he:PE X e te)(hi:X.N[i]?=some x:=by rfl)(hx:Loc X.env.scope x:=by first|exact Or.inl rfl|exact Or.inr rfl)(hs:swapsWith e (some (.Name x pos')) pos.line X.env=pure false:=by rfl)(hf:X.fn x=true∨X.env.scope.names.lookup x=some .local:=by first|exact .inl rfl|exact .inr rfl|assumption):
  PS X (.Assign [.Name x pos'] e pos) (tAsg te (gName i)):=kmB hN hi hx he hs hf
theorem pgn{i:Nat}{x:Str}{pos:Pos}(hN:X.N.Nodup)(hi:X.N[i]?=some x:=by rfl)(hx:Loc X.env.scope x:=by first|exact Or.inl rfl|exact Or.inr rfl)(hf:X.fn x=true∨X.env.scope.names.lookup x=some .local:=by first|exact .inl rfl|exact .inr rfl|assumption):PG X (.Name x pos) (gName i):=kma hN hi hx hf
end
end L2
namespace L2
open PySem PySem.Spec PyProof.Rows
section
variable {X:Cx}
noncomputable def rMaxL(K:Nc):List V→Hp→VK→Prop:=fun xs H Q=>∃(p:Addr)(ns:List Int),xs=[.ref p]∧SqL K H p (ns.map V.int)∧ns≠[]∧∀m,m∈ns→(∀z∈ns,z≤m)→Q (.int m) H
theorem kiq{zs:Array (Int×Tok)}{ns:List Int}(e:zs.toList.map (·.1)=ns)(i:Nat):numAt zs i=ns.getD i 0:=by
 subst e
 unfold numAt
 rw[Nt,Ni]
 simp
theorem kkB(hc:X.calm=true):CallR X (.builtin "max") (rMaxL X.K):=by
 intro pins s σ H xs us Q I r h
 obtain⟨p,ns,rfl,hq,hne,q⟩:=h
 obtain⟨u,rfl,rx⟩:=vals1 r
 cases rx
 obtain⟨its,r',pl,hz⟩:=I.list hq
 have hi:IntsAre its ns:=intsAre_of r'
 have ha:=hi.allInts
 obtain⟨zs,hx⟩:=ha.items
 have hl:=pl.isList
 rw[hx] at hl
 have e3:numsOf its.toArray.toList=ns:=hi.numsOf
 rw[hx,nums_intItems] at e3
 have hsz:zs.size=ns.length:=by rw[←e3];simp
 have hpos:0<ns.length:=List.length_pos_iff.mpr hne
 obtain⟨b1,b2⟩:=argBest_gt (numAt zs) (zs.size-1)
 refine max_intList (I.ok.hd hc) hl (by omega) fun v h' tk hv hk=>?_
 obtain⟨t,rfl⟩:=intItems_at hv
 refine⟨.int _,H,I.kept hk,⟨t,rfl⟩,q _ ?_ fun z hzm=>?_⟩
 ·rw[kiq e3,Nt]
  obtain⟨y,ey⟩:∃y,ns[argBest (fun i j=>decide (numAt zs i > numAt zs j)) (zs.size-1)]?=some y:=⟨_,N5 (by omega)⟩
  rw[ey]
  exact Nj ey
 ·obtain⟨j,hj,rfl⟩:=De hzm
  have:=b2 j (by omega)
  rw[kiq e3 j,Nt,N5 hj] at this
  exact this
noncomputable def kly(K:Nc):List V→Hp→VK→Prop:=fun xs H Q=>∃(x:V)(tp C:Addr)(cs:List Addr)(b:Bool),xs=[x, .ref tp]∧SqT K H tp (cs.map V.ref)∧TyOf K H x (.ref C)∧Mz K (.ref C) (cs.map Value.ref)=some b∧Q (.bl b) H
theorem kfn:∀{cs:List Addr}{us:List Value},Vals (cs.map V.ref) us→us=cs.map Value.ref
 |[],_, .nil=>rfl
 |c::cs,_, .cons h t=>by
  rw[Nw,←kfn t]
  exact congrArg (· ::_) h
theorem kjc:CallR X (.builtin "isinstance") (kly X.K):=by
 intro pins s σ H xs us Q I r h
 obtain⟨x,tp,C,cs,b,rfl,ht,ty,e,q⟩:=h
 obtain⟨u,w',rfl,r1,r2⟩:=vals2 r
 cases(show w'=Value.ref tp from r2)
 obtain⟨its,rv,pl,hz⟩:=I.tuple ht
 have ei:=kfn rv
 subst ei
 obtain⟨o,ho,hcl,n,hdt⟩:=pl
 obtain⟨oc,odd,dt,sl⟩:=o
 cases(show oc=.type "tuple" from hcl)
 cases(show dt=.seq _ n from hdt)
 cases ty with
 | @ins a C dx fs ea cl ha hn htk hm=>
  cases(show u=Value.ref a from r1)
  obtain⟨mA,O,_⟩:=ke0 I.hok ea
  obtain⟨od,J,_⟩:=O.look
  exact PySem.W.kia_tup (PySem.W.kitx_own (cl.get _) cl.hd ha hn htk hm) I.kIn J ho e (fun z=>nomatch z) fun tk=>⟨.bl b,H,I.tok tk,rfl,q⟩
end
end L2
namespace War
structure Row where
 kd:Int
 pr:Int
 mn:Int
 ex:Option Int
structure Row.Ok (r:Row):Prop where
 pr0:0≤r.pr
 pr1:r.pr≤1000000000000
 mn0:0≤r.mn
 mn1:r.mn≤60
 ex0:∀z,r.ex=some z→0≤z∧z≤1000000000000
noncomputable def prc(m:Bool)(r:Row):Int:=if m=true then r.ex.getD r.pr else r.pr
noncomputable def own(rs:List Row):List Int:=(rs.zipIdx.map fun p=>Nh p.1.mn.toNat (p.2:Int)).flatten
noncomputable def prs(m:Bool)(rs:List Row):List Int:=(rs.map fun r=>Nh r.mn.toNat (prc m r)).flatten
noncomputable def kkQ(rs:List Row)(r:Row):own (rs++[r])=own rs++Nh r.mn.toNat (rs.length:Int):=by
 unfold own
 rw[List.zipIdx_append,Nl,Mm]
 simp
noncomputable def kkN(m:Bool)(rs:List Row)(r:Row):prs m (rs++[r])=prs m rs++Nh r.mn.toNat (prc m r):=by
 unfold prs
 rw[Nl,Mm]
 simp
theorem kio:∀(rs:List Row)(k:Nat),(∀r∈rs,r.Ok)→((rs.zipIdx k).map fun p=>Nh p.1.mn.toNat (p.2:Int)).flatten.length≤60*rs.length
 |[],_,_=>by simp
 |r::rs,k,h=>by
  have h1:=kio rs (k+1) fun x hx=>h x (NC _ hx)
  have h2:=(h r NJ).mn1
  rw[M1,Nw,NK,Nr,Mf,NT]
  show r.mn.toNat+_≤_
  omega
noncomputable def kjW(rs:List Row)(h:∀r∈rs,r.Ok):(own rs).length≤60*rs.length:=kio rs 0 h
theorem kht(m:Bool):∀(rs:List Row),(∀r∈rs,r.Ok)→(prs m rs).length≤60*rs.length
 |[],_=>by simp[prs]
 |r::rs,h=>by
  have h1:=kht m rs fun x hx=>h x (NC _ hx)
  have h2:=(h r NJ).mn1
  unfold prs at h1⊢
  rw[Nw,NK,Nr,Mf,NT]
  omega
noncomputable def klC{m:Bool}{r:Row}(h:r.Ok):0≤prc m r∧prc m r≤1000000000000:=by
 unfold prc
 split
 ·cases e:r.ex with
  |none=>exact⟨h.pr0,h.pr1⟩
  |some z=>exact h.ex0 z e
 ·exact⟨h.pr0,h.pr1⟩
noncomputable def take_snoc{α:Type}{rs:List α}{i:Nat}{r: α}(h:rs[i]?=some r):rs.take (i+1)=rs.take i++[r]:=by
 rw[Ms,h]
 rfl
end War
namespace Kin
noncomputable def Good(ps:List (Option Nat)):Prop:=∀(i k:Nat),ps[i]?=some (some k)→k<i
noncomputable def anc(ps:List (Option Nat)):Nat→Nat→List Nat
 |0,_=>[]
 |f+1,i=>i::(match ps[i]? with|some (some k)=>anc ps f k|_=>[])
noncomputable def up(ps:List (Option Nat))(i:Nat):List Nat:=anc ps (i+1) i
theorem klk{ps:List (Option Nat)}(g:Good ps):∀(f f' i:Nat),i<f→i<f'→anc ps f i=anc ps f' i:=by
 intro f
 induction f with
 |zero=>intro f' i h;omega
 | succ f ih=>
  intro f' i h h'
  cases f' with
  |zero=>omega
  | succ f'=>
   show i::_=i::_
   congr 1
   cases e:ps[i]? with
   |none=>rfl
   | some o=>
    cases o with
    |none=>rfl
    |some k=>
     have hk:=g i k e
     exact ih f' k (by omega) (by omega)
noncomputable def klU{ps:List (Option Nat)}(g:Good ps){i k:Nat}(e:ps[i]?=some (some k)):up ps i=i::up ps k:=by
 have hk:=g i k e
 show i::_=_
 rw[e]
 show i::anc ps i k=i::up ps k
 rw[klk g i (k+1) k hk (by omega)]
 rfl
noncomputable def klV{ps:List (Option Nat)}{i:Nat}(e:ps[i]?=some none):up ps i=[i]:=by
 show i::_=_
 rw[e]
noncomputable def rest(ps:List (Option Nat)):Option Nat→List Nat
 |none=>[]
 |some k=>up ps k
noncomputable def left:Option Nat→Nat
 |none=>0
 |some k=>k+1
theorem up_eq{ps:List (Option Nat)}(g:Good ps){i:Nat}{o:Option Nat}(e:ps[i]?=some o):up ps i=i::rest ps o:=by
 cases o with
 |none=>exact klV e
 |some k=>exact klU g e
noncomputable def kla:Good []:=fun i k e=>by simp at e
noncomputable def kkp{ps:List (Option Nat)}(g:Good ps){o:Option Nat}(h:∀k,o=some k→k<ps.length):Good (ps++[o]):=by
 intro i k e
 rcases Nat.lt_trichotomy i ps.length with hi|hi|hi
 ·rw[M6 hi] at e
  exact g i k e
 ·subst hi
  rw[MW (Nd _)] at e
  simp at e
  exact h k e
 ·rw[MW (by omega)] at e
  have:(i-ps.length)≠0:=by omega
  cases q:i-ps.length with
  |zero=>omega
  |succ n=>rw[q] at e;simp at e
end Kin
namespace Kin
end Kin
namespace Deal
noncomputable def pre(ws:List Int)(k:Nat):Int:=(ws.take k).sum
noncomputable def part(c:Int)(ws:List Int)(j:Nat):Int:=c*pre ws (j+1)/ws.sum-c*pre ws j/ws.sum
noncomputable def dl(c:Int)(ws:List Int):List Int:=if ws.sum=0 then ws.map (fun _=>0) else(Nf ws.length).map (part c ws)
noncomputable def kih(ws:List Int):pre ws 0=0:=by simp[pre]
noncomputable def kjO(ws:List Int):pre ws ws.length=ws.sum:=by simp[pre]
noncomputable def kdn{ws:List Int}{i:Nat}{w:Int}(h:ws[i]?=some w):pre ws (i+1)=pre ws i+w:=by
 unfold pre
 rw[Ms,h]
 simp
noncomputable def kcb(c:Int)(ws:List Int):(dl c ws).length=ws.length:=by
 unfold dl
 split <;> simp
noncomputable def dl_at{c:Int}{ws:List Int}(h:¬ws.sum=0){j:Nat}(hj:j<ws.length):(dl c ws)[j]?=some (part c ws j):=by
 unfold dl
 rw[if_neg h]
 simp[hj]
noncomputable def kiJ{c:Int}{ws:List Int}(h:ws.sum=0){j:Nat}(hj:j<ws.length):(dl c ws)[j]?=some 0:=by
 unfold dl
 rw[if_pos h]
 simp[hj]
noncomputable def Nn(ws:List Int):Prop:=∀w∈ws,0≤w
theorem kbr:∀{ws:List Int},Nn ws→0≤ws.sum
 |[],_=>by simp
 |w::ws,h=>by
  have:=kbr (ws:=ws) fun x hx=>h x (NC _ hx)
  have h1:=h w NJ
  simp
  omega
noncomputable def klA{ws:List Int}(h:Nn ws)(k:Nat):0≤pre ws k:=kbr fun w hw=>h w (MO hw)
noncomputable def klB{ws:List Int}(h:Nn ws)(k:Nat):pre ws k≤ws.sum:=by
 have e:ws.sum=pre ws k+(ws.drop k).sum:=by
  unfold pre
  rw[←Mt,M3]
 have:=kbr (ws:=ws.drop k) fun w hw=>h w (Df hw)
 omega
theorem kjV{c s A w:Int}(hs:0<s)(hc:0≤c)(hcs:c≤s)(hw:0≤w):0≤c*(A+w)/s-c*A/s∧c*(A+w)/s-c*A/s≤w∧
  (c*(A+w)/s-c*A/s)*s-c*w<s∧-s<(c*(A+w)/s-c*A/s)*s-c*w:=by
 have e:c*(A+w)=c*A+c*w:=Int.mul_add ..
 rw[e]
 generalize hx:c*A=x
 have h1:0≤c*w:=Int.mul_nonneg hc hw
 have h2:c*w≤w*s:=by
  rw[Int.mul_comm w s]
  exact Int.mul_le_mul_of_nonneg_right hcs hw
 generalize hy:c*w=y at h1 h2
 have m1:x/s≤(x+y)/s:=Int.ediv_le_ediv hs (by omega)
 have m2:(x+y)/s≤(x+w*s)/s:=Int.ediv_le_ediv hs (by omega)
 rw[Int.add_mul_ediv_right _ _ (by omega)] at m2
 have d1:=Int.emod_add_mul_ediv x s
 have d2:=Int.emod_add_mul_ediv (x+y) s
 have r1:=Int.emod_nonneg x (show s≠0 by omega)
 have r2:=Int.emod_lt_of_pos x hs
 have r3:=Int.emod_nonneg (x+y) (show s≠0 by omega)
 have r4:=Int.emod_lt_of_pos (x+y) hs
 have e3:((x+y)/s-x/s)*s=s*((x+y)/s)-s*(x/s):=by
  rw[Int.sub_mul,Int.mul_comm,Int.mul_comm (x/s)]
 rw[e3]
 refine⟨by omega,by omega,by omega,by omega⟩
end Deal
namespace Vs
open Kin Deal
structure Mks where
 kind:Option Nat
 needs:Int
 most:Option Int
 member:Bool
 once:Bool
 lone:Bool
inductive Srt
 |off (a:Int)
 |share (s:Int) (b:Bool)
 |cheap (n:Int)
 |bund (n p:Int)
 |carr
structure Vch where
 so:Srt
 ms:Mks
structure Stnd where
 ow:List Nat
 pr:List Int
 cg:Int
 mkd:List Bool
noncomputable def kHit(ps:List (Option Nat))(kind:Option Nat)(kd:Nat):Bool:=match kind with
 |none=>true
 |some k=>decide (k∈up ps kd)
noncomputable def hits(ps:List (Option Nat))(kds:List Nat)(kind:Option Nat)(lone:Bool)(mkd:List Bool)(l:Nat):Bool:=
 kHit ps kind (kds.getD l 0)&&(!lone|| !(mkd.getD l false))
noncomputable def abt(ps:List (Option Nat))(kds:List Nat)(kind:Option Nat)(lone:Bool)(S:Stnd):List Nat:=
 (Nf S.ow.length).filter fun i=>hits ps kds kind lone S.mkd (S.ow.getD i 0)
noncomputable def kg8{ps:List (Option Nat)}{kds:List Nat}{kind:Option Nat}{lone:Bool}{S:Stnd}{i:Nat}(h:i∈abt ps kds kind lone S):i<S.ow.length:=by
 have:=(NW.mp h).1
 simpa using this
noncomputable def kfd(ps:List (Option Nat))(kds:List Nat)(kind:Option Nat)(lone:Bool)(S:Stnd):(abt ps kds kind lone S).Nodup:=MF.filter _ Eb
noncomputable def kdV(ps:List (Option Nat))(kds:List Nat)(kind:Option Nat)(lone:Bool)(S:Stnd):(abt ps kds kind lone S).length≤S.ow.length:=by
 have:=MH (fun i=>hits ps kds kind lone S.mkd (S.ow.getD i 0)) (Nf S.ow.length)
 simpa[abt] using this
noncomputable def qs(pr:List Int)(is:List Nat):List Int:=is.map fun i=>pr.getD i 0
noncomputable def ka5(pr:List Int)(is:List Nat):(qs pr is).length=is.length:=by simp[qs]
noncomputable def spr(n:Nat)(is:List Nat)(vs:List Int):List Int:=(Nf n).map fun i=>((is.zip vs).lookup i).getD 0
noncomputable def kcC(n:Nat)(is:List Nat)(vs:List Int):(spr n is vs).length=n:=by simp[spr]
noncomputable def khb(n:Nat)(vs:List Int):spr n [] vs=Nh n 0:=by
 unfold spr
 apply N6
 ·simp
 ·intro i h1 h2
  simp
theorem khB{l:List (Nat×Int)}{i j:Nat}{v:Int}(h:∀p∈l,p.1≠i):(l++[(i,v)]).lookup j=if j=i then some v else l.lookup j:=by
 induction l with
 | nil=>
  simp only[MZ,N1,List.lookup_nil]
  by_cases e:j=i
  ·subst e;simp
  ·have:(j==i)=false:=beq_eq_false_iff_ne.mpr e
   simp[this,e]
 | cons p l ih=>
  obtain⟨k,w⟩:=p
  have ih':=ih fun q hq=>h q (NC _ hq)
  have hk:k≠i:=h (k,w) NJ
  simp only[EG,N1]
  by_cases e:j=k
  ·subst e
   simp[hk]
  ·have:(j==k)=false:=beq_eq_false_iff_ne.mpr e
   simp only[this]
   exact ih'
theorem klX{n:Nat}{is:List Nat}{vs:List Int}(hn:is.Nodup){k i:Nat}{v:Int}(h1:is[k]?=some i)(h2:vs[k]?=some v)(hi:i<n):
  (spr n (is.take k) (vs.take k)).set i v=spr n (is.take (k+1)) (vs.take (k+1)):=by
 have e1:is.take (k+1)=is.take k++[i]:=by rw[Ms,h1];rfl
 have e2:vs.take (k+1)=vs.take k++[v]:=by rw[Ms,h2];rfl
 have hk1:k<is.length:=(Nu.mp h1).1
 have hk2:k<vs.length:=(Nu.mp h2).1
 have ez:(is.take (k+1)).zip (vs.take (k+1))=(is.take k).zip (vs.take k)++[(i,v)]:=by
  rw[e1,e2,EI (by simp;omega)]
  rfl
 have hne:∀p∈(is.take k).zip (vs.take k),p.1≠i:=fun p hp e=>by
  have hm:p.1∈is.take k:=(MD hp).1
  rw[e] at hm
  obtain⟨j,hj,ej⟩:=De hm
  rw[Nv] at hj
  rw[List.getElem_take] at ej
  have e3:is[k]=i:=by
   obtain⟨_,q⟩:=Nu.mp h1
   exact q
  exact MN.mp hn j k (by omega) hk1 (by omega) (by rw[ej,e3])
 apply N6
 ·simp[spr]
 ·intro j h3 h4
  have hj:j<n:=by simpa[spr] using h4
  rw[Ec]
  simp only[spr,MG,MP]
  rw[ez,khB hne]
  by_cases e:i=j
  ·subst e;simp
  ·have:¬j=i:=fun z=>e z.symm
   simp[e,this]
noncomputable def bef(q:List Int)(a b:Nat):Prop:=q.getD b 0<q.getD a 0∨(q.getD a 0=q.getD b 0∧a<b)
noncomputable def Fall(q:List Int)(r:List Nat):Prop:=r.Perm (Nf q.length)∧r.Pairwise (bef q)
noncomputable def klh{q:List Int}{a b:Nat}(h:bef q a b)(h':bef q b a):False:=by
 unfold bef at h h'
 omega
theorem keF{R:Nat→Nat→Prop}(asym:∀a b,R a b→R b a→False):∀{l l':List Nat},l.Perm l'→l.Pairwise R→l'.Pairwise R→l=l'
 |[],l',p,_,_=>(List.nil_perm.mp p).symm
 | a ::l,l',p,h,h'=>by
  cases l' with
  |nil=>exact absurd p.length_eq (by simp)
  | cons b l'=>
   have hab:a=b:=by
    rcases Classical.em (a=b) with e|e
    ·exact e
    ·have ha:a∈b::l':=p.mem_iff.mp NJ
     have hb:b∈a::l:=p.mem_iff.mpr NJ
     rcases NF.mp ha with e1|ha
     ·exact absurd e1 e
     ·rcases NF.mp hb with e2|hb
      ·exact absurd e2.symm e
      ·exact(asym a b ((EJ.mp h).1 b hb) ((EJ.mp h').1 a ha)).elim
   subst hab
   congr 1
   exact keF asym (Ed.cons_inv p) (EJ.mp h).2 (EJ.mp h').2
noncomputable def ke3{q:List Int}{r r':List Nat}(h:Fall q r)(h':Fall q r'):r=r':=
 keF (fun _ _ a b=>klh a b) (h.1.trans h'.1.symm) h.2 h'.2
noncomputable def grp(n:Nat)(r:List Nat):List (List Nat):=(Nf (r.length/n)).map fun g=>(r.drop (g*n)).take n
end Vs
namespace Vs
open Kin Deal
noncomputable def Le2(xs ys:List Int):Prop:=xs.length=ys.length∧∀(j:Nat)(v w:Int),xs[j]?=some v→ys[j]?=some w→0≤v∧v≤w
noncomputable def Le2.nil:Le2 [] []:=⟨rfl,fun j v w e=>by simp at e⟩
noncomputable def Le2.self{xs:List Int}(h:Nn xs):Le2 xs xs:=⟨rfl,fun j v w e1 e2=>by
 rw[e1] at e2
 cases e2
 exact⟨h v (Nj e1),Int.le_refl _⟩⟩
noncomputable def Le2.nn{xs ys:List Int}(h:Le2 xs ys):Nn xs:=fun v hv=>by
 obtain⟨j,hj,e⟩:=De hv
 exact(h.2 j v (ys[j]'(by rw[←h.1];exact hj)) (by simp[hj,e]) (by simp[show j<ys.length by rw[←h.1];exact hj])).1
noncomputable def Le2.trans{xs ys zs:List Int}(h:Le2 xs ys)(h':Le2 ys zs):Le2 xs zs:=⟨h.1.trans h'.1,fun j v w e1 e2=>by
 have hj:j<xs.length:=(Nu.mp e1).1
 have e3:ys[j]?=some (ys[j]'(by rw[←h.1];exact hj)):=by simp[show j<ys.length by rw[←h.1];exact hj]
 have a:=h.2 j v _ e1 e3
 have b:=h'.2 j _ w e3 e2
 omega⟩
noncomputable def Le2.append{xs ys xs' ys':List Int}(h:Le2 xs ys)(h':Le2 xs' ys'):Le2 (xs++xs') (ys++ys'):=by
 refine⟨by simp[h.1,h'.1],fun j v w e1 e2=>?_⟩
 have hl:=h.1
 rcases Nat.lt_or_ge j xs.length with hj|hj
 ·rw[M6 hj] at e1
  rw[M6 (by omega)] at e2
  exact h.2 j v w e1 e2
 ·rw[MW hj] at e1
  rw[MW (by omega),←hl] at e2
  exact h'.2 _ v w e1 e2
theorem Le2.sum:∀{xs ys:List Int},Le2 xs ys→0≤xs.sum∧xs.sum≤ys.sum
 |[],[],_=>by simp
 |[],_::_,h=>by have:=h.1;simp at this
 |_::_,[],h=>by have:=h.1;simp at this
 |x::xs,y::ys,h=>by
  have h0:=h.2 0 x y rfl rfl
  have h1:Le2 xs ys:=⟨by simpa using h.1,fun j v w e1 e2=>h.2 (j+1) v w (by simpa using e1) (by simpa using e2)⟩
  have h2:=Le2.sum h1
  simp
  omega
noncomputable def dl_le{c:Int}{ws:List Int}(hn:Nn ws)(h0:0≤c)(h1:c≤ws.sum):Le2 (dl c ws) ws:=by
 refine⟨kcb c ws,fun j v w e1 e2=>?_⟩
 have hj:j<ws.length:=(Nu.mp e2).1
 have hw:=hn w (Nj e2)
 by_cases hs:ws.sum=0
 ·rw[kiJ hs hj] at e1
  cases e1
  exact⟨Int.le_refl _,hw⟩
 ·rw[dl_at hs hj] at e1
  cases e1
  have hp:0<ws.sum:=by
   have:=kbr hn
   omega
  have q:=kjV (A:=pre ws j) hp h0 h1 hw
  unfold part
  rw[kdn e2]
  exact⟨q.1,q.2.1⟩
theorem kdU{is:List Nat}{vs:List Int}{i:Nat}{v:Int}(h:(is.zip vs).lookup i=some v):∃k:Nat,is[k]?=some i∧vs[k]?=some v:=by
 induction is generalizing vs with
 |nil=>simp at h
 | cons a is ih=>
  cases vs with
  |nil=>simp at h
  | cons b vs=>
   simp only[EK,N1] at h
   by_cases e:i=a
   ·subst e
    simp at h
    exact⟨0,rfl,by simp[h]⟩
   ·have:(i==a)=false:=beq_eq_false_iff_ne.mpr e
    rw[this] at h
    obtain⟨k,h1,h2⟩:=ih h
    exact⟨k+1,by simpa using h1,by simpa using h2⟩
theorem kfo{pr:List Int}{is:List Nat}{vs:List Int}(hn:Nn pr)(hv:Le2 vs (qs pr is)):Le2 (spr pr.length is vs) pr:=by
 refine⟨kcC _ _ _,fun j v w e1 e2=>?_⟩
 have hj:j<pr.length:=(Nu.mp e2).1
 have hw:=hn w (Nj e2)
 have e3:v=((is.zip vs).lookup j).getD 0:=by
  simp[spr,hj] at e1
  exact e1.symm
 cases e4:(is.zip vs).lookup j with
 |none=>
  rw[e4] at e3
  subst e3
  exact⟨Int.le_refl _,hw⟩
 |some u=>
  rw[e4] at e3
  have e3':v=u:=e3
  subst e3'
  obtain⟨k,h1,h2⟩:=kdU e4
  refine hv.2 k v w h2 ?_
  simp only[qs,Ni,h1,Ey]
  rw[Nt,e2]
  rfl
theorem qs_nn{pr:List Int}(hn:Nn pr)(is:List Nat):Nn (qs pr is):=fun v hv=>by
 obtain⟨i,_,rfl⟩:=Ny.mp hv
 rw[Nt]
 cases e:pr[i]? with
 |none=>exact Int.le_refl _
 |some w=>exact hn w (Nj e)
noncomputable def leQ(q:List Int)(a b:Nat):Bool:=decide (q.getD b 0<q.getD a 0∨(q.getD a 0=q.getD b 0∧a≤b))
noncomputable def ordQ(q:List Int):List Nat:=(Nf q.length).mergeSort (leQ q)
noncomputable def kcT(q:List Int):(ordQ q).Perm (Nf q.length):=List.mergeSort_perm _ _
noncomputable def kdq(q:List Int):Fall q (ordQ q):=by
 refine⟨kcT q,?_⟩
 have h1:(ordQ q).Pairwise (fun a b=>leQ q a b=true):=DG (le:=leQ q) (fun a b c h h'=>by simp only[leQ,decide_eq_true_eq] at *;omega) (fun a b=>by simp only[leQ,Ex,decide_eq_true_eq];omega) _
 have h2:(ordQ q).Nodup:=(kcT q).nodup_iff.mpr Eb
 refine(h1.and h2).imp fun {a b} h=>?_
 have h3:=h.1
 have h4:a≠b:=h.2
 simp only[leQ,decide_eq_true_eq] at h3
 unfold bef
 omega
noncomputable def gdl(cut:Int→Int)(gs:List (List Nat))(q:List Int):List Int:=spr q.length gs.flatten ((gs.map fun g=>dl (cut (qs q g).sum) (qs q g)).flatten)
noncomputable def kcR(q:List Int)(a b:List Nat):qs q (a++b)=qs q a++qs q b:=by simp[qs]
theorem klJ{cut:Int→Int}{gs:List (List Nat)}{q:List Int}(hn:Nn q)(hc:∀s,0≤s→0≤cut s∧cut s≤s):Le2 (gdl cut gs q) q:=by
 refine kfo hn ?_
 induction gs with
 |nil=>exact Le2.nil
 |cons g gs ih=>
  rw[Nw,NK,NK,kcR]
  have h:=hc _ (kbr (qs_nn hn g))
  exact(dl_le (qs_nn hn g) h.1 h.2).append ih
noncomputable def kd4(n:Nat)(lines:List Nat):List (List Nat):=(Nf n).map fun l=>(Nf lines.length).filter fun k=>lines.getD k 0==l
noncomputable def lasts(gs:List (List Nat)):List Nat:=gs.map fun g=>g.getLastD 0
noncomputable def want(so:Srt)(n:Nat)(lines:List Nat)(q:List Int):List Int:=match so with
 | .off a=>dl (min a q.sum) q
 | .share s false=>dl (q.sum*s/1000) q
 | .share s true=>gdl (fun z=>z*s/1000) (kd4 n lines) q
 | .cheap m=>spr q.length (lasts (grp m.toNat (ordQ q))) (qs q (lasts (grp m.toNat (ordQ q))))
 | .bund m p=>gdl (fun z=>max 0 (z-p)) (grp m.toNat (ordQ q)) q
 | .carr=>Nh q.length 0
noncomputable def fee(so:Srt)(cg:Int):Int:=match so with
 | .carr=>cg
 |_=>0
noncomputable def SrtOk:Srt→Prop
 | .off a=>0≤a∧a≤1000000000000
 | .share s _=>1≤s∧s≤1000
 | .cheap n=>2≤n∧n≤20
 | .bund n p=>2≤n∧n≤20∧0≤p∧p≤1000000000000
 | .carr=>True
noncomputable def kdk{z s:Int}(hz:0≤z)(h1:1≤s)(h2:s≤1000):0≤z*s/1000∧z*s/1000≤z:=by
 have a:0≤z*s:=Int.mul_nonneg hz (by omega)
 have b:z*s≤z*1000:=Int.mul_le_mul_of_nonneg_left h2 hz
 omega
noncomputable def kmz{q:List Int}(hn:Nn q):Le2 (Nh q.length 0) q:=by
 refine⟨by simp,fun j v w e1 e2=>?_⟩
 have:v=0:=by
  rw[E3] at e1
  split at e1
  ·exact(Option.some.inj e1).symm
  ·cases e1
 subst this
 exact⟨Int.le_refl _,hn w (Nj e2)⟩
noncomputable def kg9{a:Int}{n:Nat}{lines:List Nat}{q:List Int}(hn:Nn q)(h0:0≤a):Le2 (want (.off a) n lines q) q:=by
 have hs:=kbr hn
 show Le2 (dl (min a q.sum) q) q
 exact dl_le hn (by omega) (by omega)
theorem kfK{s:Int}{e:Bool}{n:Nat}{lines:List Nat}{q:List Int}(hn:Nn q)(h1:1≤s)(h2:s≤1000):Le2 (want (.share s e) n lines q) q:=by
 have hs:=kbr hn
 cases e with
 |false=>
  show Le2 (dl (q.sum*s/1000) q) q
  have h:=kdk hs h1 h2
  exact dl_le hn h.1 h.2
 |true=>
  show Le2 (gdl (fun z=>z*s/1000) (kd4 n lines) q) q
  exact klJ hn fun z hz=>kdk hz h1 h2
noncomputable def kgi{m p:Int}{n:Nat}{lines:List Nat}{q:List Int}(hn:Nn q)(h0:0≤p):Le2 (want (.bund m p) n lines q) q:=by
 show Le2 (gdl (fun z=>max 0 (z-p)) (grp m.toNat (ordQ q)) q) q
 exact klJ hn fun z hz=>⟨by show 0≤max 0 (z-p);omega,by show max 0 (z-p)≤z;omega⟩
noncomputable def kfL{m:Int}{n:Nat}{lines:List Nat}{q:List Int}(hn:Nn q):Le2 (want (.cheap m) n lines q) q:=by
 show Le2 (spr q.length _ (qs q _)) q
 exact kfo hn (Le2.self (qs_nn hn _))
noncomputable def kgh{n:Nat}{lines:List Nat}{q:List Int}(hn:Nn q):Le2 (want .carr n lines q) q:=kmz hn
theorem kha{so:Srt}{n:Nat}{lines:List Nat}{q:List Int}(hn:Nn q)(ho:SrtOk so):Le2 (want so n lines q) q:=by
 cases so with
 |off a=>exact kg9 hn ho.1
 |share s e=>exact kfK hn ho.1 ho.2
 |cheap m=>exact kfL hn
 |bund m p=>exact kgi hn ho.2.2.1
 |carr=>exact kgh hn
noncomputable def cap(most:Option Int)(w:List Int)(f:Int):List Int×Int:=match most with
 |none=>(w,f)
 |some m=>if m<w.sum+f then(dl (min m w.sum) w,min f m) else(w,f)
theorem kmR{most:Option Int}{w q:List Int}{f cg:Int}(h:Le2 w q)(hf:0≤f∧f≤cg)(hm:∀m,most=some m→0≤m):Le2 (cap most w f).1 q∧0≤(cap most w f).2∧(cap most w f).2≤cg:=by
 unfold cap
 cases most with
 |none=>exact⟨h,hf⟩
 |some m=>
  have h0:=hm m rfl
  have hs:=kbr h.nn
  simp only
  split
  ·exact⟨(dl_le h.nn (by omega) (by omega)).trans h,by simp only;omega,by simp only;omega⟩
  ·exact⟨h,hf⟩
noncomputable def cutM(V:Vch)(ps:List (Option Nat))(kk:List Nat)(S:Stnd):List Int×Int:=
 let is:=abt ps kk V.ms.kind V.ms.lone S
 let c:=cap V.ms.most (want V.so S.mkd.length (is.map fun i=>S.ow.getD i 0) (qs S.pr is)) (fee V.so S.cg)
 (spr S.pr.length is c.1,c.2)
noncomputable def kfD{V:Vch}{ps:List (Option Nat)}{kk:List Nat}{S:Stnd}(hn:Nn S.pr)(hc:0≤S.cg)(ho:SrtOk V.so)(hm:∀m,V.ms.most=some m→0≤m):Le2 (cutM V ps kk S).1 S.pr∧0≤(cutM V ps kk S).2∧(cutM V ps kk S).2≤S.cg:=by
 have hf:0≤fee V.so S.cg∧fee V.so S.cg≤S.cg:=by
  unfold fee
  split <;> omega
 have h:=kmR (most:=V.ms.most) (kha (n:=S.mkd.length) (lines:=(abt ps kk V.ms.kind V.ms.lone S).map fun i=>S.ow.getD i 0) (qs_nn hn (abt ps kk V.ms.kind V.ms.lone S)) ho) hf hm
 exact⟨kfo hn h.1,h.2⟩
noncomputable def kbS(ow:List Nat)(c:List Int)(l:Nat):Bool:=(Nf ow.length).any fun i=>ow.getD i 0==l&&decide (0<c.getD i 0)
noncomputable def aftM(V:Vch)(ps:List (Option Nat))(kk:List Nat)(S:Stnd):Stnd:=
 ⟨S.ow,NI (· - ·) S.pr (cutM V ps kk S).1,S.cg-(cutM V ps kk S).2,(Nf S.mkd.length).map fun l=>S.mkd.getD l false||(V.ms.lone&&kbS S.ow (cutM V ps kk S).1 l)⟩
noncomputable def kmU{V:Vch}{ps:List (Option Nat)}{kk:List Nat}{S:Stnd}(hn:Nn S.pr)(hc:0≤S.cg)(ho:SrtOk V.so)(hm:∀m,V.ms.most=some m→0≤m):Le2 (aftM V ps kk S).pr S.pr∧0≤(aftM V ps kk S).cg∧(aftM V ps kk S).cg≤S.cg:=by
 have h:=kfD (ps:=ps) (kk:=kk) hn hc ho hm
 refine⟨⟨?_,fun j v w e1 e2=>?_⟩,?_,?_⟩
 ·show(NI _ _ _).length=_
  rw[MQ,h.1.1]
  omega
 ·have hj:j<S.pr.length:=(Nu.mp e2).1
  have hj2:j<(cutM V ps kk S).1.length:=by rw[h.1.1];exact hj
  have e3:(cutM V ps kk S).1[j]?=some ((cutM V ps kk S).1[j]):=by simp[hj2]
  have b:=h.1.2 j _ w e3 e2
  have e4:(NI (· - ·) S.pr (cutM V ps kk S).1)[j]?=some (w-(cutM V ps kk S).1[j]):=by
   rw[Ee,e2,e3]
  have e1':(NI (· - ·) S.pr (cutM V ps kk S).1)[j]?=some v:=e1
  rw[e4] at e1'
  cases e1'
  omega
 ·show 0≤S.cg-_
  have:=h.2
  omega
 ·show S.cg-_≤S.cg
  have:=h.2
  omega
end Vs
namespace Vs
open Kin Deal
structure Sel (q:List Int) (row left:List Nat):Prop where
 pm:(row++left).Perm (Nf q.length)
 inc:left.Pairwise (· < ·)
 pw:row.Pairwise (bef q)
 cr:∀r∈row,∀l∈left,bef q r l
noncomputable def Sel.start(q:List Int):Sel q [] (Nf q.length):=⟨Ed.refl _,Ef, .nil,fun r hr=>by simp at hr⟩
noncomputable def Sel.lt{q:List Int}{row left:List Nat}(h:Sel q row left){i:Nat}(hi:i∈left):i<q.length:=by
 have:=h.pm.mem_iff.mp (NS row hi)
 simpa using this
noncomputable def Sel.ltr{q:List Int}{row left:List Nat}(h:Sel q row left){i:Nat}(hi:i∈row):i<q.length:=by
 have:=h.pm.mem_iff.mp (El left hi)
 simpa using this
noncomputable def Sel.len{q:List Int}{row left:List Nat}(h:Sel q row left):row.length+left.length=q.length:=by
 have:=h.pm.length_eq
 simpa using this
noncomputable def Sel.fin{q:List Int}{row:List Nat}(h:Sel q row []):row=ordQ q:=by
 refine ke3 ⟨?_,h.pw⟩ (kdq q)
 have:=h.pm
 rwa [Mv] at this
noncomputable def TopI(q:List Int)(left:List Nat)(i top:Nat):Prop:=(∃k,left[k]?=some top∧(k<i∨k=0))∧∀y∈left.take i,y=top∨bef q top y
noncomputable def TopI.start{q:List Int}{left:List Nat}{t:Nat}(h:left[0]?=some t):TopI q left 0 t:=⟨⟨0,h, .inr rfl⟩,fun y hy=>by simp at hy⟩
noncomputable def TopI.more{q:List Int}{left:List Nat}{i top x:Nat}(inc:left.Pairwise (· < ·))(h:TopI q left i top)(hx:left[i]?=some x):TopI q left (i+1) (if q.getD top 0<q.getD x 0 then x else top):=by
 obtain⟨⟨k,ek,hk⟩,hy⟩:=h
 have et:left.take (i+1)=left.take i++[x]:=by rw[Ms,hx];rfl
 split
 ·rename_i hlt
  refine⟨⟨i,hx, .inl (by omega)⟩,fun y hm=>?_⟩
  rw[et] at hm
  rcases NR.mp hm with h1|h1
  ·refine .inr (.inl ?_)
   rcases hy y h1 with rfl|h2
   ·exact hlt
   ·unfold bef at h2
    omega
  ·exact .inl (by simpa using h1)
 ·rename_i hge
  refine⟨⟨k,ek,by omega⟩,fun y hm=>?_⟩
  rw[et] at hm
  rcases NR.mp hm with h1|h1
  ·exact hy y h1
  ·have e:y=x:=by simpa using h1
   subst e
   by_cases hki:k=i
   ·subst hki
    rw[ek] at hx
    exact .inl (Option.some.inj hx).symm
   ·have hlt:top<y:=by
     obtain⟨l1,q1⟩:=Nu.mp ek
     obtain⟨l2,q2⟩:=Nu.mp hx
     have:=MN.mp inc k i l1 l2 (by omega)
     rwa [q1,q2] at this
    refine .inr ?_
    unfold bef
    omega
noncomputable def Sel.step{q:List Int}{row left:List Nat}{top:Nat}(h:Sel q row left)(ht:TopI q left left.length top):Sel q (row++[top]) (left.erase top)∧top∈left:=by
 obtain⟨⟨k,ek,_⟩,hy⟩:=ht
 have hm:=Nj ek
 rw[ND] at hy
 have nd:left.Nodup:=h.inc.imp fun hlt=>NL hlt
 refine⟨⟨?_,h.inc.sublist (List.erase_sublist),?_,?_⟩,hm⟩
 ·refine Ed.trans ?_ h.pm
  rw[Mc]
  exact Ed.append_left row (List.perm_cons_erase hm).symm
 ·exact List.pairwise_append.mpr ⟨h.pw,List.pairwise_singleton _ _,fun r hr t ht=>by
   have e:t=top:=by simpa using ht
   subst e
   exact h.cr r hr t hm⟩
 ·intro r hr l hl
  have hl':=(nd.mem_erase_iff).mp hl
  rcases NR.mp hr with h1|h1
  ·exact h.cr r h1 l hl'.2
  ·have e:r=top:=by simpa using h1
   subst e
   rcases hy l hl'.2 with h2|h2
   ·exact absurd h2 hl'.1
   ·exact h2
theorem kfG:∀(l:List Nat)(t:Nat),(l.map fun(i:Nat)=>(i:Int)).erase (t:Int)=(l.erase t).map fun(i:Nat)=>(i:Int)
 |[],_=>rfl
 | a::l,t=>by
  rw[Nw,EL,EL]
  by_cases h:a=t
  ·subst h
   simp
  ·have h1:((a:Int)==(t:Int))=false:=by simp;omega
   have h2:(a==t)=false:=by simp[h]
   rw[h1,h2]
   simp[kfG l t]
end Vs
namespace Vs
open Kin Deal
noncomputable def kiD{m:Nat}{r:List Nat}{i:Nat}{g:List Nat}(h:(grp m r)[i]?=some g):i*m+m≤r.length∧g.length=m∧∀j,j<m→g[j]?=r[i*m+j]?:=by
 unfold grp at h
 rw[Ni] at h
 have hi:i<r.length/m:=by
  rcases Nat.lt_or_ge i (r.length/m) with q|q
  ·exact q
  ·rw[EB (by simpa using q)] at h
   cases h
 rw[M4 hi] at h
 cases h
 have hle:i*m+m≤r.length:=by
  have h1:(i+1)*m≤r.length/m*m:=EM m hi
  have h2:=Dg r.length m
  rw[MR,MS] at h1
  omega
 refine⟨hle,by rw[Nv,Mw];omega,fun j hj=>?_⟩
 rw[Dy hj,List.getElem?_drop]
theorem keW{m:Nat}{r:List Nat}{i:Nat}{g:List Nat}(hm:0<m)(h:(grp m r)[i]?=some g):r[i*m+(m-1)]?=some (g.getLastD 0):=by
 obtain⟨hle,hl,hg⟩:=kiD h
 rw[←hg (m-1) (by omega)]
 cases g with
 |nil=>simp at hl;omega
 |cons x xs=>
  have e:(x::xs).getLastD 0=(x::xs).getLast (by simp):=by simp[List.getLastD]
  rw[e,DH,Nu]
  refine⟨by omega,?_⟩
  congr 1
  omega
noncomputable def kep{gs:List (List Nat)}{i:Nat}{g:List Nat}(h:gs[i]?=some g):(lasts gs)[i]?=some (g.getLastD 0):=by
 unfold lasts
 rw[Ni,h]
 rfl
noncomputable def kcy(gs:List (List Nat)):(lasts gs).length=gs.length:=by simp[lasts]
noncomputable def keV{m:Nat}{r:List Nat}(hm:0<m)(hr:r.Nodup):(lasts (grp m r)).Nodup:=by
 refine MN.mpr fun i j hi hj hij e=>?_
 rw[kcy] at hi hj
 have e1:(grp m r)[i]?=some (grp m r)[i]:=by simp[hi]
 have e2:(grp m r)[j]?=some (grp m r)[j]:=by simp[hj]
 have a1:=keW hm e1
 have a2:=keW hm e2
 have b1:=kep e1
 have b2:=kep e2
 obtain⟨_,c1⟩:=Nu.mp b1
 obtain⟨_,c2⟩:=Nu.mp b2
 rw[c1,c2] at e
 rw[e] at a1
 obtain⟨l1,d1⟩:=Nu.mp a1
 obtain⟨l2,d2⟩:=Nu.mp a2
 have hlt:i*m+(m-1)<j*m+(m-1):=by
  have:=Nat.mul_lt_mul_of_pos_right hij hm
  omega
 exact MN.mp hr _ _ l1 l2 hlt (by rw[d1,d2])
noncomputable def khw{q:List Int}{i:Nat}(h:i∈ordQ q):i<q.length:=by
 have:=(kcT q).mem_iff.mp h
 simpa using this
end Vs
namespace Vs
open Kin Deal
noncomputable def kfN{n:Nat}{is:List Nat}{vs:List Int}{i:Nat}{v:Int}(hl:is.length=vs.length)(hn:(is++[i]).Nodup)(hi:i<n):(spr n is vs).set i v=spr n (is++[i]) (vs++[v]):=by
 have h:=klX (n:=n) (is:=is++[i]) (vs:=vs++[v]) hn (k:=is.length) (i:=i) (v:=v) (by simp) (by rw[hl];simp) hi
 rw[Dh rfl,Dh hl.symm,Mg (by simp),Mg (by simp[hl])] at h
 exact h
noncomputable def kev{gs:List (List Nat)}(h:gs.flatten.Nodup){i k a:Nat}{g:List Nat}(hg:gs[i]?=some g)(hk:g[k]?=some a):((gs.take i).flatten++g.take k++[a]).Nodup:=by
 have e:gs=gs.take i++g::gs.drop (i+1):=by
  obtain⟨hi,eg⟩:=Nu.mp hg
  rw[←eg,DI hi,M3]
 have e2:g=(g.take k++[a])++g.drop (k+1):=by
  obtain⟨hk',ek⟩:=Nu.mp hk
  rw[Mc,List.singleton_append,←ek,DI hk',M3]
 rw[e,Mm,NK] at h
 rw[Mc]
 refine h.sublist (Dj.append_left ?_ _)
 refine Dj.trans ?_ (DJ g _)
 conv=>rhs;rw[e2]
 exact DJ _ _
theorem kf8{m:Nat}(r:List Nat):(grp m r).flatten=r.take (r.length/m*m):=by
 unfold grp
 have hle:r.length/m*m≤r.length:=Dg _ _
 generalize r.length/m=c at *
 induction c with
 |zero=>simp
 |succ c ih=>
  have h1:c*m+m≤r.length:=by rw[←Nat.succ_mul];exact hle
  rw[Mb,Nl,Mm,ih (by omega)]
  simp only[Nw,MX,NK,List.flatten_nil,Mv]
  rw[show(c+1)*m=c*m+m by rw[MR,MS],List.take_add]
noncomputable def kkl{m:Nat}{r:List Nat}(h:r.Nodup):(grp m r).flatten.Nodup:=by
 rw[kf8]
 exact h.sublist (E4 _ _)
end Vs
namespace Vs
open Kin Deal
theorem kda{is:List Nat}(hn:is.Nodup){k i:Nat}(hk:is[k]?=some i):∀(l:List (Nat×Int)),(∀p∈l,p.1<is.length)→(l.map fun p=>(is.getD p.1 0,p.2)).lookup i=l.lookup k
 |[],_=>rfl
 | (j,v)::l,h=>by
  have ih:=kda hn hk l fun p hp=>h p (NC _ hp)
  have hj:j<is.length:=h (j,v) NJ
  obtain⟨hk',ek⟩:=Nu.mp hk
  have e:is.getD j 0=is[j]:=by rw[Nt];simp[hj]
  simp only[Nw,N1,e]
  by_cases q:k=j
  ·subst q
   simp[ek]
  ·have h1:(k==j)=false:=by simp[q]
   have h2:(i==is[j])=false:=by
    refine beq_eq_false_iff_ne.mpr fun z=>q ?_
    exact(EW hn).mp (by rw[ek,z])
   rw[h1,h2]
   exact ih
theorem lookup_none{is:List Nat}{i:Nat}(hi:∀k:Nat,is[k]?≠some i):∀(l:List (Nat×Int)),(∀p∈l,p.1<is.length)→(l.map fun p=>(is.getD p.1 0,p.2)).lookup i=none
 |[],_=>rfl
 |(j,v)::l,h=>by
  have ih:=lookup_none hi l fun p hp=>h p (NC _ hp)
  have hj:j<is.length:=h (j,v) NJ
  have e:is.getD j 0=is[j]:=by rw[Nt];simp[hj]
  have h2:(i==is[j])=false:=beq_eq_false_iff_ne.mpr fun z=>hi j (by rw[z];simp[hj])
  simp only[Nw,N1,e,h2]
  exact ih
theorem keT{is:List Nat}(hn:is.Nodup){k i:Nat}(hk:is[k]?=some i):∀{vs:List Int},is.length=vs.length→(is.zip vs).lookup i=vs[k]?:=by
 induction is generalizing k with
 |nil=>simp at hk
 | cons a is ih=>
  intro vs hl
  cases vs with
  |nil=>simp at hl
  | cons v vs=>
   rw[EK,N1]
   cases k with
   |zero=>
    have:a=i:=by simpa using hk
    subst this
    simp
   |succ k=>
    have hk':is[k]?=some i:=by simpa using hk
    have hh:=Mj.mp hn
    have hne:(i==a)=false:=beq_eq_false_iff_ne.mpr fun z=>hh.1 (z▸Nj hk')
    rw[hne]
    simpa using ih hh.2 hk' (by simpa using hl)
noncomputable def kex{n:Nat}{is js:List Nat}{vs:List Int}(hn:is.Nodup)(hj:∀j∈js,j<is.length):spr n is (spr is.length js vs)=spr n (js.map fun j=>is.getD j 0) vs:=by
 apply N6
 ·simp[spr]
 intro i h1 h2
 have ez:(js.map fun j=>is.getD j 0).zip vs=(js.zip vs).map fun p=>(is.getD p.1 0,p.2):=by rw[List.zip_map_left];rfl
 have hp:∀p∈js.zip vs,p.1<is.length:=fun p hp=>hj _ (MD hp).1
 simp only[spr,MG,MP]
 rw[ez]
 by_cases hk:∃k:Nat,is[k]?=some i
 ·obtain⟨k,hk⟩:=hk
  have hkl:=(Nu.mp hk).1
  rw[kda hn hk _ hp,keT hn hk (by simp)]
  simp[hkl]
 ·rw[lookup_none (fun k e=>hk ⟨k,e⟩) _ hp]
  have:((is.zip ((Nf is.length).map fun i=>((js.zip vs).lookup i).getD 0)).lookup i)=none:=by
   rw[List.lookup_eq_none_iff]
   intro p hp'
   have:=(MD hp').1
   obtain⟨k,ek⟩:=Mp.mp this
   have hne:i≠p.1:=fun z=>hk ⟨k,by rw[ek,←z]⟩
   simpa using hne
  rw[this]
noncomputable def owns(n:Nat)(ow:List Nat)(is:List Nat):List (List Nat):=(Nf n).map fun l=>is.filter fun i=>ow.getD i 0==l
noncomputable def kfa(n:Nat)(ow is:List Nat):(kd4 n (is.map fun i=>ow.getD i 0)).map (fun g=>g.map fun j=>is.getD j 0)=owns n ow is:=by
 unfold kd4 owns
 rw[NH]
 refine N2 fun l _=>?_
 show(((Nf _).filter _).map fun j=>is.getD j 0)=_
 have e:is=(Nf is.length).map fun j=>is.getD j 0:=by
  apply N6
  ·simp
  ·intro j h1 h2
   simp[Nt,h1]
 conv=>rhs;rw[e]
 rw[List.filter_map,Nb]
 congr 1
 refine List.filter_congr fun k hk=>?_
 have hk':k<is.length:=by simpa using hk
 simp[Nt,hk']
noncomputable def qs_qs{pr:List Int}{ab g:List Nat}(h:∀j∈g,j<ab.length):qs (qs pr ab) g=qs pr (g.map fun j=>ab.getD j 0):=by
 unfold qs
 rw[NH]
 refine N2 fun j hj=>?_
 have:=h j hj
 simp[Nt,this]
noncomputable def kgY{n:Nat}{lines:List Nat}{g:List Nat}(hg:g∈kd4 n lines){j:Nat}(hj:j∈g):j<lines.length:=by
 obtain⟨l,_,rfl⟩:=Ny.mp hg
 have:=(NW.mp hj).1
 simpa using this
noncomputable def ke9{n N:Nat}{ow ab:List Nat}{pr:List Int}(cut:Int→Int)(hn:ab.Nodup):spr n ab (gdl cut (kd4 N (ab.map fun i=>ow.getD i 0)) (qs pr ab))=spr n (owns N ow ab).flatten ((owns N ow ab).map fun o=>dl (cut (qs pr o).sum) (qs pr o)).flatten:=by
 unfold gdl
 rw[ka5,kex hn fun j hj=>?_,List.map_flatten,kfa]
 ·congr 2
  rw[←kfa,NH]
  refine N2 fun g hg=>?_
  have e:=qs_qs (pr:=pr) (ab:=ab) (g:=g) fun j hj=>by simpa using kgY hg hj
  show dl (cut (qs (qs pr ab) g).sum) (qs (qs pr ab) g)=dl (cut (qs pr (g.map fun j=>ab.getD j 0)).sum) (qs pr (g.map fun j=>ab.getD j 0))
  rw[e]
 ·obtain⟨g,hg,hj'⟩:=MA.mp hj
  simpa using kgY hg hj'
end Vs
namespace Vs
open Kin Deal
section
variable {p:Nat→Bool} {n:Nat} {w:List Int}
noncomputable def cnt(p:Nat→Bool)(j:Nat):Nat:=((Nf j).filter p).length
theorem kkz{j:Nat}(h:p j=true):cnt p (j+1)=cnt p j+1:=by
 unfold cnt
 rw[Mb,MI,Nr]
 simp[h]
theorem klP{j:Nat}(h:p j=false):cnt p (j+1)=cnt p j:=by
 unfold cnt
 rw[Mb,MI,Nr]
 simp[h]
theorem kc0:∀{n j:Nat},j<n→p j=true→((Nf n).filter p)[cnt p j]?=some j
 |0,j,h,_=>by omega
 | n+1,j,h,hp=>by
  rw[Mb,MI]
  by_cases hj:j<n
  ·have ih:=kc0 hj hp
   rw[M6 (Nu.mp ih).1]
   exact ih
  ·have e:j=n:=by omega
   subst e
   unfold cnt
   rw[MW (Nd _)]
   simp[hp]
theorem klo(hl:w.length=cnt p n){j:Nat}(hj:j<n):(spr n ((Nf n).filter p) w)[j]?=some (if p j=true then w.getD (cnt p j) 0 else 0):=by
 unfold spr
 rw[Ni,M4 hj]
 show some _=some _
 congr 1
 show(Mn j (((Nf n).filter p).zip w)).getD 0=_
 cases hp:p j with
 |true=>
  rw[keT (MF.filter _ Eb) (kc0 hj hp) hl.symm,if_pos rfl,Nt]
 | false=>
  rw[if_neg Np]
  cases e:(((Nf n).filter p).zip w).lookup j with
  |none=>rw[E5]
  |some v=>
   obtain⟨k,hk,_⟩:=kdU e
   have:=(NW.mp (Nj hk)).2
   rw[hp] at this
   cases this
theorem kfY(hl:w.length=cnt p n):∀j,j≤n→pre (spr n ((Nf n).filter p) w) j=pre w (cnt p j)
 |0,_=>by simp[pre,cnt]
 | j+1,h=>by
  have ih:=kfY hl j (by omega)
  rw[kdn (klo hl (show j<n by omega)),ih]
  cases hp:p j with
  |true=>
   have hk:=(Nu.mp (kc0 (show j<n by omega) hp)).1
   have hk':cnt p j<w.length:=by rw[hl];exact hk
   rw[if_pos rfl,kkz hp,kdn (w:=w.getD (cnt p j) 0) (by rw[Nt,N5 hk'];rfl)]
  |false=>rw[if_neg Np,klP hp,Int.add_zero]
theorem kjk(hl:w.length=cnt p n):(spr n ((Nf n).filter p) w).sum=w.sum:=by
 have h:=kfY hl n (Nd _)
 rw[←hl,kjO] at h
 have e:pre (spr n ((Nf n).filter p) w) n=(spr n ((Nf n).filter p) w).sum:=by
  have:=kjO (spr n ((Nf n).filter p) w)
  rw[kcC] at this
  exact this
 rw[←e,h]
theorem kmO(m:Int)(hl:w.length=cnt p n):dl m (spr n ((Nf n).filter p) w)=spr n ((Nf n).filter p) (dl m w):=by
 have hl2:(dl m w).length=cnt p n:=by rw[kcb,hl]
 have hs:=kjk hl
 apply E9
 intro j
 by_cases hj:j<n
 ·rw[klo hl2 hj]
  have hjF:j<(spr n ((Nf n).filter p) w).length:=by rw[kcC];exact hj
  by_cases h0:w.sum=0
  ·rw[kiJ (hs.trans h0) hjF]
   cases hp:p j with
   |false=>rw[if_neg Np]
   |true=>
    have hk:=(Nu.mp (kc0 hj hp)).1
    rw[if_pos rfl,Nt,kiJ h0 (by rw[hl];exact hk)]
    rfl
  ·rw[dl_at (by rw[hs];exact h0) hjF]
   unfold part
   rw[hs,kfY hl j (by omega),kfY hl (j+1) (by omega)]
   cases hp:p j with
   |false=>rw[if_neg Np,klP hp,Int.sub_self]
   |true=>
    have hk:=(Nu.mp (kc0 hj hp)).1
    rw[if_pos rfl,Nt,dl_at h0 (by rw[hl];exact hk),kkz hp]
    rfl
 ·rw[EB (by rw[kcb,kcC];omega),EB (by rw[kcC];omega)]
end
noncomputable def kmp{c:Int}{n:Nat}:dl c (Nh n 0)=Nh n 0:=by
 have e:(Nh n (0:Int)).sum=0:=by simp
 unfold dl
 rw[if_pos e]
 simp
theorem kiL{V:Vch}{ps:List (Option Nat)}{kk:List Nat}{S:Stnd}(e:V.ms.most=none):
  (cutM V ps kk S).1=spr S.pr.length (abt ps kk V.ms.kind V.ms.lone S) (want V.so S.mkd.length ((abt ps kk V.ms.kind V.ms.lone S).map fun i=>S.ow.getD i 0) (qs S.pr (abt ps kk V.ms.kind V.ms.lone S))):=by
 unfold cutM cap
 rw[e]
theorem kiK{V:Vch}{ps:List (Option Nat)}{kk:List Nat}{S:Stnd}(hl:S.pr.length=S.ow.length)
  (hw:Le2 (want V.so S.mkd.length ((abt ps kk V.ms.kind V.ms.lone S).map fun i=>S.ow.getD i 0) (qs S.pr (abt ps kk V.ms.kind V.ms.lone S))) (qs S.pr (abt ps kk V.ms.kind V.ms.lone S))) {m:Int} (e:V.ms.most=some m) (h0:0≤m):
  (cutM V ps kk S).1=if(spr S.pr.length (abt ps kk V.ms.kind V.ms.lone S) (want V.so S.mkd.length ((abt ps kk V.ms.kind V.ms.lone S).map fun i=>S.ow.getD i 0) (qs S.pr (abt ps kk V.ms.kind V.ms.lone S)))).sum > m
   then dl m (spr S.pr.length (abt ps kk V.ms.kind V.ms.lone S) (want V.so S.mkd.length ((abt ps kk V.ms.kind V.ms.lone S).map fun i=>S.ow.getD i 0) (qs S.pr (abt ps kk V.ms.kind V.ms.lone S))))
   else spr S.pr.length (abt ps kk V.ms.kind V.ms.lone S) (want V.so S.mkd.length ((abt ps kk V.ms.kind V.ms.lone S).map fun i=>S.ow.getD i 0) (qs S.pr (abt ps kk V.ms.kind V.ms.lone S))):=by
 have hwl:=hw.1
 rw[ka5] at hwl
 have ea:abt ps kk V.ms.kind V.ms.lone S=(Nf S.pr.length).filter fun i=>hits ps kk V.ms.kind V.ms.lone S.mkd (S.ow.getD i 0):=by rw[hl];rfl
 have ez:V.so=.carr→(want V.so S.mkd.length ((abt ps kk V.ms.kind V.ms.lone S).map fun i=>S.ow.getD i 0) (qs S.pr (abt ps kk V.ms.kind V.ms.lone S)))=Nh (qs S.pr (abt ps kk V.ms.kind V.ms.lone S)).length 0:=fun z=>by rw[z];rfl
 unfold cutM cap
 rw[e]
 simp only
 generalize want V.so S.mkd.length ((abt ps kk V.ms.kind V.ms.lone S).map fun i=>S.ow.getD i 0) (qs S.pr (abt ps kk V.ms.kind V.ms.lone S))=w at *
 rw[ea] at hwl⊢
 rw[kjk hwl,kmO m hwl]
 by_cases hc:V.so=.carr
 ·have hz:=ez hc
  have hs:w.sum=0:=by rw[hz];simp
  rw[if_neg (by omega:¬w.sum > m)]
  split
  ·simp only
   rw[hz,kmp]
  ·rfl
 ·have hf:fee V.so S.cg=0:=by
   unfold fee
   split
   ·rename_i z
    exact absurd z hc
   ·rfl
  rw[hf,Int.add_zero]
  by_cases hm:m<w.sum
  ·rw[if_pos hm,if_pos hm]
   simp only
   rw[Int.min_eq_left (by omega)]
  ·rw[if_neg hm,if_neg hm]
end Vs
namespace Vs
open Kin Deal
noncomputable def ins:List (Nat×List Nat)→Nat→Nat→List (Nat×List Nat)
 |[],o,a=>[(o,[a])]
 |(l,g)::G,o,a=>if l=o then(l,g++[a])::G else(l,g)::ins G o a
noncomputable def parted(f:Nat→Nat)(is:List Nat):List (Nat×List Nat):=is.foldl (fun G a=>ins G (f a) a) []
noncomputable def keK(f:Nat→Nat)(is:List Nat)(a:Nat):parted f (is++[a])=ins (parted f is) (f a) a:=by
 unfold parted
 rw[List.foldl_append]
 rfl
theorem keq:∀(G:List (Nat×List Nat))(o a:Nat),(ins G o a).map Prod.fst=if o∈G.map Prod.fst then G.map Prod.fst else G.map Prod.fst++[o]
 |[],o,a=>by simp[ins]
 | (l,g)::G,o,a=>by
  unfold ins
  by_cases h:l=o
  ·subst h
   simp
  ·rw[if_neg h,Nw,keq G o a]
   show _=if o∈l::G.map Prod.fst then l::G.map Prod.fst else(l::G.map Prod.fst)++[o]
   have h':¬o=l:=fun z=>h z.symm
   by_cases hm:o∈G.map Prod.fst
   ·rw[if_pos hm,if_pos (NC _ hm)]
   ·rw[if_neg hm,if_neg (by rw[NF,not_or];exact⟨h',hm⟩)]
    rfl
theorem kkh:∀{G:List (Nat×List Nat)}{o a l:Nat}{g:List Nat},(G.map Prod.fst).Nodup→(l,g)∈ins G o a→(l≠o∧(l,g)∈G)∨(l=o∧((∃g',(o,g')∈G∧g=g'++[a])∨(o∉G.map Prod.fst∧g=[a])))
 |[],o,a,l,g,_,h=>by
  unfold ins at h
  rw[Mi] at h
  cases h
  exact .inr ⟨rfl, .inr ⟨by simp,rfl⟩⟩
 | (k,g0)::G,o,a,l,g,hn,h=>by
  unfold ins at h
  rw[Nw,Mj] at hn
  by_cases e:k=o
  ·rw[if_pos e] at h
   subst e
   rcases NF.mp h with z|z
   ·cases z
    exact .inr ⟨rfl, .inl ⟨g0,NJ,rfl⟩⟩
   ·refine .inl ⟨fun w=>?_,NC _ z⟩
    subst w
    exact hn.1 (Ny.mpr ⟨(l,g),z,rfl⟩)
  ·rw[if_neg e] at h
   rcases NF.mp h with z|z
   ·cases z
    exact .inl ⟨e,NJ⟩
   ·rcases kkh hn.2 z with⟨w1,w2⟩|⟨w1,⟨g',w2,w3⟩|⟨w2,w3⟩⟩
    ·exact .inl ⟨w1,NC _ w2⟩
    ·exact .inr ⟨w1, .inl ⟨g',NC _ w2,w3⟩⟩
    ·refine .inr ⟨w1, .inr ⟨?_,w3⟩⟩
     rw[Nw,NF,not_or]
     exact⟨fun z=>e z.symm,w2⟩
structure PtOk (f:Nat→Nat) (is:List Nat) (G:List (Nat×List Nat)):Prop where
 nd:(G.map Prod.fst).Nodup
 gs:∀l g,(l,g)∈G→g=is.filter fun i=>f i==l
 all:∀i∈is,f i∈G.map Prod.fst
theorem kfs(f:Nat→Nat):∀(n:Nat)(is:List Nat),is.length=n→PtOk f is (parted f is)
 |0,is,h=>by
  have e:is=[]:=List.eq_nil_of_length_eq_zero h
  subst e
  exact⟨by simp[parted],fun l g hg=>by simp[parted] at hg,fun i hi=>by simp at hi⟩
 | n +1,is,h=>by
  have hne:is≠[]:=by
   intro z
   subst z
   cases h
  obtain⟨is',a,rfl⟩:∃is' a,is=is'++[a]:=⟨is.dropLast,is.getLast hne,(List.dropLast_concat_getLast hne).symm⟩
  have ih:=kfs f n is' (by simpa using h)
  rw[keK]
  refine⟨?_,fun l g hg=>?_,fun i hi=>?_⟩
  ·rw[keq]
   split
   ·exact ih.nd
   ·rename_i hm
    exact Eg.mpr ⟨ih.nd,by simp,fun x hx y hy=>by
     rw[Mi] at hy
     subst hy
     exact fun z=>hm (by rw[←z];exact hx)⟩
  ·rw[MI]
   rcases kkh ih.nd hg with⟨w1,w2⟩|⟨w1,⟨g',w2,w3⟩|⟨w2,w3⟩⟩
   ·rw[ih.gs l g w2]
    have:(f a==l)=false:=by simpa using fun z=>w1 z.symm
    simp[this]
   ·subst w1 w3
    rw[ih.gs _ g' w2]
    simp
   ·subst w1 w3
    have e:is'.filter (fun i=>f i==f a)=[]:=by
     rw[DK]
     intro i hi z
     have z':f i=f a:=by simpa using z
     exact w2 (by rw[←z'];exact ih.all i hi)
    rw[e]
    simp
  ·rw[keq]
   rcases NR.mp hi with hi|hi
   ·have:=ih.all i hi
    split
    ·exact this
    ·exact El _ this
   ·rw[Mi] at hi
    subst hi
    split
    ·assumption
    ·exact NS _ (by simp)
noncomputable def kcS(f:Nat→Nat)(is:List Nat):PtOk f is (parted f is):=kfs f is.length is rfl
noncomputable def PtOk.snds{f:Nat→Nat}{is:List Nat}{G:List (Nat×List Nat)}(h:PtOk f is G):G.map Prod.snd=(G.map Prod.fst).map fun l=>is.filter fun i=>f i==l:=by
 rw[NH]
 refine N2 fun p hp=>?_
 exact h.gs p.1 p.2 hp
theorem ki6{l l':List (Nat×Int)}{i:Nat}:(l++l').lookup i=(l.lookup i).or (l'.lookup i):=by
 induction l with
 |nil=>simp
 |cons p l ih=>
  obtain⟨a,b⟩:=p
  rw[EG,N1,N1,ih]
  split <;> rfl
theorem kfz{l:List (Nat×Int)}{i:Nat}(h:∀p∈l,p.1≠i):l.lookup i=none:=by
 induction l with
 |nil=>rfl
 | cons p l ih=>
  obtain⟨a,b⟩:=p
  have h1:(i==a)=false:=by
   have:=h (a,b) NJ
   simpa using fun z=>this z.symm
  rw[N1,h1]
  exact ih fun q hq=>h q (NC _ hq)
section
variable {f:Nat→Nat} {is:List Nat} {D:List Nat→List Int}
theorem klS{l i:Nat}{vs:List Int}(h:f i≠l):((is.filter fun i=>f i==l).zip vs).lookup i=none:=
 kfz fun p hp=>by
  have h1:=(MD (show(p.1,p.2)∈_ from hp)).1
  have h2:f p.1=l:=by simpa using(NW.mp h1).2
  intro z
  rw[z] at h2
  exact h h2
theorem kd1(hD:∀g,(D g).length=g.length)(i:Nat):∀(ks:List Nat),ks.Nodup→
  (((ks.map fun l=>is.filter fun i=>f i==l).flatten).zip ((ks.map fun l=>D (is.filter fun i=>f i==l)).flatten)).lookup i=if f i∈ks then((is.filter fun j=>f j==f i).zip (D (is.filter fun j=>f j==f i))).lookup i else none
 |[],_=>by simp
 | l::ks,hn=>by
  rw[Mj] at hn
  have ih:=kd1 hD i ks hn.2
  rw[Nw,Nw,NK,NK,EI (hD _).symm,ki6,ih]
  by_cases h:f i=l
  ·subst h
   rw[if_neg hn.1,if_pos NJ,Option.or_none]
  ·rw[klS h,Option.none_or]
   by_cases hm:f i∈ks
   ·rw[if_pos hm,if_pos (NC _ hm)]
   ·rw[if_neg hm,if_neg (by rw[NF,not_or];exact⟨h,hm⟩)]
theorem kiY(hD:∀g,(D g).length=g.length){n:Nat}{ks ks':List Nat}(hn:ks.Nodup)(hn':ks'.Nodup)(h:∀i∈is,f i∈ks)(h':∀i∈is,f i∈ks'):
  spr n (ks.map fun l=>is.filter fun i=>f i==l).flatten (ks.map fun l=>D (is.filter fun i=>f i==l)).flatten=spr n (ks'.map fun l=>is.filter fun i=>f i==l).flatten (ks'.map fun l=>D (is.filter fun i=>f i==l)).flatten:=by
 unfold spr
 refine N2 fun i _=>?_
 have key:∀ks:List Nat,ks.Nodup→(∀i∈is,f i∈ks)→(((ks.map fun l=>is.filter fun i=>f i==l).flatten).zip ((ks.map fun l=>D (is.filter fun i=>f i==l)).flatten)).lookup i=((is.filter fun j=>f j==f i).zip (D (is.filter fun j=>f j==f i))).lookup i:=fun ks hn hk=>by
  rw[kd1 hD i ks hn]
  by_cases hm:f i∈ks
  ·rw[if_pos hm]
  ·rw[if_neg hm,kfz fun p hp=>?_]
   have h1:=(MD (show(p.1,p.2)∈_ from hp)).1
   obtain⟨h2,h3⟩:=NW.mp h1
   exact fun _=>hm (by rw[←(show f p.1=f i by simpa using h3)];exact hk _ h2)
 rw[key ks hn h,key ks' hn' h']
theorem keJ(hi:is.Nodup):∀{ks:List Nat},ks.Nodup→(ks.map fun l=>is.filter fun i=>f i==l).flatten.Nodup
 |[],_=>by simp
 |l::ks,hn=>by
  rw[Mj] at hn
  rw[Nw,NK]
  refine Eg.mpr ⟨hi.filter _,keJ hi hn.2,fun x hx y hy z=>?_⟩
  subst z
  have h1:f x=l:=by simpa using(NW.mp hx).2
  obtain⟨g,hg,hy⟩:=MA.mp hy
  obtain⟨l',hl',rfl⟩:=Ny.mp hg
  have h2:f x=l':=by simpa using(NW.mp hy).2
  exact hn.1 (by rw[←h1,h2];exact hl')
end
theorem kiZ{n N:Nat}{ow ab:List Nat}{pr:List Int}(cut:Int→Int)(hn:ab.Nodup)(hN:∀i∈ab,ow.getD i 0<N):
  spr n ((parted (fun i=>ow.getD i 0) ab).map Prod.snd).flatten (((parted (fun i=>ow.getD i 0) ab).map Prod.snd).map fun g=>dl (cut (qs pr g).sum) (qs pr g)).flatten=spr n ab (gdl cut (kd4 N (ab.map fun i=>ow.getD i 0)) (qs pr ab)):=by
 have ok:=kcS (fun i=>ow.getD i 0) ab
 rw[ke9 cut hn,ok.snds]
 generalize hks:(parted (fun i=>ow.getD i 0) ab).map Prod.fst=ks at *
 have nd:ks.Nodup:=by rw[←hks];exact ok.nd
 have al:∀i∈ab,ow.getD i 0∈ks:=by rw[←hks];exact ok.all
 unfold owns
 rw[NH,NH]
 exact kiY (f:=fun i=>ow.getD i 0) (is:=ab) (D:=fun g=>dl (cut (qs pr g).sum) (qs pr g)) (fun g=>by rw[kcb,ka5]) nd Eb al fun i hi=>by simpa using hN i hi
noncomputable def kft(f:Nat→Nat):∀(is:List Nat),(parted f is).length≤is.length:=by
 intro is
 have key:∀(is:List Nat)(G:List (Nat×List Nat)),(is.foldl (fun G a=>ins G (f a) a) G).length≤G.length+is.length:=by
  intro is
  induction is with
  |nil=>intro G;simp
  | cons a is ih=>
   intro G
   have h1:=ih (ins G (f a) a)
   have h2:(ins G (f a) a).length≤G.length+1:=by
    have:=congrArg MV (keq G (f a) a)
    rw[Nb] at this
    rw[this]
    split <;> simp
   rw[List.foldl_cons,NT]
   omega
 simpa[parted] using key is []
end Vs
namespace Vs
open Kin Deal
noncomputable def fallP(pr:List Int)(is:List Nat):List Nat:=(ordQ (qs pr is)).map fun j=>is.getD j 0
noncomputable def range_getD(is:List Nat):(Nf is.length).map (fun j=>is.getD j 0)=is:=by
 apply N6
 ·simp
 ·intro j h1 h2
  simp[Nt,h2]
noncomputable def kbD(pr:List Int)(is:List Nat):(fallP pr is).Perm is:=by
 have h:=(kcT (qs pr is)).map fun j=>is.getD j 0
 rw[ka5,range_getD] at h
 exact h
noncomputable def befP(pr:List Int)(a b:Nat):Prop:=pr.getD b 0<pr.getD a 0∨(pr.getD a 0=pr.getD b 0∧a<b)
noncomputable def kld{pr:List Int}{is:List Nat}(hs:is.Pairwise (· < ·)):(fallP pr is).Pairwise (befP pr):=by
 have h:=(kdq (qs pr is)).2
 have hm:=(kdq (qs pr is)).1
 unfold fallP
 rw[Eh]
 refine h.imp_of_mem fun {a b} ha hb hab=>?_
 have la:a<is.length:=by simpa[ka5] using hm.mem_iff.mp ha
 have lb:b<is.length:=by simpa[ka5] using hm.mem_iff.mp hb
 have ea:(qs pr is).getD a 0=pr.getD (is.getD a 0) 0:=by simp[qs,Nt,la]
 have eb:(qs pr is).getD b 0=pr.getD (is.getD b 0) 0:=by simp[qs,Nt,lb]
 unfold bef at hab
 unfold befP
 rw[ea,eb] at hab
 rcases hab with z|⟨z1,z2⟩
 ·exact .inl z
 ·refine .inr ⟨z1,?_⟩
  have:=MN.mp hs a b la lb z2
  simpa[Nt,la,lb] using this
noncomputable def ki8{pr:List Int}{is ks:List Nat}(hs:is.Pairwise (· < ·))(hp:ks.Perm is)(hk:ks.Pairwise (befP pr)):ks=fallP pr is:=
 keF (R:=befP pr) (fun a b h h'=>by unfold befP at h h';omega) (hp.trans (kbD pr is).symm) hk (kld hs)
noncomputable def kkn(m:Nat)(f:Nat→Nat)(r:List Nat):grp m (r.map f)=(grp m r).map fun g=>g.map f:=by
 unfold grp
 rw[Nb,NH]
 refine N2 fun g _=>?_
 show((r.map f).drop _).take _=((r.drop _).take _).map f
 rw[M8,E8]
noncomputable def kkm{m:Nat}{r g:List Nat}(h:g∈grp m r):∀j∈g,j∈r:=fun j hj=>by
 obtain⟨i,_,rfl⟩:=Ny.mp h
 exact Df (MO hj)
theorem kko{n:Nat}{ab:List Nat}{pr:List Int}(cut:Int→Int)(hn:ab.Nodup)(gs:List (List Nat))(hg:∀g∈gs,∀j∈g,j<ab.length):
  spr n ab (gdl cut gs (qs pr ab))=spr n (gs.map fun g=>g.map fun j=>ab.getD j 0).flatten ((gs.map fun g=>g.map fun j=>ab.getD j 0).map fun o=>dl (cut (qs pr o).sum) (qs pr o)).flatten:=by
 unfold gdl
 rw[ka5,kex hn fun j hj=>?_,List.map_flatten,NH]
 ·congr 2
  refine N2 fun g hg'=>?_
  have e:=qs_qs (pr:=pr) (ab:=ab) (g:=g) (hg g hg')
  show dl (cut (qs (qs pr ab) g).sum) (qs (qs pr ab) g)=dl (cut (qs pr (g.map fun j=>ab.getD j 0)).sum) (qs pr (g.map fun j=>ab.getD j 0))
  rw[e]
 ·obtain⟨g,hg',hj'⟩:=MA.mp hj
  exact hg g hg' j hj'
noncomputable def klE{pr:List Int}{is:List Nat}{m:Nat}{g:List Nat}(h:g∈grp m (ordQ (qs pr is))):∀j∈g,j<is.length:=fun j hj=>by
 have:=khw (kkm h j hj)
 rwa [ka5] at this
theorem klg{n m:Nat}{is:List Nat}{pr:List Int}(cut:Int→Int)(hn:is.Nodup):
  spr n is (gdl cut (grp m (ordQ (qs pr is))) (qs pr is))=spr n (grp m (fallP pr is)).flatten ((grp m (fallP pr is)).map fun o=>dl (cut (qs pr o).sum) (qs pr o)).flatten:=by
 rw[kko cut hn _ fun g hg=>klE hg]
 unfold fallP
 rw[kkn]
noncomputable def kj9{f:Nat→Nat}{gs:List (List Nat)}(h:∀g∈gs,g≠[]):lasts (gs.map fun g=>g.map f)=(lasts gs).map f:=by
 unfold lasts
 rw[NH,NH]
 refine N2 fun g hg=>?_
 show(g.map f).getLastD 0=f (g.getLastD 0)
 have hne:=h g hg
 rw[Dk,Dk,List.getLast?_map,DL hne]
 rfl
noncomputable def kmP(c:Int):dl c [c]=[c]:=by
 unfold dl
 by_cases h:[c].sum=0
 ·rw[if_pos h]
  have:c=0:=by simpa using h
  simp[this]
 ·rw[if_neg h]
  have hc:c≠0:=by simpa using h
  have e:part c [c] 0=c:=by
   unfold part pre
   simp[Int.mul_ediv_cancel _ hc]
  simp[Mb,e]
theorem kjE(f:Nat→Int):∀(l:List Nat),(l.map fun i=>[i]).flatten=l∧(l.map fun i=>[f i]).flatten=l.map f
 |[]=>⟨rfl,rfl⟩
 |a::l=>by
  obtain⟨h1,h2⟩:=kjE f l
  simp[h1,h2]
theorem kkA{n m:Nat}{is:List Nat}{pr:List Int}(hm:0<m)(hn:is.Nodup):
  spr n is (spr (qs pr is).length (lasts (grp m (ordQ (qs pr is)))) (qs (qs pr is) (lasts (grp m (ordQ (qs pr is))))))=spr n (lasts (grp m (fallP pr is))) ((lasts (grp m (fallP pr is))).map fun i=>pr.getD i 0):=by
 have ne:∀g∈grp m (ordQ (qs pr is)),g≠[]:=fun g hg z=>by
  obtain⟨i,hi⟩:=Mp.mp hg
  have:=(kiD hi).2.1
  rw[z] at this
  simp at this
  omega
 have hl:∀j∈lasts (grp m (ordQ (qs pr is))),j<is.length:=fun j hj=>by
  obtain⟨g,hg,rfl⟩:=Ny.mp hj
  refine klE hg _ ?_
  rw[Dk,DL (ne g hg)]
  exact List.getLast_mem _
 rw[ka5,kex hn hl,qs_qs hl]
 have e:lasts (grp m (fallP pr is))=(lasts (grp m (ordQ (qs pr is)))).map fun j=>is.getD j 0:=by
  unfold fallP
  rw[kkn,kj9 ne]
 rw[e]
 rfl
noncomputable def spr_zero{n k:Nat}{is:List Nat}:spr n is (Nh k 0)=Nh n 0:=by
 unfold spr
 apply N6
 ·simp
 ·intro j h1 h2
  simp only[MG,MP,List.getElem_replicate]
  cases e:(is.zip (Nh k (0:Int))).lookup j with
  |none=>rfl
  |some v=>
   obtain⟨i,_,hv⟩:=kdU e
   have:=List.eq_of_mem_replicate (Nj hv)
   rw[this]
   rfl
noncomputable def ke4{pr:List Int}{is:List Nat}(hn:is.Nodup):(fallP pr is).Nodup:=(kbD pr is).nodup_iff.mpr hn
noncomputable def khE(m:Nat)(r:List Nat):(grp m r).length≤r.length:=by
 unfold grp
 rw[Nb,Dl]
 exact Nat.div_le_self _ _
end Vs
namespace Vs
open Kin Deal
structure Later (S S':Stnd):Prop where
 ow:S'.ow=S.ow
 pr:Le2 S'.pr S.pr
 cg:0≤S'.cg∧S'.cg≤S.cg
 mg:∀l,S.mkd.getD l false=true→S'.mkd.getD l false=true
noncomputable def Later.refl{S:Stnd}(hn:Nn S.pr)(hc:0≤S.cg):Later S S:=⟨rfl,Le2.self hn,⟨hc,Int.le_refl _⟩,fun _ h=>h⟩
noncomputable def Later.trans{S S' S'':Stnd}(h:Later S S')(h':Later S' S''):Later S S'':=⟨h'.ow.trans h.ow,h'.pr.trans h.pr,⟨h'.cg.1,Int.le_trans h'.cg.2 h.cg.2⟩,fun l e=>h'.mg l (h.mg l e)⟩
end Vs
namespace Vs
open PySem L2
noncomputable def top(i:Nat):Stmt:=PySem.Challenge.pw_voucherstack_k51_whole_bill_walked.main.body.getD i (.Pass ⟨0,0,0,0⟩)
noncomputable abbrev khq:Stmt:=top 1
noncomputable abbrev kho:Stmt:=top 3
noncomputable abbrev kbK:Stmt:=top 15
noncomputable abbrev keD:Stmt:=top 18
noncomputable abbrev kjJ:Stmt:=top 19
noncomputable abbrev kdc:Stmt:=top 20
noncomputable abbrev kjK:Stmt:=top 21
noncomputable abbrev khr:Stmt:=top 22
noncomputable abbrev kbM:Stmt:=top 23
noncomputable abbrev kbz:Stmt:=top 24
noncomputable abbrev kbk:Stmt:=top 25
noncomputable abbrev kbL:Stmt:=top 26
noncomputable abbrev kaH:Stmt:=top 27
noncomputable abbrev kbW:Stmt:=top 28
noncomputable abbrev kcD:Stmt:=top 29
noncomputable abbrev kbV:Stmt:=top 30
noncomputable abbrev keC:Stmt:=top 31
noncomputable abbrev khp:Stmt:=top 37
noncomputable abbrev kfS:Stmt:=top 38
noncomputable abbrev kbU:Stmt:=top 39
noncomputable abbrev kci:Stmt:=top 40
noncomputable abbrev kck:Stmt:=top 41
noncomputable abbrev kby:Stmt:=top 42
noncomputable abbrev kfT:Stmt:=top 45
noncomputable abbrev kcF:Stmt:=top 46
noncomputable abbrev kcE:Stmt:=top 47
noncomputable abbrev kch:Stmt:=top 48
noncomputable abbrev kfU:Stmt:=top 50
noncomputable abbrev kdb:Stmt:=top 51
noncomputable abbrev kcO:Stmt:=top 55
noncomputable abbrev kcq:Stmt:=top 56
noncomputable abbrev kdK:Stmt:=top 57
noncomputable abbrev kcp:Stmt:=top 58
noncomputable abbrev kco:Stmt:=top 59
noncomputable abbrev kcm:Stmt:=top 60
noncomputable abbrev kbY:Stmt:=top 61
noncomputable abbrev kbA:Stmt:=top 62
noncomputable abbrev kbB:Stmt:=top 63
noncomputable abbrev kcn:Stmt:=top 64
noncomputable abbrev kbX:Stmt:=top 65
noncomputable abbrev kcP:Stmt:=top 66
noncomputable abbrev kbZ:Stmt:=top 67
noncomputable abbrev kbN:Stmt:=top 68
noncomputable abbrev kdJ:Stmt:=top 69
noncomputable abbrev ka7:Stmt:=top 70
noncomputable abbrev kdd:Stmt:=top 71
noncomputable abbrev ka8:Stmt:=top 72
noncomputable abbrev kbo:Stmt:=top 73
noncomputable abbrev kb0:Stmt:=top 74
noncomputable abbrev kcl:Stmt:=top 75
noncomputable abbrev kbF:Stmt:=top 76
noncomputable abbrev s_law:Stmt:=top 77
noncomputable abbrev ka4:Stmt:=inClass (top 5) 0
noncomputable abbrev kaV:Stmt:=inClass (top 6) 0
noncomputable abbrev kbs:Stmt:=inClass (top 7) 0
noncomputable abbrev ka3:Stmt:=inClass (top 8) 0
noncomputable abbrev kaO:Stmt:=inClass (top 9) 0
noncomputable abbrev ka0:Stmt:=inClass (top 10) 0
noncomputable abbrev kaP:Stmt:=inClass (top 11) 0
noncomputable abbrev kbf:Stmt:=inClass (top 13) 0
noncomputable abbrev ka1:Stmt:=inClass (top 14) 0
noncomputable abbrev kb4:Stmt:=inClass (top 16) 0
noncomputable abbrev kbO:Stmt:=inClass (top 16) 1
noncomputable abbrev kdL:Stmt:=inClass (top 36) 0
noncomputable abbrev kcr:Stmt:=inClass (top 36) 1
noncomputable abbrev kcQ:Stmt:=inClass (top 36) 2
noncomputable abbrev kbv:Stmt:=inClass (top 36) 3
noncomputable abbrev kb3:Stmt:=inClass (top 36) 4
noncomputable abbrev kde:Stmt:=inClass (top 44) 0
noncomputable abbrev kbe:Stmt:=inClass (top 53) 0
set_option genInjectivity false
set_option genSizeOf false
set_option genCtorIdx false
structure D where
 XU:Addr
 XW:FuncData
 XX:Addr
 XY:FuncData
 XZ:Addr
 X0:FuncData
 X1:Addr
 X2:FuncData
 X3:Addr
 X4:FuncData
 X5:Addr
 X6:FuncData
 X7:Addr
 X8:FuncData
 X9:Addr
 Ya:FuncData
 Yb:Addr
 Yc:FuncData
 Yd:Addr
 Ye:FuncData
 Yf:Addr
 Yg:FuncData
 Yh:Addr
 Yi:FuncData
 Yj:Addr
 QS:FuncData
 Yk:Addr
 Yl:FuncData
 Ym:Addr
 Yn:FuncData
 Yo:Addr
 Yp:FuncData
 Yq:Addr
 Yr:FuncData
 Ys:Addr
 Yt:FuncData
 Yu:Addr
 Yv:FuncData
 Yw:Addr
 Yx:FuncData
 Yy:Addr
 Yz:FuncData
 YA:Addr
 YB:FuncData
 YC:Addr
 YD:FuncData
 YE:Addr
 YF:FuncData
 YG:Addr
 YH:FuncData
 YI:Addr
 YJ:FuncData
 YK:Addr
 YL:FuncData
 YM:Addr
 YN:FuncData
 Qg:Addr
 Qh:FuncData
 YO:Addr
 YQ:FuncData
 YR:Addr
 YS:FuncData
 YT:Addr
 YU:FuncData
 YV:Addr
 YW:FuncData
 YX:Addr
 YY:FuncData
 YZ:Addr
 Y0:FuncData
 Y1:Addr
 Y2:FuncData
 Y3:Addr
 Y5:FuncData
 Y7:Addr
 Y9:FuncData
 Za:Addr
 Zb:FuncData
 Zc:Addr
 Zd:FuncData
 Ze:Addr
 Zf:FuncData
 Zg:Addr
 Zh:FuncData
 Zi:Addr
 Zj:FuncData
 Zk:Addr
 Zl:FuncData
 Zm:Addr
 Zn:FuncData
 Zo:Addr
 Zp:FuncData
 Zq:Addr
 Zr:FuncData
 Zs:Addr
 Zt:FuncData
 Zu:Addr
 Zv:FuncData
 Zw:Addr
 Zx:FuncData
 Zy:Addr
 Zz:FuncData
 f_law:Addr
 ZA:FuncData
 qh:Addr
 ZC:Addr
 qJ:FuncData
 tok1_Marks_init:Nat
 qA:Addr
 QT:Addr
 QU:FuncData
 c_Off:Addr
 ZD:Addr
 QV:FuncData
 qi:Addr
 ZE:Addr
 Qw:FuncData
 ql:Addr
 ZF:Addr
 QW:FuncData
 qj:Addr
 ZG:Addr
 QX:FuncData
 qm:Addr
 ZH:Addr
 QY:FuncData
 qf:Addr
 ZI:Addr
 QZ:FuncData
 qd:Addr
 ZJ:Addr
 Qx:FuncData
 tok0_Basket_init:Nat
 qc:Addr
 ZK:Addr
 ZL:FuncData
 ZM:Addr
 ZN:FuncData
 c_Way:Addr
 ZO:Addr
 ZP:FuncData
 ZQ:Addr
 ZR:FuncData
 ZS:Addr
 ZT:FuncData
 ZU:Addr
 ZV:FuncData
 ZW:Addr
 ZX:FuncData
 qe:Addr
 ZY:Addr
 ZZ:FuncData
 qg:Addr
 Z9:Addr
 Q0:FuncData
 tok0_Till_init:Nat
 cc_falling_groups:Addr
 tP_falling_groups:Addr
structure Wld (K:Nc) (mg:Str→Option Value) (d:D):Prop where
 B:TxtB mg
 Q1:Dn K mg "dealt" khq ["cut","weights"] d.XU d.XW
 Va:Dn K mg "under" kho ["parents","one","other"] d.XX d.XY
 Vb:Dn K mg "price_of_piece" kbK ["line","member"] d.XZ d.X0
 Q2:Dn K mg "about" keD ["voucher","parents","basket","standing"] d.X1 d.X2
 Vd:Dn K mg "fits" kjJ ["marks","parents","kind","marked"] d.X3 d.X4
 Ve:Dn K mg "hindrance" kdc ["voucher","parents","basket","standing"] d.X5 d.X6
 Vf:Dn K mg "cuts" kjK ["voucher","parents","basket","standing"] d.X7 d.X8
 Vg:Dn K mg "after" khr ["voucher","parents","basket","standing"] d.X9 d.Ya
 Q3:Dn K mg "cuts_of_pieces" kbM ["voucher","parents","basket","standing"] d.Yb d.Yc
 Q4:Dn K mg "cut_of_carriage" kbz ["voucher","standing"] d.Yd d.Ye
 Vh:Dn K mg "wanted_cuts" kbk ["voucher","standing","pieces"] d.Yf d.Yg
 Vi:Dn K mg "parted_by_line" kbL ["standing","pieces"] d.Yh d.Yi
 Q5:Dn K mg "falling_groups" kaH ["standing","pieces","many"] d.Yj d.QS
 Vj:Dn K mg "marked_behind" kbW ["voucher","standing","piece_cuts"] d.Yk d.Yl
 Q6:Dn K mg "prices_of" kcD ["standing","pieces"] d.Ym d.Yn
 Qi:Dn K mg "sum_of_prices" kbV ["standing","pieces"] d.Yo d.Yp
 Vk:Dn K mg "at_most" keC ["most","number"] d.Yq d.Yr
 Vl:Dn K mg "fault" khp ["till","basket","hand","order"] d.Ys d.Yt
 Vm:Dn K mg "way_by" kfS ["till","basket","hand","order"] d.Yu d.Yv
 Vn:Dn K mg "word_of_order" kbU ["till","hand","used","number"] d.Yw d.Yx
 Vo:Dn K mg "breaks_never" kci ["rules","used","number"] d.Yy d.Yz
 Vp:Dn K mg "breaks_ahead" kck ["rules","used","number"] d.YA d.YB
 Vq:Dn K mg "without_company" kby ["rules","order"] d.YC d.YD
 Q7:Dn K mg "priced" kfT ["till","basket","hand","order"] d.YE d.YF
 Vr:Dn K mg "line_cuts" kcF ["basket","bill"] d.YG d.YH
 Vt:Dn K mg "line_totals" kcE ["basket","bill"] d.YI d.YJ
 Q8:Dn K mg "sums_by_line" kch ["basket","amounts"] d.YK d.YL
 Q9:Dn K mg "orders" kfU ["till","basket","hand"] d.YM d.YN
 Qj:Dn K mg "ways_from" kdb ["way"] d.Qg d.Qh
 Qy:Dn K mg "_law_whole" kcO ["_law_found"] d.YO d.YQ
 qV:Dn K mg "_law_cell_at" kcq ["_law_script","_law_k"] d.YR d.YS
 qB:Dn K mg "_law_mix" kdK ["_law_cell","_law_factor","_law_prime"] d.YT d.YU
 Vu:Dn K mg "_law_coin_by" kcp ["_law_cell"] d.YV d.YW
 qK:Dn K mg "_law_coin_of" kco ["_law_cell","_law_scale"] d.YX d.YY
 Vv:Dn K mg "_law_line_by" kcm ["_law_cell","_law_kinds","_law_scale","_law_most"] d.YZ d.Y0
 Vw:Dn K mg "_law_marks_by" kbY ["_law_cell","_law_kinds","_law_scale"] d.Y1 d.Y2
 Vx:Dn K mg "_law_voucher_by" kbA ["_law_cell","_law_kinds","_law_scale"] d.Y3 d.Y5
 Vy:Dn K mg "_law_parents_by" kbB ["_law_cell"] d.Y7 d.Y9
 Vz:Dn K mg "_law_hand_by" kcn ["_law_more_held","_law_vouchers","_law_most_held","_law_first"] d.Za d.Zb
 VA:Dn K mg "_law_world_by" kbX ["_law_script","_law_most_vouchers","_law_most_held"] d.Zc d.Zd
 qW:Dn K mg "_law_dealt" kcP ["_law_cut","_law_weights"] d.Ze d.Zf
 VB:Dn K mg "_law_is_under" kbZ ["_law_parents","_law_one","_law_other"] d.Zg d.Zh
 VC:Dn K mg "_law_pieces_of" kbN ["_law_voucher","_law_till","_law_basket","_law_owners","_law_marked"] d.Zi d.Zj
 Qk:Dn K mg "_law_put" kdJ ["_law_told","_law_pieces","_law_parts"] d.Zk d.Zl
 VD:Dn K mg "_law_wanted" ka7 ["_law_voucher","_law_pieces","_law_prices","_law_owners"] d.Zm d.Zn
 VE:Dn K mg "_law_step" kdd ["_law_voucher","_law_till","_law_basket","_law_owners","_law_state"] d.Zo d.Zp
 VF:Dn K mg "_law_state_behind" ka8 ["_law_state","_law_step_here","_law_voucher","_law_owners"] d.Zq d.Zr
 VG:Dn K mg "_law_first_prices" kbo ["_law_basket","_law_owners"] d.Zs d.Zt
 Xa:Dn K mg "_law_by_lines" kb0 ["_law_basket","_law_owners","_law_numbers_here"] d.Zu d.Zv
 Qz:Dn K mg "_law_numbers" kcl ["_law_found","_law_due"] d.Zw d.Zx
 VH:Dn K mg "_law_right" kbF ["_law_till","_law_basket","_law_hand","_law_order"] d.Zy d.Zz
 d_law:Dn K mg "law" s_law ["_law_script"] d.f_law d.ZA
 qh:ClsT K mg "Marks" d.qh
 Ql:NoAttr K d.qh "kind"
 VI:NoAttr K d.qh "needs"
 QA:NoAttr K d.qh "most"
 VJ:NoAttr K d.qh "member"
 VL:NoAttr K d.qh "once"
 qX:NoAttr K d.qh "lone"
 QB:MthT K d.qh "__init__" "Marks.__init__" ka4 ["self","kind","needs","most","member","once","lone"] d.ZC d.qJ
 b1_Marks_init:Binds K d.qJ ["self","kind","needs","most","member","once","lone"] [.bool false]
 b2_Marks_init:Binds K d.qJ ["self","kind","needs","most","member","once","lone"] [.bool false, .bool false]
 b3_Marks_init:Binds K d.qJ ["self","kind","needs","most","member","once","lone"] [.bool false, .bool false, .bool false]
 b4_Marks_init:Binds K d.qJ ["self","kind","needs","most","member","once","lone"] [.none, .bool false, .bool false, .bool false]
 b5_Marks_init:Binds K d.qJ ["self","kind","needs","most","member","once","lone"] [.int 0 d.tok1_Marks_init, .none, .bool false, .bool false, .bool false]
 b6_Marks_init:Binds K d.qJ ["self","kind","needs","most","member","once","lone"] [.none, .int 0 d.tok1_Marks_init, .none, .bool false, .bool false, .bool false]
 qA:ClsT K mg "Voucher" d.qA
 qu:MthT K d.qA "__init__" "Voucher.__init__" kaV ["self","marks"] d.QT d.QU
 b1_Voucher_init:Binds K d.QU ["self","marks"] [.none]
 g_Off:mg "Off"=some (.ref d.c_Off)
 c_Off:ClsT K mg "Off" d.c_Off
 Xb:NoAttr K d.c_Off "amount"
 VM:NoAttr K d.c_Off "marks"
 Xc:MthT K d.c_Off "__init__" "Off.__init__" kbs ["self","amount","marks"] d.ZD d.QV
 b1_Off_init:Binds K d.QV ["self","amount","marks"] [.none]
 Xd:mg "Share"=some (.ref d.qi)
 qi:ClsT K mg "Share" d.qi
 QC:NoAttr K d.qi "share"
 Xe:NoAttr K d.qi "by_line"
 VN:NoAttr K d.qi "marks"
 Xf:MthT K d.qi "__init__" "Share.__init__" ka3 ["self","share","by_line","marks"] d.ZE d.Qw
 b1_Share_init:Binds K d.Qw ["self","share","by_line","marks"] [.none]
 b2_Share_init:Binds K d.Qw ["self","share","by_line","marks"] [.bool false, .none]
 Xg:mg "Cheapest"=some (.ref d.ql)
 ql:ClsT K mg "Cheapest" d.ql
 Xh:NoAttr K d.ql "many"
 VO:NoAttr K d.ql "marks"
 Xi:MthT K d.ql "__init__" "Cheapest.__init__" kaO ["self","many","marks"] d.ZF d.QW
 b1_Cheapest_init:Binds K d.QW ["self","many","marks"] [.none]
 VP:mg "Bundle"=some (.ref d.qj)
 qj:ClsT K mg "Bundle" d.qj
 Xj:NoAttr K d.qj "many"
 Xk:NoAttr K d.qj "price"
 VQ:NoAttr K d.qj "marks"
 Xl:MthT K d.qj "__init__" "Bundle.__init__" ka0 ["self","many","price","marks"] d.ZG d.QX
 b1_Bundle_init:Binds K d.QX ["self","many","price","marks"] [.none]
 VR:mg "Carriage"=some (.ref d.qm)
 qm:ClsT K mg "Carriage" d.qm
 VS:NoAttr K d.qm "marks"
 Xm:MthT K d.qm "__init__" "Carriage.__init__" kaP ["self","marks"] d.ZH d.QY
 b1_Carriage_init:Binds K d.QY ["self","marks"] [.none]
 qf:ClsT K mg "Line" d.qf
 Xn:NoAttr K d.qf "kind"
 QD:NoAttr K d.qf "price"
 Qm:NoAttr K d.qf "many"
 Qn:NoAttr K d.qf "special"
 Xo:MthT K d.qf "__init__" "Line.__init__" kbf ["self","kind","price","many","special"] d.ZI d.QZ
 b1_Line_init:Binds K d.QZ ["self","kind","price","many","special"] [.none]
 qd:ClsT K mg "Basket" d.qd
 qr:NoAttr K d.qd "lines"
 Xp:NoAttr K d.qd "carriage"
 QE:NoAttr K d.qd "member"
 Xq:MthT K d.qd "__init__" "Basket.__init__" ka1 ["self","lines","carriage","member"] d.ZJ d.Qx
 b1_Basket_init:Binds K d.Qx ["self","lines","carriage","member"] [.bool false]
 b2_Basket_init:Binds K d.Qx ["self","lines","carriage","member"] [.int 0 d.tok0_Basket_init, .bool false]
 qc:ClsT K mg "Standing" d.qc
 qL:NoAttr K d.qc "owners"
 qw:NoAttr K d.qc "prices"
 qY:NoAttr K d.qc "carriage"
 Qo:NoAttr K d.qc "marked"
 qO:MthT K d.qc "__init__" "Standing.__init__" kb4 ["self","basket"] d.ZK d.ZL
 Xr:MthT K d.qc "whole" "Standing.whole" kbO ["self"] d.ZM d.ZN
 c_Way:ClsT K mg "Way" d.c_Way
 qC:NoAttr K d.c_Way "till"
 QF:NoAttr K d.c_Way "basket"
 Xs:NoAttr K d.c_Way "hand"
 qP:NoAttr K d.c_Way "used"
 qZ:NoAttr K d.c_Way "standing"
 qD:MthT K d.c_Way "__init__" "Way.__init__" kdL ["self","till","basket","hand"] d.ZO d.ZP
 qQ:MthT K d.c_Way "word_for" "Way.word_for" kcr ["self","number"] d.ZQ d.ZR
 qR:MthT K d.c_Way "behind" "Way.behind" kcQ ["self","number"] d.ZS d.ZT
 Xt:MthT K d.c_Way "followers" "Way.followers" kbv ["self"] d.ZU d.ZV
 Qp:MthT K d.c_Way "is_let_by" "Way.is_let_by" kb3 ["self"] d.ZW d.ZX
 qe:ClsT K mg "Bill" d.qe
 VT:NoAttr K d.qe "order"
 qE:NoAttr K d.qe "steps"
 Xu:NoAttr K d.qe "prices"
 Xv:NoAttr K d.qe "carriage"
 Xw:NoAttr K d.qe "total"
 Xx:MthT K d.qe "__init__" "Bill.__init__" kde ["self","order","steps","standing"] d.ZY d.ZZ
 qg:ClsT K mg "Till" d.qg
 q9:NoAttr K d.qg "parents"
 qM:NoAttr K d.qg "vouchers"
 Qa:NoAttr K d.qg "rules"
 V7:NoAttr K d.qg "back"
 QG:MthT K d.qg "__init__" "Till.__init__" kbe ["self","parents","vouchers","rules","back"] d.Z9 d.Q0
 b1_Till_init:Binds K d.Q0 ["self","parents","vouchers","rules","back"] [.str "again" d.tok0_Till_init]
 Qq:BaseT K d.qA "__init__" d.QT
 V8:NA K (.ref d.c_Off) (.ref d.qm)=some false
 V9:NA K (.ref d.qi) (.ref d.qm)=some false
 Ua:NA K (.ref d.ql) (.ref d.qm)=some false
 Ub:NA K (.ref d.qj) (.ref d.qm)=some false
 Uc:NA K (.ref d.qi) (.ref d.c_Off)=some false
 Ud:NA K (.ref d.ql) (.ref d.c_Off)=some false
 Ue:NA K (.ref d.qj) (.ref d.c_Off)=some false
 Ug:NA K (.ref d.qm) (.ref d.c_Off)=some false
 Uh:NA K (.ref d.c_Off) (.ref d.qi)=some false
 Ui:NA K (.ref d.ql) (.ref d.qi)=some false
 Uj:NA K (.ref d.qj) (.ref d.qi)=some false
 Uk:NA K (.ref d.qm) (.ref d.qi)=some false
 Ul:NA K (.ref d.c_Off) (.ref d.ql)=some false
 Um:NA K (.ref d.qi) (.ref d.ql)=some false
 Uo:NA K (.ref d.qj) (.ref d.ql)=some false
 Uq:NA K (.ref d.qm) (.ref d.ql)=some false
 Ur:NA K (.ref d.c_Off) (.ref d.qj)=some false
 Us:NA K (.ref d.qi) (.ref d.qj)=some false
 Ut:NA K (.ref d.ql) (.ref d.qj)=some false
 Uu:NA K (.ref d.qm) (.ref d.qj)=some false
 code_falling_groups:d.QS.code=.ref d.cc_falling_groups
 ck_falling_groups:CodeK K d.cc_falling_groups d.tP_falling_groups
structure WB (K:Nc) (mg:Str→Option Value) (d:D) (base:Heap):Prop extends Wld K mg d where
 blt:BltM mg base
end Vs
namespace Vs
open PySem L2 War Kin Deal
noncomputable def LineAt(C:Addr)(H:Hp)(x:Addr)(r:Row):Prop:=∃(dx:Addr)(fs:List (Str×V)),H x=some (.ins C dx fs)∧fs.lookup ("kind" :Str)=some (.int r.kd)∧fs.lookup ("price" :Str)=some (.int r.pr)∧fs.lookup ("many" :Str)=some (.int r.mn)∧fs.lookup ("special" :Str)=some (oV r.ex)
noncomputable abbrev Lines(C:Addr)(H:Hp)(ls:List Addr)(rs:List Row):Prop:=P2 (LineAt C H) ls rs
noncomputable def BaskAt(C:Addr)(H:Hp)(b l:Addr)(cg:Int)(m:Bool):Prop:=∃(dx:Addr)(fs:List (Str×V)),H b=some (.ins C dx fs)∧fs.lookup ("lines" :Str)=some (.ref l)∧fs.lookup ("carriage" :Str)=some (.int cg)∧fs.lookup ("member" :Str)=some (.bl m)
noncomputable def StandAt(C:Addr)(H:Hp)(x o p mk:Addr)(cg:Int):Prop:=∃(dx:Addr)(fs:List (Str×V)),H x=some (.ins C dx fs)∧fs.lookup ("owners" :Str)=some (.ref o)∧fs.lookup ("prices" :Str)=some (.ref p)∧fs.lookup ("carriage" :Str)=some (.int cg)∧fs.lookup ("marked" :Str)=some (.ref mk)∧fs.lookup ("whole" :Str)=none
section
variable {C:Addr} {H H':Hp}
theorem LineAt.same{x:Addr}{r:Row}(s:Same H H'):LineAt C H x r→LineAt C H' x r:=by rintro⟨dx,fs,h,q⟩;exact⟨dx,fs,s _ _ h,q⟩
theorem Lines.same{ls:List Addr}{rs:List Row}(s:Same H H')(h:Lines C H ls rs):Lines C H' ls rs:=h.mono fun _ _ q=>q.same s
theorem BaskAt.same{b l:Addr}{cg:Int}{m:Bool}(s:Same H H'):BaskAt C H b l cg m→BaskAt C H' b l cg m:=by rintro⟨dx,fs,h,q⟩;exact⟨dx,fs,s _ _ h,q⟩
theorem StandAt.same{x o p mk:Addr}{cg:Int}(s:Same H H'):StandAt C H x o p mk cg→StandAt C H' x o p mk cg:=by rintro⟨dx,fs,h,q⟩;exact⟨dx,fs,s _ _ h,q⟩
end
section
variable {H:Hp} {hd:Addr} {xs:List V} {o:HO}
theorem BaskAt.set{C b l:Addr}{cg:Int}{m:Bool}(h:H hd=some (.lst xs)):BaskAt C H b l cg m→BaskAt C (upd H hd o) b l cg m:=by rintro⟨dx,fs,e,q⟩;exact⟨dx,fs,by rw[kak (ne_of e h (by intro z;cases z))];exact e,q⟩
theorem StandAt.set{C x a b c:Addr}{cg:Int}(h:H hd=some (.lst xs)):StandAt C H x a b c cg→StandAt C (upd H hd o) x a b c cg:=by rintro⟨dx,fs,e,q⟩;exact⟨dx,fs,by rw[kak (ne_of e h (by intro z;cases z))];exact e,q⟩
theorem LineAt.set{C x:Addr}{r:Row}(h:H hd=some (.lst xs)):LineAt C H x r→LineAt C (upd H hd o) x r:=by rintro⟨dx,fs,e,q⟩;exact⟨dx,fs,by rw[kak (ne_of e h (by intro z;cases z))];exact e,q⟩
theorem Lines.set{C:Addr}{ls:List Addr}{rs:List Row}(h:H hd=some (.lst xs))(L:Lines C H ls rs):Lines C (upd H hd o) ls rs:=L.mono fun _ _ q=>q.set h
end
structure Bask where
 rs:List Row
 cg:Int
 m:Bool
inductive BaskIs (CL CB:Addr) (H:Hp) (b:Addr) (B:Bask):Prop
 |ct (l:Addr)(ls:List Addr)(_:BaskAt CB H b l B.cg B.m)(_:H l=some (.lst (ls.map V.ref)))(_:Lines CL H ls B.rs):BaskIs CL CB H b B
noncomputable def BaskIs.same{CL CB:Addr}{H H':Hp}{b:Addr}{B:Bask}(s:Same H H'):BaskIs CL CB H b B→BaskIs CL CB H' b B:=fun⟨l,ls,h1,h2,h3⟩=>⟨l,ls,h1.same s,s _ _ h2,h3.same s⟩
noncomputable def iV(k:Nat):V:=.int (k:Int)
inductive StndIs (CS:Addr) (H:Hp) (x:Addr) (S:Stnd):Prop
 |ct (o p mk:Addr)(_:StandAt CS H x o p mk S.cg)(_:H o=some (.lst (S.ow.map iV)))(_:H p=some (.lst (S.pr.map V.int)))(_:H mk=some (.lst (S.mkd.map V.bl))):StndIs CS H x S
noncomputable def StndIs.same{CS:Addr}{H H':Hp}{x:Addr}{S:Stnd}(s:Same H H'):StndIs CS H x S→StndIs CS H' x S:=fun⟨o,p,mk,h1,h2,h3,h4⟩=>⟨o,p,mk,h1.same s,s _ _ h2,s _ _ h3,s _ _ h4⟩
noncomputable def kcu(ns:List Nat):(ns.map iV).all flatV=true:=by
 rw[M0]
 intro x hx
 obtain⟨n,_,rfl⟩:=Ny.mp hx
 rfl
noncomputable def ownN(rs:List Row):List Nat:=(rs.zipIdx.map fun p=>Nh p.1.mn.toNat p.2).flatten
theorem keo(rs:List Row):(own rs).map V.int=(ownN rs).map iV:=by
 unfold own ownN
 generalize rs.zipIdx=l
 induction l with
 |nil=>rfl
 |cons p l ih=>
  rw[Nw,NK,Nl,ih,Nw,NK,Nl]
  congr 1
  simp[iV]
noncomputable def kf1(rs:List Row){l:Nat}(h:l∈ownN rs):l<rs.length:=by
 unfold ownN at h
 obtain⟨xs,h1,h2⟩:=MA.mp h
 obtain⟨p,h3,rfl⟩:=Ny.mp h1
 have e:l=p.2:=(Ei.mp h2).2
 have q:=List.mem_zipIdx h3
 omega
noncomputable def kkR(rs:List Row)(h:∀r∈rs,r.Ok):(ownN rs).length≤60*rs.length:=by
 have e:(ownN rs).length=(own rs).length:=by
  have:=congrArg MV (keo rs)
  simpa using this.symm
 rw[e]
 exact kjW rs h
noncomputable def pV:Option Nat→V
 |none=>.non
 |some k=>.int (k:Int)
noncomputable def eq_int(a b:Nat):decide (V.int (a:Int)=V.int (b:Int))=decide (a=b):=by
 by_cases h:a=b
 ·subst h;simp
 ·have:¬(V.int (a:Int)=V.int (b:Int)):=by
   intro e
   injection e with e
   omega
  simp[h,this]
theorem kkX{c:Int}{ws:List Int}(h:ws.sum=0):(dl c ws).map V.int=Nh ws.length (V.int 0):=by
 unfold dl
 rw[if_pos h]
 clear h
 induction ws with
 |nil=>rfl
 |cons w ws ih=>simpa[Mr] using ih
noncomputable def kj6{c:Int}{ws:List Int}(h:¬ws.sum=0):dl c ws=(Nf ws.length).map (part c ws):=by
 unfold dl
 rw[if_neg h]
inductive khg (K:Nc) (vs:List V) (H:Hp) (Q:VK) (E_:XK):Prop
 |ct (c:Int)(a:Addr)(ws:List Int)(_:vs=[.int c, .ref a])(_:SqL K H a (ws.map V.int))(_:Nn ws)(_:ws.sum<2 ^ 100)(_:0≤c)(_:c<2 ^ 64)(_:ws.length≤1000)(_:∀p,H p=none→Q (.ref p) (upd H p (.lst ((dl c ws).map V.int)))):khg K vs H Q E_
inductive khc (K:Nc) (vs:List V) (H:Hp) (Q:VK) (E_:XK):Prop
 |ct (a:Addr)(ps:List (Option Nat))(one other:Nat)(_:vs=[.ref a, .int one, .int other])(_:SqL K H a (ps.map pV))(_:Good ps)(_:one<ps.length)(_:Q (.bl (decide (other∈up ps one))) H):khc K vs H Q E_
inductive khf (C:Addr) (vs:List V) (H:Hp) (Q:VK) (E_:XK):Prop
 |ct (x dx:Addr)(r:Row)(_:vs=[.ref x, .int r.kd, .int r.pr, .int r.mn,oV r.ex])(_:H x=some (.ins C dx []))(_:∀H',But x H H'→LineAt C H' x r→Q .non H'):khf C vs H Q E_
inductive khi (K:Nc) (C:Addr) (vs:List V) (H:Hp) (Q:VK) (E_:XK):Prop
 |ct (x dx l:Addr)(cg:Int)(m:Bool)(xs:List V)(_:vs=[.ref x, .ref l, .int cg, .bl m])(_:H x=some (.ins C dx []))(_:SqL K H l xs)(_:∀(H':Hp)(l':Addr),But x H H'→H l'=none→H' l'=some (.lst xs)→BaskAt C H' x l' cg m→Q .non H'):khi K C vs H Q E_
inductive kjw (CL:Addr) (vs:List V) (H:Hp) (Q:VK) (E_:XK):Prop
 |ct (x:Addr)(m:Bool)(r:Row)(_:vs=[.ref x, .bl m])(_:LineAt CL H x r)(_:Q (.int (prc m r)) H):kjw CL vs H Q E_
inductive kdj (CL CB CS:Addr) (vs:List V) (H:Hp) (Q:VK) (E_:XK):Prop
 |ct (x dx b l:Addr)(cg:Int)(m:Bool)(ls:List Addr)(rs:List Row)(_:vs=[.ref x, .ref b])(_:H x=some (.ins CS dx []))(_:BaskAt CB H b l cg m)(_:H l=some (.lst (ls.map V.ref)))(_:Lines CL H ls rs)(_:rs.length≤12)(_:(∀r∈rs,r.Ok))(_:∀(H':Hp)(o p mk:Addr),But x H H'→H o=none→H p=none→H mk=none→StandAt CS H' x o p mk cg→H' o=some (.lst ((own rs).map V.int))→H' p=some (.lst ((prs m rs).map V.int))→H' mk=some (.lst (Nh rs.length (.bl false)))→(∃dx fs,H' x=some (.ins CS dx fs)∧fs.length≤10)→Q .non H'):kdj CL CB CS vs H Q E_
inductive kjq (CS:Addr) (vs:List V) (H:Hp) (Q:VK) (E_:XK):Prop
 |ct (x o p mk:Addr)(cg:Int)(ns:List Int)(_:vs=[.ref x])(_:StandAt CS H x o p mk cg)(_:H p=some (.lst (ns.map V.int)))(_:Q (.int (ns.sum+cg)) H):kjq CS vs H Q E_
structure S3 (H0:Hp) (x C dx:Addr) (fs:List (Str×V)) (o p mk:Addr) (a b c:List V) (H:Hp):Prop where
 bt:But x H0 H
 ob:H x=some (.ins C dx fs)
 ho:H o=some (.lst a)
 hp:H p=some (.lst b)
 hm:H mk=some (.lst c)
structure Ds (H0:Hp) (x o p mk:Addr):Prop where
 fo:H0 o=none
 fp:H0 p=none
 fm:H0 mk=none
 ox:o≠x
 px:p≠x
 mx:mk≠x
 op:o≠p
 om:o≠mk
 pm:p≠mk
section
variable {H0 H H':Hp} {x C dx o p mk:Addr} {fs:List (Str×V)} {a b c d:List V}
theorem S3.same(h:S3 H0 x C dx fs o p mk a b c H)(s:Same H H'):S3 H0 x C dx fs o p mk a b c H':=⟨h.bt.same s,s _ _ h.ob,s _ _ h.ho,s _ _ h.hp,s _ _ h.hm⟩
theorem S3.setO(h:S3 H0 x C dx fs o p mk a b c H)(D:Ds H0 x o p mk):S3 H0 x C dx fs o p mk d b c (upd H o (.lst d)):=
 ⟨fun y u n e=>kbE (h.bt y u n e) fun u' e'=>ev_eq (by rw[kak (kai e D.fo)];exact e') fun t=>kdW t (kai e D.fo) (nx h.ho),by rw[kak D.ox.symm];exact h.ob,kad,by rw[kak D.op.symm];exact h.hp,by rw[kak D.om.symm];exact h.hm⟩
theorem S3.setP(h:S3 H0 x C dx fs o p mk a b c H)(D:Ds H0 x o p mk):S3 H0 x C dx fs o p mk a d c (upd H p (.lst d)):=
 ⟨fun y u n e=>kbE (h.bt y u n e) fun u' e'=>ev_eq (by rw[kak (kai e D.fp)];exact e') fun t=>kdW t (kai e D.fp) (nx h.hp),by rw[kak D.px.symm];exact h.ob,by rw[kak D.op];exact h.ho,kad,by rw[kak D.pm.symm];exact h.hm⟩
theorem S3.setM(h:S3 H0 x C dx fs o p mk a b c H)(D:Ds H0 x o p mk):S3 H0 x C dx fs o p mk a b d (upd H mk (.lst d)):=
 ⟨fun y u n e=>kbE (h.bt y u n e) fun u' e'=>ev_eq (by rw[kak (kai e D.fm)];exact e') fun t=>kdW t (kai e D.fm) (nx h.hm),by rw[kak D.mx.symm];exact h.ob,by rw[kak D.om];exact h.ho,by rw[kak D.pm];exact h.hp,kad⟩
end
end Vs
namespace Vs
open PySem L2 War Kin Deal
noncomputable def MksIs(C:Addr)(H:Hp)(x:Addr)(M:Mks):Prop:=∃(dx:Addr)(fs:List (Str×V)),H x=some (.ins C dx fs)∧fs.lookup ("kind" :Str)=some (pV M.kind)∧fs.lookup ("needs" :Str)=some (.int M.needs)∧fs.lookup ("most" :Str)=some (oV M.most)∧fs.lookup ("member" :Str)=some (.bl M.member)∧fs.lookup ("once" :Str)=some (.bl M.once)∧fs.lookup ("lone" :Str)=some (.bl M.lone)
noncomputable def MksIs.same{C:Addr}{H H':Hp}{x:Addr}{M:Mks}(s:Same H H'):MksIs C H x M→MksIs C H' x M:=fun⟨dx,fs,h,q⟩=>⟨dx,fs,s _ _ h,q⟩
noncomputable def SrtIs(fs:List (Str×V)):Srt→Prop
 | .off a=>fs.lookup ("amount" :Str)=some (.int a)
 | .share s b=>fs.lookup ("share" :Str)=some (.int s)∧fs.lookup ("by_line" :Str)=some (.bl b)
 | .cheap n=>fs.lookup ("many" :Str)=some (.int n)
 | .bund n p=>fs.lookup ("many" :Str)=some (.int n)∧fs.lookup ("price" :Str)=some (.int p)
 | .carr=>True
noncomputable def clsOf(d:D):Srt→Addr
 | .off _=>d.c_Off
 | .share _ _=>d.qi
 | .cheap _=>d.ql
 | .bund _ _=>d.qj
 | .carr=>d.qm
noncomputable def here:Srt→Bool
 | .off _=>true
 | .share _ _=>true
 | .cheap _=>true
 | .bund _ _=>true
 | .carr=>true
noncomputable def khK:Srt→Bool
 | .off _=>true
 | .share _ _=>false
 | .cheap _=>false
 | .bund _ _=>false
 | .carr=>false
noncomputable def kdD:Srt→Bool
 | .off _=>false
 | .share _ _=>true
 | .cheap _=>false
 | .bund _ _=>false
 | .carr=>false
noncomputable def kg7:Srt→Bool
 | .off _=>false
 | .share _ _=>false
 | .cheap _=>true
 | .bund _ _=>false
 | .carr=>false
noncomputable def kjd:Srt→Bool
 | .off _=>false
 | .share _ _=>false
 | .cheap _=>false
 | .bund _ _=>true
 | .carr=>false
noncomputable def kbI:Srt→Bool
 | .off _=>false
 | .share _ _=>false
 | .cheap _=>false
 | .bund _ _=>false
 | .carr=>true
noncomputable def Tbs(d:D)(H:Hp):Prop:=TbAt d.tP_falling_groups H
noncomputable def Tbs.same{d:D}{H H':Hp}(s:Same H H')(h:Tbs d H):Tbs d H':=s.tb h
inductive VchIs (d:D) (H:Hp) (v:Addr) (V:Vch):Prop
 |ct (mA dx:Addr)(fs:List (Str×L2.V))(_:H v=some (.ins (clsOf d V.so) dx fs))(_:fs.lookup ("marks" :Str)=some (.ref mA))(_:SrtIs fs V.so)(_:MksIs d.qh H mA V.ms)(_:here V.so=true)(_:Tbs d H):VchIs d H v V
noncomputable def VchIs.same{d:D}{H H':Hp}{v:Addr}{V:Vch}(s:Same H H'):VchIs d H v V→VchIs d H' v V:=fun⟨mA,dx,fs,h1,h2,h3,h4,h5,h6⟩=>⟨mA,dx,fs,s _ _ h1,h2,h3,h4.same s,h5,h6.same s⟩
noncomputable def kds(B:Bask):List Nat:=B.rs.map fun r=>r.kd.toNat
structure Wf (ps:List (Option Nat)) (B:Bask) (S:Stnd):Prop where
 good:Good ps
 pl:ps.length≤20
 kd:∀r∈B.rs,0≤r.kd∧r.kd<(ps.length:Int)
 ok:∀r∈B.rs,r.Ok
 nl:B.rs.length≤12
 bc:0≤B.cg∧B.cg≤1000000000000
 ow:S.ow=ownN B.rs
 lp:S.pr.length=S.ow.length
 lm:S.mkd.length=B.rs.length
 pr:∀z∈S.pr,0≤z∧z≤1000000000000
 cg:0≤S.cg∧S.cg≤1000000000000
 n64:S.ow.length<64
noncomputable def Wf.np{ps:List (Option Nat)}{B:Bask}{S:Stnd}(W:Wf ps B S):S.ow.length≤720:=by
 have:=kkR B.rs W.ok
 have:=W.nl
 rw[W.ow]
 omega
noncomputable def Wf.line{ps:List (Option Nat)}{B:Bask}{S:Stnd}(W:Wf ps B S){i l:Nat}(h:S.ow[i]?=some l):l<B.rs.length:=by
 have hm:=Nj h
 rw[W.ow] at hm
 exact kf1 _ hm
structure MksOk (ps:List (Option Nat)) (M:Mks):Prop where
 kind:∀k,M.kind=some k→k<ps.length
 needs:0≤M.needs∧M.needs≤1000000000000
 most:∀m,M.most=some m→0≤m∧m≤1000000000000
noncomputable def mks0:Mks:=⟨none,0,none,false,false,false⟩
noncomputable def kjo:Srt→List V
 | .off a=>[.int a]
 | .share s b=>[.int s, .bl b]
 | .cheap n=>[.int n]
 | .bund n p=>[.int n, .int p]
 | .carr=>[]
noncomputable def Mrk(CM:Addr)(H:Hp)(mv:V)(H':Hp)(mA:Addr):Prop:=mv=.ref mA∨(mv=.non∧H mA=none∧MksIs CM H' mA mks0)
noncomputable def MksIs.but{C x mA:Addr}{H H':Hp}{M:Mks}(n:mA≠x)(b:But x H H'):MksIs C H mA M→MksIs C H' mA M:=fun⟨dx,fs,h,q⟩=>⟨dx,fs,b _ _ n h,q⟩
theorem Mrk.but{CM x mA:Addr}{H H1 H2:Hp}{mv:V}{o:HO}(hx:H x=some o)(b:But x H1 H2):Mrk CM H mv H1 mA→Mrk CM H mv H2 mA
 | .inl e=>.inl e
 | .inr ⟨e,f,h⟩=>.inr ⟨e,f,h.but (kai hx f).symm b⟩
inductive kel (C:Addr) (vs:List V) (H:Hp) (Q:VK) (E_:XK):Prop
 |ct (x dx:Addr)(M:Mks)(_:vs=[.ref x,pV M.kind, .int M.needs,oV M.most, .bl M.member, .bl M.once, .bl M.lone])(_:H x=some (.ins C dx []))(_:∀H',But x H H'→MksIs C H' x M→Q .non H'):kel C vs H Q E_
inductive kfq (K:Nc) (CM:Addr) (vs:List V) (H:Hp) (Q:VK) (E_:XK):Prop
 |ct (x C dx:Addr)(fs:List (Str×V))(mv:V)(_:vs=[.ref x,mv])(_:H x=some (.ins C dx fs))(_:Cls K C)(_:NoAttr K C "marks")(_:fs.length≤5)(_:(mv=.non∨∃mA,mv=.ref mA))(_:∀(H':Hp)(mA:Addr),But x H H'→Mrk CM H mv H' mA→H' x=some (.ins C dx (putF "marks" (.ref mA) fs))→Q .non H'):kfq K CM vs H Q E_
inductive kdX (C CM:Addr) (is:Srt→Prop) (vs:List V) (H:Hp) (Q:VK) (E_:XK):Prop
 |ct (x dx:Addr)(so:Srt)(mv:V)(_:is so)(_:vs=.ref x::(kjo so++[mv]))(_:H x=some (.ins C dx []))(_:(mv=.non∨∃mA,mv=.ref mA))(_:∀(H':Hp)(mA:Addr)(fs:List (Str×V)),But x H H'→Mrk CM H mv H' mA→H' x=some (.ins C dx fs)→fs.lookup ("marks" :Str)=some (.ref mA)→SrtIs fs so→Q .non H'):kdX C CM is vs H Q E_
theorem kiw{C:Addr}{H:Hp}{M:Mks}{R:Addr→Hp→Prop}{E:XK}(k:∀(H':Hp)(x:Addr),Same H H'→H x=none→MksIs C H' x M→R x H'):
  ∀x dx,H x=none→H dx=none→dx≠x→kel C [.ref x,pV M.kind, .int M.needs,oV M.most, .bl M.member, .bl M.once, .bl M.lone] (upd (upd H dx (.own x)) x (.ins C dx [])) (fun v H2=>v=.non∧R x H2) E:=
 fun x dx nx nd _=>⟨x,dx,M,rfl,kad,fun H' b l=>⟨rfl,k H' x (kbH nx nd b) nx l⟩⟩
noncomputable def kgJ{d:D}{H:Hp}{so:Srt}{mA:Addr}{M:Mks}{is:Srt→Prop}{R:Addr→Hp→Prop}{E:XK}(hi:is so)(hh:here so=true)(hM:MksIs d.qh H mA M)(k:∀(H':Hp)(x:Addr),Same H H'→H x=none→VchIs d H' x ⟨so,M⟩→R x H')(htb:Tbs d H:=by assumption):
  ∀x dx,H x=none→H dx=none→dx≠x→kdX (clsOf d so) d.qh is (.ref x::(kjo so++[.ref mA])) (upd (upd H dx (.own x)) x (.ins (clsOf d so) dx [])) (fun v H2=>v=.non∧R x H2) E:=
 fun x dx nx nd _=>⟨x,dx,so, .ref mA,hi,rfl,kad, .inr ⟨mA,rfl⟩,fun H' mA' fs b hm h1 h2 h3=>by
  have e:mA'=mA:=by
   rcases hm with e|⟨e,_⟩
   ·injection e with e
    exact e.symm
   ·cases e
  subst e
  exact⟨rfl,k H' x (kbH nx nd b) nx ⟨mA',dx,fs,h1,h2,h3,hM.same (kbH nx nd b),hh,htb.same (kbH nx nd b)⟩⟩⟩
inductive spMix (vs:List V) (H:Hp) (Q:VK) (E_:XK):Prop
 |ct (c f p:Int)(_:vs=[.int c, .int f, .int p])(_:(-(2 ^ 64)<f∧f<2 ^ 64))(_:0<p)(_:Q (.int (c*f%p)) H):spMix vs H Q E_
inductive khS (vs:List V) (H:Hp) (Q:VK) (E_:XK):Prop
 |ct (n:Int)(_:vs=[.int n])(_:Q (.bl true) H):khS vs H Q E_
end Vs
namespace Vs
open PySem L2 War Kin Deal
noncomputable def sN{t u:TS}{D:Ends}{σ:St}{H:Hp}(h:∀N:St→Hp→Prop,(∀σ' H',u D σ' H'→N σ' H')→t {D with nx:=N} σ H):tSeq t u D σ H:=h (u D) fun _ _ q=>q
theorem kmf{CL:Addr}{H:Hp}{r:Row}{R:Addr→Hp→Prop}{E:XK}(k:∀(H':Hp)(x:Addr),Same H H'→H x=none→LineAt CL H' x r→R x H'):
  ∀x dx,H x=none→H dx=none→dx≠x→khf CL [.ref x, .int r.kd, .int r.pr, .int r.mn,oV r.ex] (upd (upd H dx (.own x)) x (.ins CL dx [])) (fun v H2=>v=.non∧R x H2) E:=
 fun x dx nx nd _=>⟨x,dx,r,rfl,kad,fun H' b l=>⟨rfl,k H' x (kbH nx nd b) nx l⟩⟩
theorem kmh{K:Nc}{CB:Addr}{H:Hp}{l:Addr}{cg:Int}{m:Bool}{xs:List V}{R:Addr→Hp→Prop}{E:XK}(hl:SqL K H l xs)(k:∀(H':Hp)(x l':Addr),Same H H'→H x=none→H l'=none→H' l'=some (.lst xs)→BaskAt CB H' x l' cg m→R x H'):
  ∀x dx,H x=none→H dx=none→dx≠x→khi K CB [.ref x, .ref l, .int cg, .bl m] (upd (upd H dx (.own x)) x (.ins CB dx [])) (fun v H2=>v=.non∧R x H2) E:=
 fun x dx nx nd _=>⟨x,dx,l,cg,m,xs,rfl,kad,(kbl nx nd).seq hl,fun H' l' b n h1 h2=>⟨rfl,k H' x l' (kbH nx nd b) nx (kdA n) h1 h2⟩⟩
theorem kiv{CL CB CS:Addr}{H:Hp}{b l:Addr}{cg:Int}{m:Bool}{ls:List Addr}{rs:List Row}{R:Addr→Hp→Prop}{E:XK}(hb:BaskAt CB H b l cg m)(hl:H l=some (.lst (ls.map V.ref)))(hL:Lines CL H ls rs)(hn:rs.length≤12)(hok:∀r∈rs,r.Ok)
  (k:∀(H':Hp)(x o p mk:Addr),Same H H'→H x=none→H o=none→H p=none→H mk=none→StandAt CS H' x o p mk cg→H' o=some (.lst ((own rs).map V.int))→H' p=some (.lst ((prs m rs).map V.int))→H' mk=some (.lst (Nh rs.length (.bl false)))→R x H'):
  ∀x dx,H x=none→H dx=none→dx≠x→kdj CL CB CS [.ref x, .ref b] (upd (upd H dx (.own x)) x (.ins CS dx [])) (fun v H2=>v=.non∧R x H2) E:=
 fun x dx nx nd _=>⟨x,dx,b,l,cg,m,ls,rs,rfl,kad,hb.same (kbl nx nd),kgL nx nd hl,hL.same (kbl nx nd),hn,hok,fun H' o p mk bt n1 n2 n3 S h1 h2 h3 _=>⟨rfl,k H' x o p mk (kbH nx nd bt) nx (kdA n1) (kdA n2) (kdA n3) S h1 h2 h3⟩⟩
structure VchOk (ps:List (Option Nat)) (V:Vch):Prop where
 so:SrtOk V.so
 ms:MksOk ps V.ms
noncomputable def stnd0(B:Bask):Stnd:=⟨ownN B.rs,prs B.m B.rs,B.cg,Nh B.rs.length false⟩
theorem kme{CL CB CS:Addr}{H:Hp}{b:Addr}{B:Bask}{R:Addr→Hp→Prop}{E:XK}(hb:BaskIs CL CB H b B)(hn:B.rs.length≤12)(hok:∀r∈B.rs,r.Ok)(k:∀(H':Hp)(x:Addr),Same H H'→H x=none→StndIs CS H' x (stnd0 B)→R x H'):
  ∀x dx,H x=none→H dx=none→dx≠x→kdj CL CB CS [.ref x, .ref b] (upd (upd H dx (.own x)) x (.ins CS dx [])) (fun v H2=>v=.non∧R x H2) E:=by
 obtain⟨l,ls,h1,h2,h3⟩:=hb
 refine kiv h1 h2 h3 hn hok fun H' x o p mk s f1 _ _ _ hS ho hp hm=>k H' x s f1 ⟨o,p,mk,hS,?_,hp,?_⟩
 ·rw[ho,keo]
  rfl
 ·rw[hm]
  show _=some (HO.lst ((Nh B.rs.length false).map V.bl))
  rw[List.map_replicate]
noncomputable def klC{m:Bool}{r:Row}(h:r.Ok):0≤prc m r∧prc m r≤1000000000000:=by
 unfold prc
 split
 ·cases e:r.ex with
  |none=>exact⟨h.pr0,h.pr1⟩
  |some z=>exact h.ex0 z e
 ·exact⟨h.pr0,h.pr1⟩
theorem kif(m:Bool):∀(rs:List Row)(k:Nat),(rs.map fun r=>Nh r.mn.toNat (prc m r)).flatten.length=((rs.zipIdx k).map fun p=>Nh p.1.mn.toNat (p.2:Int)).flatten.length
 |[],_=>by simp
 |r::rs,k=>by
  rw[M1,Nw,NK,Nr,Mf,Nw,NK,Nr,Mf,kif m rs (k+1)]
noncomputable def kfX(m:Bool)(rs:List Row):(prs m rs).length=(ownN rs).length:=by
 have e:(ownN rs).length=(own rs).length:=by
  have:=congrArg MV (keo rs)
  simpa using this.symm
 rw[e]
 exact kif m rs 0
noncomputable def Wf.start{ps:List (Option Nat)}{B:Bask}(g:Good ps)(pl:ps.length≤20)(kd:∀r∈B.rs,0≤r.kd∧r.kd<(ps.length:Int))(ok:∀r∈B.rs,r.Ok)(nl:B.rs.length≤12)(bc:0≤B.cg∧B.cg≤1000000000000)(n64:(ownN B.rs).length<64):Wf ps B (stnd0 B):=by
 refine⟨g,pl,kd,ok,nl,bc,rfl,kfX _ _,by simp[stnd0],fun z hz=>?_,bc,n64⟩
 obtain⟨xs,h1,h2⟩:=MA.mp hz
 obtain⟨r,hr,rfl⟩:=Ny.mp h1
 rw[(Ei.mp h2).2]
 exact klC (ok r hr)
noncomputable def Wf.nn{ps:List (Option Nat)}{B:Bask}{S:Stnd}(W:Wf ps B S):Nn S.pr:=fun z hz=>(W.pr z hz).1
noncomputable def Wf.after{ps:List (Option Nat)}{B:Bask}{S:Stnd}{V:Vch}(W:Wf ps B S)(O:VchOk ps V):Wf ps B (aftM V ps (kds B) S):=by
 have h:=kmU (V:=V) (ps:=ps) (kk:=kds B) W.nn W.cg.1 O.so fun m e=>(O.ms.most m e).1
 refine⟨W.good,W.pl,W.kd,W.ok,W.nl,W.bc,W.ow,h.1.1.trans W.lp,by rw[←W.lm];simp[aftM],fun z hz=>?_,⟨h.2.1,Int.le_trans h.2.2 W.cg.2⟩,W.n64⟩
 obtain⟨j,e1⟩:=Mp.mp hz
 have hj:j<S.pr.length:=by
  rw[←h.1.1]
  exact(Nu.mp e1).1
 have e2:S.pr[j]?=some S.pr[j]:=by simp[hj]
 have b:=h.1.2 j z _ e1 e2
 have c:=W.pr _ (Nj e2)
 exact⟨b.1,Int.le_trans b.2 c.2⟩
inductive kjD (K:Nc) (d:D) (vs:List V) (H:Hp) (Q:VK) (E_:XK):Prop
 |ct (v a b x:Addr)(V:Vch)(ps:List (Option Nat))(B:Bask)(S:Stnd)(_:vs=[.ref v, .ref a, .ref b, .ref x])(_:VchIs d H v V)(_:SqL K H a (ps.map pV))(_:BaskIs d.qf d.qd H b B)(_:StndIs d.qc H x S)(_:Wf ps B S)(_:VchOk ps V)(_:∀(H':Hp)(p:Addr),Same H H'→H p=none→H' p=some (.lst ((abt ps (kds B) V.ms.kind V.ms.lone S).map iV))→Q (.ref p) H'):kjD K d vs H Q E_
inductive klv (K:Nc) (d:D) (vs:List V) (H:Hp) (Q:VK) (E_:XK):Prop
 |ct (v a b x:Addr)(V:Vch)(ps:List (Option Nat))(B:Bask)(S:Stnd)(_:vs=[.ref v, .ref a, .ref b, .ref x])(_:VchIs d H v V)(_:SqL K H a (ps.map pV))(_:BaskIs d.qf d.qd H b B)(_:StndIs d.qc H x S)(_:Wf ps B S)(_:VchOk ps V)(_:∀(H':Hp)(t p:Addr),Same H H'→H t=none→H p=none→H' t=some (.tup [.ref p, .int (cutM V ps (kds B) S).2])→H' p=some (.lst ((cutM V ps (kds B) S).1.map L2.V.int))→Q (.ref t) H'):klv K d vs H Q E_
theorem cl_of{K:Nc}{mg:Str→Option Value}{d:D}{base:Heap}(W:WB K mg d base):∀{so:Srt},here so=true→Cls K (clsOf d so)
 | .off _,h=>W.c_Off.cl
 | .share _ _,h=>W.qi.cl
 | .cheap _,h=>W.ql.cl
 | .bund _ _,h=>W.qj.cl
 | .carr,h=>W.qm.cl
theorem na_of{K:Nc}{mg:Str→Option Value}{d:D}{base:Heap}(W:WB K mg d base):∀{so:Srt},here so=true→NoAttr K (clsOf d so) "marks"
 | .off _,h=>W.VM
 | .share _ _,h=>W.VN
 | .cheap _,h=>W.VO
 | .bund _ _,h=>W.VQ
 | .carr,h=>W.VS
theorem kiB{K:Nc}{mg:Str→Option Value}{d:D}{base:Heap}(W:WB K mg d base):∀{so:Srt},here so=true→Isi K (clsOf d so)
 | .off _,h=>W.c_Off.isi
 | .share _ _,h=>W.qi.isi
 | .cheap _,h=>W.ql.isi
 | .bund _ _,h=>W.qj.isi
 | .carr,h=>W.qm.isi
theorem kd2{K:Nc}{mg:Str→Option Value}{d:D}{base:Heap}(W:WB K mg d base):∀{so:Srt},here so=true→NA K (.ref (clsOf d so)) (.ref d.qm)=some (kbI so)
 | .off _,h=>W.V8
 | .share _ _,h=>W.V9
 | .cheap _,h=>W.Ua
 | .bund _ _,h=>W.Ub
 | .carr,h=>kbT _ _
theorem kkc{K:Nc}{mg:Str→Option Value}{d:D}{base:Heap}(W:WB K mg d base):∀{so:Srt},here so=true→NA K (.ref (clsOf d so)) (.ref d.c_Off)=some (khK so)
 | .off _,h=>kbT _ _
 | .share _ _,h=>W.Uc
 | .cheap _,h=>W.Ud
 | .bund _ _,h=>W.Ue
 | .carr,h=>W.Ug
theorem kbm{K:Nc}{mg:Str→Option Value}{d:D}{base:Heap}(W:WB K mg d base):∀{so:Srt},here so=true→NA K (.ref (clsOf d so)) (.ref d.qi)=some (kdD so)
 | .off _,h=>W.Uh
 | .share _ _,h=>kbT _ _
 | .cheap _,h=>W.Ui
 | .bund _ _,h=>W.Uj
 | .carr,h=>W.Uk
theorem kbt{K:Nc}{mg:Str→Option Value}{d:D}{base:Heap}(W:WB K mg d base):∀{so:Srt},here so=true→NA K (.ref (clsOf d so)) (.ref d.ql)=some (kg7 so)
 | .off _,h=>W.Ul
 | .share _ _,h=>W.Um
 | .cheap _,h=>kbT _ _
 | .bund _ _,h=>W.Uo
 | .carr,h=>W.Uq
theorem kc4{K:Nc}{mg:Str→Option Value}{d:D}{base:Heap}(W:WB K mg d base):∀{so:Srt},here so=true→NA K (.ref (clsOf d so)) (.ref d.qj)=some (kjd so)
 | .off _,h=>W.Ur
 | .share _ _,h=>W.Us
 | .cheap _,h=>W.Ut
 | .bund _ _,h=>kbT _ _
 | .carr,h=>W.Uu
theorem len_sub:∀{is L:List Nat},is.Nodup→(∀i∈is,i∈L)→is.length≤L.length
 |[],_,_,_=>NO _
 |a::is,L,h,hs=>by
  have ha:=hs a NJ
  have hh:=Mj.mp h
  have h1:is.length≤(L.erase a).length:=len_sub hh.2 fun i hi=>(List.mem_erase_of_ne (fun e:i=a=>hh.1 (by rw[←e];exact hi))).mpr (hs i (NC _ hi))
  rw[Dc ha] at h1
  have:=DM ha
  simp only[NT]
  omega
noncomputable def kj2{is:List Nat}{n:Nat}(h:is.Nodup)(hl:∀i∈is,i<n):is.length≤n:=by
 have:=len_sub (L:=Nf n) h fun i hi=>MJ.mpr (hl i hi)
 simpa using this
theorem kdG{b:Int}:∀{q:List Int},(∀z∈q,z≤b)→q.sum≤b*q.length
 |[],_=>by simp
 |z::q,h=>by
  have h1:=h z NJ
  have h2:=kdG (q:=q) fun x hx=>h x (NC _ hx)
  rw[NN,NT]
  have e:b*((q.length+1:Nat):Int)=b*q.length+b:=by rw[Int.natCast_add,Int.mul_add];simp
  omega
noncomputable def keE{ps:List (Option Nat)}{B:Bask}{S:Stnd}(wf:Wf ps B S){ab:List Nat}(hl:ab.length≤720)(hb:∀i∈ab,i<S.pr.length):(qs S.pr ab).sum≤720000000000000:=by
 have h:=kdG (b:=1000000000000) (q:=qs S.pr ab) fun z hz=>by
  obtain⟨i,hi,rfl⟩:=Ny.mp hz
  obtain⟨w,ew⟩:=at_of (hb i hi)
  rw[Nt,ew]
  exact(wf.pr w (Nj ew)).2
 rw[ka5] at h
 omega
noncomputable def kmr(xs:List V)(i k:Nat):cutV xs (some (i:Int)) (some ((i+k:Nat):Int))=(xs.drop i).take k:=by
 unfold cutV
 rw[HT.sIx_nat,HT.sIx_nat]
 by_cases h:i≤xs.length
 ·rw[MT h,DA,Mw]
  omega
 ·rw[DN (by omega),DN (by omega)]
  simp
noncomputable def kfb{α:Type}{xs:List α}{v: α}(h:xs[xs.length-1]?=some v)(h0:0<xs.length):atI xs (-1)=some v:=by
 unfold atI ixN
 rw[if_neg (by omega),if_pos (by omega)]
 show xs[(-1+(xs.length:Int)).toNat]?=some v
 rw[show(-1+(xs.length:Int)).toNat=xs.length-1 by omega]
 exact h
noncomputable def kib{H0 H1 H2:Hp}{x:Addr}(f:H0 x=none)(s:Same H0 H1)(b:But x H1 H2):Same H0 H2:=fun y u e=>kbE (s y u e) fun u' e'=>b y u' (kai e f) e'
noncomputable def hindM(V:Vch)(ps:List (Option Nat))(B:Bask)(S:Stnd):L2.V:=
 if(V.ms.member&& !B.m)=true then .str "member" else if(abt ps (kds B) V.ms.kind V.ms.lone S).length=0 then .str "nothing" else if(qs S.pr (abt ps (kds B) V.ms.kind V.ms.lone S)).sum<V.ms.needs then .str "needs" else .non
inductive kls (K:Nc) (d:D) (vs:List V) (H:Hp) (Q:VK) (E_:XK):Prop
 |ct (v a b x:Addr)(V:Vch)(ps:List (Option Nat))(B:Bask)(S:Stnd)(_:vs=[.ref v, .ref a, .ref b, .ref x])(_:VchIs d H v V)(_:SqL K H a (ps.map pV))(_:BaskIs d.qf d.qd H b B)(_:StndIs d.qc H x S)(_:Wf ps B S)(_:VchOk ps V)(_:∀(H':Hp),Same H H'→Q (hindM V ps B S) H'):kls K d vs H Q E_
noncomputable def atM(m:Option Int)(n:Int):Int:=match m with
 |none=>n
 |some m=>min m n
noncomputable def none_of{H H':Hp}(s:Same H H'){p:Addr}(h:H' p=none):H p=none:=s.free h
noncomputable def kgZ{x:Addr}{H H':Hp}(b:But x H H')(n:H x=none):Same H H':=fun y u e=>b y u (kai e n) e
theorem kj5{CL CB CS:Addr}{H:Hp}{b l:Addr}{cg:Int}{m:Bool}{ls:List Addr}{rs:List Row}{R:Addr→Hp→Prop}{E:XK}(hb:BaskAt CB H b l cg m)(hl:H l=some (.lst (ls.map V.ref)))(hL:Lines CL H ls rs)(hn:rs.length≤12)(hok:∀r∈rs,r.Ok)
  (k:∀(H':Hp)(x:Addr),Same H H'→H x=none→∀(dx:Addr)(fs:List (Str×V)),H' x=some (.ins CS dx fs)→fs.length≤10→fs.lookup ("whole" :Str)=none→R x H'):
  ∀x dx,H x=none→H dx=none→dx≠x→kdj CL CB CS [.ref x, .ref b] (upd (upd H dx (.own x)) x (.ins CS dx [])) (fun v H2=>v=.non∧R x H2) E:=
 fun x dx nx nd _=>⟨x,dx,b,l,cg,m,ls,rs,rfl,kad,hb.same (kbl nx nd),kgL nx nd hl,hL.same (kbl nx nd),hn,hok,fun H' o p mk bt n1 n2 n3 S h1 h2 h3 fw=>by
  obtain⟨dx',fs,e,hf⟩:=fw
  obtain⟨dx2,fs2,e2,_,_,_,_,hw⟩:=S
  rw[e] at e2
  injection e2 with e2
  injection e2 with _ e3 e4
  subst e4
  exact⟨rfl,k H' x (kbH nx nd bt) nx dx' fs e hf hw⟩⟩
theorem kks{V:Vch}{ps:List (Option Nat)}{kk:List Nat}{S:Stnd}(vo:VchOk ps V):(cutM V ps kk S).2=if kbI V.so=true then atM V.ms.most S.cg else 0:=by
 have hm:=vo.ms.most
 unfold cutM
 simp only
 cases e:V.ms.most with
 |none=>
  unfold cap atM
  simp only
  unfold fee kbI
  cases V.so <;> rfl
 | some m=>
  have h0:=(hm m e).1
  unfold cap atM
  simp only
  cases eso:V.so with
  | carr=>
   have hz:(want .carr S.mkd.length ((abt ps kk V.ms.kind V.ms.lone S).map fun i=>S.ow.getD i 0) (qs S.pr (abt ps kk V.ms.kind V.ms.lone S))).sum=0:=by
    unfold want
    simp
   show(if m<_+S.cg then _ else _:List Int×Int).2=min m S.cg
   rw[hz,Int.zero_add]
   split
   ·show min S.cg m=_
    omega
   ·show S.cg=_
    omega
  | _=>
   show(if m<_+0 then(_,min 0 m) else(_,0):List Int×Int).2=0
   split
   ·show min 0 m=0
    omega
   ·rfl
noncomputable def klI{B:Bask}{l:Nat}{r:Row}(h:B.rs[l]?=some r):(kds B).getD l 0=r.kd.toNat:=by
 unfold kds
 rw[Nt,Ni,h]
 rfl
theorem kgg{ps:List (Option Nat)}{kk:List Nat}{kind:Option Nat}{lone:Bool}{S:Stnd}{i:Nat}:
  (Nf (i+1)).filter (fun i=>hits ps kk kind lone S.mkd (S.ow.getD i 0))=(Nf i).filter (fun i=>hits ps kk kind lone S.mkd (S.ow.getD i 0))++(if hits ps kk kind lone S.mkd (S.ow.getD i 0)=true then [i] else []):=by
 rw[Mb,MI]
 congr 1
 simp only[Ej,Ek]
noncomputable def GrpAt(H H':Hp)(pa:Addr)(t:Addr)(q:Int×List Nat):Prop:=∃ga,H' t=some (.tup [.int q.1, .ref ga])∧H' ga=some (.lst (q.2.map iV))∧(ga=pa∨H ga=none)
inductive khT (d:D) (vs:List V) (H:Hp) (Q:VK) (E_:XK):Prop
 |ct (v x pa:Addr) (V:Vch) (ps:List (Option Nat)) (B:Bask) (S:Stnd) (_:vs=[.ref v, .ref x, .ref pa]) (_:VchIs d H v V) (_:StndIs d.qc H x S) (_:H pa=some (.lst ((abt ps (kds B) V.ms.kind V.ms.lone S).map iV))) (_:Wf ps B S) (_:VchOk ps V) (_:∀(H':Hp) (p:Addr) (tl:List Addr) (gl:List (Int×List Nat)),Same H H'→H p=none→H' p=some (.lst (tl.map L2.V.ref))→P2 (GrpAt H H' pa) tl gl→(∀c g,(c,g)∈gl→0≤c∧c≤(qs S.pr g).sum∧g.length≤720)→(gl.map Prod.snd).flatten.Nodup→(∀i∈(gl.map Prod.snd).flatten,i<S.pr.length)→gl.length≤720→
  spr S.pr.length (gl.map Prod.snd).flatten (gl.map fun p=>dl p.1 (qs S.pr p.2)).flatten=spr S.pr.length (abt ps (kds B) V.ms.kind V.ms.lone S) (want V.so S.mkd.length ((abt ps (kds B) V.ms.kind V.ms.lone S).map fun i=>S.ow.getD i 0) (qs S.pr (abt ps (kds B) V.ms.kind V.ms.lone S)))→Q (.ref p) H'):khT d vs H Q E_
noncomputable def kaI{H H':Hp}{p:Addr}{o:HO}(h:upd H p o=H')(f:H p=none):Same H H'∧H' p=some o:=by
 subst h
 exact⟨kal f,kad⟩
theorem But.free{x l:Addr}{H H':Hp}{o:HO}(b:But x H H')(hx:H' x=some o)(h:H' l=none):H l=none:=by
 cases q:H l with
 |none=>rfl
 |some u=>
  obtain⟨o',e'⟩:=kga (b l u (kai hx h).symm q)
  rw[e'] at h
  cases h
structure Rul where
 w:Str
 a:Nat
 b:Nat
structure TillD where
 ps:List (Option Nat)
 vs:List Vch
 rs:List Rul
 bk:Str
noncomputable def RulIs(H:Hp)(a:Addr)(r:Rul):Prop:=H a=some (.tup [.str r.w,iV r.a,iV r.b])
inductive TillIs (d:D) (H:Hp) (t:Addr) (T:TillD):Prop
 |ct (dx:Addr)(fs:List (Str×V))(p vl rl:Addr)(va ra:List Addr)(_:H t=some (.ins d.qg dx fs))(_:fs.lookup ("parents" :Str)=some (.ref p))(_:fs.lookup ("vouchers" :Str)=some (.ref vl))(_:fs.lookup ("rules" :Str)=some (.ref rl))(_:fs.lookup ("back" :Str)=some (.str T.bk))(_:H p=some (.lst (T.ps.map pV)))(_:H vl=some (.lst (va.map V.ref)))(_:P2 (fun a V=>VchIs d H a V) va T.vs)(_:H rl=some (.lst (ra.map V.ref)))(_:P2 (fun a r=>RulIs H a r) ra T.rs):TillIs d H t T
noncomputable def TillIs.same{d:D}{H H':Hp}{t:Addr}{T:TillD}(s:Same H H'):TillIs d H t T→TillIs d H' t T:=fun⟨dx,fs,p,vl,rl,va,ra,h1,h2,h3,h4,h5,h6,h7,h8,h9,h10⟩=>
 ⟨dx,fs,p,vl,rl,va,ra,s _ _ h1,h2,h3,h4,h5,s _ _ h6,s _ _ h7,h8.mono fun a V h=>h.same s,s _ _ h9,h10.mono fun a r h=>s _ _ h⟩
structure kc2 (T:TillD):Prop where
 vs:∀V∈T.vs,VchOk T.ps V
 nv:T.vs.length≤8
inductive WayAt (d:D) (m:Nat) (H:Hp) (w t b x:Addr) (hand:List Int) (used:List Nat):Prop
 |ct (dx:Addr)(fs:List (Str×V))(h u:Addr)(_:H w=some (.ins d.c_Way dx fs))(_:fs.lookup ("till" :Str)=some (.ref t))(_:fs.lookup ("basket" :Str)=some (.ref b))(_:fs.lookup ("hand" :Str)=some (.ref h))(_:fs.lookup ("used" :Str)=some (.ref u))(_:fs.lookup ("standing" :Str)=some (.ref x))(_:fs.lookup ("word_for" :Str)=none)(_:fs.lookup ("behind" :Str)=none)(_:fs.lookup ("is_let_by" :Str)=none)(_:fs.lookup ("followers" :Str)=none)(_:fs.length≤m)(_:H h=some (.lst (hand.map V.int)))(_:H u=some (.lst (used.map iV))):WayAt d m H w t b x hand used
noncomputable abbrev WayIs(d:D)(H:Hp)(w t b x:Addr)(hand:List Int)(used:List Nat):Prop:=WayAt d 7 H w t b x hand used
noncomputable def WayAt.most{d:D}{m m':Nat}{H:Hp}{w t b x:Addr}{hand:List Int}{used:List Nat}(hm:m≤m'):WayAt d m H w t b x hand used→WayAt d m' H w t b x hand used:=fun⟨dx,fs,h,u,h1,h2,h3,h4,h5,h6,h7,h8,h9,h10,h11,h12,h13⟩=>
 ⟨dx,fs,h,u,h1,h2,h3,h4,h5,h6,h7,h8,h9,h10,Nk h11 hm,h12,h13⟩
noncomputable def WayAt.same{d:D}{m:Nat}{H H':Hp}{w t b x:Addr}{hand:List Int}{used:List Nat}(s:Same H H'):WayAt d m H w t b x hand used→WayAt d m H' w t b x hand used:=fun⟨dx,fs,h,u,h1,h2,h3,h4,h5,h6,h7,h8,h9,h10,h11,h12,h13⟩=>
 ⟨dx,fs,h,u,s _ _ h1,h2,h3,h4,h5,h6,h7,h8,h9,h10,h11,s _ _ h12,s _ _ h13⟩
noncomputable def nevR(used:List Nat)(n:Nat)(r:Rul):Bool:=decide (r.w=("never" :Str))&&((decide (r.a=n)&&used.contains r.b)||(decide (r.b=n)&&used.contains r.a))
noncomputable def kfx(rs:List Rul)(used:List Nat)(n:Nat):Bool:=rs.any (nevR used n)
noncomputable def ahdR(used:List Nat)(n:Nat)(r:Rul):Bool:=decide (r.w=("ahead" :Str))&&(decide (r.a=n)&&used.contains r.b)
noncomputable def kfI(rs:List Rul)(used:List Nat)(n:Nat):Bool:=rs.any (ahdR used n)
noncomputable def loneM(order:List Nat)(r:Rul):Bool:=decide (r.w=("only" :Str))&&(order.contains r.a&& !order.contains r.b)
noncomputable def onlyM(rs:List Rul)(order:List Nat):Option Nat:=(rs.find? (loneM order)).map Rul.a
noncomputable def sV:Option Str→V
 |none=>.non
 |some z=>.str z
noncomputable def wordM(V:Vch)(rs:List Rul)(hand:List Int)(used:List Nat)(n:Nat):Option Str:=
 if hand.getD n 0<(used.count n:Int)+1 then some "held" else if(V.ms.once&&used.contains n)=true then some "once" else if kfx rs used n=true then some "never" else if kfI rs used n=true then some "ahead" else none
noncomputable def dueM(V:Vch)(T:TillD)(B:Bask)(hand:List Int)(used:List Nat)(S:Stnd)(n:Nat):L2.V:=match wordM V T.rs hand used n with
 |some z=>.str z
 |none=>hindM V T.ps B S
theorem kcZ{n:Nat}:∀(l:List Nat),inV (iV n) (l.map iV)=l.contains n
 |[]=>rfl
 | m::l=>by
  have ih:=kcZ (n:=n) l
  unfold inV at ih⊢
  rw[Nw,ML,ih,List.contains_cons]
  congr 1
  show eqV (V.int (m:Int)) (V.int (n:Int))=(n==m)
  by_cases h:n=m
  ·subst h
   simp[eqV]
  ·have h1:¬((m:Int)=(n:Int)):=by omega
   have e2:(n==m)=false:=beq_eq_false_iff_ne.mpr h
   rw[e2]
   simp[eqV,h1]
theorem kms(l:List Nat)(n:Nat):(l.map fun(i:Nat)=>(i:Int)).count (n:Int)=l.count n:=by
 induction l with
 |nil=>rfl
 | cons m l ih=>
  rw[Nw,Dd,Dd,ih]
  congr 1
  by_cases h:m=n
  ·subst h;simp
  ·have h1:¬((m:Int)=(n:Int)):=by omega
   have e1:((m:Int)==(n:Int))=false:=beq_eq_false_iff_ne.mpr h1
   have e2:(m==n)=false:=beq_eq_false_iff_ne.mpr h
   rw[e1,e2]
noncomputable def kfC(a b:Nat):decide (iV a=iV b)=decide (a=b):=by
 by_cases h:a=b
 ·subst h;simp
 ·have n:¬(iV a=iV b):=fun e=>h (by have:=V.int.inj e;omega)
  rw[decide_eq_false h,decide_eq_false n]
noncomputable def eq_str(a b:Str):decide (V.str a=V.str b)=decide (a=b):=by
 by_cases h:a=b
 ·subst h;simp
 ·have n:¬(V.str a=V.str b):=fun e=>h (V.str.inj e)
  rw[decide_eq_false h,decide_eq_false n]
section
variable {P:Program} {w:World} {K:Nc} {mg:Str→Option Value} {base:Heap} {d:D}
seal PE PS PSs PA PT PC PG PGs PI
abbrev FO{K:Nc}{mg:Str→Option Value}{d:D}{base:Heap}(P:Program)(w:World)(_:WB K mg d base):=FnOk P w K mg base CX0
theorem Xy:kat ["parents","one","other","kind"] ["parents","one","other"] (kah kho):=by ac_rfl
theorem kkS(W:WB K mg d base):FO P w W 1 d.XX d.XY ["parents","one","other"] (khc K):=by
 exists W.Va.F,Xy
 ·obtain⟨a,ps,one,other,rfl,hS,hg,ho,k⟩:=h
  refine⟨_,kab (psl (i:=3) Xy.nd (pv 1))
   (kab (kfW PassesOwn.never (kap kct (pv 3) kbd (kav _))
   (kab (ps_if (kap op_eq (pv 3) (pv 2) (kav _)) (kaf (kas pe_bl)) (kau))
   (kaf (psl (i:=3) Xy.nd (pe_ix (r:=rIxL K) kaw (pv 0) (pv 3) (fun _ _=>rfl))))))
   (kaf (kas pe_bl))),?_⟩
  refine⟨_,rfl,?_⟩
  refine kfJ (fun σ H'=>∃o:Option Nat,σ=[some (.ref a),some (.int one),some (.int other),some (pV o)]∧H'=H∧(∀i,o=some i→i<ps.length)∧decide (other∈up ps one)=decide (other∈rest ps o))
   (fun σ _=>match σ with|[_,_,_,some (.int i)]=>i.toNat+1|_=>0) ⟨some one,rfl,rfl,fun i e=>by cases e;exact ho,rfl⟩ ?_ ?_
  ·rintro σ H' ⟨o,rfl,rfl,hb,he⟩
   refine⟨_,rfl,rfl,_,rfl,?_⟩
   cases o with
   |none=>
    show if(!decide (V.non=V.non))=true then _ else _
    rw[kfv]
    refine iteF ?_
    show Q (.bl false) _
    have e:decide (other∈up ps one)=false:=by rw[he];simp[Kin.rest]
    rw[e] at k
    exact k
   | some i=>
    show if(!decide (V.int i=V.non))=true then _ else _
    rw[kfw]
    refine iteT ?_
    have hi:=hb i rfl
    refine⟨_,rfl,_,rfl,rfl,_,rfl,?_⟩
    show if decide (V.int i=V.int other)=true then _ else _
    rw[eq_int]
    obtain⟨o,eo⟩:∃o,ps[i]?=some o:=⟨ps[i],by simp[hi]⟩
    refine ite2 (fun h=>?_) (fun h=>?_)
    ·have h':i=other:=of_decide_eq_true h
     subst h'
     have e:decide (i∈up ps one)=true:=by
      rw[he]
      show decide (i∈up ps i)=true
      rw[up_eq hg eo]
      simp
     rw[e] at k
     exact k
    ·have h':¬i=other:=fun z=>h (decide_eq_true z)
     refine⟨_,rfl,_,rfl,a,_,_,pV o,rfl,rfl,hS,kaA (by simp[eo]),?_⟩
     refine⟨⟨o,rfl,rfl,fun j e=>?_,?_⟩,?_⟩
     ·subst e
      have:=hg i j eo
      omega
     ·rw[he]
      show decide (other∈up ps i)=_
      rw[up_eq hg eo]
      have:¬other=i:=fun z=>h' z.symm
      simp[this]
     ·cases o with
      |none=>exact Nat.succ_pos _
      |some j=>
       have:=hg i j eo
       show((j:Int)).toNat+1<((i:Int)).toNat+1
       omega
  ·rintro σ H' Q' Q'' hq ⟨v,h1,h2,h3⟩
   exact⟨v,h1,h2,by obtain⟨b,e,q⟩:=h3;exact⟨b,e,hq _ _ q⟩⟩
theorem qF:kat ["cut","weights","total","parts","reached","given","weight","share"] ["cut","weights"] (kah khq):=by ac_rfl
theorem kkU(W:WB K mg d base):FO P w W 1 d.XU d.XW ["cut","weights"] (khg K):=by
 exists W.Q1.F,qF
 ·obtain⟨c,a,ws,rfl,hS,hn,hs,hc0,hc1,hl,k⟩:=h
  refine⟨_,kab (psl (i:=2) qF.nd (kan (r:=rSum K) (ka2 rfl) (by rfl) W.B.sum b_sum (kaa (pv 1) kae)))
   (kab (ps_if (kap op_eq (pv 2) kag (kav _)) (kaf (kas (kbp (N:=["weight"]) (CompScope.plain rfl (by decide +kernel) (by decide +kernel) (by decide +kernel) (nd1 _)) rfl (kaz (K:=K) (pv 1)) (fun _ _ _ _=>pgn (i:=0) (nd1 _)) (fun _ _ _ _=>kag)))) (kau))
   (kab (psl (i:=3) qF.nd (kaT kae))
   (kab (psl (i:=4) qF.nd kag)
   (kab (psl (i:=5) qF.nd kag)
   (kab (kaR PassesOwn.never rfl (kaz (K:=K) (pv 1)) (pgn (i:=6) qF.nd)
   (kab (klz (i:=4) qF.nd rfl (Or.inl rfl) (pv 6) kgS)
   (kab (psl (i:=7) qF.nd (pe_op kf2 (pe_op kb7 (pv 0) (pv 4)) (pv 2)))
   (kab (kaM (pe_bm NQ N7 N8 kaU (pv 3) (kaa (pe_op kcK (pv 7) (pv 5)) kae)))
   (kaf (psl (i:=5) qF.nd (pv 7)))))))
   (kaf (kas (pv 3)))))))),?_⟩
  refine⟨_,rfl,a,ws,rfl,hS,_,rfl,rfl,_,rfl,?_⟩
  refine ite2 (fun h=>?_) (fun h=>?_)
  ·have h0:ws.sum=0:=by
    have e:V.int ws.sum=V.int 0:=of_decide_eq_true h
    injection e
   refine⟨_,rfl,a,rfl,⟨_,hS⟩,kaL (xs:=ws.map V.int) (fun i σ ys H'=>H'=H∧ys=Nh i (V.int 0)∧∃v,σ=[v]) ⟨rfl,rfl,none,rfl⟩ ?_ ?_ ?_ ?_⟩
   ·rw[Nb]
    exact Nq (kar hl)
   ·rintro i σ ys H' hi ⟨rfl,rfl,v,rfl⟩
    exact⟨hS,by simp⟩
   ·rintro i x σ ys H' hx ⟨rfl,rfl,v,rfl⟩
    exact⟨rfl,by rw[MB],_,rfl⟩
   ·rintro σ ys H' ⟨rfl,rfl,v,rfl⟩ D hD
    have:=k D hD
    rw[kkX h0] at this
    rw[Nb]
    exact this
  ·have h0:¬ws.sum=0:=fun e=>h (by rw[e];simp)
   have hpos:0<ws.sum:=by
    have:=kbr hn
    omega
   refine⟨by decide,fun p hp=>?_⟩
   have s1:∀o,Same H (upd H p o):=fun o=>kal hp
   refine⟨_,rfl,a,rfl,⟨_,(s1 _).seq hS⟩,kaZ (K:=K) (a:=a) (xs:=ws.map V.int) (fun i σ H'=>H'=upd H p (.lst (((Nf i).map (part c ws)).map V.int))∧
    ∃(v6 v7:Option V),σ=[some (.int c),some (.ref a),some (.int ws.sum),some (.ref p),some (.int (pre ws i)),some (.int (c*pre ws i/ws.sum)),v6,v7])
    ⟨rfl,none,none,by simp[kih];rfl⟩ (fun i σ H' _ ⟨e,_⟩=>by rw[e];exact(s1 _).seq hS) ?_ ?_⟩
   ·rintro i x σ H' hi ⟨rfl,v6,v7,rfl⟩
    have hil:i<(ws.map V.int).length:=(Nu.mp hi).1
    rw[Nb] at hil
    obtain⟨z,ez,rfl⟩:∃z,ws[i]?=some z∧x=V.int z:=by
     rw[Ni] at hi
     cases e:ws[i]? with
     |none=>rw[e] at hi;cases hi
     |some z=>rw[e] at hi;exact⟨z,rfl,(Option.some.inj hi).symm⟩
    have ep:=kdn ez
    refine⟨_,rfl,_,rfl,_,_,rfl,rfl,?_⟩
    refine⟨_,rfl,_,rfl,_,_,rfl,rfl, .inl ⟨by omega,by omega⟩,_,rfl,_,_,rfl,rfl,⟨hpos,by omega⟩,?_⟩
    refine⟨_,rfl, .inl ⟨rfl,_,SqL.of kad⟩,_,rfl,_,rfl,_,_,rfl,rfl,p,_,_,rfl,rfl,kad,kar (by simp;omega),?_⟩
    refine⟨_,rfl,?_,some (.int z),some (.int (c*(pre ws i+z)/ws.sum)),?_⟩
    ·rw[keu,Mb,Nl,Nl]
     show upd H p (.lst (_++[V.int (c*(pre ws i+z)/ws.sum-c*pre ws i/ws.sum)]))=upd H p (.lst (_++[V.int (part c ws i)]))
     unfold part
     rw[ep]
    ·rw[ep]
     rfl
   ·rintro σ H' ⟨rfl,v6,v7,rfl⟩
    refine⟨_,rfl,?_⟩
    have:=k p hp
    rw[kj6 h0] at this
    rw[Nb]
    exact this
theorem kfR:kat ["self","kind","needs","most","member","once","lone"] ["self","kind","needs","most","member","once","lone"] (kah ka4):=by ac_rfl
theorem kdy(W:WB K mg d base):FO P w W 1 d.ZC d.qJ ["self","kind","needs","most","member","once","lone"] (kel d.qh):=by
 exists W.QB.F,kfR
 ·obtain⟨x,dx,M,rfl,hx,k⟩:=h
  refine⟨_,kab (kaJ (pv 0) (pv 1) rfl)
   (kab (kaJ (pv 0) (pv 2) rfl)
   (kab (kaJ (pv 0) (pv 3) rfl)
   (kab (kaJ (pv 0) (pv 4) rfl)
   (kab (kaJ (pv 0) (pv 5) rfl)
   (kaf (kaJ (pv 0) (pv 6) rfl)))))),?_⟩
  refine⟨_,rfl,_,rfl,x,d.qh,dx,[],rfl,hx,W.qh.cl,W.Ql,by decide,?_⟩
  refine⟨_,rfl,_,rfl,x,d.qh,dx,_,rfl,kad,W.qh.cl,W.VI,few (Nk (kam (n:=0) (Nd _)) (by decide)),?_⟩
  refine⟨_,rfl,_,rfl,x,d.qh,dx,_,rfl,kad,W.qh.cl,W.QA,few (Nk (kam (kam (n:=0) (Nd _))) (by decide)),?_⟩
  refine⟨_,rfl,_,rfl,x,d.qh,dx,_,rfl,kad,W.qh.cl,W.VJ,few (Nk (kam (kam (kam (n:=0) (Nd _)))) (by decide)),?_⟩
  refine⟨_,rfl,_,rfl,x,d.qh,dx,_,rfl,kad,W.qh.cl,W.VL,few (Nk (kam (kam (kam (kam (n:=0) (Nd _))))) (by decide)),?_⟩
  refine⟨_,rfl,_,rfl,x,d.qh,dx,_,rfl,kad,W.qh.cl,W.qX,few (Nk (kam (kam (kam (kam (kam (n:=0) (Nd _)))))) (by decide)),?_⟩
  refine k _ (But.trans (But.trans (But.trans (But.trans (But.trans kay kay) kay) kay) kay) kay) ⟨dx,_,kad,?_,?_,?_,?_,?_,?_⟩ <;> ac_nf
theorem keB:kat ["self","marks"] ["self","marks"] (kah kaV):=by ac_rfl
theorem kbj(W:WB K mg d base):FO P w W 3 d.QT d.QU ["self","marks"] (kfq K d.qh):=by
 exists W.qu.F,keB
 ·obtain⟨x,C,dx,fs,mv,rfl,hx,hC,hN,hl,hm,k⟩:=h
  exists Xz,kdy,W
  refine⟨_,kaf (kaJ (pv 0) (kdp (kap kfu (pv 1) kbd (kav _)) (kkO (W.QB.mk' W.qh) Xz hr rfl W.qh.m W.b6_Marks_init (show Vals [.non, .int 0, .non, .bl false, .bl false, .bl false] [.none, .int 0 d.tok1_Marks_init, .none, .bool false, .bool false, .bool false] from(.cons rfl (.cons ⟨_,rfl⟩ (.cons rfl (.cons rfl (.cons rfl (.cons rfl .nil))))))) pass0) (pv 1)) rfl),?_⟩
  rcases hm with rfl|⟨mA,rfl⟩
  ·refine⟨_,rfl,rfl,_,rfl,iteT ?_⟩
   refine kiw (M:=mks0) fun H1 mA s1 f1 hM=>?_
   refine⟨_,rfl,x,C,dx,fs,rfl,s1 _ _ hx,hC,hN,by omega,?_⟩
   have hne:mA≠x:=(kai hx f1).symm
   refine k _ mA ((But.of_same s1).trans (kay (nx (s1 _ _ hx)))) (.inr ⟨rfl,f1,?_⟩) kad
   exact hM.but hne (kay (nx (s1 _ _ hx)))
  ·refine⟨_,rfl,rfl,_,rfl,iteF ?_⟩
   refine⟨_,rfl,_,rfl,x,C,dx,fs,rfl,hx,hC,hN,by omega,?_⟩
   exact k _ mA kay (.inl rfl) kad
theorem khn:kat ["self","amount","marks"] ["self","amount","marks"] (kah kbs):=by ac_rfl
theorem khy(W:WB K mg d base):FO P w W 4 d.ZD d.QV ["self","amount","marks"] (kdX d.c_Off d.qh (fun so=>∃(a:Int),so=.off a)):=by
 refine FunD.ok W.Xc.F khn (fun vs H Q E h=>?_) (fun cdv A outer s H vs Q E hr h=>?_)
 ·obtain⟨x,dx,so,mv,⟨a,rfl⟩,rfl,_⟩:=h
  rfl
 ·obtain⟨x,dx,so,mv,⟨a,rfl⟩,rfl,hx,hm,k⟩:=h
  exists qG,kbj,W
  refine⟨_,kab (kaM (keI W.Qq qG hr rfl W.qA.m W.qu.F.kp W.qu.b .nil pass0 (kaa (pv 0) (kaa (pv 2) kae))))
   (kaf (kaJ (pv 0) (pv 1) rfl)),?_⟩
  refine⟨_,rfl,_,rfl,x,d.c_Off,dx,[],mv,rfl,hx,W.c_Off.cl,W.VM,by decide,hm,fun H1 mA b1 hM h1=>?_⟩
  refine⟨_,rfl,_,rfl,x,d.c_Off,dx,_,rfl,h1,W.c_Off.cl,W.Xb,few (Nk (kam (n:=0) (Nd _)) (by decide)),?_⟩
  refine k _ mA _ (b1.trans kay) ?_ kad ?_ ?_
  ·exact hM.but hx kay
  ·ac_nf
  ·show Mn _ _=_
   ac_nf
theorem kfQ:kat ["self","share","by_line","marks"] ["self","share","by_line","marks"] (kah ka3):=by ac_rfl
theorem kf4(W:WB K mg d base):FO P w W 4 d.ZE d.Qw ["self","share","by_line","marks"] (kdX d.qi d.qh (fun so=>∃(sh:Int)(bb:Bool),so=.share sh bb)):=by
 refine FunD.ok W.Xf.F kfQ (fun vs H Q E h=>?_) (fun cdv A outer s H vs Q E hr h=>?_)
 ·obtain⟨x,dx,so,mv,⟨sh,bb,rfl⟩,rfl,_⟩:=h
  rfl
 ·obtain⟨x,dx,so,mv,⟨sh,bb,rfl⟩,rfl,hx,hm,k⟩:=h
  exists qG,kbj,W
  refine⟨_,kab (kaM (keI W.Qq qG hr rfl W.qA.m W.qu.F.kp W.qu.b .nil pass0 (kaa (pv 0) (kaa (pv 3) kae))))
   (kab (kaJ (pv 0) (pv 1) rfl)
   (kaf (kaJ (pv 0) (pv 2) rfl))),?_⟩
  refine⟨_,rfl,_,rfl,x,d.qi,dx,[],mv,rfl,hx,W.qi.cl,W.VN,by decide,hm,fun H1 mA b1 hM h1=>?_⟩
  refine⟨_,rfl,_,rfl,x,d.qi,dx,_,rfl,h1,W.qi.cl,W.QC,few (Nk (kam (n:=0) (Nd _)) (by decide)),?_⟩
  refine⟨_,rfl,_,rfl,x,d.qi,dx,_,rfl,kad,W.qi.cl,W.Xe,few (Nk (kam (kam (n:=0) (Nd _))) (by decide)),?_⟩
  refine k _ mA _ ((b1.trans kay).trans kay) ?_ kad ?_ ?_
  ·exact hM.but hx (But.trans kay kay)
  ·ac_nf
  ·exact⟨by ac_nf,by ac_nf⟩
theorem kea:kat ["self","many","marks"] ["self","many","marks"] (kah kaO):=by ac_rfl
theorem kej(W:WB K mg d base):FO P w W 4 d.ZF d.QW ["self","many","marks"] (kdX d.ql d.qh (fun so=>∃(n:Int),so=.cheap n)):=by
 refine FunD.ok W.Xi.F kea (fun vs H Q E h=>?_) (fun cdv A outer s H vs Q E hr h=>?_)
 ·obtain⟨x,dx,so,mv,⟨n,rfl⟩,rfl,_⟩:=h
  rfl
 ·obtain⟨x,dx,so,mv,⟨n,rfl⟩,rfl,hx,hm,k⟩:=h
  exists qG,kbj,W
  refine⟨_,kab (kaM (keI W.Qq qG hr rfl W.qA.m W.qu.F.kp W.qu.b .nil pass0 (kaa (pv 0) (kaa (pv 2) kae))))
   (kaf (kaJ (pv 0) (pv 1) rfl)),?_⟩
  refine⟨_,rfl,_,rfl,x,d.ql,dx,[],mv,rfl,hx,W.ql.cl,W.VO,by decide,hm,fun H1 mA b1 hM h1=>?_⟩
  refine⟨_,rfl,_,rfl,x,d.ql,dx,_,rfl,h1,W.ql.cl,W.Xh,few (Nk (kam (n:=0) (Nd _)) (by decide)),?_⟩
  refine k _ mA _ (b1.trans kay) ?_ kad ?_ ?_
  ·exact hM.but hx kay
  ·ac_nf
  ·show Mn _ _=_
   ac_nf
theorem kfg:kat ["self","many","price","marks"] ["self","many","price","marks"] (kah ka0):=by ac_rfl
theorem kfl(W:WB K mg d base):FO P w W 4 d.ZG d.QX ["self","many","price","marks"] (kdX d.qj d.qh (fun so=>∃(n:Int)(pp:Int),so=.bund n pp)):=by
 refine FunD.ok W.Xl.F kfg (fun vs H Q E h=>?_) (fun cdv A outer s H vs Q E hr h=>?_)
 ·obtain⟨x,dx,so,mv,⟨n,pp,rfl⟩,rfl,_⟩:=h
  rfl
 ·obtain⟨x,dx,so,mv,⟨n,pp,rfl⟩,rfl,hx,hm,k⟩:=h
  exists qG,kbj,W
  refine⟨_,kab (kaM (keI W.Qq qG hr rfl W.qA.m W.qu.F.kp W.qu.b .nil pass0 (kaa (pv 0) (kaa (pv 3) kae))))
   (kab (kaJ (pv 0) (pv 1) rfl)
   (kaf (kaJ (pv 0) (pv 2) rfl))),?_⟩
  refine⟨_,rfl,_,rfl,x,d.qj,dx,[],mv,rfl,hx,W.qj.cl,W.VQ,by decide,hm,fun H1 mA b1 hM h1=>?_⟩
  refine⟨_,rfl,_,rfl,x,d.qj,dx,_,rfl,h1,W.qj.cl,W.Xj,few (Nk (kam (n:=0) (Nd _)) (by decide)),?_⟩
  refine⟨_,rfl,_,rfl,x,d.qj,dx,_,rfl,kad,W.qj.cl,W.Xk,few (Nk (kam (kam (n:=0) (Nd _))) (by decide)),?_⟩
  refine k _ mA _ ((b1.trans kay).trans kay) ?_ kad ?_ ?_
  ·exact hM.but hx (But.trans kay kay)
  ·ac_nf
  ·exact⟨by ac_nf,by ac_nf⟩
theorem keb:kat ["self","marks"] ["self","marks"] (kah kaP):=by ac_rfl
theorem kek(W:WB K mg d base):FO P w W 4 d.ZH d.QY ["self","marks"] (kdX d.qm d.qh (fun so=>so=.carr)):=by
 exists W.Xm.F,keb
 ·obtain⟨x,dx,so,mv,rfl,rfl,hx,hm,k⟩:=h
  exists qG,kbj,W
  refine⟨_,kaf (kaM (keI W.Qq qG hr rfl W.qA.m W.qu.F.kp W.qu.b .nil pass0 (kaa (pv 0) (kaa (pv 1) kae)))),?_⟩
  refine⟨_,rfl,_,rfl,x,d.qm,dx,[],mv,rfl,hx,W.qm.cl,W.VS,by decide,hm,fun H1 mA b1 hM h1=>?_⟩
  refine k _ mA _ b1 hM h1 ?_ trivial
  ac_nf
theorem kgx:kat ["self","kind","price","many","special"] ["self","kind","price","many","special"] (kah kbf):=by ac_rfl
theorem kgH(W:WB K mg d base):FO P w W 1 d.ZI d.QZ ["self","kind","price","many","special"] (khf d.qf):=by
 exists W.Xo.F,kgx
 ·obtain⟨x,dx,r,rfl,hx,k⟩:=h
  refine⟨_,kab (kaJ (pv 0) (pv 1) rfl)
   (kab (kaJ (pv 0) (pv 2) rfl)
   (kab (kaJ (pv 0) (pv 3) rfl)
   (kaf (kaJ (pv 0) (pv 4) rfl)))),?_⟩
  refine⟨_,rfl,_,rfl,x,d.qf,dx,[],rfl,hx,W.qf.cl,W.Xn,by decide,?_⟩
  refine⟨_,rfl,_,rfl,x,d.qf,dx,_,rfl,kad,W.qf.cl,W.QD,few (Nk (kam (n:=0) (Nd _)) (by decide)),?_⟩
  refine⟨_,rfl,_,rfl,x,d.qf,dx,_,rfl,kad,W.qf.cl,W.Qm,few (Nk (kam (kam (n:=0) (Nd _))) (by decide)),?_⟩
  refine⟨_,rfl,_,rfl,x,d.qf,dx,_,rfl,kad,W.qf.cl,W.Qn,few (Nk (kam (kam (kam (n:=0) (Nd _)))) (by decide)),?_⟩
  refine k _ (But.trans (But.trans (But.trans kay kay) kay) kay) ⟨dx,_,kad,?_,?_,?_,?_⟩
  ·rw[kac,if_neg (by decide +kernel),kac,if_neg (by decide +kernel),kac,if_neg (by decide +kernel),kac,if_pos rfl]
  ·rw[kac,if_neg (by decide +kernel),kac,if_neg (by decide +kernel),kac,if_pos rfl]
  ·rw[kac,if_neg (by decide +kernel),kac,if_pos rfl]
  ·rw[kac,if_pos rfl]
theorem kfh:kat ["self","lines","carriage","member"] ["self","lines","carriage","member"] (kah ka1):=by ac_rfl
theorem kfm(W:WB K mg d base):FO P w W 1 d.ZJ d.Qx ["self","lines","carriage","member"] (khi K d.qd):=by
 exists W.Xq.F,kfh
 ·obtain⟨x,dx,l,cg,m,xs,rfl,hx,hl,k⟩:=h
  refine⟨_,kab (kaJ (pv 0) (kaQ (r:=kbg K) kaD (by rfl) W.B.list kbn (kaa (pv 1) kae)) rfl)
   (kab (kaJ (pv 0) (pv 2) rfl)
   (kaf (kaJ (pv 0) (pv 3) rfl))),?_⟩
  refine⟨_,rfl,l,_,rfl, .inl hl,fun l' hl'=>?_⟩
  have s1:=kal (o:=.lst xs) hl'
  have nlx:l'≠x:=fun e=>by
   rw[e,hx] at hl'
   cases hl'
  refine⟨_,rfl,x,d.qd,dx,[],rfl,s1 _ _ hx,W.qd.cl,W.qr,by decide,?_⟩
  refine⟨_,rfl,_,rfl,x,d.qd,dx,_,rfl,kad,W.qd.cl,W.Xp,few (Nk (kam (n:=0) (Nd _)) (by decide)),?_⟩
  refine⟨_,rfl,_,rfl,x,d.qd,dx,_,rfl,kad,W.qd.cl,W.QE,few (Nk (kam (kam (n:=0) (Nd _))) (by decide)),?_⟩
  refine k _ l' ((((But.of_same s1).trans kay).trans kay).trans kay) hl' ?_ ⟨dx,_,kad,?_,?_,?_⟩
  ·rw[kak nlx,kak nlx,kak nlx,kad]
  ·rw[kac,if_neg (by decide +kernel),kac,if_neg (by decide +kernel),kac,if_pos rfl]
  ·rw[kac,if_neg (by decide +kernel),kac,if_pos rfl]
  ·rw[kac,if_pos rfl]
theorem kdH:kat ["line","member"] ["line","member"] (kah kbK):=by ac_rfl
theorem kdP(W:WB K mg d base):FO P w W 1 d.XZ d.X0 ["line","member"] (kjw d.qf):=by
 exists W.Vb.F,kdH
 ·obtain⟨x,m,r,rfl,⟨dx,fs,hx,lk,lp,lm,ls⟩,k⟩:=h
  refine⟨_,kab (ps_if (PW.pt (ka6 (kaN (pv 1)) (kaX (kap kct (kaj (K:=K) (pv 0) rfl) kbd (kav _))))) (kaf (kas (kaj (K:=K) (pv 0) rfl))) (kau))
   (kaf (kas (kaj (K:=K) (pv 0) rfl))),?_⟩
  refine⟨_,rfl,m,rfl,?_⟩
  cases m with
  |false=>
   refine iteF (iteF ⟨_,rfl,x,d.qf,dx,fs,_,rfl,hx,W.qf.cl,W.QD,lp,?_⟩)
   exact k
  | true=>
   refine iteT ⟨_,rfl,x,d.qf,dx,fs,_,rfl,hx,W.qf.cl,W.Qn,ls,rfl,_,rfl,?_⟩
   cases e:r.ex with
   | none=>
    rw[e] at ls
    show if(!decide (V.non=V.non))=true then _ else _
    rw[show(!decide (V.non=V.non))=false by simp]
    refine iteF ⟨_,rfl,x,d.qf,dx,fs,_,rfl,hx,W.qf.cl,W.QD,lp,?_⟩
    have ep:prc true r=r.pr:=by
     unfold prc
     rw[if_pos rfl,e]
     rfl
    rw[ep] at k
    exact k
   | some z=>
    rw[e] at ls
    show if(!decide (V.int z=V.non))=true then _ else _
    rw[show(!decide (V.int z=V.non))=true by simp]
    refine iteT ⟨_,rfl,x,d.qf,dx,fs,_,rfl,hx,W.qf.cl,W.Qn,ls,?_⟩
    have ep:prc true r=z:=by
     unfold prc
     rw[if_pos rfl,e]
     rfl
    rw[ep] at k
    exact k
theorem QH:kat ["self","basket","number","line","price"] ["self","basket"] (kah kb4):=by ac_rfl
theorem kbP(W:WB K mg d base):FO P w W 2 d.ZK d.ZL ["self","basket"] (kdj d.qf d.qd d.qc):=by
 exists W.qO.F,QH
 ·obtain⟨x,dx,b,l,cg,m,ls,rs,rfl,hx,⟨dxb,fsb,hb,lbl,lbc,lbm⟩,hl,hL,hn,hok,k⟩:=h
  exists Uv,kdP,W
  refine⟨_,kab (kaJ (pv 0) (kaT kae) rfl)
   (kab (kaJ (pv 0) (kaT kae) rfl)
   (kab (kaJ (pv 0) (kaj (K:=K) (pv 1) rfl) rfl)
   (kab (kaJ (pv 0) (kaT kae) rfl)
   (kaf (kaR PassesOwn.never rfl (kjS rfl W.B.enum (kaa (kaj (K:=K) (pv 1) rfl) kae)) (kbi (K:=K) (n:=2) rfl (kax (pgn (i:=2) QH.nd) (kax (pgn (i:=3) QH.nd) kbh)))
   (kab (psl (i:=4) QH.nd (pcl Uv hr W.Vb (kaa (pv 3) (kaa (kaj (K:=K) (pv 1) rfl) kae))))
   (kab (kaM (pe_bm NQ Dm Do keS (kaj (K:=K) (pv 0) rfl) (kaa (pe_op klF (kaT (kaa (pv 2) kae)) (kaj (K:=K) (pv 3) rfl)) kae)))
   (kab (kaM (pe_bm NQ Dm Do keS (kaj (K:=K) (pv 0) rfl) (kaa (pe_op klF (kaT (kaa (pv 4) kae)) (kaj (K:=K) (pv 3) rfl)) kae)))
   (kaf (kaM (pe_bm NQ N7 N8 kaU (kaj (K:=K) (pv 0) rfl) (kaa pe_bl kae)))))))))))),?_⟩
  have nbx:b≠x:=ne_of hb hx (by
   intro z
   injection z with _ _ z
   rw[z] at lbl
   cases lbl)
  have nlx:l≠x:=ne_of hl hx (by intro z;cases z)
  exists Y4
  refine⟨by decide,fun o ho=>?_⟩
  have nox:o≠x:=(kai hx ho).symm
  symm
  exists Y4
  refine⟨_,rfl,x,d.qc,dx,[],rfl,kal ho _ _ hx,W.qc.cl,W.qL,by decide,?_⟩
  have b1:But x H (upd (upd H o (.lst [])) x (.ins d.qc dx (putF "owners" (.ref o) []))):=(But.of_same (kal ho)).trans kay
  symm
  exists Y4
  refine⟨by decide,fun p hp=>?_⟩
  have npx:p≠x:=fun e=>by
   rw[e,kad] at hp
   cases hp
  have nop:o≠p:=fun e=>by
   rw[←e,kak nox,kad] at hp
   cases hp
  have hp0:H p=none:=by
   cases e:H p with
   |none=>rfl
   |some u=>
    obtain⟨u',e'⟩:=kga (b1 p u npx e)
    rw[e'] at hp
    cases hp
  symm
  exists Y4
  refine⟨_,rfl,x,d.qc,dx,_,rfl,kal hp _ _ kad,W.qc.cl,W.qw,few (Nk (kam (n:=0) (Nd _)) (by decide)),?_⟩
  have b2:=(b1.same (kal (o:=.lst []) hp)).trans (kay (o:=.ins d.qc dx (putF "prices" (.ref p) (putF "owners" (.ref o) []))))
  symm
  exists Y4
  refine⟨_,rfl,b,d.qd,dxb,fsb,_,rfl,b2 b _ nbx hb,W.qd.cl,W.Xp,lbc,_,rfl,x,d.qc,dx,_,rfl,kad,W.qc.cl,W.qY,few (Nk (kam (kam (n:=0) (Nd _))) (by decide)),?_⟩
  have b3:=b2.trans (kay (o:=.ins d.qc dx (putF "carriage" (.int cg) (putF "prices" (.ref p) (putF "owners" (.ref o) [])))))
  symm
  exists Y4
  refine⟨by decide,fun mk hm=>?_⟩
  have nmx:mk≠x:=fun e=>by
   rw[e,kad] at hm
   cases hm
  have hm0:H mk=none:=by
   cases e:H mk with
   |none=>rfl
   |some u=>
    obtain⟨u',e'⟩:=kga (b3 mk u nmx e)
    rw[e'] at hm
    cases hm
  have nom:o≠mk:=fun e=>by
   rw[←e,kak nox,kak nox,kak nop,kak nox,kad] at hm
   cases hm
  have npm:p≠mk:=fun e=>by
   rw[←e,kak npx,kak npx,kad] at hm
   cases hm
  symm
  exists Y4
  refine⟨_,rfl,x,d.qc,dx,_,rfl,kal hm _ _ kad,W.qc.cl,W.Qo,few (Nk (kam (kam (kam (n:=0) (Nd _)))) (by decide)),?_⟩
  have b4:=(b3.same (kal (o:=.lst []) hm)).trans (kay (o:=.ins d.qc dx (putF "marked" (.ref mk) (putF "carriage" (.int cg) (putF "prices" (.ref p) (putF "owners" (.ref o) []))))))
  have Di:Ds H x o p mk:=⟨ho,hp0,hm0,nox,npx,nmx,nop,nom,npm⟩
  have Z0:S3 H x d.qc dx (putF "marked" (.ref mk) (putF "carriage" (.int cg) (putF "prices" (.ref p) (putF "owners" (.ref o) [])))) o p mk [] [] [] (upd (upd (upd (upd (upd (upd (upd H o (.lst [])) x (.ins d.qc dx (putF "owners" (.ref o) []))) p (.lst [])) x (.ins d.qc dx (putF "prices" (.ref p) (putF "owners" (.ref o) []))))
    x (.ins d.qc dx (putF "carriage" (.int cg) (putF "prices" (.ref p) (putF "owners" (.ref o) []))))) mk (.lst [])) x (.ins d.qc dx (putF "marked" (.ref mk) (putF "carriage" (.int cg) (putF "prices" (.ref p) (putF "owners" (.ref o) [])))))):=by
   symm
   exists Y6
   refine⟨b4,kad,?_,?_,?_⟩
   ·rw[kak nox,kak nom,kak nox,kak nox,kak nop,kak nox,kad]
   ·rw[kak npx,kak npm,kak npx,kak npx,kad]
   ·rw[kak nmx,kad]
  have l1:(putF "marked" (.ref mk) (putF "carriage" (.int cg) (putF "prices" (.ref p) (putF "owners" (.ref o) [])))).lookup ("owners" :Str)=some (.ref o):=by
   rw[kac,if_neg (by decide +kernel),kac,if_neg (by decide +kernel),kac,if_neg (by decide +kernel),kac,if_pos rfl]
  have l2:(putF "marked" (.ref mk) (putF "carriage" (.int cg) (putF "prices" (.ref p) (putF "owners" (.ref o) [])))).lookup ("prices" :Str)=some (.ref p):=by
   rw[kac,if_neg (by decide +kernel),kac,if_neg (by decide +kernel),kac,if_pos rfl]
  have l3:(putF "marked" (.ref mk) (putF "carriage" (.int cg) (putF "prices" (.ref p) (putF "owners" (.ref o) [])))).lookup ("carriage" :Str)=some (.int cg):=by
   rw[kac,if_neg (by decide +kernel),kac,if_pos rfl]
  have l4:(putF "marked" (.ref mk) (putF "carriage" (.int cg) (putF "prices" (.ref p) (putF "owners" (.ref o) [])))).lookup ("marked" :Str)=some (.ref mk):=by
   rw[kac,if_pos rfl]
  have l5:(putF "marked" (.ref mk) (putF "carriage" (.int cg) (putF "prices" (.ref p) (putF "owners" (.ref o) [])))).lookup ("whole" :Str)=none:=by
   rw[kac,if_neg (by decide +kernel),kac,if_neg (by decide +kernel),kac,if_neg (by decide +kernel),kac,if_neg (by decide +kernel)]
   rfl
  have lfs:(putF "marked" (.ref mk) (putF "carriage" (.int cg) (putF "prices" (.ref p) (putF "owners" (.ref o) [])))).length≤10:=Nk (kam (kam (kam (kam (n:=0) (Nd _))))) (by decide)
  generalize putF "marked" (.ref mk) (putF "carriage" (.int cg) (putF "prices" (.ref p) (putF "owners" (.ref o) [])))=fs at *
  generalize (upd (upd (upd (upd (upd (upd (upd H o (.lst [])) x (.ins d.qc dx (putF "owners" (.ref o) []))) p (.lst [])) x (.ins d.qc dx (putF "prices" (.ref p) (putF "owners" (.ref o) []))))
    x (.ins d.qc dx (putF "carriage" (.int cg) (putF "prices" (.ref p) (putF "owners" (.ref o) []))))) mk (.lst [])) x (.ins d.qc dx fs))=Hs at *
  symm
  exists Y4
  refine⟨_,rfl,b,d.qd,dxb,fsb,_,rfl,Z0.bt b _ nbx hb,W.qd.cl,W.qr,lbl,l,_,rfl,Z0.bt l _ nlx hl,klc (xs:=ls.map V.ref) (fun i σ H'=>(∃v2 v3 v4:Option V,σ=[some (.ref x),some (.ref b),v2,v3,v4])∧
   S3 H x d.qc dx fs o p mk ((own (rs.take i)).map V.int) ((prs m (rs.take i)).map V.int) (Nh i (.bl false)) H') ⟨⟨none,none,none,rfl⟩,Z0⟩ (fun i σ H' _ ⟨_,Z⟩=>Z.bt l _ nlx hl) ?_ ?_⟩
  ·rintro i y t σ H1 hy ⟨⟨v2,v3,v4,rfl⟩,Z⟩ ht
   have hll:=hL.len
   have hil:i<(ls.map V.ref).length:=(Nu.mp hy).1
   rw[Nb] at hil
   obtain⟨lx,el,rfl⟩:∃lx,ls[i]?=some lx∧y=V.ref lx:=by
    rw[Ni] at hy
    cases e:ls[i]? with
    |none=>rw[e] at hy;cases hy
    |some z=>rw[e] at hy;exact⟨z,rfl,(Option.some.inj hy).symm⟩
   obtain⟨r,er⟩:∃r,rs[i]?=some r:=⟨rs[i]'(by omega),by simp[show i<rs.length by omega]⟩
   have hr':r.Ok:=hok r (Nj er)
   obtain⟨dxl,fsl,hlx,lk1,lk2,lk3,lk4⟩:=hL.get el er
   have nlxx:lx≠x:=ne_of hlx hx (by
    intro z
    injection z with _ _ z
    rw[z] at lk1
    cases lk1)
   have hmn0:=hr'.mn0
   have hmn1:=hr'.mn1
   have Z1:=Z.same (kal (o:=.tup [.int (i:Nat),V.ref lx]) ht)
   have lo1:((own (rs.take i)).map V.int).length≤720:=by
    rw[Nb]
    have:=kjW (rs.take i) fun r hr=>hok r (MO hr)
    rw[Nv] at this
    omega
   have lp1:((prs m (rs.take i)).map V.int).length≤720:=by
    rw[Nb]
    have:=kht m (rs.take i) fun r hr=>hok r (MO hr)
    rw[Nv] at this
    omega
   symm
   exists Y6
   refine⟨t,_,rfl,SqT.of kad,rfl,_,_,rfl,_,_,rfl,rfl,?_⟩
   nofun
   exists Y6
   refine⟨_,rfl,_,rfl,b,d.qd,dxb,fsb,_,rfl,Z1.bt b _ nbx hb,W.qd.cl,W.QE,lbm,lx,m,r,rfl,⟨dxl,fsl,Z1.bt lx _ nlxx hlx,lk1,lk2,lk3,lk4⟩,?_⟩
   nofun
   exists Y6
   refine⟨_,rfl,x,d.qc,dx,fs,_,rfl,Z1.ob,W.qc.cl,W.qL,l1, .inl ⟨rfl,_,SqL.of Z1.ho⟩,_,rfl,(by show 1≤sizeLine;decide),fun t1 ht1=>?_⟩
   have Z2:=Z1.same (kal (o:=.lst [V.int (i:Nat)]) ht1)
   nofun
   exists Y6
   refine⟨_,rfl,lx,d.qf,dxl,fsl,_,rfl,Z2.bt lx _ nlxx hlx,W.qf.cl,W.Qm,lk3,t1,_,_,rfl,rfl,kad,by omega,by omega,Nq (kar (by simp;omega)),fun t2 ht2=>?_⟩
   have Z3:=Z2.same (kal (o:=.lst (Nh r.mn.toNat [V.int (i:Nat)]).flatten) ht2)
   nofun
   exists Y6
   refine⟨o,t2,_,_,rfl,rfl,Z3.ho,kad,Nq (kar (by rw[rep1,Mf];omega)),?_⟩
   have Z4:=Z3.setO (d:=(own (rs.take i)).map V.int++(Nh r.mn.toNat [V.int (i:Nat)]).flatten) Di
   nofun
   exists Y6
   refine⟨_,rfl,x,d.qc,dx,fs,_,rfl,Z4.ob,W.qc.cl,W.qw,l2, .inl ⟨rfl,_,SqL.of Z4.hp⟩,_,rfl,(by show 1≤sizeLine;decide),fun t3 ht3=>?_⟩
   have Z5:=Z4.same (kal (o:=.lst [V.int (prc m r)]) ht3)
   nofun
   exists Y6
   refine⟨_,rfl,lx,d.qf,dxl,fsl,_,rfl,Z5.bt lx _ nlxx hlx,W.qf.cl,W.Qm,lk3,t3,_,_,rfl,rfl,kad,by omega,by omega,Nq (kar (by simp;omega)),fun t4 ht4=>?_⟩
   have Z6:=Z5.same (kal (o:=.lst (Nh r.mn.toNat [V.int (prc m r)]).flatten) ht4)
   nofun
   exists Y6
   refine⟨p,t4,_,_,rfl,rfl,Z6.hp,kad,Nq (kar (by rw[rep1,Mf];omega)),?_⟩
   have Z7:=Z6.setP (d:=(prs m (rs.take i)).map V.int++(Nh r.mn.toNat [V.int (prc m r)]).flatten) Di
   nofun
   exists Y6
   refine⟨_,rfl,x,d.qc,dx,fs,_,rfl,Z7.ob,W.qc.cl,W.Qo,l4, .inl ⟨rfl,_,SqL.of Z7.hm⟩,mk,_,_,rfl,rfl,Z7.hm,kar (by simp;omega),?_⟩
   have Z8:=Z7.setM (d:=Nh i (V.bl false)++[V.bl false]) Di
   nofun
   exists Y6
   refine⟨⟨_,_,_,rfl⟩,?_⟩
   have e1:(own (rs.take i)).map V.int++(Nh r.mn.toNat [V.int (i:Nat)]).flatten=(own (rs.take (i+1))).map V.int:=by
    rw[take_snoc er,kkQ,Nl,rep1,kjM,Nv,MT (by omega)]
   have e2:(prs m (rs.take i)).map V.int++(Nh r.mn.toNat [V.int (prc m r)]).flatten=(prs m (rs.take (i+1))).map V.int:=by
    rw[take_snoc er,kkN,Nl,rep1,kjM]
   have e3:Nh i (V.bl false)++[V.bl false]=Nh (i+1) (V.bl false):=by rw[MB]
   rw[←e1,←e2,←e3]
   nofun
   exact Z8
  ·rintro σ H' ⟨⟨v2,v3,v4,rfl⟩,Z⟩
   have hll:=hL.len
   have e:(ls.map V.ref).length=rs.length:=by rw[Nb,hll]
   rw[e,ND] at Z
   nofun
   exact k H' o p mk Z.bt ho hp0 hm0 ⟨dx,fs,Z.ob,l1,l2,l3,l4,l5⟩ Z.ho Z.hp Z.hm ⟨dx,fs,Z.ob,lfs⟩
theorem kdI:kat ["self"] ["self"] (kah kbO):=by ac_rfl
theorem kdT(W:WB K mg d base):FO P w W 1 d.ZM d.ZN ["self"] (kjq d.qc):=by
 exists W.Xr.F,kdI
 ·obtain⟨x,o,p,mk,cg,ns,rfl,⟨dx,fs,hx,l1,l2,l3,l4,l5⟩,hp,k⟩:=h
  refine⟨_,kaf (kas (pe_op kbR (kan (r:=rSum K) (ka2 rfl) (by rfl) W.B.sum b_sum (kaa (kaj (K:=K) (pv 0) rfl) kae)) (kaj (K:=K) (pv 0) rfl))),?_⟩
  exact⟨_,rfl,x,d.qc,dx,fs,_,rfl,hx,W.qc.cl,W.qw,l2,p,ns,rfl,SqL.of hp,_,rfl,x,d.qc,dx,fs,_,rfl,hx,W.qc.cl,W.qY,l3,_,_,rfl,rfl,k⟩
inductive klu (K:Nc) (CM:Addr) (vs:List V) (H:Hp) (Q:VK) (E_:XK):Prop
 |ct (mA a:Addr)(M:Mks)(ps:List (Option Nat))(kn:Nat)(mk:Bool)(_:vs=[.ref mA, .ref a, .int kn, .bl mk])(_:MksIs CM H mA M)(_:SqL K H a (ps.map pV))(_:Good ps)(_:kn<ps.length)(_:Q (.bl (kHit ps M.kind kn&&(!M.lone|| !mk))) H):klu K CM vs H Q E_
theorem klZ:kat ["marks","parents","kind","marked"] ["marks","parents","kind","marked"] (kah kjJ):=by ac_rfl
theorem kmb(W:WB K mg d base):FO P w W 2 d.X3 d.X4 ["marks","parents","kind","marked"] (klu K d.qh):=by
 exists W.Vd.F,klZ
 ·obtain⟨mA,a,M,ps,kn,mk,rfl,⟨dx,fs,hm,l1,l2,l3,l4,l5,l6⟩,hS,hg,hk,k⟩:=h
  exists Uw,kkS,W
  refine⟨_,kab (kbG (ps_if (PW.pt (ka6 (kaN (kaj (K:=K) (pv 0) rfl)) (kaX (kaN (pv 3))))) (kaf (kas pe_bl)) (kau)))
   (kaf (kas (pe_or (kb6 kfu (kaj (K:=K) (pv 0) rfl) kbd (kav _)) (kij (pcl Uw hr W.Va (kaa (pv 1) (kaa (pv 2) (kaa (kaj (K:=K) (pv 0) rfl) kae)))))))),?_⟩
  refine⟨fun σ' H'=>σ'=[some (.ref mA),some (.ref a),some (.int kn),some (.bl mk)]∧H'=H∧(!M.lone|| !mk)=true,⟨_,rfl,mA,d.qh,dx,fs,_,rfl,hm,W.qh.cl,W.qX,l6,M.lone,rfl,?_⟩,?_⟩
  ·cases e:M.lone with
   |false=>exact iteF (iteF ⟨rfl,rfl,rfl⟩)
   | true=>
    refine iteT ⟨_,rfl,mk,rfl,?_⟩
    cases mk with
    |false=>exact iteF ⟨rfl,rfl,rfl⟩
    |true=>
     refine iteT ?_
     rw[e,show(kHit ps M.kind kn&&(!true|| !true))=false by simp] at k
     exact k
  ·rintro σ' H' ⟨rfl,rfl,hh⟩
   rw[hh,Bool.and_true] at k
   cases ek:M.kind with
   |none=>
    rw[ek] at l1 k
    refine⟨_,rfl,mA,d.qh,dx,fs,_,rfl,hm,W.qh.cl,W.Ql,l1,rfl,_,rfl,?_⟩
    show if decide (V.non=V.non)=true then _ else _
    rw[show decide (V.non=V.non)=true by simp]
    exact iteT k
   |some kk=>
    rw[ek] at l1 k
    refine⟨_,rfl,mA,d.qh,dx,fs,_,rfl,hm,W.qh.cl,W.Ql,l1,rfl,_,rfl,?_⟩
    show if decide (V.int (kk:Nat)=V.non)=true then _ else _
    rw[show decide (V.int (kk:Nat)=V.non)=false by simp]
    exact iteF ⟨_,rfl,_,rfl,_,rfl,mA,d.qh,dx,fs,_,rfl,hm,W.qh.cl,W.Ql,l1,a,ps,kn,kk,rfl,hS,hg,hk,k⟩
theorem VU:kat ["voucher","parents","basket","standing","fitting"] ["voucher","parents","basket","standing"] (kah keD):=by ac_rfl
theorem kip(W:WB K mg d base):FO P w W 3 d.X1 d.X2 ["voucher","parents","basket","standing"] (kjD K d):=by
 exists W.Q2.F,VU
 ·obtain⟨v,a,b,x,Vc,ps,B,S,rfl,hV,hA,hB,hS,wf,vo,k⟩:=h
  obtain⟨mA,dxv,fsv,hv,lvm,_,hM,hh,htb⟩:=id hV
  obtain⟨l,ls,⟨dxb,fsb,hb,lb1,lb2,lb3⟩,hl,hL⟩:=id hB
  obtain⟨o,p,mk,⟨dxs,fss,hx,l1,l2,l3,l4,l5⟩,ho,hp,hmk⟩:=id hS
  exists Ux,kmb,W
  refine⟨_,kab (psl (i:=4) VU.nd (kbp (N:=["line","marked","voucher","parents"]) (CompScope.of (N:=["line","marked","voucher","parents"]) (cap:=[none,none,some 0,some 1]) (kah keD).names ["voucher","parents","basket","standing","fitting"] rfl rfl (by decide +kernel)) rfl (keG rfl W.B.zip (kaa (kaj (K:=K) (pv 2) rfl) (kaa (kaj (K:=K) (pv 3) rfl) kae))) (fun _ _ _ _=>kbi (K:=K) (n:=2) rfl (kax (pgn (i:=0) (show(["line","marked","voucher","parents"]:List Str).Nodup by decide +kernel)) (kax (pgn (i:=1) (show(["line","marked","voucher","parents"]:List Str).Nodup by decide +kernel)) kbh))) (fun _ _ _ _=>(pcl Ux hr W.Vd (kaa (kaj (K:=K) (pv 2) rfl) (kaa (pv 3) (kaa (kaj (K:=K) (pv 0) rfl) (kaa (pv 1) kae))))))))
   (kaf (kas (kil (N:=["piece","owner","fitting"]) (CompScope.of (N:=["piece","owner","fitting"]) (cap:=[none,none,some 4]) (kah keD).names ["voucher","parents","basket","standing","fitting"] rfl rfl (by decide +kernel)) rfl (kjS rfl W.B.enum (kaa (kaj (K:=K) (pv 3) rfl) kae)) (fun _ _ _ _=>kbi (K:=K) (n:=2) rfl (kax (pgn (i:=0) (show(["piece","owner","fitting"]:List Str).Nodup by decide +kernel)) (kax (pgn (i:=1) (show(["piece","owner","fitting"]:List Str).Nodup by decide +kernel)) kbh))) (fun _ _ _ _=>khu (kaN (pe_ix (r:=rIxL K) kaw (pv 2) (pv 1) (fun _ _=>rfl)))) (fun _ _ _ _=>(pv 0))))),?_⟩
  have np:=wf.np
  have nl:=wf.nl
  have lenL:=hL.len
  have lenM:=wf.lm
  have emin:min (ls.map V.ref).length (S.mkd.map V.bl).length=B.rs.length:=by rw[Nb,Nb,lenL,lenM,MM]
  refine⟨_,rfl,b,d.qd,dxb,fsb,_,rfl,hb,W.qd.cl,W.qr,lb1,_,rfl,x,d.qc,dxs,fss,_,rfl,hx,W.qc.cl,W.Qo,l4,l,mk,_,_,rfl,hl,hmk,
   kiM (xs:=ls.map V.ref) (ys:=S.mkd.map V.bl) (fun i σ zs H'=>Same H H'∧zs=((Nf i).map fun l=>hits ps (kds B) Vc.ms.kind Vc.ms.lone S.mkd l).map V.bl∧∃v0 v1:Option V,σ=[v0,v1,some (.ref v),some (.ref a)])
    ⟨Same.refl _,rfl,none,none,rfl⟩ (by rw[emin];exact Nq (kar (by omega))) (fun i σ zs H' _ h=>⟨h.1 _ _ hl,h.1 _ _ hmk,by rw[h.2.1];simp⟩) ?_ ?_⟩
  ·rintro i y m t σ zs H1 hy hm ⟨s1,rfl,v0,v1,rfl⟩ ht
   obtain⟨lx,elx,rfl⟩:=kcf hy
   obtain⟨mv,emv,rfl⟩:=kba hm
   obtain⟨r,er,hr⟩:=hL.at elx
   have s2:=s1.trans (kal (o:=.tup [V.ref lx,V.bl mv]) ht)
   obtain⟨dxl,fsl,hlx,lk1,_⟩:=hr.same s2
   have hkd:=wf.kd r (Nj er)
   obtain⟨kn,ekn⟩:=Int.eq_ofNat_of_zero_le hkd.1
   have hkn:kn<ps.length:=by omega
   refine⟨t,_,rfl,SqT.of kad,rfl,_,_,rfl,_,_,rfl,rfl,?_⟩
   refine⟨_,rfl,v,clsOf d Vc.so,dxv,fsv,_,rfl,s2 _ _ hv,cl_of W hh,na_of W hh,lvm,_,rfl,_,rfl,lx,d.qf,dxl,fsl,_,rfl,hlx,W.qf.cl,W.Xn,lk1,_,rfl,mA,a,Vc.ms,ps,kn,mv,by rw[ekn];rfl,hM.same s2,s2.seq hA,wf.good,hkn,s2,?_,_,_,rfl⟩
   have e1:hits ps (kds B) Vc.ms.kind Vc.ms.lone S.mkd i=(kHit ps Vc.ms.kind kn&&(!Vc.ms.lone|| !mv)):=by
    unfold hits
    have e2:S.mkd.getD i false=mv:=by rw[Nt,emv];rfl
    rw[e2,klI er,ekn,Int.toNat_natCast]
   rw[Mb,Nl,Nl,←e1]
   rfl
  rintro σ zs H1 ⟨s1,rfl,v0,v1,rfl⟩ D hD
  rw[emin]
  have s2:=s1.trans (kal (o:=.lst (((Nf B.rs.length).map fun l=>hits ps (kds B) Vc.ms.kind Vc.ms.lone S.mkd l).map V.bl)) hD)
  have eD:(upd H1 D (.lst (((Nf B.rs.length).map fun l=>hits ps (kds B) Vc.ms.kind Vc.ms.lone S.mkd l).map V.bl))) D=some (.lst (((Nf B.rs.length).map fun l=>hits ps (kds B) Vc.ms.kind Vc.ms.lone S.mkd l).map V.bl)):=kad
  generalize upd H1 D (.lst (((Nf B.rs.length).map fun l=>hits ps (kds B) Vc.ms.kind Vc.ms.lone S.mkd l).map V.bl))=H2 at *
  refine⟨_,rfl,x,d.qc,dxs,fss,_,rfl,s2 _ _ hx,W.qc.cl,W.qL,l1,o,_,rfl,s2 _ _ ho,
   kjb (xs:=S.ow.map iV) (fun i σ ys H'=>Same H2 H'∧ys=((Nf i).filter fun i=>hits ps (kds B) Vc.ms.kind Vc.ms.lone S.mkd (S.ow.getD i 0)).map iV∧∃v0 v1:Option V,σ=[v0,v1,some (.ref D)])
    ⟨Same.refl _,rfl,none,none,rfl⟩ (by rw[Nb];exact Nq (kar (by omega))) (fun i σ zs H' _ h=>⟨h.1 _ _ (s2 _ _ ho),by rw[h.2.1,Nb];have:=MH (fun i=>hits ps (kds B) Vc.ms.kind Vc.ms.lone S.mkd (S.ow.getD i 0)) (Nf i);simpa using this⟩) ?_ ?_⟩
  ·rintro i y t σ zs H3 hy ⟨s3,rfl,v0,v1,rfl⟩ ht
   obtain⟨ln,eln,rfl⟩:=kba hy
   have hln:=wf.line eln
   have s4:=s3.trans (kal (o:=.tup [V.int (i:Nat),iV ln]) ht)
   refine⟨t,_,rfl,SqT.of kad,rfl,_,_,rfl,_,_,rfl,rfl,?_⟩
   refine⟨_,rfl,_,rfl,D,_,_,_,rfl,rfl,SqL.of (s4 _ _ eD),kaA (v:=.bl (hits ps (kds B) Vc.ms.kind Vc.ms.lone S.mkd ln)) (by rw[Ni,Ni,M4 hln];rfl),_,rfl,?_⟩
   have e1:S.ow.getD i 0=ln:=by rw[Nt,eln];rfl
   have st:=kgg (ps:=ps) (kk:=kds B) (kind:=Vc.ms.kind) (lone:=Vc.ms.lone) (S:=S) (i:=i)
   rw[e1] at st
   cases hh2:hits ps (kds B) Vc.ms.kind Vc.ms.lone S.mkd ln with
   |false=>exact iteF ⟨s4,by rw[st,hh2];simp,_,_,rfl⟩
   |true=>exact iteT ⟨_,rfl,s4,by rw[st,hh2,if_pos rfl,Nl];rfl,_,_,rfl⟩
  ·rintro σ zs H3 ⟨s3,rfl,v0,v1,rfl⟩ D2 hD2
   rw[Nb]
   have s4:=(s2.trans s3).trans (kal (o:=.lst ((abt ps (kds B) Vc.ms.kind Vc.ms.lone S).map iV)) hD2)
   exact k _ D2 s4 (none_of (s2.trans s3) hD2) kad
inductive kfr (CS:Addr) (vs:List V) (H:Hp) (Q:VK) (E_:XK):Prop
 |ct (x g:Addr)(S:Stnd)(is:List Nat)(_:vs=[.ref x, .ref g])(_:StndIs CS H x S)(_:H g=some (.lst (is.map iV)))(_:(∀i∈is,i<S.pr.length))(_:is.length≤720)(_:∀p,H p=none→Q (.ref p) (upd H p (.lst ((qs S.pr is).map V.int)))):kfr CS vs H Q E_
theorem kgu:kat ["standing","pieces"] ["standing","pieces"] (kah kcD):=by ac_rfl
theorem kdZ(W:WB K mg d base):FO P w W 1 d.Ym d.Yn ["standing","pieces"] (kfr d.qc):=by
 exists W.Q6.F,kgu
 ·obtain⟨x,g,S,is,rfl,⟨o,p,mk,⟨dxs,fss,hx,l1,l2,l3,l4,l5⟩,ho,hp,hmk⟩,hg,hi,hl,k⟩:=h
  refine⟨_,kaf (kas (kbp (N:=["piece","standing"]) (CompScope.of (N:=["piece","standing"]) (cap:=[none,some 0]) (kah kcD).names ["standing","pieces"] rfl rfl (by decide +kernel)) rfl (kaz (K:=K) (pv 1)) (fun _ _ _ _=>pgn (i:=0) (show(["piece","standing"]:List Str).Nodup by decide +kernel)) (fun _ _ _ _=>(pe_ix (r:=rIxL K) kaw (kaj (K:=K) (pv 1) rfl) (pv 0) (fun _ _=>rfl))))),?_⟩
  refine⟨_,rfl,g,rfl,⟨_,SqL.of hg⟩,kaL (xs:=is.map iV) (fun j σ ys H'=>H'=H∧ys=(qs S.pr (is.take j)).map V.int∧∃v,σ=[v,some (.ref x)]) ⟨rfl,rfl,none,rfl⟩ ?_ ?_ ?_ ?_⟩
  ·rw[Nb]
   exact Nq (kar (by omega))
  ·rintro j σ ys H' hj ⟨rfl,rfl,_⟩
   exact⟨SqL.of hg,by rw[Nb,ka5,Nv];rw[Nb] at hj;omega⟩
  ·rintro j y σ ys H' hy ⟨rfl,rfl,v,rfl⟩
   obtain⟨n,en,rfl⟩:∃n,is[j]?=some n∧y=iV n:=kba hy
   obtain⟨z,ez⟩:=at_of (hi n (Nj en))
   refine⟨_,rfl,x,d.qc,dxs,fss,_,rfl,hx,W.qc.cl,W.qw,l2,_,rfl,p,_,_,_,rfl,rfl,SqL.of hp,kaA (by rw[Ni,ez];rfl),rfl,?_,_,rfl⟩
   rw[Ms,en]
   simp[qs,ez]
  ·rintro σ ys H' ⟨rfl,rfl,v,rfl⟩ D hD
   rw[Nb,ND]
   exact k D hD
inductive kju (CS:Addr) (vs:List V) (H:Hp) (Q:VK) (E_:XK):Prop
 |ct (x g:Addr)(S:Stnd)(is:List Nat)(_:vs=[.ref x, .ref g])(_:StndIs CS H x S)(_:H g=some (.lst (is.map iV)))(_:(∀i∈is,i<S.pr.length))(_:is.length≤720)(_:∀H',Same H H'→Q (.int (qs S.pr is).sum) H'):kju CS vs H Q E_
theorem kd7:kat ["standing","pieces"] ["standing","pieces"] (kah kbV):=by ac_rfl
theorem kcL(W:WB K mg d base):FO P w W 2 d.Yo d.Yp ["standing","pieces"] (kju d.qc):=by
 exists W.Qi.F,kd7
 ·obtain⟨x,g,S,is,rfl,hS,hg,hi,hl,k⟩:=h
  exists XA,kdZ,W
  refine⟨_,kaf (kas (kan (r:=rSum K) (ka2 rfl) (by rfl) W.B.sum b_sum (kaa (pcl XA hr W.Q6 (kaa (pv 0) (kaa (pv 1) kae))) kae))),?_⟩
  exact⟨_,rfl,_,rfl,x,g,S,is,rfl,hS,hg,hi,hl,fun p hp=>⟨p,_,rfl,SqL.of kad,k _ (kal hp)⟩⟩
theorem XB:kat ["voucher","parents","basket","standing","marks","pieces"] ["voucher","parents","basket","standing"] (kah kdc):=by ac_rfl
theorem kgF(W:WB K mg d base):FO P w W 4 d.X5 d.X6 ["voucher","parents","basket","standing"] (kls K d):=by
 exists W.Ve.F,XB
 ·obtain⟨v,a,b,x,Vc,ps,B,S,rfl,hV,hA,hB,hS,wf,vo,k⟩:=h
  obtain⟨mA,dxv,fsv,hv,lvm,_,hM,hh,htb⟩:=id hV
  obtain⟨dxm,fsm,hm,m1,m2,m3,m4,m5,m6⟩:=id hM
  obtain⟨l,ls,⟨dxb,fsb,hb,lb1,lb2,lb3⟩,hl,hL⟩:=id hB
  exists XC,kip,W
  exists Qr,kcL,W
  exists hr2,2,hr,0
  refine⟨_,kab (psl (i:=4) XB.nd (kaj (K:=K) (pv 0) rfl))
   (kab (kbG (ps_if (PW.pt (ka6 (kaN (kaj (K:=K) (pv 4) rfl)) (kaX (kcv (kaN (kaj (K:=K) (pv 2) rfl)))))) (kaf (kas kbQ)) (kau)))
   (kab (psl (i:=5) XB.nd (pcl XC hr W.Q2 (kaa (pv 0) (kaa (pv 1) (kaa (pv 2) (kaa (pv 3) kae))))))
   (kab (ps_if (kap op_eq (kan (r:=kaE K) kao (by rfl) W.B.len b_len (kaa (pv 5) kae)) kag (kav _)) (kaf (kas kbQ)) (kau))
   (kab (ps_if (kap op_lt (pcl Qr hr2 W.Qi (kaa (pv 3) (kaa (pv 5) kae))) (kaj (K:=K) (pv 4) rfl) (kav _)) (kaf (kas kbQ)) (kau))
   (kaf (kas kbd)))))),?_⟩
  have np:=wf.np
  have habl:∀i∈abt ps (kds B) Vc.ms.kind Vc.ms.lone S,i<S.pr.length:=fun i hi=>by rw[wf.lp];exact kg8 hi
  have lab:(abt ps (kds B) Vc.ms.kind Vc.ms.lone S).length≤720:=Nk (kdV _ _ _ _ _) np
  refine⟨_,rfl,v,clsOf d Vc.so,dxv,fsv,_,rfl,hv,cl_of W hh,na_of W hh,lvm,?_⟩
  refine⟨fun σ' H'=>σ'=[some (.ref v),some (.ref a),some (.ref b),some (.ref x),some (.ref mA),none]∧H'=H∧(Vc.ms.member&& !B.m)=false,⟨_,rfl,mA,d.qh,dxm,fsm,_,rfl,hm,W.qh.cl,W.VJ,m4,Vc.ms.member,rfl,?_⟩,?_⟩
  ·cases e:Vc.ms.member with
   |false=>exact iteF (iteF ⟨rfl,rfl,rfl⟩)
   | true=>
    refine iteT ⟨_,rfl,b,d.qd,dxb,fsb,_,rfl,hb,W.qd.cl,W.QE,lb3,B.m,rfl,?_⟩
    cases e2:B.m with
    |true=>exact iteF ⟨rfl,rfl,rfl⟩
    |false=>
     refine iteT ?_
     have z:=k H (Same.refl _)
     unfold hindM at z
     rw[e,e2,if_pos (by decide)] at z
     exact z
  ·rintro σ' H' ⟨rfl,rfl,hh2⟩
   refine⟨_,rfl,_,rfl,_,rfl,_,rfl,v,a,b,x,Vc,ps,B,S,rfl,hV,hA,hB,hS,wf,vo,fun H1 pa s1 f1 h1=>?_⟩
   refine⟨_,rfl,pa,_,rfl, .inl (SqL.of h1),rfl,_,rfl,?_⟩
   have ed:decide (V.int (((abt ps (kds B) Vc.ms.kind Vc.ms.lone S).map iV).length:Nat)=V.int 0)=decide ((abt ps (kds B) Vc.ms.kind Vc.ms.lone S).length=0):=by
    rw[Nb]
    by_cases h0:(abt ps (kds B) Vc.ms.kind Vc.ms.lone S).length=0
    ·rw[h0]
     rfl
    ·rw[decide_eq_false h0]
     refine decide_eq_false fun z=>h0 ?_
     injection z with z
     omega
   show if decide (V.int (((abt ps (kds B) Vc.ms.kind Vc.ms.lone S).map iV).length:Nat)=V.int 0)=true then _ else _
   rw[ed]
   by_cases h0:(abt ps (kds B) Vc.ms.kind Vc.ms.lone S).length=0
   ·rw[decide_eq_true h0]
    refine iteT ?_
    have z:=k H1 s1
    unfold hindM at z
    rw[hh2,if_neg (by decide),if_pos h0] at z
    exact z
   ·rw[decide_eq_false h0]
    refine iteF ⟨_,rfl,_,rfl,x,pa,S,_,rfl,hS.same s1,h1,habl,lab,fun H2 s2=>?_⟩
    have z:=k H2 (s1.trans s2)
    unfold hindM at z
    rw[hh2,if_neg (by decide),if_neg h0] at z
    refine⟨_,rfl,mA,d.qh,dxm,fsm,_,rfl,(s1.trans s2) _ _ hm,W.qh.cl,W.VI,m2,_,_,rfl,rfl,_,rfl,?_⟩
    by_cases h2:(qs S.pr (abt ps (kds B) Vc.ms.kind Vc.ms.lone S)).sum<Vc.ms.needs
    ·rw[if_pos h2] at z
     rw[decide_eq_true h2]
     exact iteT z
    ·rw[if_neg h2] at z
     rw[decide_eq_false h2]
     exact iteF z
inductive kh6 (vs:List V) (H:Hp) (Q:VK) (E_:XK):Prop
 |ct (m:Option Int)(n:Int)(_:vs=[oV m, .int n])(_:Q (.int (atM m n)) H):kh6 vs H Q E_
theorem kiT:kat ["most","number"] ["most","number"] (kah keC):=by ac_rfl
theorem ki1(W:WB K mg d base):FO P w W 1 d.Yq d.Yr ["most","number"] kh6:=by
 exists W.Vk.F,kiT
 ·obtain⟨m,n,rfl,k⟩:=h
  refine⟨_,kab (ps_if (kap kfu (pv 0) kbd (kav _)) (kaf (kas (pv 1))) (kau))
   (kaf (kas (kan (kcB rfl) (by rfl) W.B.min b_min (kaa (pv 0) (kaa (pv 1) kae))))),?_⟩
  cases m with
  |none=>
   refine⟨_,rfl,rfl,_,rfl,?_⟩
   show if decide (V.non=V.non)=true then _ else _
   rw[show decide (V.non=V.non)=true by simp]
   exact iteT ⟨_,rfl,k⟩
  | some z=>
   refine⟨_,rfl,rfl,_,rfl,?_⟩
   show if decide (V.int z=V.non)=true then _ else _
   rw[show decide (V.int z=V.non)=false by simp]
   refine iteF ⟨_,rfl,_,rfl,_,_,rfl,?_⟩
   have e:atM (some z) n=if n<z then n else z:=by
    show min z n=_
    split <;> omega
   rw[e] at k
   exact k
inductive kgq (d:D) (vs:List V) (H:Hp) (Q:VK) (E_:XK):Prop
 |ct (v x:Addr)(V:Vch)(S:Stnd)(_:vs=[.ref v, .ref x])(_:VchIs d H v V)(_:StndIs d.qc H x S)(_:Q (.int (if kbI V.so=true then atM V.ms.most S.cg else 0)) H):kgq d vs H Q E_
theorem kdl:kat ["voucher","standing"] ["voucher","standing"] (kah kbz):=by ac_rfl
theorem kcg(W:WB K mg d base):FO P w W 2 d.Yd d.Ye ["voucher","standing"] (kgq d):=by
 exists W.Q4.F,kdl
 ·obtain⟨v,x,Vc,S,rfl,⟨mA,dxv,fsv,hv,lvm,_,⟨dxm,fsm,hm,m1,m2,m3,m4,m5,m6⟩,hh,htb⟩,⟨o,p,mk,⟨dxs,fss,hx,l1,l2,l3,l4,l5⟩,ho,hp,hmk⟩,k⟩:=h
  exists Uy,ki1,W
  refine⟨_,kab (ps_if (kaN (kan (r:=rIsi K) kaK (by rfl) W.B.isi b_isi (kaa (pv 0) (kaa (kbC (v:=.ref d.qm) (by rfl) W.VR rfl) kae)))) (kaf (kas (pcl Uy hr W.Vk (kaa (kaj (K:=K) (kaj (K:=K) (pv 0) rfl) rfl) (kaa (kaj (K:=K) (pv 1) rfl) kae))))) (kau))
   (kaf (kas kag)),?_⟩
  have I:=kiB W hh
  refine⟨_,rfl,_,_,_,_,rfl, .inr ⟨_,rfl⟩,TyOf.ins hv (cl_of W hh) I.ha I.hn I.ht I.hm,kd2 W hh,_,rfl,?_⟩
  cases e:kbI Vc.so with
  |false=>
   rw[e,if_neg Np] at k
   exact iteF k
  |true=>
   rw[e,if_pos rfl] at k
   exact iteT ⟨_,rfl,v,clsOf d Vc.so,dxv,fsv,_,rfl,hv,cl_of W hh,na_of W hh,lvm,mA,d.qh,dxm,fsm,_,rfl,hm,W.qh.cl,W.QA,m3,_,rfl,x,d.qc,dxs,fss,_,rfl,hx,W.qc.cl,W.qY,l3,_,_,rfl,k⟩
noncomputable def kvOf(G:List (Nat×List Nat))(gl:List Addr):List (Key×V):=NI (fun p r=>(Sum.inl (p.1:Int),V.ref r)) G gl
theorem kiA:∀{G:List (Nat×List Nat)}{gl:List Addr},gl.length=G.length→(kvOf G gl).map Prod.snd=gl.map V.ref
 |[],[],_=>rfl
 |[],r::gl,h=>by cases h
 |p::G,[],h=>by cases h
 |p::G,r::gl,h=>by
  have ih:=kiA (G:=G) (gl:=gl) (by simpa using h)
  show V.ref r::(kvOf G gl).map Prod.snd=V.ref r::gl.map V.ref
  rw[ih]
theorem khD:∀{G:List (Nat×List Nat)}{gl:List Addr}(o a:Nat),gl.length=G.length→
  (atK (kvOf G gl) (Sum.inl (o:Int))=none∧ins G o a=G++[(o,[a])])∨∃(j:Nat)(g:List Nat)(r:Addr),G[j]?=some (o,g)∧gl[j]?=some r∧atK (kvOf G gl) (Sum.inl (o:Int))=some (.ref r)∧ins G o a=G.set j (o,g++[a])
 |[],gl,o,a,h=>.inl ⟨rfl,rfl⟩
 |(l,g)::G,[],o,a,h=>by cases h
 | (l,g)::G,r::gl,o,a,h=>by
  have hl:gl.length=G.length:=by simpa using h
  unfold ins
  by_cases e:l=o
  ·subst e
   exact .inr ⟨0,g,r,rfl,rfl,by simp[kvOf,atK],by rw[if_pos rfl];rfl⟩
  ·rw[if_neg e]
   have e':¬((l:Int)=(o:Int)):=fun z=>e (by omega)
   have ea:atK (kvOf ((l,g)::G) (r::gl)) (Sum.inl (o:Int))=atK (kvOf G gl) (Sum.inl (o:Int)):=by
    simp[kvOf,atK,M9,e']
   rcases khD o a hl with⟨h1,h2⟩|⟨j,g',r',h1,h2,h3,h4⟩
   ·exact .inl ⟨by rw[ea];exact h1,by rw[h2];rfl⟩
   ·exact .inr ⟨j+1,g',r',by simpa using h1,by simpa using h2,by rw[ea];exact h3,by rw[h4];rfl⟩
theorem kk4{G:List (Nat×List Nat)}{gl:List Addr}{j o:Nat}{g g':List Nat}(h:G[j]?=some (o,g)):kvOf (G.set j (o,g')) gl=kvOf G gl:=by
 unfold kvOf
 apply E9
 intro i
 rw[Ee,Ee]
 by_cases e:j=i
 ·subst e
  have hj:=at_lt h
  rw[Em hj,h]
  cases gl[j]? <;> rfl
 ·rw[En e]
theorem kkb{G:List (Nat×List Nat)}{gl:List Addr}{o:Nat}{g:List Nat}{e:Addr}(h:gl.length=G.length):kvOf (G++[(o,g)]) (gl++[e])=kvOf G gl++[(Sum.inl (o:Int), .ref e)]:=by
 unfold kvOf
 rw[List.zipWith_append h.symm]
 rfl
structure Ptd (H H':Hp) (dd:Addr) (gl:List Addr) (G:List (Nat×List Nat)):Prop where
 sm:Same H H'
 nd:gl.Nodup
 fg:∀r∈gl,H r=none∧r≠dd
 dk:H' dd=some (.dK (kvOf G gl))
 ls:P2 (fun r p=>H' r=some (.lst (p.2.map iV))) gl G
theorem Ptd.more{H H':Hp}{dd e:Addr}{gl:List Addr}{G:List (Nat×List Nat)}(h:Ptd H H' dd gl G)(fd:H dd=none)(he:H' e=none){o a:Nat}:
  Ptd H (upd (upd (upd H' e (.lst [])) dd (.dK (kvOf G gl++[(Sum.inl (o:Int), .ref e)]))) e (.lst [iV a])) dd (gl++[e]) (G++[(o,[a])]):=by
 have e0:H e=none:=none_of h.sm he
 have ned:e≠dd:=fun z=>by rw[z,h.dk] at he;cases he
 refine⟨kaq e0 (kaq fd (h.sm.trans (kal he)) (kc9 (nx h.dk)))  (kc9 (nx kad)),?_,fun r hr=>?_,?_,?_⟩
 ·refine Eg.mpr ⟨h.nd,by simp,fun x hx y hy z=>?_⟩
  rw[Mi] at hy
  subst hy z
  obtain⟨i,hi⟩:=Mp.mp hx
  obtain⟨p,_,hp⟩:=h.ls.at hi
  rw[hp] at he
  cases he
 ·rcases NR.mp hr with hr|hr
  ·exact h.fg r hr
  ·rw[Mi] at hr
   subst hr
   exact⟨e0,ned⟩
 ·rw[kak ned.symm,kad,kkb h.ls.len]
 ·refine P2.snoc (P2.of h.ls.len fun i r p e1 e2=>?_) kad
  have hp:=h.ls.get e1 e2
  rw[kak (kai hp he),kak (h.fg r (Nj e1)).2,kak (kai hp he)]
  exact hp
theorem Ptd.put{H H':Hp}{dd e r:Addr}{gl:List Addr}{G:List (Nat×List Nat)}(h:Ptd H H' dd gl G)(he:H' e=none){j o a:Nat}{g:List Nat}(h1:G[j]?=some (o,g))(h2:gl[j]?=some r):
  Ptd H (upd (upd H' e (.lst [])) r (.lst (g.map iV++[iV a]))) dd gl (G.set j (o,g++[a])):=by
 have hr:=h.fg r (Nj h2)
 have hrv:=h.ls.get h2 h1
 refine⟨kaq hr.1 (h.sm.trans (kal he)),h.nd,h.fg,?_,P2.of (by rw[ME];exact h.ls.len) fun i r' p e1 e2=>?_⟩
 ·rw[kak hr.2.symm,kak (kai h.dk he),h.dk,kk4 h1]
 ·by_cases eji:j=i
  ·subst eji
   rw[h2] at e1
   cases e1
   rw[Em (at_lt h1)] at e2
   cases e2
   rw[kad,Nl]
   rfl
  ·rw[En eji] at e2
   have hp:=h.ls.get e1 e2
   have hne:r'≠r:=fun z=>by
    subst z
    exact eji ((List.getElem?_inj (at_lt h2) h.nd).mp (h2.trans e1.symm))
   rw[kak hne,kak (kai hp he)]
   exact hp
inductive khX (CS:Addr) (vs:List V) (H:Hp) (Q:VK) (E_:XK):Prop
 |ct (x pa:Addr)(S:Stnd)(is:List Nat)(_:vs=[.ref x, .ref pa])(_:StndIs CS H x S)(_:H pa=some (.lst (is.map iV)))(_:(∀i∈is,i<S.ow.length))(_:is.length≤720)(_:∀(H':Hp)(p:Addr)(gl:List Addr),Same H H'→H p=none→H' p=some (.lst (gl.map V.ref))→P2 (fun r g=>H' r=some (.lst (g.map iV))) gl ((parted (fun i=>S.ow.getD i 0) is).map Prod.snd)→(∀r∈gl,H r=none)→Q (.ref p) H'):khX CS vs H Q E_
theorem P2.mapR{α β γ:Type}{R: α→γ→Prop}{f: β→γ}{as:List α}{bs:List β}(h:P2 (fun a b=>R a (f b)) as bs):P2 R as (bs.map f):=by
 induction h with
 |nil=>exact .nil
 |cons r t ih=>exact .cons r ih
theorem XD:kat ["standing","pieces","by_line","piece"] ["standing","pieces"] (kah kbL):=by ac_rfl
theorem kdQ(W:WB K mg d base):FO P w W 1 d.Yh d.Yi ["standing","pieces"] (khX d.qc):=by
 exists W.Vi.F,XD
 ·obtain⟨x,pa,S,is,rfl,⟨o,p,mk,⟨dxs,fss,hx,l1,l2,l3,l4,l5⟩,ho,hp,hmk⟩,hpa,hi,hl,k⟩:=h
  refine⟨_,kab (psl (i:=2) XD.nd kkP)
   (kab (kaR PassesOwn.never rfl (kaz (K:=K) (pv 1)) (pgn (i:=3) XD.nd)
   (kaf (kaM (pe_bm NQ N7 N8 kaU (pe_bm DE DD PySem.F.type_dict_setdefault kf6 (pv 2) (kaa (pe_ix (r:=rIxL K) kaw (kaj (K:=K) (pv 0) rfl) (pv 3) (fun _ _=>rfl)) (kaa (kaT kae) kae))) (kaa (pv 3) kae)))))
   (kaf (kas (khv rfl (by rfl) W.B.list (pv 2))))),?_⟩
  refine fun dd hd=>?_
  have s1:=kal (o:=.dK []) hd
  refine⟨_,rfl,pa,rfl,⟨_,SqL.of (s1 _ _ hpa)⟩,kaZ (K:=K) (a:=pa) (xs:=is.map iV) (fun i σ H'=>(∃v3:Option V,σ=[some (.ref x),some (.ref pa),some (.ref dd),v3])∧∃gl,Ptd H H' dd gl (parted (fun i=>S.ow.getD i 0) (is.take i)))
   ⟨⟨none,rfl⟩,[],s1,by simp,fun r hr=>by simp at hr,kad, .nil⟩ (fun i σ H' _ h=>SqL.of (h.2.choose_spec.sm _ _ hpa)) ?_ ?_⟩
  ·rintro i y σ H1 hy ⟨⟨v3,rfl⟩,gl,Z⟩
   obtain⟨a,ea,rfl⟩:=kba hy
   have hil:=at_lt ea
   obtain⟨ln,eln⟩:=at_of (hi a (Nj ea))
   have eg:S.ow.getD a 0=ln:=by rw[Nt,eln];rfl
   have enext:parted (fun i=>S.ow.getD i 0) (is.take (i+1))=ins (parted (fun i=>S.ow.getD i 0) (is.take i)) ln a:=by
    rw[kbJ ea,keK,eg]
   have lenG:=kft (fun i=>S.ow.getD i 0) (is.take i)
   rw[Nv] at lenG
   have lenK:(kvOf (parted (fun i=>S.ow.getD i 0) (is.take i)) gl).length<sizeLine:=by
    refine kar ?_
    unfold kvOf
    rw[MQ]
    omega
   refine⟨_,rfl, .inr (.inr (.inl ⟨rfl, .inl ⟨_,Z.dk⟩⟩)),_,rfl,x,d.qc,dxs,fss,_,rfl,Z.sm _ _ hx,W.qc.cl,W.qL,l1,_,rfl,o,_,_,_,rfl,rfl,SqL.of (Z.sm _ _ ho),kaA (v:=.int (ln:Nat)) (by rw[Ni,eln];rfl),by decide,fun e he=>?_⟩
   have ned:dd≠e:=kai Z.dk he
   refine⟨dd,kvOf (parted (fun i=>S.ow.getD i 0) (is.take i)) gl,(ln:Nat), .ref e,rfl,rfl,by rw[kak ned];exact Z.dk,lenK,fun v hv=>?_,fun hn=>?_⟩
   ·rcases khD (G:=parted (fun i=>S.ow.getD i 0) (is.take i)) ln a Z.ls.len with⟨h1,_⟩|⟨j,g,r,h1,h2,h3,h4⟩
    ·rw[h1] at hv
     cases hv
    ·rw[h3] at hv
     cases hv
     have hrv:=Z.ls.get h2 h1
     have gl20:g.length≤720:=by
      have eg':=(kcS (fun i=>S.ow.getD i 0) (is.take i)).gs ln g (Nj h1)
      rw[eg']
      refine Nk (MH _ _) ?_
      rw[Nv]
      omega
     have hr2:(upd H1 e (.lst [])) r=some (.lst (g.map iV)):=by rw[kak (kai hrv he)];exact hrv
     refine⟨.inl ⟨rfl,_,SqL.of hr2⟩,_,rfl,r,_,_,rfl,rfl,hr2,kar (by rw[Nb];omega),⟨_,rfl⟩,gl,?_⟩
     rw[enext,h4]
     exact Z.put he h1 h2
   ·rcases khD (G:=parted (fun i=>S.ow.getD i 0) (is.take i)) ln a Z.ls.len with⟨_,h4⟩|⟨j,g,r,h1,h2,h3,h4⟩
    ·have he2:(upd (upd H1 e (.lst [])) dd (.dK (kvOf (parted (fun i=>S.ow.getD i 0) (is.take i)) gl++[(Sum.inl ((ln:Nat):Int), .ref e)]))) e=some (.lst []):=by rw[kak ned.symm,kad]
     refine⟨.inl ⟨rfl,_,SqL.of he2⟩,_,rfl,e,[],_,rfl,rfl,he2,by decide,⟨_,rfl⟩,gl++[e],?_⟩
     rw[enext,h4]
     exact Z.more hd he
    ·rw[h3] at hn
     cases hn
  ·rintro σ H1 ⟨⟨v3,rfl⟩,gl,Z⟩
   rw[Nb,ND] at Z
   refine⟨_,rfl,dd,_,rfl,Z.dk,fun l hl2=>?_⟩
   rw[kiA Z.ls.len]
   refine k _ l gl (Z.sm.trans (kal hl2)) (none_of Z.sm hl2) kad (P2.mapR (f:=Prod.snd) (R:=fun r g=>(upd H1 l (.lst (gl.map V.ref))) r=some (.lst (g.map iV))) (Z.ls.mono fun r p h=>kal hl2 _ _ h)) fun r hr=>(Z.fg r hr).1
inductive kgp (d:D) (vs:List V) (H:Hp) (Q:VK) (E_:XK):Prop
 |ct (x pa:Addr)(S:Stnd)(is:List Nat)(m:Nat)(_:vs=[.ref x, .ref pa, .int m])(_:StndIs d.qc H x S)(_:H pa=some (.lst (is.map iV)))(_:is.Pairwise (· < ·))(_:(∀i∈is,i<S.pr.length))(_:is.length<64)(_:2≤m)(_:m≤20)(_:Tbs d H)(_:∀(H':Hp)(p:Addr)(gl:List Addr),Same H H'→H p=none→H' p=some (.lst (gl.map V.ref))→P2 (fun r g=>H' r=some (.lst (g.map iV))) gl (grp m (fallP S.pr is))→(∀r∈gl,H r=none)→Q (.ref p) H'):kgp d vs H Q E_
theorem kmi{pr:List Int}{is:List Nat}{ms:List Int}(hs:is.Pairwise (· < ·))(hp:ms.Perm (is.map fun(i:Nat)=>(i:Int)))(hk:ms.Pairwise fun a b=> -(pr.getD a.toNat 0)< -(pr.getD b.toNat 0)∨(-(pr.getD a.toNat 0)= -(pr.getD b.toNat 0)∧a<b)):ms.map V.int=(fallP pr is).map iV:=by
 have e:ms=(ms.map Int.toNat).map fun(i:Nat)=>(i:Int):=by
  rw[NH]
  conv=>lhs;rw[←List.map_id ms]
  refine N2 fun z hz=>?_
  obtain⟨i,_,rfl⟩:=Ny.mp (hp.mem_iff.mp hz)
  simp
 have hp2:(ms.map Int.toNat).Perm is:=by
  have:=hp.map Int.toNat
  rw[NH] at this
  have e2:is.map (Int.toNat∘fun(i:Nat)=>(i:Int))=is:=by
   conv=>rhs;rw[←List.map_id is]
   exact N2 fun i _=>rfl
  rwa [e2] at this
 have hk2:(ms.map Int.toNat).Pairwise (befP pr):=by
  rw[Eh]
  refine hk.imp_of_mem fun {a b} ha hb h=>?_
  obtain⟨i,_,rfl⟩:=Ny.mp (hp.mem_iff.mp ha)
  obtain⟨j,_,rfl⟩:=Ny.mp (hp.mem_iff.mp hb)
  unfold befP
  simp only[Int.toNat_natCast] at h⊢
  omega
 rw[e,ki8 hs hp2 hk2,NH]
 rfl
theorem VV:kat ["standing","pieces","many","falling"] ["standing","pieces","many"] (kah kaH):=by ac_rfl
theorem kdR(W:WB K mg d base):FO P w W 1 d.Yj d.QS ["standing","pieces","many"] (kgp d):=by
 refine FunD.okC W.Q5.F VV (fun vs H Q E h=>?_) (fun A outer s H vs Q E hr h=>?_)
 ·obtain⟨x,pa,S,is,m,rfl,_⟩:=h
  rfl
 ·obtain⟨x,pa,S,is,m,rfl,hS,hpa,hs,hi,h64,hm2,hm20,htb,k⟩:=h
  obtain⟨o,p,mk,⟨dxs,fss,hx,l1,l2,l3,l4,l5⟩,ho,hp,hmk⟩:=id hS
  refine⟨_,kab (psl (i:=3) VV.nd (kiW (N:=["piece","standing"]) (cap:=[some 0]) (pv 1) ⟨CompScope.of (N:=["piece","standing"]) (cap:=[none,some 0]) (kah kaH).names ["standing","pieces","many","falling"] rfl rfl (by decide +kernel),rfl,rfl,rfl,rfl,by decide +kernel⟩ rfl hr.depth W.code_falling_groups W.ck_falling_groups W.blt (by rfl) W.B.sorted (fun _ _ _ _ _=>rfl) (fun _ _ _ _ _=>(pe_un khO (pe_ix (r:=rIxL K) kaw (kaj (K:=K) (pv 1) rfl) (pv 0) (fun _ _=>rfl)))) (by rfl)))
   (kaf (kas (kbp (N:=["start","falling","many"]) (CompScope.of (N:=["start","falling","many"]) (cap:=[none,some 3,some 2]) (kah kaH).names ["standing","pieces","many","falling"] rfl rfl (by decide +kernel)) rfl (kiV rfl W.B.range (kaa kag (kaa (pe_op kbR (pe_op kcK (kan (r:=kaE K) kao (by rfl) W.B.len b_len (kaa (pv 3) kae)) (pv 2)) kag) (kaa (pv 2) kae)))) (fun _ _ _ _=>pgn (i:=0) (show(["start","falling","many"]:List Str).Nodup by decide +kernel)) (fun _ _ _ _=>(kf0 (r:=rSlL K) khj (pv 1) (kfZ (pv 0)) (kfZ (pe_op kbR (pv 0) (pv 2)))))))),?_⟩
  have htb':TbAt d.tP_falling_groups H:=htb
  obtain⟨qs0,eT,_⟩:=id htb'
  have npT:∀{b:Addr}{u:HO},H b=some u→(∀ps,u≠.tbl ps)→b≠d.tP_falling_groups:=fun {b u} e hn z=>by
   rw[z,eT] at e
   cases e
   exact hn _ rfl
  have ei:is.map iV=(is.map fun(i:Nat)=>(i:Int)).map V.int:=by rw[NH];rfl
  refine⟨_,rfl,pa,is.map fun(i:Nat)=>(i:Int),fun a=> -(S.pr.getD a.toNat 0),rfl,SqL.of (by rw[←ei];exact hpa),by rw[Nb];exact h64,?_,htb',npT hpa (fun ps z=>by cases z),fun H2 G n hn=>?_,fun H2 l ms G f1 f2 hpm hpw=>?_⟩
  ·rw[Eh]
   exact hs.imp fun {a b} h=>by omega
  ·obtain⟨i,hin,rfl⟩:=Ny.mp hn
   obtain⟨z,ez⟩:=at_of (hi i hin)
   have hx2:=G.kp _ _ (npT hx (fun ps z=>by cases z)) hx
   have hp2:=G.kp _ _ (npT hp (fun ps z=>by cases z)) hp
   refine⟨_,rfl,x,d.qc,dxs,fss,_,rfl,hx2,W.qc.cl,W.qw,l2,_,rfl,p,_,_,_,rfl,rfl,SqL.of hp2,kaA (v:=.int z) (by rw[Ni,ez];rfl),_,rfl,?_,rfl⟩
   show V.int (-z)=V.int (-(S.pr.getD ((i:Int)).toNat 0))
   rw[Int.toNat_natCast,Nt,ez]
   rfl
  have s2:=G.same htb'
  rw[kmi hs hpm hpw]
  have lf:(fallP S.pr is).length=is.length:=(kbD S.pr is).length_eq
  have s3:=s2.trans (kal (o:=.lst ((fallP S.pr is).map iV)) f2)
  have el:(upd H2 l (.lst ((fallP S.pr is).map iV))) l=some (.lst ((fallP S.pr is).map iV)):=kad
  generalize upd H2 l (.lst ((fallP S.pr is).map iV))=H3 at *
  have ecnt:(Builtin.Range.rangeSize 0 ((((fallP S.pr is).map iV).length:Int)-(m:Int)+1) (m:Int)).toNat=(fallP S.pr is).length/m:=by
   rw[Nb]
   exact khk (by omega)
  have lg:=khE m (fallP S.pr is)
  refine⟨_,rfl,l,_,rfl, .inl (SqL.of el),_,rfl,_,_,rfl,rfl,_,_,rfl,rfl,_,rfl,0,_,_,rfl,by omega,?_,by omega,by omega,?_⟩
  ·rw[Nb]
   omega
  rw[ecnt]
  refine kky (n:=(fallP S.pr is).length/m) (fun i σ ys H'=>Same H3 H'∧(∃v0:Option V,σ=[v0,some (.ref l),some (.int m)])∧∃gl,ys=gl.map V.ref∧P2 (fun r g=>H' r=some (.lst (g.map iV))) gl ((grp m (fallP S.pr is)).take i)∧∀r∈gl,H r=none)
   ⟨Same.refl _,⟨none,rfl⟩,[],rfl, .nil,fun r hr=>by simp at hr⟩ ?_ ?_ ?_ ?_
  ·have:(grp m (fallP S.pr is)).length=(fallP S.pr is).length/m:=by simp[grp]
   exact Nq (kar (by omega))
  ·rintro i σ ys H' hi' ⟨_,_,gl,rfl,hP,_⟩
   rw[Nb,hP.len,Nv]
   have:(grp m (fallP S.pr is)).length=(fallP S.pr is).length/m:=by simp[grp]
   omega
  ·rintro i σ ys H' hi' ⟨s4,⟨v0,rfl⟩,gl,rfl,hP,hfr⟩
   have eg:(grp m (fallP S.pr is))[i]?=some (((fallP S.pr is).drop (i*m)).take m):=by
    unfold grp
    rw[Ni,M4 hi']
    rfl
   have ecut:cutV ((fallP S.pr is).map iV) (some (0+(i:Int)*(m:Int))) (some (0+(i:Int)*(m:Int)+(m:Int)))=(((fallP S.pr is).drop (i*m)).take m).map iV:=by
    have:=kmr ((fallP S.pr is).map iV) (i*m) m
    rw[show(0:Int)+(i:Int)*(m:Int)=((i*m:Nat):Int) by rw[Int.zero_add,Int.natCast_mul],show((i*m:Nat):Int)+(m:Int)=((i*m+m:Nat):Int) by rw[Int.natCast_add],this,M8,E8]
   refine⟨_,rfl,_,rfl,_,rfl,_,rfl,_,rfl,_,_,rfl,rfl,_,rfl,l,_,rfl,SqL.of (s4 _ _ el),fun r hr=>?_⟩
   refine⟨s4.trans (kal hr),⟨_,rfl⟩,gl++[r],by rw[Nl];rfl,?_,fun r' hr'=>?_⟩
   ·rw[kbJ eg,ecut]
    exact P2.snoc (hP.mono fun r' g e=>kal hr _ _ e) kad
   ·rcases NR.mp hr' with h|h
    ·exact hfr r' h
    ·rw[Mi] at h
     rw[h]
     exact(s3.trans s4).free hr
  ·rintro σ ys H' ⟨s4,⟨v0,rfl⟩,gl,rfl,hP,hfr⟩ D hD
   have el2:(grp m (fallP S.pr is)).length=(fallP S.pr is).length/m:=by simp[grp]
   rw[Mg (by omega)] at hP
   exact k _ D gl ((s3.trans s4).trans (kal hD)) ((s3.trans s4).free hD) kad (hP.mono fun r g e=>kal hD _ _ e) hfr
theorem QI:kat ["voucher","standing","pieces","groups","lasts"] ["voucher","standing","pieces"] (kah kbk):=by ac_rfl
theorem kfi(W:WB K mg d base):FO P w W 3 d.Yf d.Yg ["voucher","standing","pieces"] (khT d):=by
 exists W.Vh.F,QI
 ·obtain⟨v,x,pa,⟨so,ms⟩,ps,B,S,rfl,⟨mA,dxv,fsv,hv,lvm,hso,hM,hh,htb⟩,hS,hpa,wf,vo,k⟩:=h
  exists Qr,kcL,W
  exists Uz,kdQ,W
  exists VW,kdR,W
  exists hr1,1,hr,0
  refine⟨_,kab (ps_if (kaN (kan (r:=rIsi K) kaK (by rfl) W.B.isi b_isi (kaa (pv 0) (kaa (kbC (v:=.ref d.c_Off) (by rfl) W.g_Off rfl) kae)))) (kaf (kas (kaT (kaa (kb5 (kaa (kan (kcB rfl) (by rfl) W.B.min b_min (kaa (kaj (K:=K) (pv 0) rfl) (kaa (pcl Qr hr W.Qi (kaa (pv 1) (kaa (pv 2) kae))) kae))) (kaa (pv 2) kae))) kae)))) (kau))
   (kab (ps_if (kaN (kan (r:=rIsi K) kaK (by rfl) W.B.isi b_isi (kaa (pv 0) (kaa (kbC (v:=.ref d.qi) (by rfl) W.Xd rfl) kae)))) (kab (psl (i:=3) QI.nd (kik (kdp (kaN (kaj (K:=K) (pv 0) rfl)) (pcl Uz hr1 W.Vi (kaa (pv 1) (kaa (pv 2) kae))) (kaT (kaa (pv 2) kae)))))
   (kaf (kas (kbp (N:=["group","standing","voucher"]) (CompScope.of (N:=["group","standing","voucher"]) (cap:=[none,some 1,some 0]) (kah kbk).names ["voucher","standing","pieces","groups","lasts"] rfl rfl (by decide +kernel)) rfl (kaz (K:=K) (pv 3)) (fun _ _ _ _=>pgn (i:=0) (show(["group","standing","voucher"]:List Str).Nodup by decide +kernel)) (fun _ _ _ _=>(kb5 (kaa (pe_op kaB (pe_op kb7 (pcl Qr hr W.Qi (kaa (pv 1) (kaa (pv 0) kae))) (kaj (K:=K) (pv 2) rfl)) kag) (kaa (pv 0) kae)))))))) (kau))
   (kab (ps_if (kaN (kan (r:=rIsi K) kaK (by rfl) W.B.isi b_isi (kaa (pv 0) (kaa (kbC (v:=.ref d.ql) (by rfl) W.Xg rfl) kae)))) (kab (kcs (N:=["group"]) (CompScope.plain rfl (by decide +kernel) (by decide +kernel) (by decide +kernel) (nd1 _)) rfl (kaz (K:=K) (pcl VW hr1 W.Q5 (kaa (pv 1) (kaa (pv 2) (kaa (kaj (K:=K) (pv 0) rfl) kae))))) (fun _ _ _ _=>pgn (i:=0) (nd1 _)) (fun _ _ _ _=>(pe_ix (r:=rIxL K) kaw (pv 0) (pe_un khO kag) (fun _ _=>rfl))) (pgn (i:=4) QI.nd))
   (kaf (kas (kbp (N:=["last","standing"]) (CompScope.of (N:=["last","standing"]) (cap:=[none,some 1]) (kah kbk).names ["voucher","standing","pieces","groups","lasts"] rfl rfl (by decide +kernel)) rfl (kaz (K:=K) (pv 4)) (fun _ _ _ _=>pgn (i:=0) (show(["last","standing"]:List Str).Nodup by decide +kernel)) (fun _ _ _ _=>(kb5 (kaa (pe_ix (r:=rIxL K) kaw (kaj (K:=K) (pv 1) rfl) (pv 0) (fun _ _=>rfl)) (kaa (kaT (kaa (pv 0) kae)) kae)))))))) (kau))
   (kab (ps_if (kaN (kan (r:=rIsi K) kaK (by rfl) W.B.isi b_isi (kaa (pv 0) (kaa (kbC (v:=.ref d.qj) (by rfl) W.VP rfl) kae)))) (kab (psl (i:=3) QI.nd (pcl VW hr1 W.Q5 (kaa (pv 1) (kaa (pv 2) (kaa (kaj (K:=K) (pv 0) rfl) kae)))))
   (kaf (kas (kbp (N:=["group","standing","voucher"]) (CompScope.of (N:=["group","standing","voucher"]) (cap:=[none,some 1,some 0]) (kah kbk).names ["voucher","standing","pieces","groups","lasts"] rfl rfl (by decide +kernel)) rfl (kaz (K:=K) (pv 3)) (fun _ _ _ _=>pgn (i:=0) (show(["group","standing","voucher"]:List Str).Nodup by decide +kernel)) (fun _ _ _ _=>(kb5 (kaa (kan (ke8 rfl) (by rfl) W.B.max b_max (kaa (pe_op kcK (pcl Qr hr W.Qi (kaa (pv 1) (kaa (pv 0) kae))) (kaj (K:=K) (pv 2) rfl)) (kaa kag kae))) (kaa (pv 0) kae)))))))) (kau))
   (kaf (kas (kaT kae)))))),?_⟩
  have I:=kiB W hh
  exists Y4
  refine⟨_,rfl,_,_,_,_,rfl, .inr ⟨_,rfl⟩,TyOf.ins hv (cl_of W hh) I.ha I.hn I.ht I.hm,kkc W hh,_,rfl,?_⟩
  have lp:=wf.lp
  have np:=wf.np
  have habl:∀i∈abt ps (kds B) ms.kind ms.lone S,i<S.pr.length:=fun i hi=>by rw[lp];exact kg8 hi
  have habo:∀i∈abt ps (kds B) ms.kind ms.lone S,i<S.ow.length:=fun i hi=>kg8 hi
  have hand:=kfd ps (kds B) ms.kind ms.lone S
  have lab:(abt ps (kds B) ms.kind ms.lone S).length≤720:=Nk (kdV _ _ _ _ _) np
  cases so with
  | off am=>
   have qn:=kbr (qs_nn wf.nn (abt ps (kds B) ms.kind ms.lone S))
   have ha:0≤am∧am≤1000000000000:=vo.so
   refine iteT ?_
   symm
   exists Y6
   refine⟨_,rfl,v,d.c_Off,dxv,fsv,_,rfl,hv,W.c_Off.cl,W.Xb,hso,_,rfl,_,rfl,x,pa,S,_,rfl,hS,hpa,habl,lab,fun H1 s1=>?_⟩
   nofun
   exists Y6
   refine⟨_,_,rfl,_,rfl,(by show 2≤sizeLine;decide),fun t ht=>⟨(by show 1≤sizeLine;decide),fun l hl=>?_⟩⟩
   have emin:(if(qs S.pr (abt ps (kds B) ms.kind ms.lone S)).sum<am then(qs S.pr (abt ps (kds B) ms.kind ms.lone S)).sum else am)=min am (qs S.pr (abt ps (kds B) ms.kind ms.lone S)).sum:=by
    split <;> omega
   rw[emin] at hl⊢
   have s2:=s1.trans (kal (o:=.tup [.int (min am (qs S.pr (abt ps (kds B) ms.kind ms.lone S)).sum), .ref pa]) ht)
   have s3:=s2.trans (kal (o:=.lst [.ref t]) hl)
   nofun
   refine k _ l [t] [(min am (qs S.pr (abt ps (kds B) ms.kind ms.lone S)).sum,abt ps (kds B) ms.kind ms.lone S)] s3 (none_of s2 hl) kad (.cons ⟨pa,kal hl _ _ kad,s3 _ _ hpa, .inl rfl⟩ .nil) ?_ ?_ ?_ (by simp) ?_
   ·intro c g hc
    rw[Mi] at hc
    cases hc
    nofun
    exact⟨by omega,by omega,lab⟩
   ·simpa using hand
   ·simpa using habl
   ·simp[want]
  | share sh bl=>
   have hsh:1≤sh∧sh≤1000:=vo.so
   refine iteF ?_
   symm
   exists Y6
   refine⟨_,rfl,_,_,_,_,rfl, .inr ⟨_,rfl⟩,TyOf.ins hv (cl_of W hh) I.ha I.hn I.ht I.hm,kbm W hh,_,rfl,iteT ?_⟩
   nofun
   exists Y6
   refine⟨fun gv H1=>∃(gp:Addr)(gl:List Addr)(gs:List (List Nat)),gv=.ref gp∧Same H H1∧H gp=none∧H1 gp=some (.lst (gl.map V.ref))∧P2 (fun r g=>H1 r=some (.lst (g.map iV))) gl gs∧(∀r∈gl,r=pa∨H r=none)∧gs.length≤720∧(∀g∈gs,g.length≤720)∧gs.flatten.Nodup∧(∀i∈gs.flatten,i<S.pr.length)∧
    spr S.pr.length gs.flatten (gs.map fun g=>dl ((qs S.pr g).sum*sh/1000) (qs S.pr g)).flatten=spr S.pr.length (abt ps (kds B) ms.kind ms.lone S) (want (.share sh bl) S.mkd.length ((abt ps (kds B) ms.kind ms.lone S).map fun i=>S.ow.getD i 0) (qs S.pr (abt ps (kds B) ms.kind ms.lone S))),?_,?_⟩
   ·refine⟨_,rfl,v,d.qi,dxv,fsv,_,rfl,hv,W.qi.cl,W.Xe,hso.2,bl,rfl,?_⟩
    cases bl with
    | true=>
     refine iteT ?_
     nofun
     exists Y10
     refine⟨_,rfl,_,rfl,x,pa,S,_,rfl,hS,hpa,habo,lab,fun H1 p gl s1 f1 h1 hP hg=>⟨p,gl,_,rfl,s1,f1,h1,hP,fun r hr=>.inr (hg r hr),?_,?_,?_,?_,?_⟩⟩
     ·rw[Nb]
      exists 4
      exact Nk (kft _ _) lab
     ·intro g hg'
      rw[(kcS (fun i=>S.ow.getD i 0) (abt ps (kds B) ms.kind ms.lone S)).snds] at hg'
      obtain⟨l,_,rfl⟩:=Ny.mp hg'
      exists 4
      exact Nk (MH _ _) lab
     ·have ok:=kcS (fun i=>S.ow.getD i 0) (abt ps (kds B) ms.kind ms.lone S)
      rw[ok.snds]
      exists 4
      exact keJ (f:=fun i=>S.ow.getD i 0) hand ok.nd
     ·intro i hi
      rw[(kcS (fun i=>S.ow.getD i 0) (abt ps (kds B) ms.kind ms.lone S)).snds] at hi
      obtain⟨g,hg',hi'⟩:=MA.mp hi
      obtain⟨l,_,rfl⟩:=Ny.mp hg'
      exists 4
      exact habl i (NW.mp hi').1
     ·refine kiZ (fun z=>z*sh/1000) hand fun i hi=>?_
      obtain⟨ln,eln⟩:=at_of (habo i hi)
      rw[Nt,eln,wf.lm]
      exists 4
      exact wf.line eln
    |false=>
     refine iteF ?_
     nofun
     exists Y10
     refine⟨_,rfl,(by show 1≤sizeLine;decide),fun p hp=>⟨p,[pa],[abt ps (kds B) ms.kind ms.lone S],rfl,kal hp,hp,kad, .cons (kal hp _ _ hpa) .nil,fun r hr=>.inl (by simpa using hr),by simp,fun g hg=>?_,by simpa using hand,by simpa using habl,by simp[want]⟩⟩
     rw[Mi] at hg
     rw[hg]
     exists 4
     exact lab
   rintro gv H1 ⟨gp,gl,gs,rfl,s1,f1,h1,hP,hor,lgs,lg,gnd,glt,gsp⟩
   have lgl:=hP.len
   have gok:∀g∈gs,∀i∈g,i<S.pr.length:=fun g hg i hi=>glt i (MA.mpr ⟨g,hg,hi⟩)
   nofun
   exists Y6
   refine⟨_,rfl,gp,rfl,⟨_,SqL.of h1⟩,kaL (xs:=gl.map V.ref) (fun i σ ys H'=>Same H1 H'∧(∃v0:Option V,σ=[v0,some (.ref x),some (.ref v)])∧∃tl,ys=tl.map V.ref∧P2 (GrpAt H H' pa) tl ((gs.take i).map fun g=>((qs S.pr g).sum*sh/1000,g)))
    ⟨Same.refl _,⟨none,rfl⟩,[],rfl, .nil⟩ (by rw[Nb];exact Nq (kar (by omega))) ?_ ?_ ?_⟩
   ·rintro i σ ys H2 hi ⟨s2,_,tl,rfl,hT⟩
    nofun
    exists Y8
    refine⟨SqL.of (s2 _ _ h1),?_⟩
    rw[Nb,hT.len,Nb,Nv]
    rw[Nb] at hi
    omega
   ·rintro i y σ ys H2 hy ⟨s2,⟨v0,rfl⟩,tl,rfl,hT⟩
    obtain⟨r,er,rfl⟩:=kcf hy
    obtain⟨g,eg,hr⟩:=hP.at er
    have s12:=s1.trans s2
    have hg:=Nj eg
    have sn:=kbr (qs_nn wf.nn g)
    have sl:=keE wf (lg g hg) (gok g hg)
    exists 3
    exists Y8
    refine⟨_,rfl,_,rfl,x,r,S,g,rfl,hS.same s12,s2 _ _ hr,gok g hg,lg g hg,fun H3 s3=>?_⟩
    have s13:=s12.trans s3
    exists 3
    exists Y8
    refine⟨_,rfl,v,d.qi,dxv,fsv,_,rfl,s13 _ _ hv,W.qi.cl,W.QC,hso.1,_,_,rfl,rfl, .inl ⟨by omega,by omega⟩,_,_,rfl,rfl,⟨by decide,by decide⟩,_,rfl,(by show 2≤sizeLine;decide),fun t ht=>?_⟩
    have s4:=kal (o:=.tup [.int ((qs S.pr g).sum*sh/1000), .ref r]) ht
    exists 3
    exists Y8
    refine⟨(s2.trans s3).trans s4,⟨_,rfl⟩,tl++[t],by rw[Nl];rfl,?_⟩
    rw[kbJ eg,Nl]
    exists 3
    refine P2.snoc (hT.mono fun t' q ⟨ga,a1,a2,a3⟩=>⟨ga,(s3.trans s4) _ _ a1,(s3.trans s4) _ _ a2,a3⟩) ⟨r,kad,((s2.trans s3).trans s4) _ _ hr,hor r (Nj er)⟩
   ·rintro σ ys H2 ⟨s2,⟨v0,rfl⟩,tl,rfl,hT⟩ D hD
    rw[Nb,lgl,ND] at hT
    have s3:=kal (o:=.lst (tl.map V.ref)) hD
    have e1:(gs.map fun g=>((qs S.pr g).sum*sh/1000,g)).map Prod.snd=gs:=by
     rw[NH]
     exists 3
     exact List.map_id' gs
    exists 3
    refine k _ D tl _ ((s1.trans s2).trans s3) (none_of (s1.trans s2) hD) kad (hT.mono fun t' q ⟨ga,a1,a2,a3⟩=>⟨ga,s3 _ _ a1,s3 _ _ a2,a3⟩) ?_ (by rw[e1];exact gnd) (by rw[e1];exact glt) (by rw[Nb];exact lgs) ?_
    ·intro c g hc
     obtain⟨g',hg',e⟩:=Ny.mp hc
     cases e
     have sn:=kbr (qs_nn wf.nn g)
     have:=kdk sn hsh.1 hsh.2
     exists 3
     exact⟨this.1,this.2,lg g hg'⟩
    ·rw[e1,NH]
     exists 3
     exact gsp
  | cheap n=>
   have hn:2≤n∧n≤20:=vo.so
   obtain⟨m,rfl⟩:∃m:Nat,n=m:=⟨n.toNat,by omega⟩
   refine iteF ?_
   symm
   refine⟨_,rfl,_,_,_,_,rfl, .inr ⟨_,rfl⟩,TyOf.ins hv (cl_of W hh) I.ha I.hn I.ht I.hm,kbm W hh,_,rfl,iteF ⟨_,rfl,_,_,_,_,rfl, .inr ⟨_,rfl⟩,TyOf.ins hv (cl_of W hh) I.ha I.hn I.ht I.hm,kbt W hh,_,rfl,iteT ?_⟩⟩
   have hpw:(abt ps (kds B) ms.kind ms.lone S).Pairwise (· < ·):=MF.filter _ Ef
   have l64:(abt ps (kds B) ms.kind ms.lone S).length<64:=Mx (kdV _ _ _ _ _) wf.n64
   symm
   exists Y6
   refine⟨_,rfl,_,rfl,_,rfl,v,d.ql,dxv,fsv,_,rfl,hv,W.ql.cl,W.Xh,hso,x,pa,S,_,m,rfl,hS,hpa,hpw,habl,l64,by omega,by omega,htb,fun H1 gp gl s1 f1 h1 hP0 hg=>?_⟩
   have hP:P2 (fun r g=>H1 r=some (.lst (g.map iV))) gl (grp m (fallP S.pr (abt ps (kds B) ms.kind ms.lone S))):=hP0
   clear hP0
   have lgl:=hP.len
   have lG:=khE m (fallP S.pr (abt ps (kds B) ms.kind ms.lone S))
   have lf:(fallP S.pr (abt ps (kds B) ms.kind ms.lone S)).length=(abt ps (kds B) ms.kind ms.lone S).length:=(kbD _ _).length_eq
   have hgr:∀{i:Nat}{g:List Nat},(grp m (fallP S.pr (abt ps (kds B) ms.kind ms.lone S)))[i]?=some g→0<g.length∧g[g.length-1]?=some (g.getLastD 0)∧g.getLastD 0∈abt ps (kds B) ms.kind ms.lone S:=fun {i g} eg=>by
    obtain⟨h1,h2,h3⟩:=kiD eg
    have h4:=keW (by omega) eg
    nofun
    exists Y8
    refine⟨by omega,?_,(kbD _ _).mem_iff.mp (Nj h4)⟩
    rw[h2,h3 _ (by omega)]
    exists 3
    exact h4
   have hla:∀a∈lasts (grp m (fallP S.pr (abt ps (kds B) ms.kind ms.lone S))),a∈abt ps (kds B) ms.kind ms.lone S:=fun a ha=>by
    obtain⟨g,hg',rfl⟩:=Ny.mp ha
    obtain⟨j,hj⟩:=Mp.mp hg'
    nofun
    exact(hgr hj).2.2
   nofun
   exists Y6
   refine⟨gp,rfl,⟨_,SqL.of h1⟩,kaL (xs:=gl.map V.ref) (fun i σ ys H'=>Same H1 H'∧(∃v0:Option V,σ=[v0])∧ys=((lasts (grp m (fallP S.pr (abt ps (kds B) ms.kind ms.lone S)))).take i).map iV)
    ⟨Same.refl _,⟨none,rfl⟩,rfl⟩ (by rw[Nb];exact Nq (kar (by omega))) ?_ ?_ ?_⟩
   ·rintro i σ ys H2 hi ⟨s2,_,rfl⟩
    nofun
    exists Y8
    refine⟨SqL.of (s2 _ _ h1),?_⟩
    rw[Nb,Nv,kcy]
    rw[Nb] at hi
    omega
   ·rintro i y σ ys H2 hy ⟨s2,⟨v0,rfl⟩,rfl⟩
    obtain⟨r,er,rfl⟩:=kcf hy
    obtain⟨g,eg,hr⟩:=hP.at er
    obtain⟨g0,g1,g2⟩:=hgr eg
    have al:atI (g.map iV) (-1)=some (iV (g.getLastD 0)):=kfb (by rw[Nb,Ni,g1];rfl) (by rw[Nb];exact g0)
    exists 3
    exists Y8
    refine⟨_,rfl,1,rfl,r,_,_,_,rfl,rfl,SqL.of (s2 _ _ hr),al,s2,⟨_,rfl⟩,?_⟩
    rw[kbJ (r:=g.getLastD 0) (by unfold lasts;rw[Ni,eg];rfl),Nl]
    rfl
   rintro σ ys H2 ⟨s2,⟨v0,rfl⟩,rfl⟩ D hD
   rw[Nb,lgl,Mg (by rw[kcy];exact Nd _)]
   have s3:=s2.trans (kal (o:=.lst ((lasts (grp m (fallP S.pr (abt ps (kds B) ms.kind ms.lone S)))).map iV)) hD)
   have fD:H D=none:=none_of (s1.trans s2) hD
   have eD:(upd H2 D (.lst ((lasts (grp m (fallP S.pr (abt ps (kds B) ms.kind ms.lone S)))).map iV))) D=some (.lst ((lasts (grp m (fallP S.pr (abt ps (kds B) ms.kind ms.lone S)))).map iV)):=kad
   generalize upd H2 D (.lst ((lasts (grp m (fallP S.pr (abt ps (kds B) ms.kind ms.lone S)))).map iV))=H3 at *
   obtain⟨o,p,mk,⟨dxs,fss,hx,l1,l2,l3,l4,l5⟩,ho,hp,hmk⟩:=id hS
   have s13:=s1.trans s3
   have lL:=kcy (grp m (fallP S.pr (abt ps (kds B) ms.kind ms.lone S)))
   nofun
   exists Y6
   refine⟨_,rfl,D,rfl,⟨_,SqL.of eD⟩,kaL (xs:=(lasts (grp m (fallP S.pr (abt ps (kds B) ms.kind ms.lone S)))).map iV) (fun i σ ys H'=>Same H3 H'∧(∃v0:Option V,σ=[v0,some (.ref x)])∧∃tl,ys=tl.map V.ref∧P2 (GrpAt H H' pa) tl (((lasts (grp m (fallP S.pr (abt ps (kds B) ms.kind ms.lone S)))).take i).map fun a=>(S.pr.getD a 0,[a])))
    ⟨Same.refl _,⟨none,rfl⟩,[],rfl, .nil⟩ (by rw[Nb];exact Nq (kar (by omega))) ?_ ?_ ?_⟩
   ·rintro i σ ys H4 hi ⟨s4,_,tl,rfl,hT⟩
    nofun
    exists Y8
    refine⟨SqL.of (s4 _ _ eD),?_⟩
    rw[Nb,hT.len,Nb,Nv]
    rw[Nb] at hi
    omega
   ·rintro i y σ ys H4 hy ⟨s4,⟨v0,rfl⟩,tl,rfl,hT⟩
    obtain⟨a,ea,rfl⟩:=kba hy
    have ha:=hla a (Nj ea)
    obtain⟨z,ez⟩:=at_of (habl a ha)
    have ez':S.pr.getD a 0=z:=by rw[Nt,ez];rfl
    have s14:=s13.trans s4
    exists 3
    exists Y8
    refine⟨_,rfl,x,d.qc,dxs,fss,_,rfl,s14 _ _ hx,W.qc.cl,W.qw,l2,_,rfl,p,_,_,_,rfl,rfl,SqL.of (s14 _ _ hp),kaA (v:=.int z) (by rw[Ni,ez];rfl),_,rfl,(by show 1≤sizeLine;decide),fun q hq=>⟨(by show 2≤sizeLine;decide),fun t ht=>?_⟩⟩
    have s5:=(kal (o:=.lst [iV a]) hq).trans (kal (o:=.tup [.int z, .ref q]) ht)
    exists 3
    exists Y8
    refine⟨s4.trans s5,⟨_,rfl⟩,tl++[t],by rw[Nl];rfl,?_⟩
    rw[kbJ ea,Nl]
    exists 3
    exact P2.snoc (hT.mono fun t' q' ⟨ga,a1,a2,a3⟩=>⟨ga,s5 _ _ a1,s5 _ _ a2,a3⟩) ⟨q,by show upd _ _ _ _=some (.tup [.int (S.pr.getD a 0), .ref q]);rw[ez'];exact kad,kal ht _ _ kad, .inr (none_of s14 hq)⟩
   ·rintro σ ys H4 ⟨s4,⟨v0,rfl⟩,tl,rfl,hT⟩ D2 hD2
    rw[Nb,ND] at hT
    have s5:=kal (o:=.lst (tl.map V.ref)) hD2
    have e1:((lasts (grp m (fallP S.pr (abt ps (kds B) ms.kind ms.lone S)))).map fun a=>(S.pr.getD a 0,[a])).map Prod.snd=(lasts (grp m (fallP S.pr (abt ps (kds B) ms.kind ms.lone S)))).map fun a=>[a]:=by
     rw[NH]
     rfl
    have e2:=kjE (fun i=>S.pr.getD i 0) (lasts (grp m (fallP S.pr (abt ps (kds B) ms.kind ms.lone S))))
    exists 3
    refine k _ D2 tl _ ((s13.trans s4).trans s5) (none_of (s13.trans s4) hD2) kad (hT.mono fun t' q ⟨ga,a1,a2,a3⟩=>⟨ga,s5 _ _ a1,s5 _ _ a2,a3⟩) ?_ (by rw[e1,e2.1];exact keV (by omega) (ke4 hand)) (by rw[e1,e2.1];exact fun i hi=>habl i (hla i hi)) (by rw[Nb];omega) ?_
    ·intro c g hc
     obtain⟨a,ha,e⟩:=Ny.mp hc
     cases e
     have q0:(qs S.pr [a]).sum=S.pr.getD a 0:=by simp[qs]
     have q1:=kbr (qs_nn wf.nn [a])
     rw[q0] at q1⊢
     exists 3
     exact⟨q1,Int.le_refl _,by simp⟩
    ·rw[e1,e2.1,NH]
     have e3:(lasts (grp m (fallP S.pr (abt ps (kds B) ms.kind ms.lone S)))).map ((fun p=>dl p.1 (qs S.pr p.2))∘fun a=>(S.pr.getD a 0,[a]))=(lasts (grp m (fallP S.pr (abt ps (kds B) ms.kind ms.lone S)))).map fun a=>[S.pr.getD a 0]:=
      N2 fun a _=>kmP _
     rw[e3,e2.2]
     exists 3
     exact(kkA (by omega) hand).symm
  | bund n pc=>
   have hn:2≤n∧n≤20∧0≤pc∧pc≤1000000000000:=vo.so
   obtain⟨m,rfl⟩:∃m:Nat,n=m:=⟨n.toNat,by omega⟩
   refine iteF ?_
   symm
   refine⟨_,rfl,_,_,_,_,rfl, .inr ⟨_,rfl⟩,TyOf.ins hv (cl_of W hh) I.ha I.hn I.ht I.hm,kbm W hh,_,rfl,iteF ⟨_,rfl,_,_,_,_,rfl, .inr ⟨_,rfl⟩,TyOf.ins hv (cl_of W hh) I.ha I.hn I.ht I.hm,kbt W hh,_,rfl,iteF ⟨_,rfl,_,_,_,_,rfl, .inr ⟨_,rfl⟩,TyOf.ins hv (cl_of W hh) I.ha I.hn I.ht I.hm,kc4 W hh,_,rfl,iteT ?_⟩⟩⟩
   have hpw:(abt ps (kds B) ms.kind ms.lone S).Pairwise (· < ·):=MF.filter _ Ef
   have l64:(abt ps (kds B) ms.kind ms.lone S).length<64:=Mx (kdV _ _ _ _ _) wf.n64
   symm
   exists Y6
   refine⟨_,rfl,_,rfl,_,rfl,v,d.qj,dxv,fsv,_,rfl,hv,W.qj.cl,W.Xj,hso.1,x,pa,S,_,m,rfl,hS,hpa,hpw,habl,l64,by omega,by omega,htb,fun H1 gp gl s1 f1 h1 hP0 hg=>?_⟩
   have hP:P2 (fun r g=>H1 r=some (.lst (g.map iV))) gl (grp m (fallP S.pr (abt ps (kds B) ms.kind ms.lone S))):=hP0
   clear hP0
   have lgl:=hP.len
   have lG:=khE m (fallP S.pr (abt ps (kds B) ms.kind ms.lone S))
   have lf:(fallP S.pr (abt ps (kds B) ms.kind ms.lone S)).length=(abt ps (kds B) ms.kind ms.lone S).length:=(kbD _ _).length_eq
   have gin:∀g∈grp m (fallP S.pr (abt ps (kds B) ms.kind ms.lone S)),∀i∈g,i∈abt ps (kds B) ms.kind ms.lone S:=fun g hg' i hi=>(kbD _ _).mem_iff.mp (kkm hg' i hi)
   have gok:∀g∈grp m (fallP S.pr (abt ps (kds B) ms.kind ms.lone S)),∀i∈g,i<S.pr.length:=fun g hg' i hi=>habl i (gin g hg' i hi)
   have lg:∀g∈grp m (fallP S.pr (abt ps (kds B) ms.kind ms.lone S)),g.length≤720:=fun g hg'=>by
    obtain⟨j,hj⟩:=Mp.mp hg'
    have:=(kiD hj).2.1
    omega
   generalize egs:grp m (fallP S.pr (abt ps (kds B) ms.kind ms.lone S))=gs at *
   nofun
   exists Y6
   refine⟨_,rfl,gp,rfl,⟨_,SqL.of h1⟩,kaL (xs:=gl.map V.ref) (fun i σ ys H'=>Same H1 H'∧(∃v0:Option V,σ=[v0,some (.ref x),some (.ref v)])∧∃tl,ys=tl.map V.ref∧P2 (GrpAt H H' pa) tl ((gs.take i).map fun g=>(max 0 ((qs S.pr g).sum-pc),g)))
    ⟨Same.refl _,⟨none,rfl⟩,[],rfl, .nil⟩ (by rw[Nb];exact Nq (kar (by omega))) ?_ ?_ ?_⟩
   ·rintro i σ ys H2 hi ⟨s2,_,tl,rfl,hT⟩
    nofun
    exists Y8
    refine⟨SqL.of (s2 _ _ h1),?_⟩
    rw[Nb,hT.len,Nb,Nv]
    rw[Nb] at hi
    omega
   ·rintro i y σ ys H2 hy ⟨s2,⟨v0,rfl⟩,tl,rfl,hT⟩
    obtain⟨r,er,rfl⟩:=kcf hy
    obtain⟨g,eg,hr⟩:=hP.at er
    have s12:=s1.trans s2
    have hg':=Nj eg
    have sn:=kbr (qs_nn wf.nn g)
    exists 3
    exists Y8
    refine⟨_,rfl,_,rfl,x,r,S,g,rfl,hS.same s12,s2 _ _ hr,gok g hg',lg g hg',fun H3 s3=>?_⟩
    have s13:=s12.trans s3
    exists 3
    exists Y8
    refine⟨_,rfl,v,d.qj,dxv,fsv,_,rfl,s13 _ _ hv,W.qj.cl,W.Xk,hso.2,_,_,rfl,rfl,?_⟩
    exists 3
    exists Y8
    refine⟨_,_,rfl,_,rfl,(by show 2≤sizeLine;decide),fun t ht=>?_⟩
    have emax:(if(0:Int) > (qs S.pr g).sum-pc then 0 else(qs S.pr g).sum-pc)=max 0 ((qs S.pr g).sum-pc):=by
     split <;> omega
    rw[emax]
    have s4:=kal (o:=.tup [.int (max 0 ((qs S.pr g).sum-pc)), .ref r]) ht
    exists 3
    exists Y8
    refine⟨(s2.trans s3).trans s4,⟨_,rfl⟩,tl++[t],by rw[Nl];rfl,?_⟩
    rw[kbJ eg,Nl]
    exists 3
    refine P2.snoc (hT.mono fun t' q ⟨ga,a1,a2,a3⟩=>⟨ga,(s3.trans s4) _ _ a1,(s3.trans s4) _ _ a2,a3⟩) ⟨r,kad,((s2.trans s3).trans s4) _ _ hr, .inr (hg r (Nj er))⟩
   ·rintro σ ys H2 ⟨s2,⟨v0,rfl⟩,tl,rfl,hT⟩ D hD
    rw[Nb,lgl,ND] at hT
    have s3:=kal (o:=.lst (tl.map V.ref)) hD
    have e1:(gs.map fun g=>(max 0 ((qs S.pr g).sum-pc),g)).map Prod.snd=gs:=by
     rw[NH]
     exists 3
     exact List.map_id' gs
    exists 3
    refine k _ D tl _ ((s1.trans s2).trans s3) (none_of (s1.trans s2) hD) kad (hT.mono fun t' q ⟨ga,a1,a2,a3⟩=>⟨ga,s3 _ _ a1,s3 _ _ a2,a3⟩) ?_ (by rw[e1,←egs];exact kkl (ke4 hand)) (by rw[e1];intro i hi;obtain⟨g,hg',hi'⟩:=MA.mp hi;exact gok g hg' i hi') (by rw[Nb];omega) ?_
    ·intro c g hc
     obtain⟨g',hg',e⟩:=Ny.mp hc
     cases e
     have sn:=kbr (qs_nn wf.nn g)
     exists 3
     exact⟨by omega,by omega,lg g hg'⟩
    ·rw[e1,NH,←egs]
     exists 3
     exact(klg (fun z=>max 0 (z-pc)) hand).symm
  |carr=>
   refine iteF ?_
   symm
   refine⟨_,rfl,_,_,_,_,rfl, .inr ⟨_,rfl⟩,TyOf.ins hv (cl_of W hh) I.ha I.hn I.ht I.hm,kbm W hh,_,rfl,iteF ⟨_,rfl,_,_,_,_,rfl, .inr ⟨_,rfl⟩,TyOf.ins hv (cl_of W hh) I.ha I.hn I.ht I.hm,kbt W hh,_,rfl,iteF ⟨_,rfl,_,_,_,_,rfl, .inr ⟨_,rfl⟩,TyOf.ins hv (cl_of W hh) I.ha I.hn I.ht I.hm,kc4 W hh,_,rfl,iteF ?_⟩⟩⟩
   symm
   refine⟨by decide,fun l hl=>?_⟩
   symm
   refine k _ l [] [] (kal hl) hl kad .nil (fun c g hc=>by simp at hc) (by simp) (by simp) (by simp) ?_
   symm
   exact(spr_zero (k:=0)).trans spr_zero.symm
inductive kjB (K:Nc) (d:D) (vs:List V) (H:Hp) (Q:VK) (E_:XK):Prop
 |ct (v a b x:Addr)(V:Vch)(ps:List (Option Nat))(B:Bask)(S:Stnd)(_:vs=[.ref v, .ref a, .ref b, .ref x])(_:VchIs d H v V)(_:SqL K H a (ps.map pV))(_:BaskIs d.qf d.qd H b B)(_:StndIs d.qc H x S)(_:Wf ps B S)(_:VchOk ps V)(_:∀(H':Hp)(p:Addr),Same H H'→H p=none→H' p=some (.lst ((cutM V ps (kds B) S).1.map L2.V.int))→Q (.ref p) H'):kjB K d vs H Q E_
theorem qN:kat ["voucher","parents","basket","standing","pieces","wanted","cut","group","piece","part","most"] ["voucher","parents","basket","standing"] (kah kbM):=by ac_rfl
theorem kcx(W:WB K mg d base):FO P w W 4 d.Yb d.Yc ["voucher","parents","basket","standing"] (kjB K d):=by
 exists W.Q3.F,qN
 ·obtain⟨v,a,b,x,Vc,ps,B,S,rfl,hV,hA,hB,hS,wf,vo,k⟩:=h
  exists XC,kip,W
  exists UA,kfi,W
  exists VX,kkU,W
  exists XA,kdZ,W
  exists hr1,1,hr,0
  refine⟨_,kab (psl (i:=4) qN.nd (pcl XC hr W.Q2 (kaa (pv 0) (kaa (pv 1) (kaa (pv 2) (kaa (pv 3) kae))))))
   (kab (kcs (N:=["price"]) (CompScope.plain rfl (by decide +kernel) (by decide +kernel) (by decide +kernel) (nd1 _)) rfl (kaz (K:=K) (kaj (K:=K) (pv 3) rfl)) (fun _ _ _ _=>pgn (i:=0) (nd1 _)) (fun _ _ _ _=>kag) (pgn (i:=5) qN.nd))
   (kab (kaR PassesOwn.never rfl (kaz (K:=K) (pcl UA hr W.Vh (kaa (pv 0) (kaa (pv 3) (kaa (pv 4) kae))))) (kbi (K:=K) (n:=2) rfl (kax (pgn (i:=6) qN.nd) (kax (pgn (i:=7) qN.nd) kbh)))
   (kaf (kaR PassesOwn.never rfl (keG rfl W.B.zip (kaa (pv 7) (kaa (pcl VX hr1 W.Q1 (kaa (pv 6) (kaa (pcl XA hr1 W.Q6 (kaa (pv 3) (kaa (pv 7) kae))) kae))) kae))) (kbi (K:=K) (n:=2) rfl (kax (pgn (i:=8) qN.nd) (kax (pgn (i:=9) qN.nd) kbh)))
   (kaf (kcw (pv 9) (kdo (pv 5) (pv 8) set_list))))))
   (kab (psl (i:=10) qN.nd (kaj (K:=K) (kaj (K:=K) (pv 0) rfl) rfl))
   (kab (ps_if (PW.pt (ka6 (kap kct (pv 10) kbd (kav _)) (kaX (kap op_gt (kan (r:=rSum K) (ka2 rfl) (by rfl) W.B.sum b_sum (kaa (pv 5) kae)) (pv 10) (kav _))))) (kaf (kas (pcl VX hr1 W.Q1 (kaa (pv 10) (kaa (pv 5) kae))))) (kau))
   (kaf (kas (pv 5))))))),?_⟩
  have np:=wf.np
  have lp:=wf.lp
  exists Y4
  refine⟨_,rfl,_,rfl,_,rfl,_,rfl,v,a,b,x,Vc,ps,B,S,rfl,hV,hA,hB,hS,wf,vo,fun H1 pa s1 f1 h1=>?_⟩
  have habl:∀i∈abt ps (kds B) Vc.ms.kind Vc.ms.lone S,i<S.pr.length:=fun i hi=>by rw[lp];exact kg8 hi
  have hand:=kfd ps (kds B) Vc.ms.kind Vc.ms.lone S
  have lab:(abt ps (kds B) Vc.ms.kind Vc.ms.lone S).length≤720:=Nk (kdV _ _ _ _ _) np
  obtain⟨o,p,mk,⟨dxs,fss,hx,l1,l2,l3,l4,l5⟩,ho,hp,hmk⟩:=id (hS.same s1)
  symm
  exists Y4
  refine⟨_,rfl,x,d.qc,dxs,fss,_,rfl,hx,W.qc.cl,W.qw,l2,p,rfl,⟨_,SqL.of hp⟩,kaL (xs:=S.pr.map V.int) (fun i σ ys H'=>H'=H1∧ys=(Nh i (0:Int)).map V.int∧∃v,σ=[v]) ⟨rfl,rfl,none,rfl⟩ ?_ ?_ ?_ ?_⟩
  ·rw[Nb]
   symm
   exact Nq (kar (by omega))
  ·rintro i σ ys H' hi ⟨rfl,rfl,_⟩
   symm
   exact⟨SqL.of hp,by simp⟩
  ·rintro i y σ ys H' hy ⟨rfl,rfl,v,rfl⟩
   symm
   exact⟨rfl,by rw[MB,Nl];rfl,_,rfl⟩
  rintro σ ys H' ⟨rfl,rfl,v0,rfl⟩ w hw
  rw[Nb]
  have s2:=s1.trans (kal (o:=.lst ((Nh S.pr.length (0:Int)).map V.int)) hw)
  have hw0:H w=none:=none_of s1 hw
  have ew:(upd H' w (.lst ((Nh S.pr.length (0:Int)).map V.int))) w=some (.lst ((Nh S.pr.length (0:Int)).map V.int)):=kad
  have h1o:=h1
  have h1:=kal (o:=.lst ((Nh S.pr.length (0:Int)).map V.int)) hw _ _ h1
  have nw:pa≠w:=kai h1o hw
  generalize upd H' w (.lst ((Nh S.pr.length (0:Int)).map V.int))=H2 at *
  symm
  exists Y4
  refine⟨_,rfl,_,rfl,_,rfl,v,x,pa,Vc,ps,B,S,rfl,hV.same s2,hS.same s2,h1,wf,vo,fun H3 gp tl gl s3 f3 h3 hP hc hnd hlt hgl hsp=>?_⟩
  have s03:=s2.trans s3
  have e3:=s3 _ _ ew
  have ngw:gp≠w:=fun e=>by rw[e,ew] at f3;cases f3
  symm
  exists Y4
  refine⟨gp,rfl,⟨_,SqL.of h3⟩,kaZ (K:=K) (a:=gp) (xs:=tl.map V.ref) (fun i σ H'=>(∃v8 v9 v10 v11 v12:Option V,σ=[some (.ref v),some (.ref a),some (.ref b),some (.ref x),some (.ref pa),some (.ref w),v8,v9,v10,v11,v12])∧But w H3 H'∧
    H' w=some (.lst ((spr S.pr.length ((gl.take i).map Prod.snd).flatten ((gl.take i).map fun p=>dl p.1 (qs S.pr p.2)).flatten).map V.int)))
   ⟨⟨none,none,none,none,none,rfl⟩,But.refl,by rw[e3];simp[khb]⟩ (fun i σ H' _ h=>SqL.of (h.2.1 _ _ ngw h3)) ?_ ?_⟩
  ·rintro i y σ H4 hy ⟨⟨v8,v9,v10,v11,v12,rfl⟩,b4,h4⟩
   obtain⟨t,et,rfl⟩:=kcf hy
   obtain⟨⟨c,g⟩,eg,ga,ht,hga,hor⟩:=hP.at et
   have hcg:=hc c g (Nj eg)
   have hgl':∀i∈g,i<S.pr.length:=fun j hj=>hlt j (MA.mpr ⟨g,Ny.mpr ⟨(c,g),Nj eg,rfl⟩,hj⟩)
   have ngaw:ga≠w:=by
    rcases hor with rfl|hor
    ·exact nw
    ·exact fun e=>by rw[e,ew] at hor;cases hor
   have ntw:t≠w:=ne_of ht e3 (by intro z;cases z)
   have htt:H4 t=some (.tup [.int c, .ref ga]):=b4 _ _ ntw ht
   have hgg:H4 ga=some (.lst (g.map iV)):=b4 _ _ ngaw hga
   symm
   exists Y6
   refine⟨t,_,rfl,SqT.of htt,rfl,_,_,rfl,_,_,rfl,rfl,?_⟩
   have hS4:StndIs d.qc H4 x S:=by
    nofun
    exact StndIs.same (H:=H) (kib hw0 s03 b4) hS
   have gnn:=qs_nn wf.nn g
   have gsum:=keE wf hcg.2.2 hgl'
   have hg720:=hcg.2.2
   nofun
   exists Y6
   refine⟨_,rfl,_,rfl,_,rfl,_,rfl,x,ga,S,g,rfl,hS4,hgg,hgl',hg720,fun p5 hp5=>?_⟩
   have s5:=kal (o:=.lst ((qs S.pr g).map V.int)) hp5
   nofun
   exists Y6
   refine⟨c,p5,qs S.pr g,rfl,SqL.of kad,gnn,by omega,hcg.1,by omega,by rw[ka5];omega,fun p6 hp6=>?_⟩
   have s6:=s5.trans (kal (o:=.lst ((dl c (qs S.pr g)).map V.int)) hp6)
   have h6:(upd (upd H4 p5 (.lst ((qs S.pr g).map V.int))) p6 (.lst ((dl c (qs S.pr g)).map V.int))) p6=some (.lst ((dl c (qs S.pr g)).map V.int)):=kad
   have n6:H4 p6=none:=none_of s5 hp6
   generalize upd (upd H4 p5 (.lst ((qs S.pr g).map V.int))) p6 (.lst ((dl c (qs S.pr g)).map V.int))=H6 at *
   have b6:=b4.same s6
   have w6:=s6 _ _ h4
   have n6w:p6≠w:=fun e=>by rw[e,h4] at n6;cases n6
   have ldl:(dl c (qs S.pr g)).length=g.length:=by rw[kcb,ka5]
   have emin:min (g.map iV).length ((dl c (qs S.pr g)).map V.int).length=g.length:=by rw[Nb,Nb,ldl,MM]
   have ndt:∀(j n:Nat),g[j]?=some n→(((gl.take i).map Prod.snd).flatten++g.take j++[n]).Nodup:=fun j n hj=>by
    rw[M8]
    nofun
    exact kev hnd (i:=i) (by rw[Ni,eg];rfl) hj
   have lfl:((gl.take i).map Prod.snd).flatten.length=((gl.take i).map fun p=>dl p.1 (qs S.pr p.2)).flatten.length:=by
    rw[List.length_flatten,List.length_flatten,NH,NH]
    congr 1
    nofun
    refine N2 fun q _=>?_
    show q.2.length=(dl q.1 (qs S.pr q.2)).length
    rw[kcb,ka5]
   nofun
   exists Y6
   refine⟨ga,p6,_,_,rfl,s6 _ _ hgg,h6,khF (xs:=g.map iV) (ys:=(dl c (qs S.pr g)).map V.int) (fun j σ H'=>(∃v8 v9 v10 v11 v12:Option V,σ=[some (.ref v),some (.ref a),some (.ref b),some (.ref x),some (.ref pa),some (.ref w),v8,v9,v10,v11,v12])∧But w H3 H'∧H' ga=some (.lst (g.map iV))∧H' p6=some (.lst ((dl c (qs S.pr g)).map V.int))∧
     H' w=some (.lst ((spr S.pr.length (((gl.take i).map Prod.snd).flatten++g.take j) (((gl.take i).map fun p=>dl p.1 (qs S.pr p.2)).flatten++(dl c (qs S.pr g)).take j)).map V.int)))
    ⟨⟨_,_,_,_,_,rfl⟩,b6,s6 _ _ hgg,h6,by rw[w6];simp⟩ (fun j σ H' _ h=>⟨h.2.2.1,h.2.2.2.1⟩) ?_ ?_⟩
   ·rintro j y1 y2 t2 σ H7 hy1 hy2 ⟨⟨v8,v9,v10,v11,v12,rfl⟩,b7,g7,d7,w7⟩ ht2
    obtain⟨n,en,rfl⟩:=kba hy1
    obtain⟨z,ez,rfl⟩:=kba hy2
    have hn:=hgl' n (Nj en)
    have s8:=kal (o:=.tup [iV n,V.int z]) ht2
    nofun
    exists Y8
    refine⟨t2,_,rfl,SqT.of kad,rfl,_,_,rfl,_,_,rfl,rfl,?_⟩
    exists 3
    exists Y8
    refine⟨_,rfl,_,rfl,_,rfl,w,_,_,n,rfl,rfl,s8 _ _ w7,kca (by rw[Nb,kcC];exact hn),⟨_,_,_,_,_,rfl⟩,(b7.same s8).trans kay,?_,?_,?_⟩
    ·rw[kak ngaw]
     exists 3
     exact s8 _ _ g7
    ·rw[kak n6w]
     exists 3
     exact s8 _ _ d7
    ·rw[kad,←Md,kbJ en,kbJ ez,←Mc,←Mc]
     rw[kfN (by rw[Nr,Nr,lfl,Nv,Nv,ldl]) (ndt j n en) hn]
   ·rintro σ H7 ⟨⟨v8,v9,v10,v11,v12,rfl⟩,b7,g7,d7,w7⟩
    exists 3
    exists Y8
    refine⟨⟨_,_,_,_,_,rfl⟩,b7,?_⟩
    rw[w7,emin,ND,Mg (Es ldl),kbJ eg]
    simp
  rintro σ H4 ⟨⟨v8,v9,v10,v11,v12,rfl⟩,b4,h4⟩
  have ltl:(tl.map V.ref).length=gl.length:=by rw[Nb,hP.len]
  rw[ltl,ND,hsp] at h4
  have s04:Same H H4:=kib hw0 s03 b4
  obtain⟨mA,dxv,fsv,hv,lvm,_,⟨dxm,fsm,hm,m1,m2,m3,m4,m5,m6⟩,hh,htb⟩:=id (hV.same s04)
  symm
  exists Y4
  refine⟨_,rfl,v,clsOf d Vc.so,dxv,fsv,_,rfl,hv,cl_of W hh,na_of W hh,lvm,mA,d.qh,dxm,fsm,_,rfl,hm,W.qh.cl,W.QA,m3,?_⟩
  have wle:=kha (so:=Vc.so) (n:=S.mkd.length) (lines:=(abt ps (kds B) Vc.ms.kind Vc.ms.lone S).map fun i=>S.ow.getD i 0) (qs_nn wf.nn (abt ps (kds B) Vc.ms.kind Vc.ms.lone S)) vo.so
  have cn:=kiL (V:=Vc) (ps:=ps) (kk:=kds B) (S:=S)
  have cs:=fun(m:Int)(e:Vc.ms.most=some m)(h0:0≤m)=>kiK (V:=Vc) (ps:=ps) (kk:=kds B) (S:=S) lp wle e h0
  have sabs:=keE wf lab habl
  generalize ewant:want Vc.so S.mkd.length ((abt ps (kds B) Vc.ms.kind Vc.ms.lone S).map fun i=>S.ow.getD i 0) (qs S.pr (abt ps (kds B) Vc.ms.kind Vc.ms.lone S))=wn at *
  have fnn:Nn (spr S.pr.length (abt ps (kds B) Vc.ms.kind Vc.ms.lone S) wn):=(kfo wf.nn wle).nn
  have fsum:(spr S.pr.length (abt ps (kds B) Vc.ms.kind Vc.ms.lone S) wn).sum≤720000000000000:=by
   have h:=(kfo wf.nn wle).sum
   have h2:=kdG (b:=1000000000000) (q:=S.pr) fun z hz=>(wf.pr z hz).2
   omega
  cases em:Vc.ms.most with
  |none=>
   symm
   refine⟨_,rfl,rfl,_,rfl,?_⟩
   show if(!decide (V.non=V.non))=true then _ else _
   rw[kfv]
   refine iteF (iteF ⟨_,rfl,k _ w s04 hw0 ?_⟩)
   rw[h4,cn em]
  | some m=>
   have hm0:=vo.ms.most m em
   symm
   refine⟨_,rfl,rfl,_,rfl,?_⟩
   show if(!decide (V.int m=V.non))=true then _ else _
   rw[kfw]
   refine iteT ?_
   symm
   exists Y6
   refine⟨_,rfl,w,_,rfl,SqL.of h4,_,rfl,_,_,rfl,rfl,_,rfl,?_⟩
   by_cases hgt:(spr S.pr.length (abt ps (kds B) Vc.ms.kind Vc.ms.lone S) wn).sum > m
   ·rw[decide_eq_true hgt]
    refine iteT ?_
    nofun
    exists Y8
    refine⟨_,rfl,_,rfl,m,w,_,rfl,SqL.of h4,fnn,by omega,hm0.1,by omega,by rw[kcC];omega,fun p7 hp7=>?_⟩
    exists 3
    refine k _ p7 (s04.trans (kal hp7)) (none_of s04 hp7) ?_
    rw[kad,cs m em hm0.1,if_pos hgt]
   ·rw[decide_eq_false hgt]
    refine iteF ?_
    exists 3
    refine⟨_,rfl,k _ w s04 hw0 ?_⟩
    rw[h4,cs m em hm0.1,if_neg hgt]
theorem kl0:kat ["voucher","parents","basket","standing"] ["voucher","parents","basket","standing"] (kah kjK):=by ac_rfl
theorem kmc(W:WB K mg d base):FO P w W 5 d.X7 d.X8 ["voucher","parents","basket","standing"] (klv K d):=by
 exists W.Vf.F,kl0
 ·obtain⟨v,a,b,x,Vc,ps,B,S,rfl,hV,hA,hB,hS,wf,vo,k⟩:=h
  exists XE,kcx,W
  exists XF,kcg,W
  exists hr2,2,hr,0
  refine⟨_,kaf (kas (kb5 (kaa (pcl XE hr W.Q3 (kaa (pv 0) (kaa (pv 1) (kaa (pv 2) (kaa (pv 3) kae))))) (kaa (pcl XF hr2 W.Q4 (kaa (pv 0) (kaa (pv 3) kae))) kae)))),?_⟩
  refine⟨_,rfl,_,rfl,_,rfl,_,rfl,v,a,b,x,Vc,ps,B,S,rfl,hV,hA,hB,hS,wf,vo,fun H1 p s1 f1 h1=>?_⟩
  refine⟨_,rfl,_,rfl,v,x,Vc,S,rfl,hV.same s1,hS.same s1,(by show 2≤sizeLine;decide),fun t ht=>?_⟩
  rw[←kks (ps:=ps) (kk:=kds B) (S:=S) vo]
  refine k _ t p (s1.trans (kal ht)) (none_of s1 ht) f1 ?_ (kal ht _ _ h1)
  exact kad
theorem klj{l:List Nat}{f g:Nat→Bool}(h:∀x∈l,f x=g x):l.any f=l.any g:=by
 induction l with
 |nil=>rfl
 |cons a l ih=>rw[ML,ML,h a NJ,ih fun x hx=>h x (NC _ hx)]
theorem ke6{ow:List Nat}{cs:List Int}{i o l:Nat}(h:ow[i]?=some o):kbS (ow.take (i+1)) cs l=(kbS (ow.take i) cs l||(o==l&&decide (0<cs.getD i 0))):=by
 have hi:=at_lt h
 unfold kbS
 rw[Nv,Nv,MT (by omega),MT (by omega),Mb,List.any_append]
 congr 1
 ·refine klj fun j hj=>?_
  have hj':j<i:=by simpa using hj
  simp only[Nt,Dp]
  rw[if_pos (by omega),if_pos hj']
 ·simp only[ML,List.any_nil,Ez]
  rw[Nt,Dp,if_pos (by omega),h]
  rfl
inductive kc8 (d:D) (vs:List V) (H:Hp) (Q:VK) (E_:XK):Prop
 |ct (v x c:Addr)(V:Vch)(S:Stnd)(cs:List Int)(_:vs=[.ref v, .ref x, .ref c])(_:VchIs d H v V)(_:StndIs d.qc H x S)(_:H c=some (.lst (cs.map L2.V.int)))(_:cs.length=S.ow.length)(_:S.ow.length≤720)(_:S.mkd.length≤12)(_:(∀l∈S.ow,l<S.mkd.length))(_:∀(H':Hp)(p:Addr),Same H H'→H p=none→H' p=some (.lst (((Nf S.mkd.length).map fun l=>S.mkd.getD l false||(V.ms.lone&&kbS S.ow cs l)).map L2.V.bl))→Q (.ref p) H'):kc8 d vs H Q E_
theorem QJ:kat ["voucher","standing","piece_cuts","marked","owner","cut"] ["voucher","standing","piece_cuts"] (kah kbW):=by ac_rfl
theorem ked(W:WB K mg d base):FO P w W 1 d.Yk d.Yl ["voucher","standing","piece_cuts"] (kc8 d):=by
 exists W.Vj.F,QJ
 ·obtain⟨v,x,c,Vc,S,cs,rfl,⟨mA,dxv,fsv,hv,lvm,_,⟨dxm,fsm,hm,m1,m2,m3,m4,m5,m6⟩,hh,htb⟩,⟨o,p,mk,⟨dxs,fss,hx,l1,l2,l3,l4,l5⟩,ho,hp,hmk⟩,hc,lc,lo,lmk,hw,k⟩:=h
  refine⟨_,kab (psl (i:=3) QJ.nd (kaQ (r:=kbg K) kaD (by rfl) W.B.list kbn (kaa (kaj (K:=K) (pv 1) rfl) kae)))
   (kab (ps_if (kaN (kaj (K:=K) (kaj (K:=K) (pv 0) rfl) rfl)) (kaf (kaR PassesOwn.never rfl (keG rfl W.B.zip (kaa (kaj (K:=K) (pv 1) rfl) (kaa (pv 2) kae))) (kbi (K:=K) (n:=2) rfl (kax (pgn (i:=4) QJ.nd) (kax (pgn (i:=5) QJ.nd) kbh)))
   (kaf (ps_if (kap op_gt (pv 5) kag (kav _)) (kaf (kcw pe_bl (kdo (pv 3) (pv 4) set_list))) (kau))))) (kau))
   (kaf (kas (pv 3)))),?_⟩
  have e0:S.mkd.map V.bl=((Nf S.mkd.length).map fun l=>S.mkd.getD l false||kbS (S.ow.take 0) cs l).map V.bl:=by
   congr 1
   apply N6
   ·simp
   ·intro j h1 h2
    simp[kbS,h1]
  exists Y4
  refine⟨_,rfl,x,d.qc,dxs,fss,_,rfl,hx,W.qc.cl,W.Qo,l4,mk,_,rfl, .inl (SqL.of hmk),fun q hq=>?_⟩
  have s1:=kal (o:=.lst (S.mkd.map V.bl)) hq
  symm
  exists Y4
  refine⟨_,rfl,v,clsOf d Vc.so,dxv,fsv,_,rfl,s1 _ _ hv,cl_of W hh,na_of W hh,lvm,mA,d.qh,dxm,fsm,_,rfl,s1 _ _ hm,W.qh.cl,W.qX,m6,_,rfl,?_⟩
  cases e:Vc.ms.lone with
  |false=>
   refine iteF ?_
   symm
   exists Y6
   refine⟨_,rfl,k _ q s1 hq ?_⟩
   rw[e0]
   simp only[e,Eo,Ez]
   rw[kad]
   congr 2
   simp[kbS]
  | true=>
   refine iteT ?_
   have emin:min (S.ow.map iV).length (cs.map V.int).length=S.ow.length:=by rw[Nb,Nb,lc,MM]
   symm
   exists Y6
   refine⟨_,rfl,x,d.qc,dxs,fss,_,rfl,s1 _ _ hx,W.qc.cl,W.qL,l1,_,rfl,o,c,_,_,rfl,s1 _ _ ho,s1 _ _ hc,
    khF (xs:=S.ow.map iV) (ys:=cs.map V.int) (fun i σ H'=>(∃v4 v5:Option V,σ=[some (.ref v),some (.ref x),some (.ref c),some (.ref q),v4,v5])∧But q H H'∧H' q=some (.lst (((Nf S.mkd.length).map fun l=>S.mkd.getD l false||kbS (S.ow.take i) cs l).map V.bl)))
     ⟨⟨none,none,rfl⟩,But.of_same s1,by rw[kad,e0]⟩ (fun i σ H' _ h=>⟨h.2.1 _ _ (kai ho hq) ho,h.2.1 _ _ (kai hc hq) hc⟩) ?_ ?_⟩
   ·rintro i y z t σ H1 hy hz ⟨⟨v4,v5,rfl⟩,b1,h1⟩ ht
    obtain⟨ln,eln,rfl⟩:=kba hy
    obtain⟨cz,ecz,rfl⟩:=kba hz
    have hln:=hw ln (Nj eln)
    have st:=fun l=>ke6 (cs:=cs) (l:=l) eln
    have eg:cs.getD i 0=cz:=by rw[Nt,ecz];rfl
    have tq:q≠t:=kai h1 ht
    have b2:=b1.same (kal (o:=.tup [iV ln,V.int cz]) ht)
    have h2:=kal (o:=.tup [iV ln,V.int cz]) ht _ _ h1
    nofun
    exists Y8
    refine⟨t,_,rfl,SqT.of kad,rfl,_,_,rfl,_,_,rfl,rfl,?_⟩
    exists 3
    exists Y8
    refine⟨_,rfl,_,_,rfl,rfl,_,rfl,?_⟩
    by_cases hc0:cz > 0
    ·rw[decide_eq_true hc0]
     refine iteT ?_
     exists 3
     exists Y10
     refine⟨_,rfl,_,rfl,q,_,_,ln,rfl,rfl,h2,kca (by simpa using hln),⟨_,_,rfl⟩,b2.trans kay,?_⟩
     rw[kad,←Md]
     congr 3
     apply N6
     ·simp
     ·intro j g1 g2
      have hj:j<S.mkd.length:=by simpa using g1
      rw[Ec]
      simp only[MG,MP]
      rw[st j,eg]
      by_cases hjl:ln=j
      ·subst hjl
       simp[hc0]
      ·rw[if_neg hjl,show(ln==j)=false by simpa using hjl]
       simp
    ·rw[decide_eq_false hc0]
     refine iteF ?_
     try first|apply Y10|apply Y8|apply Y6|apply Y4
     exists Y10
     refine⟨⟨_,_,rfl⟩,b2,?_⟩
     rw[h2]
     congr 3
     try first|apply Y10|apply Y8|apply Y6|apply Y4
     refine N2 fun l _=>?_
     rw[st l,eg,show decide (0<cz)=false by simpa using hc0]
     simp
   ·rintro σ H1 ⟨⟨v4,v5,rfl⟩,b1,h1⟩
    rw[emin,ND] at h1
    exists 3
    exists Y8
    refine⟨_,rfl,k _ q (kgZ b1 hq) hq ?_⟩
    rw[h1]
    simp only[e,Bool.true_and]
noncomputable def rmv(x:Addr)(H:Hp):Hp:=fun a=>if a=x then none else H a
theorem kjL{x:Addr}{H:Hp}:rmv x H x=none:=if_pos rfl
theorem kgz{x a:Addr}{H:Hp}(n:a≠x):rmv x H a=H a:=if_neg n
theorem kfV{x a:Addr}{H:Hp}{o:HO}(h:rmv x H a=some o):H a=some o:=by
 by_cases e:a=x
 ·subst e
  rw[kjL] at h
  cases h
 ·rw[kgz e] at h
  exact h
theorem kl2{x:Addr}{H:Hp}(hx:NX H x):But x H (rmv x H):=fun b u n e=>ev_eq (by rw[kgz n];exact e) fun⟨ps,e1,t,hor⟩=>⟨ps,by rw[kgz n];exact e1,t,fun pos c ec=>by
 obtain⟨c',rfl,z2⟩:=hor pos c ec
 exact⟨c',rfl,by rw[kgz fun e=>hx _ (e▸z2)];exact z2⟩⟩
theorem kl1{x:Addr}{H:Hp}:Same (rmv x H) H:=fun b u e=>ev_eq (kfV e) fun⟨ps,e1,t,hor⟩=>⟨ps,kfV e1,t,fun pos c ec=>by
 obtain⟨c',rfl,z2⟩:=hor pos c ec
 exact⟨c',rfl,kfV z2⟩⟩
theorem kiO{Hs H H':Hp}{x:Addr}(s:Same Hs H)(b:But x H H')(f:Hs x=none):Same Hs H':=fun c u e=>kbE (s c u e) fun u' e'=>b c u' (kai e f) e'
inductive StndN (C:Addr) (H0 H:Hp) (x:Addr) (S:Stnd):Prop
 |ct (_:H0 x=none)(o p mk:Addr)(_:StandAt C H x o p mk S.cg)(_:H0 o=none)(_:H0 p=none)(_:H0 mk=none)(_:H o=some (.lst (S.ow.map iV)))(_:H p=some (.lst (S.pr.map V.int)))(_:H mk=some (.lst (S.mkd.map V.bl))):StndN C H0 H x S
theorem StndN.is{C x:Addr}{H0 H:Hp}{S:Stnd}:StndN C H0 H x S→StndIs C H x S:=by rintro⟨_,o,p,mk,h,_,_,_,h1,h2,h3⟩;exact⟨o,p,mk,h,h1,h2,h3⟩
theorem kce{H0 H:Hp}{q a:Addr}(hq:H0 q≠none)(f:H0 a=none):rmv q H a=H a:=kgz fun e=>hq (e▸f)
theorem StndN.rmv{C x q:Addr}{H0 H:Hp}{S:Stnd}(hq:H0 q≠none):StndN C H0 H x S→StndIs C (rmv q H) x S:=by rintro⟨f,o,p,mk,⟨dx,fs,hx,r⟩,f1,f2,f3,h1,h2,h3⟩;exact⟨o,p,mk,⟨dx,fs,(kce hq f).trans hx,r⟩,(kce hq f1).trans h1,(kce hq f2).trans h2,(kce hq f3).trans h3⟩
inductive WayN (d:D) (m:Nat) (H0 H:Hp) (w t b x:Addr) (hand:List Int) (used:List Nat):Prop
 |ct (_:H0 w=none)(dx:Addr)(fs:List (Str×V))(h u:Addr)(_:H0 h=none)(_:H0 u=none)(_:H w=some (.ins d.c_Way dx fs))(_:fs.lookup ("till" :Str)=some (.ref t))(_:fs.lookup ("basket" :Str)=some (.ref b))(_:fs.lookup ("hand" :Str)=some (.ref h))(_:fs.lookup ("used" :Str)=some (.ref u))(_:fs.lookup ("standing" :Str)=some (.ref x))(_:fs.lookup ("word_for" :Str)=none)(_:fs.lookup ("behind" :Str)=none)(_:fs.lookup ("is_let_by" :Str)=none)(_:fs.lookup ("followers" :Str)=none)(_:fs.length≤m)(_:H h=some (.lst (hand.map V.int)))(_:H u=some (.lst (used.map iV))):WayN d m H0 H w t b x hand used
theorem WayN.at{d:D}{m:Nat}{H0 H:Hp}{w t b x:Addr}{hand:List Int}{used:List Nat}:WayN d m H0 H w t b x hand used→WayAt d m H w t b x hand used:=by rintro⟨_,dx,fs,h,u,_,_,h1,h2,h3,h4,h5,h6,h7,h8,h9,h10,h11,h12,h13⟩;exact⟨dx,fs,h,u,h1,h2,h3,h4,h5,h6,h7,h8,h9,h10,h11,h12,h13⟩
theorem WayN.rmv{d:D}{m:Nat}{H0 H:Hp}{w t b x q:Addr}{hand:List Int}{used:List Nat}(hq:H0 q≠none):WayN d m H0 H w t b x hand used→WayAt d m (rmv q H) w t b x hand used:=by rintro⟨f,dx,fs,h,u,f1,f2,g,h2,h3,h4,h5,h6,h7,h8,h9,h10,h11,h12,h13⟩;exact⟨dx,fs,h,u,(kce hq f).trans g,h2,h3,h4,h5,h6,h7,h8,h9,h10,h11,(kce hq f1).trans h12,(kce hq f2).trans h13⟩
inductive kh7 (K:Nc) (d:D) (vs:List V) (H:Hp) (Q:VK) (E_:XK):Prop
 |ct (v a b x:Addr)(V:Vch)(ps:List (Option Nat))(B:Bask)(S:Stnd)(_:vs=[.ref v, .ref a, .ref b, .ref x])(_:VchIs d H v V)(_:SqL K H a (ps.map pV))(_:BaskIs d.qf d.qd H b B)(_:StndIs d.qc H x S)(_:Wf ps B S)(_:VchOk ps V)(_:∀(H':Hp)(x':Addr),Same H H'→H x'=none→StndN d.qc H H' x' (aftM V ps (kds B) S)→Q (.ref x') H'):kh7 K d vs H Q E_
theorem XG:kat ["voucher","parents","basket","standing","piece_cuts","left"] ["voucher","parents","basket","standing"] (kah khr):=by ac_rfl
theorem kkV(W:WB K mg d base):FO P w W 5 d.X9 d.Ya ["voucher","parents","basket","standing"] (kh7 K d):=by
 exists W.Vg.F,XG
 ·obtain⟨v,a,b,x,Vc,ps,B,S,rfl,hV,hA,hB,hS,wf,vo,k⟩:=h
  exists XE,kcx,W
  exists Qs,kbP,W
  exists XF,kcg,W
  exists UB,ked,W
  exists hr1,1,hr,0
  exists hr2,2,hr,0
  exists hr3,3,hr,0
  refine⟨_,kab (psl (i:=4) XG.nd (pcl XE hr W.Q3 (kaa (pv 0) (kaa (pv 1) (kaa (pv 2) (kaa (pv 3) kae))))))
   (kab (psl (i:=5) XG.nd (kbc (W.qO.mk' W.qc) Qs hr3 rfl W.qc.m W.qO.b .nil pass0 (kaa (pv 2) kae)))
   (kab (kaJ (pv 5) (kaQ (r:=kbg K) kaD (by rfl) W.B.list kbn (kaa (kaj (K:=K) (pv 3) rfl) kae)) rfl)
   (kab (kaJ (pv 5) (kbp (N:=["price","cut"]) (CompScope.plain rfl (by decide +kernel) (by decide +kernel) (by decide +kernel) (show(["price","cut"]:List Str).Nodup by decide +kernel)) rfl (keG rfl W.B.zip (kaa (kaj (K:=K) (pv 3) rfl) (kaa (pv 4) kae))) (fun _ _ _ _=>kbi (K:=K) (n:=2) rfl (kax (pgn (i:=0) (show(["price","cut"]:List Str).Nodup by decide +kernel)) (kax (pgn (i:=1) (show(["price","cut"]:List Str).Nodup by decide +kernel)) kbh))) (fun _ _ _ _=>(pe_op kcK (pv 0) (pv 1)))) rfl)
   (kab (kaJ (pv 5) (pe_op kcK (kaj (K:=K) (pv 3) rfl) (pcl XF hr2 W.Q4 (kaa (pv 0) (kaa (pv 3) kae)))) rfl)
   (kab (kaJ (pv 5) (pcl UB hr1 W.Vj (kaa (pv 0) (kaa (pv 3) (kaa (pv 4) kae)))) rfl)
   (kaf (kas (pv 5)))))))),?_⟩
  have np:=wf.np
  have lp:=wf.lp
  have lcut:(cutM Vc ps (kds B) S).1.length=S.pr.length:=(kfD wf.nn wf.cg.1 vo.so fun m e=>(vo.ms.most m e).1).1.1
  exists Y4
  refine⟨_,rfl,_,rfl,_,rfl,_,rfl,v,a,b,x,Vc,ps,B,S,rfl,hV,hA,hB,hS,wf,vo,fun H1 pc s1 f1 h1=>?_⟩
  obtain⟨l,ls,hb1,hl1,hL1⟩:=id (hB.same s1)
  symm
  exists Y4
  refine⟨_,rfl,kj5 hb1 hl1 hL1 wf.nl wf.ok fun H2 y s2 f2 dxy fsy hy ly lyw=>?_⟩
  have fy:H y=none:=none_of s1 f2
  have s02:=s1.trans s2
  obtain⟨o,p,mk,⟨dxs,fss,hx,l1,l2,l3,l4,l5⟩,ho,hp,hmk⟩:=id hS
  symm
  exists Y4
  refine⟨_,rfl,x,d.qc,dxs,fss,_,rfl,s02 _ _ hx,W.qc.cl,W.qL,l1,o,_,rfl, .inl (SqL.of (s02 _ _ ho)),fun q1 hq1=>?_⟩
  have n1:q1≠y:=(kai hy hq1).symm
  symm
  exists Y4
  refine⟨_,rfl,y,d.qc,dxy,fsy,rfl,kal hq1 _ _ hy,W.qc.cl,W.qL,few (by omega),?_⟩
  have s3:Same H (upd (upd H2 q1 (.lst (S.ow.map iV))) y (.ins d.qc dxy (putF "owners" (.ref q1) fsy))):=kaq fy (s02.trans (kal hq1))
  have e3:(upd (upd H2 q1 (.lst (S.ow.map iV))) y (.ins d.qc dxy (putF "owners" (.ref q1) fsy))) q1=some (.lst (S.ow.map iV)):=by rw[kak n1,kad]
  have y3:(upd (upd H2 q1 (.lst (S.ow.map iV))) y (.ins d.qc dxy (putF "owners" (.ref q1) fsy))) y=some (.ins d.qc dxy (putF "owners" (.ref q1) fsy)):=kad
  have c3:(upd (upd H2 q1 (.lst (S.ow.map iV))) y (.ins d.qc dxy (putF "owners" (.ref q1) fsy))) pc=some (.lst ((cutM Vc ps (kds B) S).1.map V.int)):=by
   rw[kak (kai h1 f2)]
   symm
   exact kal hq1 _ _ (s2 _ _ h1)
  have f3:=Nk (kam (f:="owners") (v:=.ref q1) ly) (by decide:11≤20)
  generalize upd (upd H2 q1 (.lst (S.ow.map iV))) y (.ins d.qc dxy (putF "owners" (.ref q1) fsy))=H3 at *
  have emin:min (S.pr.map V.int).length ((cutM Vc ps (kds B) S).1.map V.int).length=S.pr.length:=by rw[Nb,Nb,lcut,MM]
  symm
  exists Y4
  refine⟨_,rfl,x,d.qc,dxs,fss,_,rfl,s3 _ _ hx,W.qc.cl,W.qw,l2,_,rfl,p,pc,_,_,rfl,s3 _ _ hp,c3,
   kiM (xs:=S.pr.map V.int) (ys:=(cutM Vc ps (kds B) S).1.map V.int) (fun i σ zs H'=>Same H3 H'∧zs=((NI (· - ·) S.pr (cutM Vc ps (kds B) S).1).take i).map V.int∧∃v0 v1:Option V,σ=[v0,v1])
    ⟨Same.refl _,rfl,none,none,rfl⟩ (by rw[emin];exact Nq (kar (by omega))) (fun i σ zs H' hi h=>⟨h.1 _ _ (s3 _ _ hp),h.1 _ _ c3,by rw[h.2.1,Nb,Nv,MQ,lcut];rw[emin] at hi;omega⟩) ?_ ?_⟩
  ·rintro i y1 y2 t σ zs H4 hy1 hy2 ⟨s4,rfl,v0,v1,rfl⟩ ht
   obtain⟨z1,ez1,rfl⟩:=kba hy1
   obtain⟨z2,ez2,rfl⟩:=kba hy2
   symm
   exists Y6
   refine⟨t,_,rfl,SqT.of kad,rfl,_,_,rfl,_,_,rfl,rfl,_,rfl,_,rfl,_,_,rfl,rfl,s4.trans (kal ht),?_,_,_,rfl⟩
   rw[kbJ (r:=z1-z2) (by rw[Ee,ez1,ez2]),Nl]
   rfl
  rintro σ zs H4 ⟨s4,rfl,v0,v1,rfl⟩ q2 hq2
  rw[emin,Mg (by rw[MQ,lcut];omega)]
  have n2:q2≠y:=(kai (s4 _ _ y3) hq2).symm
  have n12:q1≠q2:=kai (s4 _ _ e3) hq2
  have s5:=kal (o:=.lst ((NI (· - ·) S.pr (cutM Vc ps (kds B) S).1).map V.int)) hq2
  symm
  exists Y4
  refine⟨_,rfl,y,d.qc,dxy,_,rfl,s5 _ _ (s4 _ _ y3),W.qc.cl,W.qw,few f3,?_⟩
  have s6:Same H (upd (upd H4 q2 (.lst ((NI (· - ·) S.pr (cutM Vc ps (kds B) S).1).map V.int))) y (.ins d.qc dxy (putF "prices" (.ref q2) (putF "owners" (.ref q1) fsy)))):=kaq fy ((s3.trans s4).trans s5) (nx (s5 _ _ (s4 _ _ y3)))
  have e6:(upd (upd H4 q2 (.lst ((NI (· - ·) S.pr (cutM Vc ps (kds B) S).1).map V.int))) y (.ins d.qc dxy (putF "prices" (.ref q2) (putF "owners" (.ref q1) fsy)))) q1=some (.lst (S.ow.map iV)):=by
   rw[kak n1]
   symm
   exact s5 _ _ (s4 _ _ e3)
  have p6:(upd (upd H4 q2 (.lst ((NI (· - ·) S.pr (cutM Vc ps (kds B) S).1).map V.int))) y (.ins d.qc dxy (putF "prices" (.ref q2) (putF "owners" (.ref q1) fsy)))) q2=some (.lst ((NI (· - ·) S.pr (cutM Vc ps (kds B) S).1).map V.int)):=by rw[kak n2,kad]
  have y6:(upd (upd H4 q2 (.lst ((NI (· - ·) S.pr (cutM Vc ps (kds B) S).1).map V.int))) y (.ins d.qc dxy (putF "prices" (.ref q2) (putF "owners" (.ref q1) fsy)))) y=some (.ins d.qc dxy (putF "prices" (.ref q2) (putF "owners" (.ref q1) fsy))):=kad
  have c6:(upd (upd H4 q2 (.lst ((NI (· - ·) S.pr (cutM Vc ps (kds B) S).1).map V.int))) y (.ins d.qc dxy (putF "prices" (.ref q2) (putF "owners" (.ref q1) fsy)))) pc=some (.lst ((cutM Vc ps (kds B) S).1.map V.int)):=by
   rw[kak (kai h1 f2)]
   symm
   exact s5 _ _ (s4 _ _ c3)
  have f6:=Nk (kam (f:="prices") (v:=.ref q2) (kam (f:="owners") (v:=.ref q1) ly)) (by decide:12≤20)
  generalize upd (upd H4 q2 (.lst ((NI (· - ·) S.pr (cutM Vc ps (kds B) S).1).map V.int))) y (.ins d.qc dxy (putF "prices" (.ref q2) (putF "owners" (.ref q1) fsy)))=H6 at *
  symm
  exists Y4
  refine⟨_,rfl,x,d.qc,dxs,fss,_,rfl,s6 _ _ hx,W.qc.cl,W.qY,l3,_,rfl,_,rfl,v,x,Vc,S,rfl,hV.same s6,hS.same s6,_,_,rfl,rfl,?_⟩
  rw[←kks (ps:=ps) (kk:=kds B) (S:=S) vo]
  symm
  exists Y4
  refine⟨_,rfl,y,d.qc,dxy,_,rfl,y6,W.qc.cl,W.qY,few f6,?_⟩
  have s7:Same H (upd H6 y (.ins d.qc dxy (putF "carriage" (.int (S.cg-(cutM Vc ps (kds B) S).2)) (putF "prices" (.ref q2) (putF "owners" (.ref q1) fsy))))):=kaq fy s6
  have e7:(upd H6 y (.ins d.qc dxy (putF "carriage" (.int (S.cg-(cutM Vc ps (kds B) S).2)) (putF "prices" (.ref q2) (putF "owners" (.ref q1) fsy))))) q1=some (.lst (S.ow.map iV)):=by rw[kak n1];exact e6
  have p7:(upd H6 y (.ins d.qc dxy (putF "carriage" (.int (S.cg-(cutM Vc ps (kds B) S).2)) (putF "prices" (.ref q2) (putF "owners" (.ref q1) fsy))))) q2=some (.lst ((NI (· - ·) S.pr (cutM Vc ps (kds B) S).1).map V.int)):=by rw[kak n2];exact p6
  have y7:(upd H6 y (.ins d.qc dxy (putF "carriage" (.int (S.cg-(cutM Vc ps (kds B) S).2)) (putF "prices" (.ref q2) (putF "owners" (.ref q1) fsy))))) y=some (.ins d.qc dxy (putF "carriage" (.int (S.cg-(cutM Vc ps (kds B) S).2)) (putF "prices" (.ref q2) (putF "owners" (.ref q1) fsy)))):=kad
  have c7:(upd H6 y (.ins d.qc dxy (putF "carriage" (.int (S.cg-(cutM Vc ps (kds B) S).2)) (putF "prices" (.ref q2) (putF "owners" (.ref q1) fsy))))) pc=some (.lst ((cutM Vc ps (kds B) S).1.map V.int)):=by rw[kak (kai h1 f2)];exact c6
  have f7:=Nk (kam (f:="carriage") (v:=.int (S.cg-(cutM Vc ps (kds B) S).2)) (kam (f:="prices") (v:=.ref q2) (kam (f:="owners") (v:=.ref q1) ly))) (by decide:13≤20)
  generalize upd H6 y (.ins d.qc dxy (putF "carriage" (.int (S.cg-(cutM Vc ps (kds B) S).2)) (putF "prices" (.ref q2) (putF "owners" (.ref q1) fsy))))=H7 at *
  symm
  exists Y4
  refine⟨_,rfl,_,rfl,_,rfl,v,x,pc,Vc,S,_,rfl,hV.same s7,hS.same s7,c7,by rw[lcut,lp],np,by rw[wf.lm];exact wf.nl,fun l hl=>?_,fun H8 q3 s8 f8 h8=>?_⟩
  ·obtain⟨i,hi⟩:=Mp.mp hl
   rw[wf.lm]
   symm
   exact wf.line hi
  have n3:q3≠y:=(kai y7 f8).symm
  symm
  exists Y4
  refine⟨_,rfl,y,d.qc,dxy,_,rfl,s8 _ _ y7,W.qc.cl,W.Qo,few f7,?_⟩
  symm
  exists Y4
  refine⟨_,rfl,k _ y (kaq fy (s7.trans s8) (nx (s8 _ _ y7))) fy ⟨fy,q1,q2,q3,⟨dxy,_,kad,?_,?_,?_,?_,?_⟩,none_of s02 hq1,none_of (s3.trans s4) hq2,none_of s7 f8,?_,?_,?_⟩⟩
  ·ac_nf
  ·ac_nf
  ·ac_nf
   rfl
  ·ac_nf
  ·rw[kac,if_neg (by decide +kernel),kac,if_neg (by decide +kernel),kac,if_neg (by decide +kernel),kac,if_neg (by decide +kernel)]
   symm
   exact lyw
  ·rw[kak n1]
   symm
   exact s8 _ _ e7
  ·rw[kak n2]
   symm
   exact s8 _ _ p7
  ·rw[kak n3]
   symm
   exact h8
inductive khd (d:D) (vs:List V) (H:Hp) (Q:VK) (E_:XK):Prop
 |ct (H0:Hp)(x dx p vl rl:Addr)(ps vs' rs:List V)(bk:Str)(_:vs=[.ref x, .ref p, .ref vl, .ref rl, .str bk])(_:H0 x=none)(_:Same H0 H)(_:H x=some (.ins d.qg dx []))(_:H0 p=some (.lst ps))(_:H0 vl=some (.lst vs'))(_:H0 rl=some (.lst rs))(_:∀(H':Hp)(p' vl' rl':Addr)(fs:List (Str×V)),Same H0 H'→H0 p'=none→H0 vl'=none→H0 rl'=none→H' p'=some (.lst ps)→H' vl'=some (.lst vs')→H' rl'=some (.lst rs)→H' x=some (.ins d.qg dx fs)→fs.lookup ("parents" :Str)=some (.ref p')→fs.lookup ("vouchers" :Str)=some (.ref vl')→fs.lookup ("rules" :Str)=some (.ref rl')→fs.lookup ("back" :Str)=some (.str bk)→Q .non H'):khd d vs H Q E_
theorem kgw:kat ["self","parents","vouchers","rules","back"] ["self","parents","vouchers","rules","back"] (kah kbe):=by ac_rfl
theorem kd0(W:WB K mg d base):FO P w W 1 d.Z9 d.Q0 ["self","parents","vouchers","rules","back"] (khd d):=by
 exists W.QG.F,kgw
 ·obtain⟨H0,x,dx,p,vl,rl,ps,vs',rs,bk,rfl,fx,s0,hx,hp,hvl,hrl,k⟩:=h
  refine⟨_,kab (kaJ (pv 0) (kaQ (r:=kbg K) kaD (by rfl) W.B.list kbn (kaa (pv 1) kae)) rfl)
   (kab (kaJ (pv 0) (kaQ (r:=kbg K) kaD (by rfl) W.B.list kbn (kaa (pv 2) kae)) rfl)
   (kab (kaJ (pv 0) (kaQ (r:=kbg K) kaD (by rfl) W.B.list kbn (kaa (pv 3) kae)) rfl)
   (kaf (kaJ (pv 0) (pv 4) rfl)))),?_⟩
  exists Y4
  refine⟨_,rfl,p,_,rfl, .inl (SqL.of (s0 _ _ hp)),fun p' hp'=>?_⟩
  have n1:=kal (o:=.lst ps) hp'
  have fp:=s0.free hp'
  have np:p'≠x:=(kai hx hp').symm
  have e1:(upd H p' (.lst ps)) p'=some (.lst ps):=kad
  have s1:=s0.trans n1
  have hx1:=n1 _ _ hx
  clear n1
  generalize upd H p' (.lst ps)=H1 at *
  symm
  exists Y4
  refine⟨_,rfl,x,d.qg,dx,[],rfl,hx1,W.qg.cl,W.q9,by decide,?_⟩
  have s2:Same H0 (upd H1 x (.ins d.qg dx (putF "parents" (.ref p') []))):=kaq fx s1 (nx hx1)
  have e2:(upd H1 x (.ins d.qg dx (putF "parents" (.ref p') []))) p'=some (.lst ps):=by rw[kak np];exact e1
  have hx2:(upd H1 x (.ins d.qg dx (putF "parents" (.ref p') []))) x=some (.ins d.qg dx (putF "parents" (.ref p') [])):=kad
  generalize upd H1 x (.ins d.qg dx (putF "parents" (.ref p') []))=H2 at *
  symm
  exists Y4
  refine⟨_,rfl,vl,_,rfl, .inl (SqL.of (s2 _ _ hvl)),fun v' hv'=>?_⟩
  have n3:=kal (o:=.lst vs') hv'
  have fv:=s2.free hv'
  have nv:v'≠x:=(kai hx2 hv').symm
  have s3:=s2.trans n3
  have e3:=n3 _ _ e2
  have ev3:(upd H2 v' (.lst vs')) v'=some (.lst vs'):=kad
  have hx3:=n3 _ _ hx2
  clear n3
  generalize upd H2 v' (.lst vs')=H3 at *
  symm
  exists Y4
  refine⟨_,rfl,x,d.qg,dx,_,rfl,hx3,W.qg.cl,W.qM,few (Nk (kam (n:=0) (Nd _)) (by decide)),?_⟩
  have s4:Same H0 (upd H3 x (.ins d.qg dx (putF "vouchers" (.ref v') (putF "parents" (.ref p') [])))):=kaq fx s3 (nx hx3)
  have e4:(upd H3 x (.ins d.qg dx (putF "vouchers" (.ref v') (putF "parents" (.ref p') [])))) p'=some (.lst ps):=by rw[kak np];exact e3
  have ev4:(upd H3 x (.ins d.qg dx (putF "vouchers" (.ref v') (putF "parents" (.ref p') [])))) v'=some (.lst vs'):=by rw[kak nv];exact ev3
  have hx4:(upd H3 x (.ins d.qg dx (putF "vouchers" (.ref v') (putF "parents" (.ref p') [])))) x=some (.ins d.qg dx (putF "vouchers" (.ref v') (putF "parents" (.ref p') []))):=kad
  generalize upd H3 x (.ins d.qg dx (putF "vouchers" (.ref v') (putF "parents" (.ref p') [])))=H4 at *
  symm
  exists Y4
  refine⟨_,rfl,rl,_,rfl, .inl (SqL.of (s4 _ _ hrl)),fun r' hr'=>?_⟩
  have n5:=kal (o:=.lst rs) hr'
  have fr:=s4.free hr'
  have nr:r'≠x:=(kai hx4 hr').symm
  have s5:=s4.trans n5
  have e5:=n5 _ _ e4
  have ev5:=n5 _ _ ev4
  have er5:(upd H4 r' (.lst rs)) r'=some (.lst rs):=kad
  have hx5:=n5 _ _ hx4
  clear n5
  generalize upd H4 r' (.lst rs)=H5 at *
  symm
  exists Y4
  refine⟨_,rfl,x,d.qg,dx,_,rfl,hx5,W.qg.cl,W.Qa,few (Nk (kam (kam (n:=0) (Nd _))) (by decide)),?_⟩
  have s6:Same H0 (upd H5 x (.ins d.qg dx (putF "rules" (.ref r') (putF "vouchers" (.ref v') (putF "parents" (.ref p') []))))):=kaq fx s5 (nx hx5)
  have hx6:(upd H5 x (.ins d.qg dx (putF "rules" (.ref r') (putF "vouchers" (.ref v') (putF "parents" (.ref p') []))))) x=some (.ins d.qg dx (putF "rules" (.ref r') (putF "vouchers" (.ref v') (putF "parents" (.ref p') [])))):=kad
  symm
  exists Y4
  refine⟨_,rfl,_,rfl,x,d.qg,dx,_,rfl,hx6,W.qg.cl,W.V7,few (Nk (kam (kam (kam (n:=0) (Nd _)))) (by decide)),?_⟩
  symm
  refine k _ p' v' r' _ (kaq fx s6 (nx hx6)) fp fv fr ?_ ?_ ?_ kad ?_ ?_ ?_ ?_
  ·rw[kak np,kak np];exact e5
  ·rw[kak nv,kak nv];exact ev5
  ·rw[kak nr,kak nr];exact er5
  ·ac_nf
  ·ac_nf
  ·ac_nf
  ·ac_nf
theorem kj4{d:D}{H:Hp}{p vl rl:Addr}{T:TillD}{va ra:List Addr}{R:Addr→Hp→Prop}{E:XK}(hp:H p=some (.lst (T.ps.map pV)))(hvl:H vl=some (.lst (va.map V.ref)))(hv:P2 (fun a V=>VchIs d H a V) va T.vs)(hrl:H rl=some (.lst (ra.map V.ref)))(hr:P2 (fun a r=>RulIs H a r) ra T.rs)
  (k:∀(H':Hp)(x:Addr),Same H H'→H x=none→TillIs d H' x T→R x H'):
  ∀x dx,H x=none→H dx=none→dx≠x→khd d [.ref x, .ref p, .ref vl, .ref rl, .str T.bk] (upd (upd H dx (.own x)) x (.ins d.qg dx [])) (fun v H2=>v=.non∧R x H2) E:=
 fun x dx nx nd _=>⟨H,x,dx,p,vl,rl,_,_,_,_,rfl,nx,kbl nx nd,kad,hp,hvl,hrl,fun H' p' vl' rl' fs s f1 f2 f3 h1 h2 h3 hx l1 l2 l3 l4=>⟨rfl,k H' x s nx ⟨dx,fs,p',vl',rl',va,ra,hx,l1,l2,l3,l4,h1,h2,hv.mono fun a V h=>h.same s,h3,hr.mono fun a r h=>s _ _ h⟩⟩⟩
inductive khe (f:List Rul→List Nat→Nat→Bool) (vs:List V) (H:Hp) (Q:VK) (E_:XK):Prop
 |ct (rl u:Addr)(ra:List Addr)(rs:List Rul)(used:List Nat)(n:Nat)(_:vs=[.ref rl, .ref u,iV n])(_:H rl=some (.lst (ra.map V.ref)))(_:P2 (fun a r=>RulIs H a r) ra rs)(_:H u=some (.lst (used.map iV)))(_:Q (.bl (f rs used n)) H):khe f vs H Q E_
theorem kkE{f:Rul→Bool}{rs:List Rul}{i:Nat}{r:Rul}(e:rs[i]?=some r)(h:f r=true):rs.any f=true:=List.any_eq_true.mpr ⟨r,Nj e,h⟩
theorem klR{f:Rul→Bool}{rs:List Rul}{n:Nat}(hn:n=rs.length)(h:∀r∈rs.take n,f r=false):rs.any f=false:=by
 rw[hn,ND] at h
 cases e:rs.any f with
 |false=>rfl
 |true=>
  obtain⟨r,hr,e2⟩:=List.any_eq_true.mp e
  rw[h r hr] at e2
  cases e2
theorem kb9{f:Rul→Bool}{rs:List Rul}{i:Nat}{r:Rul}(e:rs[i]?=some r)(h:∀q∈rs.take i,f q=false)(hr:f r=false):∀q∈rs.take (i+1),f q=false:=fun q hq=>by
 rw[Ms,e] at hq
 rcases NR.mp hq with z|z
 ·exact h q z
 ·have e2:q=r:=by simpa using z
  rw[e2]
  exact hr
theorem QK:kat ["rules","used","number","word","one","other"] ["rules","used","number"] (kah kci):=by ac_rfl
theorem keM(W:WB K mg d base):FO P w W 1 d.Yy d.Yz ["rules","used","number"] (khe kfx):=by
 exists W.Vo.F,QK
 ·obtain⟨rl,u,ra,rs,used,n,rfl,hrl,hr,hu,k⟩:=h
  refine⟨_,kab (kaR PassesOwn.never rfl (kaz (K:=K) (pv 0)) (kbi (K:=K) (n:=3) rfl (kax (pgn (i:=3) QK.nd) (kax (pgn (i:=4) QK.nd) (kax (pgn (i:=5) QK.nd) kbh))))
   (kaf (ps_if (PW.pt (ka6 (kap op_eq (pv 3) kbQ (kav _)) (kaX (PW.pt (pw_or (PW.pt (ka6 (kap op_eq (pv 4) (pv 2) (kav _)) (kaX (kap kcU (pv 5) (pv 1) (by with_unfolding_all rfl))))) (kdY (PW.pt (ka6 (kap op_eq (pv 5) (pv 2) (kav _)) (kaX (kap kcU (pv 4) (pv 1) (by with_unfolding_all rfl))))))))))) (kaf (kas pe_bl)) (kau))))
   (kaf (kas pe_bl)),?_⟩
  refine⟨_,rfl,rl,rfl,⟨_,SqL.of hrl⟩,kaZ (xs:=ra.map V.ref) (fun i σ H'=>H'=H∧(∀r∈rs.take i,nevR used n r=false)∧∃v3 v4 v5:Option V,σ=[some (.ref rl),some (.ref u),some (iV n),v3,v4,v5])
   ⟨rfl,(fun r hr=>by simp at hr),none,none,none,rfl⟩ (fun i σ H' _ h=>by rw[h.1];exact SqL.of hrl) ?_ ?_⟩
  ·rintro i y σ H' hy ⟨rfl,hno,v3,v4,v5,rfl⟩
   obtain⟨a,ea,rfl⟩:=kcf hy
   obtain⟨r,er,hra⟩:=hr.at ea
   have yes:nevR used n r=true→Q (.bl true) H':=fun e=>by
    have z:=kkE (f:=nevR used n) er e
    unfold kfx at k
    rw[z] at k
    exact k
   refine⟨a,_,rfl,SqT.of hra,rfl,_,_,rfl,_,_,rfl,_,_,rfl,rfl,?_⟩
   refine⟨_,rfl,rfl,_,rfl,?_⟩
   show if decide (V.str r.w=V.str "never")=true then _ else _
   rw[eq_str]
   by_cases hw:r.w=("never" :Str)
   ·rw [decide_eq_true hw]
    refine iteT ⟨_,rfl,_,rfl,rfl,_,rfl,?_⟩
    show if decide (iV r.a=iV n)=true then _ else _
    rw[kfC]
    by_cases ha:r.a=n
    ·rw[decide_eq_true ha]
     refine iteT ⟨_,rfl,_,rfl,u,_,rfl, .inl (SqL.of hu),rfl,kcu _,_,rfl,?_⟩
     rw[if_neg Np,kcZ]
     cases hb:used.contains r.b with
     |true=>exact iteT (iteT (yes (by unfold nevR;rw[decide_eq_true hw,decide_eq_true ha,hb];rfl)))
     | false=>
      refine iteF ⟨_,rfl,_,rfl,rfl,_,rfl,?_⟩
      show if decide (iV r.b=iV n)=true then _ else _
      rw[kfC]
      by_cases hc:r.b=n
      ·rw[decide_eq_true hc]
       refine iteT ⟨_,rfl,_,rfl,u,_,rfl, .inl (SqL.of hu),rfl,kcu _,_,rfl,?_⟩
       rw[if_neg Np,kcZ]
       cases hd:used.contains r.a with
       |true=>exact iteT (yes (by unfold nevR;rw[decide_eq_true hw,decide_eq_true ha,hb,decide_eq_true hc,hd];rfl))
       |false=>exact iteF ⟨rfl,kb9 er hno (by unfold nevR;rw[decide_eq_true hw,decide_eq_true ha,hb,decide_eq_true hc,hd];rfl),_,_,_,rfl⟩
      ·rw[decide_eq_false hc]
       exact iteF (iteF ⟨rfl,kb9 er hno (by unfold nevR;rw[decide_eq_true hw,decide_eq_true ha,hb,decide_eq_false hc];rfl),_,_,_,rfl⟩)
    ·rw[decide_eq_false ha]
     refine iteF (iteF ⟨_,rfl,_,rfl,rfl,_,rfl,?_⟩)
     show if decide (iV r.b=iV n)=true then _ else _
     rw[kfC]
     by_cases hc:r.b=n
     ·rw[decide_eq_true hc]
      refine iteT ⟨_,rfl,_,rfl,u,_,rfl, .inl (SqL.of hu),rfl,kcu _,_,rfl,?_⟩
      rw[if_neg Np,kcZ]
      cases hd:used.contains r.a with
      |true=>exact iteT (yes (by unfold nevR;rw[decide_eq_true hw,decide_eq_false ha,decide_eq_true hc,hd];rfl))
      |false=>exact iteF ⟨rfl,kb9 er hno (by unfold nevR;rw[decide_eq_true hw,decide_eq_false ha,decide_eq_true hc,hd];rfl),_,_,_,rfl⟩
     ·rw[decide_eq_false hc]
      exact iteF (iteF ⟨rfl,kb9 er hno (by unfold nevR;rw[decide_eq_true hw,decide_eq_false ha,decide_eq_false hc];rfl),_,_,_,rfl⟩)
   ·rw[decide_eq_false hw]
    refine iteF (iteF ⟨rfl,kb9 er hno ?_,_,_,_,rfl⟩)
    unfold nevR
    rw[decide_eq_false hw]
    rfl
  ·rintro σ H' ⟨rfl,hno,v3,v4,v5,rfl⟩
   have z:=klR (by rw[Nb];exact hr.len) hno
   unfold kfx at k
   rw[z] at k
   exact k
theorem QL:kat ["rules","used","number","word","one","other"] ["rules","used","number"] (kah kck):=by ac_rfl
theorem keN(W:WB K mg d base):FO P w W 1 d.YA d.YB ["rules","used","number"] (khe kfI):=by
 exists W.Vp.F,QL
 ·obtain⟨rl,u,ra,rs,used,n,rfl,hrl,hr,hu,k⟩:=h
  refine⟨_,kab (kaR PassesOwn.never rfl (kaz (K:=K) (pv 0)) (kbi (K:=K) (n:=3) rfl (kax (pgn (i:=3) QL.nd) (kax (pgn (i:=4) QL.nd) (kax (pgn (i:=5) QL.nd) kbh))))
   (kaf (ps_if (PW.pt (ka6 (kap op_eq (pv 3) kbQ (kav _)) (ka6 (kap op_eq (pv 4) (pv 2) (kav _)) (kaX (kap kcU (pv 5) (pv 1) (by with_unfolding_all rfl)))))) (kaf (kas pe_bl)) (kau))))
   (kaf (kas pe_bl)),?_⟩
  refine⟨_,rfl,rl,rfl,⟨_,SqL.of hrl⟩,kaZ (xs:=ra.map V.ref) (fun i σ H'=>H'=H∧(∀r∈rs.take i,ahdR used n r=false)∧∃v3 v4 v5:Option V,σ=[some (.ref rl),some (.ref u),some (iV n),v3,v4,v5])
   ⟨rfl,(fun r hr=>by simp at hr),none,none,none,rfl⟩ (fun i σ H' _ h=>by rw[h.1];exact SqL.of hrl) ?_ ?_⟩
  ·rintro i y σ H' hy ⟨rfl,hno,v3,v4,v5,rfl⟩
   obtain⟨a,ea,rfl⟩:=kcf hy
   obtain⟨r,er,hra⟩:=hr.at ea
   have yes:ahdR used n r=true→Q (.bl true) H':=fun e=>by
    have z:=kkE (f:=ahdR used n) er e
    unfold kfI at k
    rw[z] at k
    exact k
   refine⟨a,_,rfl,SqT.of hra,rfl,_,_,rfl,_,_,rfl,_,_,rfl,rfl,?_⟩
   refine⟨_,rfl,rfl,_,rfl,?_⟩
   show if decide (V.str r.w=V.str "ahead")=true then _ else _
   rw[eq_str]
   by_cases hw:r.w=("ahead" :Str)
   ·rw[decide_eq_true hw]
    refine iteT ⟨_,rfl,_,rfl,rfl,_,rfl,?_⟩
    show if decide (iV r.a=iV n)=true then _ else _
    rw[kfC]
    by_cases ha:r.a=n
    ·rw[decide_eq_true ha]
     refine iteT ⟨_,rfl,_,rfl,u,_,rfl, .inl (SqL.of hu),rfl,kcu _,_,rfl,?_⟩
     rw[if_neg Np,kcZ]
     cases hb:used.contains r.b with
     |true=>exact iteT (yes (by unfold ahdR;rw[decide_eq_true hw,decide_eq_true ha,hb];rfl))
     |false=>exact iteF ⟨rfl,kb9 er hno (by unfold ahdR;rw[decide_eq_true hw,decide_eq_true ha,hb];rfl),_,_,_,rfl⟩
    ·rw[decide_eq_false ha]
     exact iteF (iteF ⟨rfl,kb9 er hno (by unfold ahdR;rw[decide_eq_true hw,decide_eq_false ha];rfl),_,_,_,rfl⟩)
   ·rw[decide_eq_false hw]
    refine iteF (iteF ⟨rfl,kb9 er hno ?_,_,_,_,rfl⟩)
    unfold ahdR
    rw[decide_eq_false hw]
    rfl
  ·rintro σ H' ⟨rfl,hno,v3,v4,v5,rfl⟩
   have z:=klR (by rw[Nb];exact hr.len) hno
   unfold kfI at k
   rw[z] at k
   exact k
inductive kgr (vs:List V) (H:Hp) (Q:VK) (E_:XK):Prop
 |ct (rl u:Addr)(ra:List Addr)(rs:List Rul)(order:List Nat)(_:vs=[.ref rl, .ref u])(_:H rl=some (.lst (ra.map V.ref)))(_:P2 (fun a r=>RulIs H a r) ra rs)(_:H u=some (.lst (order.map iV)))(_:Q (pV (onlyM rs order)) H):kgr vs H Q E_
theorem kiG{f:Rul→Bool}:∀{rs:List Rul}{i:Nat}{r:Rul},rs[i]?=some r→f r=true→(∀q∈rs.take i,f q=false)→rs.find? f=some r
 |[],i,r,e,_,_=>by simp at e
 |q::rs,0,r,e,h,_=>by
  have e2:q=r:=by simpa using e
  subst e2
  simp[h]
 |q::rs,i+1,r,e,h,hno=>by
  have h1:=hno q (by simp)
  rw[List.find?_cons_of_neg (by rw[h1];simp)]
  exact kiG (by simpa using e) h fun z hz=>hno z (by simp[hz])
theorem kmo{f:Rul→Bool}{rs:List Rul}{n:Nat}(hn:n=rs.length)(h:∀r∈rs.take n,f r=false):rs.find? f=none:=by
 rw[hn,ND] at h
 exact List.find?_eq_none.mpr fun r hr=>by rw[h r hr];simp
theorem QM:kat ["rules","order","word","one","other"] ["rules","order"] (kah kby):=by ac_rfl
theorem kdt(W:WB K mg d base):FO P w W 1 d.YC d.YD ["rules","order"] kgr:=by
 exists W.Vq.F,QM
 ·obtain⟨rl,u,ra,rs,order,rfl,hrl,hr,hu,k⟩:=h
  refine⟨_,kab (kaR PassesOwn.never rfl (kaz (K:=K) (pv 0)) (kbi (K:=K) (n:=3) rfl (kax (pgn (i:=2) QM.nd) (kax (pgn (i:=3) QM.nd) (kax (pgn (i:=4) QM.nd) kbh))))
   (kaf (ps_if (PW.pt (ka6 (kap op_eq (pv 2) kbQ (kav _)) (ka6 (kap kcU (pv 3) (pv 1) (by with_unfolding_all rfl)) (kaX (kap kgB (pv 4) (pv 1) (by with_unfolding_all rfl)))))) (kaf (kas (pv 3))) (kau))))
   (kaf (kas kbd)),?_⟩
  refine⟨_,rfl,rl,rfl,⟨_,SqL.of hrl⟩,kaZ (xs:=ra.map V.ref) (fun i σ H'=>H'=H∧(∀r∈rs.take i,loneM order r=false)∧∃v3 v4 v5:Option V,σ=[some (.ref rl),some (.ref u),v3,v4,v5])
   ⟨rfl,(fun r hr=>by simp at hr),none,none,none,rfl⟩ (fun i σ H' _ h=>by rw[h.1];exact SqL.of hrl) ?_ ?_⟩
  ·rintro i y σ H' hy ⟨rfl,hno,v3,v4,v5,rfl⟩
   obtain⟨a,ea,rfl⟩:=kcf hy
   obtain⟨r,er,hra⟩:=hr.at ea
   refine⟨a,_,rfl,SqT.of hra,rfl,_,_,rfl,_,_,rfl,_,_,rfl,rfl,?_⟩
   refine⟨_,rfl,rfl,_,rfl,?_⟩
   show if decide (V.str r.w=V.str "only")=true then _ else _
   rw[eq_str]
   by_cases hw:r.w=("only" :Str)
   ·rw[decide_eq_true hw]
    refine iteT ⟨_,rfl,_,rfl,u,_,rfl, .inl (SqL.of hu),rfl,kcu _,_,rfl,?_⟩
    rw[if_neg Np,kcZ]
    cases ha:order.contains r.a with
    | true=>
     refine iteT ⟨_,rfl,_,rfl,u,_,rfl, .inl (SqL.of hu),rfl,kcu _,_,rfl,?_⟩
     rw[if_pos rfl,kcZ]
     cases hb:order.contains r.b with
     |true=>exact iteF ⟨rfl,kb9 er hno (by unfold loneM;rw[decide_eq_true hw,ha,hb];rfl),_,_,_,rfl⟩
     |false=>
      refine iteT ⟨_,rfl,?_⟩
      have z:=kiG (f:=loneM order) er (by unfold loneM;rw[decide_eq_true hw,ha,hb];rfl) hno
      unfold onlyM at k
      rw[z] at k
      exact k
    |false=>exact iteF (iteF ⟨rfl,kb9 er hno (by unfold loneM;rw[decide_eq_true hw,ha];rfl),_,_,_,rfl⟩)
   ·rw[decide_eq_false hw]
    refine iteF (iteF ⟨rfl,kb9 er hno ?_,_,_,_,rfl⟩)
    unfold loneM
    rw[decide_eq_false hw]
    rfl
  ·rintro σ H' ⟨rfl,hno,v3,v4,v5,rfl⟩
   have z:=kmo (by rw[Nb];exact hr.len) hno
   unfold onlyM at k
   rw[z] at k
   exact k
inductive khR (d:D) (vs:List V) (H:Hp) (Q:VK) (E_:XK):Prop
 |ct (t h u:Addr)(T:TillD)(hand:List Int)(used:List Nat)(n:Nat)(V:Vch)(_:vs=[.ref t, .ref h, .ref u,iV n])(_:TillIs d H t T)(_:H h=some (.lst (hand.map L2.V.int)))(_:H u=some (.lst (used.map iV)))(_:T.vs[n]?=some V)(_:hand.length=T.vs.length)(_:Q (sV (wordM V T.rs hand used n)) H):khR d vs H Q E_
theorem kd6:kat ["till","hand","used","number"] ["till","hand","used","number"] (kah kbU):=by ac_rfl
theorem kec(W:WB K mg d base):FO P w W 2 d.Yw d.Yx ["till","hand","used","number"] (khR d):=by
 exists W.Vn.F,kd6
 ·obtain⟨t,h,u,T,hand,used,n,Vc,rfl,hT,hh,hu,hn,hl,k⟩:=h
  obtain⟨dx,fs,p,vl,rl,va,ra,ht,t1,t2,t3,t4,hp,hvl,hva,hrl,hra⟩:=hT
  exists UC,keM,W
  exists UD,keN,W
  refine⟨_,kab (ps_if (kap op_gt (pe_op kbR (pe_bm NQ PySem.F.slot_list_count PySem.F.type_list_count kkW (pv 2) (kaa (pv 3) kae)) kag) (pe_ix (r:=rIxL K) kaw (pv 1) (pv 3) (fun _ _=>rfl)) (kav _)) (kaf (kas kbQ)) (kau))
   (kab (ps_if (PW.pt (ka6 (kaN (kaj (K:=K) (kaj (K:=K) (pe_ix (r:=rIxL K) kaw (kaj (K:=K) (pv 0) rfl) (pv 3) (fun _ _=>rfl)) rfl) rfl)) (kaX (kap kcU (pv 3) (pv 2) (by with_unfolding_all rfl))))) (kaf (kas kbQ)) (kau))
   (kab (ps_if (kaN (pcl UC hr W.Vo (kaa (kaj (K:=K) (pv 0) rfl) (kaa (pv 2) (kaa (pv 3) kae))))) (kaf (kas kbQ)) (kau))
   (kab (ps_if (kaN (pcl UD hr W.Vp (kaa (kaj (K:=K) (pv 0) rfl) (kaa (pv 2) (kaa (pv 3) kae))))) (kaf (kas kbQ)) (kau))
   (kaf (kas kbd))))),?_⟩
  obtain⟨v,ev⟩:=at_of (xs:=va) (i:=n) (by rw[hva.len];exact at_lt hn)
  obtain⟨Vc',eV',hV⟩:=hva.at ev
  rw[hn] at eV'
  cases eV'
  obtain⟨mA,dxv,fsv,hv,lvm,_,⟨dxm,fsm,hm,m1,m2,m3,m4,m5,m6⟩,hh',_⟩:=id hV
  obtain⟨z,ez⟩:=at_of (xs:=hand) (i:=n) (by rw[hl];exact at_lt hn)
  have eu:H u=some (.lst ((used.map fun(i:Nat)=>(i:Int)).map V.int)):=by rw[hu,NH];rfl
  have eg:hand.getD n 0=z:=by rw[Nt,ez];rfl
  refine⟨_,rfl, .inl ⟨rfl,_,SqL.of hu⟩,_,rfl,u,_,_,rfl,rfl,eu,_,_,rfl,rfl,_,rfl,_,rfl,h,_,_,_,rfl,rfl,SqL.of hh,kaA (v:=.int z) (by rw[Ni,ez];rfl),_,_,rfl,rfl,_,rfl,?_⟩
  rw[kms]
  unfold wordM at k
  rw[eg] at k
  by_cases c1:z<(used.count n:Int)+1
  ·rw[if_pos c1] at k
   rw[show decide ((used.count n:Int)+1 > z)=true from decide_eq_true c1]
   exact iteT k
  rw[if_neg c1] at k
  rw[show decide ((used.count n:Int)+1 > z)=false from decide_eq_false c1]
  refine iteF ?_
  refine⟨_,rfl,t,d.qg,dx,fs,_,rfl,ht,W.qg.cl,W.qM,t2,_,rfl,vl,_,_,_,rfl,rfl,SqL.of hvl,kaA (v:=.ref v) (by rw[Ni,ev];rfl),v,clsOf d Vc.so,dxv,fsv,_,rfl,hv,cl_of W hh',na_of W hh',lvm,mA,d.qh,dxm,fsm,_,rfl,hm,W.qh.cl,W.VL,m5,Vc.ms.once,rfl,?_⟩
  cases ho:Vc.ms.once with
  | true=>
   rw[ho,Bool.true_and] at k
   refine iteT ⟨_,rfl,_,rfl,u,_,rfl, .inl (SqL.of hu),rfl,kcu _,_,rfl,?_⟩
   rw[if_neg Np,kcZ]
   cases hc:used.contains n with
   |true=>
    rw[hc,if_pos rfl] at k
    exact iteT k
   | false=>
    rw[hc,if_neg Np] at k
    refine iteF ?_
    refine⟨_,rfl,t,d.qg,dx,fs,_,rfl,ht,W.qg.cl,W.Qa,t3,_,rfl,_,rfl,rl,u,ra,T.rs,used,n,rfl,hrl,hra,hu,_,rfl,?_⟩
    cases h1:kfx T.rs used n with
    |true=>
     rw[h1,if_pos rfl] at k
     exact iteT k
    | false=>
     rw[h1,if_neg Np] at k
     refine iteF ⟨_,rfl,t,d.qg,dx,fs,_,rfl,ht,W.qg.cl,W.Qa,t3,_,rfl,_,rfl,rl,u,ra,T.rs,used,n,rfl,hrl,hra,hu,_,rfl,?_⟩
     cases h2:kfI T.rs used n with
     |true=>
      rw[h2,if_pos rfl] at k
      exact iteT k
     |false=>
      rw[h2,if_neg Np] at k
      exact iteF k
  | false=>
   rw[ho,Eo,if_neg Np] at k
   refine iteF (iteF ?_)
   refine⟨_,rfl,t,d.qg,dx,fs,_,rfl,ht,W.qg.cl,W.Qa,t3,_,rfl,_,rfl,rl,u,ra,T.rs,used,n,rfl,hrl,hra,hu,_,rfl,?_⟩
   cases h1:kfx T.rs used n with
   |true=>
    rw[h1,if_pos rfl] at k
    exact iteT k
   | false=>
    rw[h1,if_neg Np] at k
    refine iteF ⟨_,rfl,t,d.qg,dx,fs,_,rfl,ht,W.qg.cl,W.Qa,t3,_,rfl,_,rfl,rl,u,ra,T.rs,used,n,rfl,hrl,hra,hu,_,rfl,?_⟩
    cases h2:kfI T.rs used n with
    |true=>
     rw[h2,if_pos rfl] at k
     exact iteT k
    |false=>
     rw[h2,if_neg Np] at k
     exact iteF k
inductive kjs (d:D) (vs:List V) (H:Hp) (Q:VK) (E_:XK):Prop
 |ct (H0:Hp)(w dx t b h:Addr)(hand:List Int)(B:Bask)(_:vs=[.ref w, .ref t, .ref b, .ref h])(_:H0 w=none)(_:Same H0 H)(_:H w=some (.ins d.c_Way dx []))(_:H0 h=some (.lst (hand.map V.int)))(_:BaskIs d.qf d.qd H0 b B)(_:B.rs.length≤12)(_:(∀r∈B.rs,r.Ok))(_:∀(H':Hp)(x:Addr),Same H0 H'→H0 x=none→WayN d 5 H0 H' w t b x hand []→StndIs d.qc H' x (stnd0 B)→Q .non H'):kjs d vs H Q E_
theorem khm:kat ["self","till","basket","hand"] ["self","till","basket","hand"] (kah kdL):=by ac_rfl
theorem kcG(W:WB K mg d base):FO P w W 4 d.ZO d.ZP ["self","till","basket","hand"] (kjs d):=by
 exists W.qD.F,khm
 ·obtain⟨H0,wy,dx,t,b,h,hand,B,rfl,fw,s0,hw,hh,hb,hB,hok,k⟩:=h
  exists Qs,kbP,W
  refine⟨_,kab (kaJ (pv 0) (pv 1) rfl)
   (kab (kaJ (pv 0) (pv 2) rfl)
   (kab (kaJ (pv 0) (kaQ (r:=kbg K) kaD (by rfl) W.B.list kbn (kaa (pv 3) kae)) rfl)
   (kab (kaJ (pv 0) (kaT kae) rfl)
   (kaf (kaJ (pv 0) (kbc (W.qO.mk' W.qc) Qs hr rfl W.qc.m W.qO.b .nil pass0 (kaa (pv 2) kae)) rfl))))),?_⟩
  exists Y4
  refine⟨_,rfl,_,rfl,wy,d.c_Way,dx,[],rfl,hw,W.c_Way.cl,W.qC,by decide,?_⟩
  have s1:Same H0 (upd H wy (.ins d.c_Way dx (putF "till" (.ref t) []))):=kaq fw s0 (nx hw)
  have hw1:(upd H wy (.ins d.c_Way dx (putF "till" (.ref t) []))) wy=some (.ins d.c_Way dx (putF "till" (.ref t) [])):=kad
  generalize upd H wy (.ins d.c_Way dx (putF "till" (.ref t) []))=H1 at *
  symm
  exists Y4
  refine⟨_,rfl,_,rfl,wy,d.c_Way,dx,_,rfl,hw1,W.c_Way.cl,W.QF,few (Nk (kam (n:=0) (Nd _)) (by decide)),?_⟩
  have s2:Same H0 (upd H1 wy (.ins d.c_Way dx (putF "basket" (.ref b) (putF "till" (.ref t) [])))):=kaq fw s1 (nx hw1)
  have hw2:(upd H1 wy (.ins d.c_Way dx (putF "basket" (.ref b) (putF "till" (.ref t) [])))) wy=some (.ins d.c_Way dx (putF "basket" (.ref b) (putF "till" (.ref t) []))):=kad
  generalize upd H1 wy (.ins d.c_Way dx (putF "basket" (.ref b) (putF "till" (.ref t) [])))=H2 at *
  symm
  exists Y4
  refine⟨_,rfl,h,_,rfl, .inl (SqL.of (s2 _ _ hh)),fun h' hh'=>?_⟩
  have n3:=kal (o:=.lst (hand.map V.int)) hh'
  have nh:h'≠wy:=(kai hw2 hh').symm
  have s3:=s2.trans n3
  have e3:(upd H2 h' (.lst (hand.map V.int))) h'=some (.lst (hand.map V.int)):=kad
  have hw3:=n3 _ _ hw2
  clear n3
  generalize upd H2 h' (.lst (hand.map V.int))=H3 at *
  symm
  exists Y4
  refine⟨_,rfl,wy,d.c_Way,dx,_,rfl,hw3,W.c_Way.cl,W.Xs,few (Nk (kam (kam (n:=0) (Nd _))) (by decide)),?_⟩
  have s4:Same H0 (upd H3 wy (.ins d.c_Way dx (putF "hand" (.ref h') (putF "basket" (.ref b) (putF "till" (.ref t) []))))):=kaq fw s3 (nx hw3)
  have e4:(upd H3 wy (.ins d.c_Way dx (putF "hand" (.ref h') (putF "basket" (.ref b) (putF "till" (.ref t) []))))) h'=some (.lst (hand.map V.int)):=by rw[kak nh];exact e3
  have hw4:(upd H3 wy (.ins d.c_Way dx (putF "hand" (.ref h') (putF "basket" (.ref b) (putF "till" (.ref t) []))))) wy=some (.ins d.c_Way dx (putF "hand" (.ref h') (putF "basket" (.ref b) (putF "till" (.ref t) [])))):=kad
  generalize upd H3 wy (.ins d.c_Way dx (putF "hand" (.ref h') (putF "basket" (.ref b) (putF "till" (.ref t) []))))=H4 at *
  symm
  exists Y4
  refine⟨by decide,fun u hu=>?_⟩
  have n5:=kal (o:=.lst []) hu
  have nu:u≠wy:=(kai hw4 hu).symm
  have s5:=s4.trans n5
  have e5:=n5 _ _ e4
  have eu5:(upd H4 u (.lst [])) u=some (.lst (([]:List Nat).map iV)):=kad
  have hw5:=n5 _ _ hw4
  clear n5
  generalize upd H4 u (.lst [])=H5 at *
  symm
  exists Y4
  refine⟨_,rfl,wy,d.c_Way,dx,_,rfl,hw5,W.c_Way.cl,W.qP,few (Nk (kam (kam (kam (n:=0) (Nd _)))) (by decide)),?_⟩
  have s6:Same H0 (upd H5 wy (.ins d.c_Way dx (putF "used" (.ref u) (putF "hand" (.ref h') (putF "basket" (.ref b) (putF "till" (.ref t) [])))))):=kaq fw s5 (nx hw5)
  have e6:(upd H5 wy (.ins d.c_Way dx (putF "used" (.ref u) (putF "hand" (.ref h') (putF "basket" (.ref b) (putF "till" (.ref t) [])))))) h'=some (.lst (hand.map V.int)):=by rw[kak nh];exact e5
  have eu6:(upd H5 wy (.ins d.c_Way dx (putF "used" (.ref u) (putF "hand" (.ref h') (putF "basket" (.ref b) (putF "till" (.ref t) [])))))) u=some (.lst (([]:List Nat).map iV)):=by rw[kak nu];exact eu5
  have hw6:(upd H5 wy (.ins d.c_Way dx (putF "used" (.ref u) (putF "hand" (.ref h') (putF "basket" (.ref b) (putF "till" (.ref t) [])))))) wy=some (.ins d.c_Way dx (putF "used" (.ref u) (putF "hand" (.ref h') (putF "basket" (.ref b) (putF "till" (.ref t) []))))):=kad
  generalize upd H5 wy (.ins d.c_Way dx (putF "used" (.ref u) (putF "hand" (.ref h') (putF "basket" (.ref b) (putF "till" (.ref t) [])))))=H6 at *
  symm
  exists Y4
  refine⟨_,rfl,kme (hb.same s6) hB hok fun H7 x s7 f7 hx=>?_⟩
  have hw7:=s7 _ _ hw6
  have fx:H0 x=none:=s6.free f7
  have nxw:x≠wy:=(kai hw6 f7).symm
  symm
  exists Y4
  refine⟨_,rfl,wy,d.c_Way,dx,_,rfl,hw7,W.c_Way.cl,W.qZ,few (Nk (kam (kam (kam (kam (n:=0) (Nd _))))) (by decide)),?_⟩
  symm
  refine k _ x (kaq fw (s6.trans s7) (nx hw7)) fx ⟨fw,dx,_,h',u,none_of s2 hh',none_of s4 hu,kad,?_,?_,?_,?_,?_,?_,?_,?_,?_,?_,?_,?_⟩ ?_
  ·ac_nf
  ·ac_nf
  ·ac_nf
  ·ac_nf
  ·ac_nf
  ·ac_nf
   rfl
  ·ac_nf
   rfl
  ·ac_nf
   rfl
  ·ac_nf
   rfl
  ·exact Nk (kam (kam (kam (kam (kam (n:=0) (Nd _)))))) (by decide)
  ·rw[kak nh];exact s7 _ _ e6
  ·rw[kak nu];exact s7 _ _ eu6
  ·obtain⟨o,pp,mm,⟨dxs,fss,hxs,q⟩,ho,hpp,hmm⟩:=hx
   symm
   exact⟨o,pp,mm,⟨dxs,fss,by rw[kak nxw];exact hxs,q⟩,by rw[kak (ne_of ho hw7 (by intro z;cases z))];exact ho,by rw[kak (ne_of hpp hw7 (by intro z;cases z))];exact hpp,by rw[kak (ne_of hmm hw7 (by intro z;cases z))];exact hmm⟩
theorem kiu{d:D}{H:Hp}{t b h:Addr}{hand:List Int}{B:Bask}{R:Addr→Hp→Prop}{E:XK}(hh:H h=some (.lst (hand.map V.int)))(hb:BaskIs d.qf d.qd H b B)(hB:B.rs.length≤12)(hok:∀r∈B.rs,r.Ok)
  (k:∀(H':Hp)(w x:Addr),Same H H'→H w=none→H x=none→WayN d 5 H H' w t b x hand []→StndIs d.qc H' x (stnd0 B)→R w H'):
  ∀w dx,H w=none→H dx=none→dx≠w→kjs d [.ref w, .ref t, .ref b, .ref h] (upd (upd H dx (.own w)) w (.ins d.c_Way dx [])) (fun v H2=>v=.non∧R w H2) E:=
 fun w dx nw nd _=>⟨H,w,dx,t,b,h,hand,B,rfl,nw,kbl nw nd,kad,hh,hb,hB,hok,fun H' x s f hW hx=>⟨rfl,k H' w x s nw f hW hx⟩⟩
inductive kgl (d:D) (vs:List V) (H:Hp) (Q:VK) (E_:XK):Prop
 |ct (wy t b x:Addr)(T:TillD)(B:Bask)(S:Stnd)(hand:List Int)(used:List Nat)(n:Nat)(V:Vch)(_:vs=[.ref wy,iV n])(_:WayIs d H wy t b x hand used)(_:TillIs d H t T)(_:BaskIs d.qf d.qd H b B)(_:StndIs d.qc H x S)(_:Wf T.ps B S)(_:VchOk T.ps V)(_:T.vs[n]?=some V)(_:hand.length=T.vs.length)(_:∀(H':Hp),Same H H'→Q (dueM V T B hand used S n) H'):kgl d vs H Q E_
theorem VY:kat ["self","number","word"] ["self","number"] (kah kcr):=by ac_rfl
theorem kb8(W:WB K mg d base):FO P w W 5 d.ZQ d.ZR ["self","number"] (kgl d):=by
 exists W.qQ.F,VY
 ·obtain⟨wy,t,b,x,T,B,S,hand,used,n,Vc,rfl,hW,hT,hB,hS,wf,vo,hn,hl,k⟩:=h
  obtain⟨dxw,fsw,h,u,hw,w1,w2,w3,w4,w5,w6,w7,w8,w9,w10,hh,hu⟩:=id hW
  obtain⟨dx,fs,p,vl,rl,va,ra,ht,t1,t2,t3,t4,hp,hvl,hva,hrl,hra⟩:=id hT
  exists UE,kec,W
  exists UF,kgF,W
  exists hr2,2,hr,0
  refine⟨_,kab (psl (i:=2) VY.nd (pcl UE hr2 W.Vn (kaa (kaj (K:=K) (pv 0) rfl) (kaa (kaj (K:=K) (pv 0) rfl) (kaa (kaj (K:=K) (pv 0) rfl) (kaa (pv 1) kae))))))
   (kab (ps_if (kap kct (pv 2) kbd (kav _)) (kaf (kas (pv 2))) (kau))
   (kaf (kas (pcl UF hr W.Ve (kaa (pe_ix (r:=rIxL K) kaw (kaj (K:=K) (kaj (K:=K) (pv 0) rfl) rfl) (pv 1) (fun _ _=>rfl)) (kaa (kaj (K:=K) (kaj (K:=K) (pv 0) rfl) rfl) (kaa (kaj (K:=K) (pv 0) rfl) (kaa (kaj (K:=K) (pv 0) rfl) kae)))))))),?_⟩
  obtain⟨v,ev⟩:=at_of (xs:=va) (i:=n) (by rw[hva.len];exact at_lt hn)
  obtain⟨Vc',eV',hV⟩:=hva.at ev
  rw[hn] at eV'
  cases eV'
  refine⟨_,rfl,wy,d.c_Way,dxw,fsw,_,rfl,hw,W.c_Way.cl,W.qC,w1,_,rfl,wy,d.c_Way,dxw,fsw,_,rfl,hw,W.c_Way.cl,W.Xs,w3,_,rfl,wy,d.c_Way,dxw,fsw,_,rfl,hw,W.c_Way.cl,W.qP,w4,_,rfl,t,h,u,T,hand,used,n,Vc,rfl,hT,hh,hu,hn,hl,?_⟩
  unfold dueM at k
  cases e:wordM Vc T.rs hand used n with
  |some z=>
   rw[e] at k
   refine⟨_,rfl,rfl,_,rfl,?_⟩
   show if(!decide (V.str z=V.non))=true then _ else _
   rw[show(!decide (V.str z=V.non))=true by simp]
   exact iteT ⟨_,rfl,k H (Same.refl _)⟩
  |none=>
   rw[e] at k
   refine⟨_,rfl,rfl,_,rfl,?_⟩
   show if(!decide (V.non=V.non))=true then _ else _
   rw[show(!decide (V.non=V.non))=false by simp]
   refine iteF ⟨_,rfl,wy,d.c_Way,dxw,fsw,_,rfl,hw,W.c_Way.cl,W.qC,w1,t,d.qg,dx,fs,_,rfl,ht,W.qg.cl,W.qM,t2,_,rfl,vl,_,_,_,rfl,rfl,SqL.of hvl,kaA (v:=.ref v) (by rw[Ni,ev];rfl),?_⟩
   refine⟨_,rfl,wy,d.c_Way,dxw,fsw,_,rfl,hw,W.c_Way.cl,W.qC,w1,t,d.qg,dx,fs,_,rfl,ht,W.qg.cl,W.q9,t1,_,rfl,wy,d.c_Way,dxw,fsw,_,rfl,hw,W.c_Way.cl,W.QF,w2,_,rfl,wy,d.c_Way,dxw,fsw,_,rfl,hw,W.c_Way.cl,W.qZ,w5,?_⟩
   exact⟨v,p,b,x,Vc,T.ps,B,S,rfl,hV,SqL.of hp,hB,hS,wf,vo,k⟩
inductive kh5 (d:D) (vs:List V) (H:Hp) (Q:VK) (E_:XK):Prop
 |ct (wy t b x:Addr)(T:TillD)(B:Bask)(S:Stnd)(hand:List Int)(used:List Nat)(n:Nat)(V:Vch)(_:vs=[.ref wy,iV n])(_:WayIs d H wy t b x hand used)(_:TillIs d H t T)(_:BaskIs d.qf d.qd H b B)(_:StndIs d.qc H x S)(_:Wf T.ps B S)(_:VchOk T.ps V)(_:T.vs[n]?=some V)(_:used.length<64)(_:∀(H':Hp)(wy' x':Addr),Same H H'→H wy'=none→WayN d 7 H H' wy' t b x' hand (used++[n])→StndN d.qc H H' x' (aftM V T.ps (kds B) S)→Q (.ref wy') H'):kh5 d vs H Q E_
theorem VZ:kat ["self","number","further"] ["self","number"] (kah kcQ):=by ac_rfl
theorem kcH(W:WB K mg d base):FO P w W 6 d.ZS d.ZT ["self","number"] (kh5 d):=by
 exists W.qR.F,VZ
 ·obtain⟨wy,t,b,x,T,B,S,hand,used,n,Vc,rfl,hW,hT,hB,hS,wf,vo,hn,hl,k⟩:=h
  obtain⟨dxw,fsw,h,u,hw,w1,w2,w3,w4,w5,w6,w7,w8,w9,w10,hh,hu⟩:=id hW
  obtain⟨dx,fs,p,vl,rl,va,ra,ht,t1,t2,t3,t4,hp,hvl,hva,hrl,hra⟩:=id hT
  exists qS,kcG,W
  exists UG,kkV,W
  refine⟨_,kab (psl (i:=2) VZ.nd (kbc (W.qD.mk' W.c_Way) qS hr rfl W.c_Way.m W.qD.b .nil pass0 (kaa (kaj (K:=K) (pv 0) rfl) (kaa (kaj (K:=K) (pv 0) rfl) (kaa (kaj (K:=K) (pv 0) rfl) kae)))))
   (kab (kaJ (pv 2) (pe_op kjY (kaj (K:=K) (pv 0) rfl) (kaT (kaa (pv 1) kae))) rfl)
   (kab (kaJ (pv 2) (pcl UG hr W.Vg (kaa (pe_ix (r:=rIxL K) kaw (kaj (K:=K) (kaj (K:=K) (pv 0) rfl) rfl) (pv 1) (fun _ _=>rfl)) (kaa (kaj (K:=K) (kaj (K:=K) (pv 0) rfl) rfl) (kaa (kaj (K:=K) (pv 0) rfl) (kaa (kaj (K:=K) (pv 0) rfl) kae))))) rfl)
   (kaf (kas (pv 2))))),?_⟩
  obtain⟨v,ev⟩:=at_of (xs:=va) (i:=n) (by rw[hva.len];exact at_lt hn)
  obtain⟨Vc',eV',hV⟩:=hva.at ev
  rw[hn] at eV'
  cases eV'
  exists Y4
  refine⟨_,rfl,wy,d.c_Way,dxw,fsw,_,rfl,hw,W.c_Way.cl,W.qC,w1,_,rfl,wy,d.c_Way,dxw,fsw,_,rfl,hw,W.c_Way.cl,W.QF,w2,_,rfl,wy,d.c_Way,dxw,fsw,_,rfl,hw,W.c_Way.cl,W.Xs,w3,kiu hh hB wf.nl wf.ok fun H1 y x1 s1 fy fx1 hy hx1=>?_⟩
  obtain⟨_,dxy,fsy,h1,u1,fh1,_,hyy,y1,y2,y3,y4,y5,y6,y7,y8,y9,y10,hh1,hu1⟩:=hy
  symm
  exists Y4
  refine⟨_,rfl,wy,d.c_Way,dxw,fsw,_,rfl,s1 _ _ hw,W.c_Way.cl,W.qP,w4,_,rfl,(by show 1≤sizeLine;decide),fun q1 hq1=>?_⟩
  have n2:=kal (o:=.lst [iV n]) hq1
  have eq1:(upd H1 q1 (.lst [iV n])) q1=some (.lst [iV n]):=kad
  have s2:=s1.trans n2
  have hy2:=n2 _ _ hyy
  have hh2:=n2 _ _ hh1
  clear n2
  generalize upd H1 q1 (.lst [iV n])=H2 at *
  symm
  exists Y4
  refine⟨u,q1,_,_,rfl,rfl,s2 _ _ hu,eq1,Nq (kar (by rw[Nb];show _+1≤1000;omega)),fun q2 hq2=>?_⟩
  have n3:=kal (o:=.lst (used.map iV++[iV n])) hq2
  have eq2:(upd H2 q2 (.lst (used.map iV++[iV n]))) q2=some (.lst ((used++[n]).map iV)):=by rw[kad,Nl];rfl
  have s3:=s2.trans n3
  have hy3:=n3 _ _ hy2
  have hh3:=n3 _ _ hh2
  have nq2:q2≠y:=(kai hy2 hq2).symm
  clear n3
  generalize upd H2 q2 (.lst (used.map iV++[iV n]))=H3 at *
  have nh1:h1≠y:=ne_of hh3 hy3 (by intro z;cases z)
  symm
  exists Y4
  refine⟨_,rfl,y,d.c_Way,dxy,fsy,rfl,hy3,W.c_Way.cl,W.qP,few (Nk y10 (by decide)),?_⟩
  have s4:Same H (upd H3 y (.ins d.c_Way dxy (putF "used" (.ref q2) fsy))):=kaq fy s3 (nx hy3)
  have eq4:(upd H3 y (.ins d.c_Way dxy (putF "used" (.ref q2) fsy))) q2=some (.lst ((used++[n]).map iV)):=by rw[kak nq2];exact eq2
  have hh4:(upd H3 y (.ins d.c_Way dxy (putF "used" (.ref q2) fsy))) h1=some (.lst (hand.map V.int)):=by rw[kak nh1];exact hh3
  have hy4:(upd H3 y (.ins d.c_Way dxy (putF "used" (.ref q2) fsy))) y=some (.ins d.c_Way dxy (putF "used" (.ref q2) fsy)):=kad
  generalize upd H3 y (.ins d.c_Way dxy (putF "used" (.ref q2) fsy))=H4 at *
  symm
  exists Y4
  refine⟨_,rfl,wy,d.c_Way,dxw,fsw,_,rfl,s4 _ _ hw,W.c_Way.cl,W.qC,w1,t,d.qg,dx,fs,_,rfl,s4 _ _ ht,W.qg.cl,W.qM,t2,_,rfl,vl,_,_,_,rfl,rfl,SqL.of (s4 _ _ hvl),kaA (v:=.ref v) (by rw[Ni,ev];rfl),?_⟩
  symm
  exists Y4
  refine⟨_,rfl,wy,d.c_Way,dxw,fsw,_,rfl,s4 _ _ hw,W.c_Way.cl,W.qC,w1,t,d.qg,dx,fs,_,rfl,s4 _ _ ht,W.qg.cl,W.q9,t1,_,rfl,wy,d.c_Way,dxw,fsw,_,rfl,s4 _ _ hw,W.c_Way.cl,W.QF,w2,_,rfl,wy,d.c_Way,dxw,fsw,_,rfl,s4 _ _ hw,W.c_Way.cl,W.qZ,w5,?_⟩
  symm
  exists Y4
  refine⟨v,p,b,x,Vc,T.ps,B,S,rfl,hV.same s4,SqL.of (s4 _ _ hp),hB.same s4,hS.same s4,wf,vo,fun H5 x' s5 f5 ⟨_,o,pp,mm,⟨dxs,fss,hxs,q⟩,fo,fpp,fmm,ho,hpp,hmm⟩=>?_⟩
  have hy5:=s5 _ _ hy4
  have hh5:=s5 _ _ hh4
  have eq5:=s5 _ _ eq4
  have nx':x'≠y:=(kai hy4 f5).symm
  symm
  exists Y4
  refine⟨_,rfl,y,d.c_Way,dxy,_,rfl,hy5,W.c_Way.cl,W.qZ,few (Nk (kam y10) (by decide)),?_⟩
  symm
  exists Y4
  refine⟨_,rfl,k _ y x' (kaq fy (s4.trans s5) (nx hy5)) fy ⟨fy,dxy,_,h1,q2,fh1,none_of s2 hq2,kad,?_,?_,?_,?_,?_,?_,?_,?_,?_,?_,?_,?_⟩ ?_⟩
  ·ac_nf
   symm
   exact y1
  ·ac_nf
   symm
   exact y2
  ·ac_nf
   symm
   exact y3
  ·ac_nf
  ·ac_nf
  ·ac_nf
   symm
   exact y6
  ·ac_nf
   symm
   exact y7
  ·ac_nf
   symm
   exact y8
  ·ac_nf
   symm
   exact y9
  ·exact Nk (kam (kam y10)) (by decide)
  ·rw[kak nh1];exact hh5
  ·rw[kak nq2];exact eq5
  ·exact⟨none_of s4 f5,o,pp,mm,⟨dxs,fss,by rw[kak nx'];exact hxs,q⟩,none_of s4 fo,none_of s4 fpp,none_of s4 fmm,by rw[kak (ne_of ho hy5 (by intro z;cases z))];exact ho,by rw[kak (ne_of hpp hy5 (by intro z;cases z))];exact hpp,by rw[kak (ne_of hmm hy5 (by intro z;cases z))];exact hmm⟩
inductive kjy (d:D) (vs:List V) (H:Hp) (Q:VK) (E_:XK):Prop
 |ct (wy t b x:Addr)(T:TillD)(hand:List Int)(used:List Nat)(_:vs=[.ref wy])(_:WayIs d H wy t b x hand used)(_:TillIs d H t T)(_:Q (.bl (onlyM T.rs used).isNone) H):kjy d vs H Q E_
theorem kd8:kat ["self"] ["self"] (kah kb3):=by ac_rfl
theorem kcM(W:WB K mg d base):FO P w W 2 d.ZW d.ZX ["self"] (kjy d):=by
 exists W.Qp.F,kd8
 ·obtain⟨wy,t,b,x,T,hand,used,rfl,hW,hT,k⟩:=h
  obtain⟨dxw,fsw,h,u,hw,w1,w2,w3,w4,w5,w6,w7,w8,w9,w10,hh,hu⟩:=id hW
  obtain⟨dx,fs,p,vl,rl,va,ra,ht,t1,t2,t3,t4,hp,hvl,hva,hrl,hra⟩:=id hT
  exists UH,kdt,W
  refine⟨_,kaf (kas (kb6 kfu (pcl UH hr W.Vq (kaa (kaj (K:=K) (kaj (K:=K) (pv 0) rfl) rfl) (kaa (kaj (K:=K) (pv 0) rfl) kae))) kbd (kav _))),?_⟩
  refine⟨_,rfl,wy,d.c_Way,dxw,fsw,_,rfl,hw,W.c_Way.cl,W.qC,w1,t,d.qg,dx,fs,_,rfl,ht,W.qg.cl,W.Qa,t3,_,rfl,wy,d.c_Way,dxw,fsw,_,rfl,hw,W.c_Way.cl,W.qP,w4,rl,u,ra,T.rs,used,rfl,hrl,hra,hu,rfl,?_⟩
  cases e:onlyM T.rs used with
  |none=>
   rw[e] at k
   show Q (.bl (decide (V.non=V.non))) H
   rw[show decide (V.non=V.non)=true by simp]
   exact k
  |some z=>
   rw[e] at k
   show Q (.bl (decide (V.int (z:Int)=V.non))) H
   rw[show decide (V.int (z:Int)=V.non)=false by simp]
   exact k
noncomputable def canM(T:TillD)(B:Bask)(hand:List Int)(used:List Nat)(S:Stnd)(n:Nat):Bool:=match T.vs[n]? with
 |none=>false
 |some V=>decide (dueM V T B hand used S n=.non)
noncomputable def folM(T:TillD)(B:Bask)(hand:List Int)(used:List Nat)(S:Stnd):List Nat:=(Nf T.vs.length).filter (canM T B hand used S)
theorem kiU{p:Nat→Bool}{i:Nat}:(Nf (i+1)).filter p=(Nf i).filter p++(if p i=true then [i] else []):=by
 rw[Mb,MI,Ej,Ek]
inductive kh1 (d:D) (vs:List V) (H:Hp) (Q:VK) (E_:XK):Prop
 |ct (wy t b x:Addr)(T:TillD)(B:Bask)(S:Stnd)(hand:List Int)(used:List Nat)(_:vs=[.ref wy])(_:WayIs d H wy t b x hand used)(_:TillIs d H t T)(_:kc2 T)(_:BaskIs d.qf d.qd H b B)(_:StndIs d.qc H x S)(_:Wf T.ps B S)(_:hand.length=T.vs.length)(_:∀(H':Hp)(p:Addr),Same H H'→H p=none→H' p=some (.lst ((folM T B hand used S).map iV))→Q (.ref p) H'):kh1 d vs H Q E_
theorem kd9:kat ["self"] ["self"] (kah kbv):=by ac_rfl
theorem kei(W:WB K mg d base):FO P w W 6 d.ZU d.ZV ["self"] (kh1 d):=by
 exists W.Xt.F,kd9
 ·obtain⟨wy,t,b,x,T,B,S,hand,used,rfl,hW,hT,tok,hB,hS,wf,hl,kk⟩:=h
  obtain⟨dxw,fsw,h,u,hw,w1,w2,w3,w4,w5,w6,w7,w8,w9,w10,hh,hu⟩:=id hW
  obtain⟨dx,fs,p,vl,rl,va,ra,ht,t1,t2,t3,t4,hp,hvl,hva,hrl,hra⟩:=id hT
  exists Qt,kb8,W
  refine⟨_,kaf (kas (kil (N:=["number","self"]) (CompScope.of (N:=["number","self"]) (cap:=[none,some 0]) (kah kbv).names ["self"] rfl rfl (by decide +kernel)) rfl (kaY rfl W.B.range (kaa (kan (r:=kaE K) kao (by rfl) W.B.len b_len (kaa (kaj (K:=K) (kaj (K:=K) (pv 0) rfl) rfl) kae)) kae)) (fun _ _ _ _=>pgn (i:=0) (show(["number","self"]:List Str).Nodup by decide +kernel)) (fun _ _ _ _=>khu (kap kfu (kdO (pv 1) W.c_Way.cl W.qQ.me Qt hr W.qQ.b .nil pass0 (kaa (pv 0) kae)) kbd (kav _))) (fun _ _ _ _=>(pv 0)))),?_⟩
  have nv:=tok.nv
  have lva:=hva.len
  refine⟨_,rfl,wy,d.c_Way,dxw,fsw,_,rfl,hw,W.c_Way.cl,W.qC,w1,t,d.qg,dx,fs,_,rfl,ht,W.qg.cl,W.qM,t2,vl,_,rfl, .inl (SqL.of hvl),_,rfl,by omega,by rw[Nb];omega,?_⟩
  rw[show(((va.map V.ref).length:Nat):Int).toNat=T.vs.length by rw[Nb];omega]
  refine khH (fun i σ ys H'=>Same H H'∧ys=((Nf i).filter (canM T B hand used S)).map iV∧∃v0:Option V,σ=[v0,some (.ref wy)]) ⟨Same.refl _,rfl,none,rfl⟩ (Nq (kar (by omega))) ?_ ?_ ?_
  ·rintro i σ ys H' hi ⟨_,rfl,_⟩
   rw[Nb]
   exact Nk (MH _ _) (by rw[Dl];exact Nd _)
  ·rintro i σ ys H' hi ⟨s1,rfl,v0,rfl⟩
   rw[Int.zero_add]
   obtain⟨Vc,hV⟩:=at_of (xs:=T.vs) (i:=i) hi
   have vo:=tok.vs Vc (Nj hV)
   refine⟨_,rfl,wy,dxw,fsw,rfl,s1 _ _ hw,w6,_,rfl,wy,t,b,x,T,B,S,hand,used,i,Vc,rfl,hW.same s1,hT.same s1,hB.same s1,hS.same s1,wf,vo,hV,hl,fun H2 s2=>⟨rfl,_,rfl,?_⟩⟩
   have ec:canM T B hand used S i=decide (dueM Vc T B hand used S i=.non):=by unfold canM;rw[hV]
   rw[kiU,ec]
   by_cases hn:dueM Vc T B hand used S i=.non
   ·rw[decide_eq_true hn]
    refine iteT ⟨_,rfl,s1.trans s2,?_,_,rfl⟩
    rw[if_pos rfl,Nl]
    rfl
   ·rw[decide_eq_false hn]
    refine iteF ⟨s1.trans s2,?_,_,rfl⟩
    rw[if_neg Np,Mv]
  ·rintro σ ys H' ⟨s1,rfl,v0,rfl⟩ q hq
   exact kk _ q (s1.trans (kal hq)) (s1.free hq) kad
noncomputable def remM(hand:List Int)(used:List Nat):Nat:=((Nf hand.length).map fun m=>(hand.getD m 0-(used.count m:Int)).toNat).sum
theorem khQ{f g:Nat→Nat}{n:Nat}:∀{L:Nat},n<L→f n=g n+1→(∀m,m≠n→f m=g m)→((Nf L).map f).sum=((Nf L).map g).sum+1
 |0,h,_,_=>by omega
 | L+1,h,h1,h2=>by
  rw[Mb,Nl,Nl,Mt,Mt]
  simp only[Nw,MX,NN,EN]
  by_cases e:n=L
  ·subst e
   have:(Nf n).map f=(Nf n).map g:=N2 fun m hm=>h2 m (by have:=MJ.mp hm;omega)
   rw[this,h1]
   omega
  ·rw[khQ (by omega) h1 h2,h2 L (Ne.symm e)]
   omega
theorem kie{hand:List Int}{used:List Nat}{n:Nat}(hn:n<hand.length)(h:(used.count n:Int)+1≤hand.getD n 0):remM hand used=remM hand (used++[n])+1:=by
 unfold remM
 refine khQ hn ?_ fun m hm=>?_
 ·rw[List.count_append,show List.count n [n]=1 by simp]
  generalize hand.getD n 0=g at *
  omega
 ·rw[List.count_append]
  have:List.count m [n]=0:=by simp[Ne.symm hm]
  rw[this]
  simp
theorem kl3:∀(hand:List Int),(∀z∈hand,0≤z)→(remM hand []:Int)=hand.sum:=by
 intro hand h
 have key:∀(L:Nat),L≤hand.length→((((Nf L).map fun m=>(hand.getD m 0-((([]:List Nat).count m:Nat):Int)).toNat).sum:Nat):Int)=(hand.take L).sum:=by
  intro L
  induction L with
  |zero=>intro _;rfl
  |succ L ih=>
   intro hL
   have hz:hand[L]?=some hand[L]:=N5 (by omega)
   have e:hand.take (L+1)=hand.take L++[hand[L]]:=by rw[Ms,hz];rfl
   have h0:=h hand[L] (E7 _)
   rw[Mb,Nl,Mt,e,Mt]
   simp only[Nw,MX,NN,EN,List.count_nil]
   have eg:hand.getD L 0=hand[L]:=by rw[Nt,hz];rfl
   rw[eg]
   have:=ih (by omega)
   simp only[List.count_nil] at this
   omega
 have:=key hand.length (Nd _)
 rw[ND] at this
 exact this
theorem klQ{p:Nat→Bool}{f:Nat→Nat}(h:∀m,p m=true→1≤f m):∀L:Nat,((Nf L).filter p).length≤((Nf L).map f).sum
 |0=>Nd _
 | L+1=>by
  have ih:=klQ h L
  rw[Mb,MI,Nr,Nl,Mt]
  simp only[Nw,MX,NN,EN,Ej,Ek]
  by_cases e:p L=true
  ·have:=h L e
   rw[if_pos e]
   simp
   omega
  ·rw[if_neg e]
   simp
   omega
noncomputable def fan:Nat→Nat
 |0=>1
 |r+1=>1+(r+1)*fan r
theorem kiF{α:Type}{f:Nat→List α}{k:Nat}:∀{l:List Nat},(∀n∈l,(f n).length≤k)→(l.flatMap f).length≤l.length*k
 |[],_=>by simp
 |a::l,h=>by
  have ih:=kiF (f:=f) (k:=k) (l:=l) fun n hn=>h n (NC _ hn)
  rw[List.flatMap_cons,Nr,NT,MR,MS]
  have:=h a NJ
  omega
theorem kiH:∀{r s:Nat},r≤s→fan r≤fan s
 |r,0,h=>by rw[Nat.le_zero.mp h];exact Nd _
 | r,s+1,h=>by
  by_cases e:r=s+1
  ·rw[e];exact Nd _
  ·have:=kiH (r:=r) (s:=s) (by omega)
   show fan r≤1+(s+1)*fan s
   have h2:fan s≤(s+1)*fan s:=Nat.le_mul_of_pos_left _ (by omega)
   omega
variable {T:TillD}{B:Bask}{hand:List Int}
theorem ket{used:List Nat}{S:Stnd}{n:Nat}(h:canM T B hand used S n=true):n<T.vs.length∧(used.count n:Int)+1≤hand.getD n 0:=by
 unfold canM at h
 cases e:T.vs[n]? with
 |none=>rw[e] at h;cases h
 | some V=>
  rw[e] at h
  refine⟨at_lt e,?_⟩
  have h1:dueM V T B hand used S n=.non:=of_decide_eq_true h
  unfold dueM wordM at h1
  by_cases c1:hand.getD n 0<(used.count n:Int)+1
  ·rw[if_pos c1] at h1
   cases h1
  ·omega
theorem klK{used:List Nat}{S:Stnd}(hl:hand.length=T.vs.length):(folM T B hand used S).length≤remM hand used:=by
 unfold folM remM
 rw[←hl]
 refine klQ (fun m hm=>?_) _
 have:=(ket hm).2
 omega
noncomputable def walkM(T:TillD)(B:Bask)(hand:List Int):List Nat→List Nat→Stnd→List Nat×Stnd
 |[],used,S=>(used,S)
 |n::ns,used,S=>match T.vs[n]? with
  |none=>(used,S)
  |some V=>if dueM V T B hand used S n=.non then walkM T B hand ns (used++[n]) (aftM V T.ps (kds B) S) else(used,S)
inductive kjt (d:D) (vs:List V) (H:Hp) (Q:VK) (E_:XK):Prop
 |ct (t b h o:Addr)(T:TillD)(B:Bask)(hand:List Int)(order:List Nat)(_:vs=[.ref t, .ref b, .ref h, .ref o])(_:TillIs d H t T)(_:kc2 T)(_:BaskIs d.qf d.qd H b B)(_:Wf T.ps B (stnd0 B))(_:H h=some (.lst (hand.map V.int)))(_:H o=some (.lst (order.map iV)))(_:hand.length=T.vs.length)(_:(∀n∈order,n<T.vs.length))(_:order.length<64)(_:∀(H':Hp)(wy x:Addr),Same H H'→H wy=none→WayIs d H' wy t b x hand (walkM T B hand order [] (stnd0 B)).1→StndIs d.qc H' x (walkM T B hand order [] (stnd0 B)).2→Wf T.ps B (walkM T B hand order [] (stnd0 B)).2→Q (.ref wy) H'):kjt d vs H Q E_
theorem QN:kat ["till","basket","hand","order","way","number"] ["till","basket","hand","order"] (kah kfS):=by ac_rfl
theorem kjZ(W:WB K mg d base):FO P w W 7 d.Yu d.Yv ["till","basket","hand","order"] (kjt d):=by
 exists W.Vm.F,QN
 ·obtain⟨t,b,h,o,T,B,hand,order,rfl,hT,tok,hB,wf0,hh,ho,hl,hlt,h64,k⟩:=h
  exists qS,kcG,W
  exists Qt,kb8,W
  exists Qu,kcH,W
  exists hr5,5,hr,0
  refine⟨_,kab (psl (i:=4) QN.nd (kbc (W.qD.mk' W.c_Way) qS hr5 rfl W.c_Way.m W.qD.b .nil pass0 (kaa (pv 0) (kaa (pv 1) (kaa (pv 2) kae)))))
   (kab (kaR PassesOwn.never rfl (kaz (K:=K) (pv 3)) (pgn (i:=5) QN.nd)
   (kab (ps_if (kap kct (kdO (pv 4) W.c_Way.cl W.qQ.me Qt hr5 W.qQ.b .nil pass0 (kaa (pv 5) kae)) kbd (kav _)) (kaf (kas (pv 4))) (kau))
   (kaf (psl (i:=4) QN.nd (kdO (pv 4) W.c_Way.cl W.qR.me Qu hr W.qR.b .nil pass0 (kaa (pv 5) kae))))))
   (kaf (kas (pv 4)))),?_⟩
  generalize eR:walkM T B hand order [] (stnd0 B)=R at k
  exists Y4
  refine⟨_,rfl,_,rfl,_,rfl,kiu hh hB wf0.nl wf0.ok fun H1 y0 x0 s1 fy0 fx0 hy0N hx0=>?_⟩
  have hy0:=hy0N.at
  symm
  exists Y4
  refine⟨_,rfl,o,rfl,⟨_,SqL.of (s1 _ _ ho)⟩,kaZ (xs:=order.map iV) (fun i σ H'=>Same H H'∧∃(y x:Addr)(used:List Nat)(S:Stnd)(v5:Option V),WayIs d H' y t b x hand used∧H y=none∧StndIs d.qc H' x S∧Wf T.ps B S∧used.length=i∧walkM T B hand (order.drop i) used S=R∧σ=[some (.ref t),some (.ref b),some (.ref h),some (.ref o),some (.ref y),v5])
   ⟨s1,y0,x0,[],_,none,hy0.most (by decide),fy0,hx0,wf0,rfl,eR,rfl⟩ (fun i σ H' _ h=>SqL.of (h.1 _ _ ho)) ?_ ?_⟩
  ·rintro i yv σ H' hyv ⟨sI,y,x,used,S,v5,hY,fy,hx,wf,hul,hwalk,rfl⟩
   obtain⟨n,en,rfl⟩:∃n,order[i]?=some n∧yv=iV n:=kba hyv
   have hi:=at_lt en
   obtain⟨Vc,hV⟩:=at_of (hlt n (Nj en))
   have vo:=tok.vs Vc (Nj hV)
   have ed:order.drop i=n::order.drop (i+1):=by
    obtain⟨h1,h2⟩:=Nu.mp en
    rw[EO h1,h2]
   rw[ed] at hwalk
   have hwk:=hwalk
   unfold walkM at hwk
   rw[hV] at hwk
   simp only at hwk
   obtain⟨dxw,fsw,hd,u,hw,w1,w2,w3,w4,w5,w6,w7,w8,w9,w10,hh',hu⟩:=id hY
   symm
   exists Y6
   refine⟨_,rfl,y,dxw,fsw,rfl,hw,w6,_,rfl,y,t,b,x,T,B,S,hand,used,n,Vc,rfl,hY,hT.same sI,hB.same sI,hx,wf,vo,hV,hl,fun H2 s2=>⟨rfl,_,rfl,?_⟩⟩
   have s02:=sI.trans s2
   by_cases hn:dueM Vc T B hand used S n=.non
   ·rw[if_pos hn] at hwk
    rw[hn]
    rw[show(!decide (V.non=V.non))=false by simp]
    refine iteF ?_
    nofun
    exists Y8
    refine⟨_,rfl,y,dxw,fsw,rfl,s2 _ _ hw,w7,_,rfl,y,t,b,x,T,B,S,hand,used,n,Vc,rfl,hY.same s2,hT.same s02,hB.same s02,hx.same s2,wf,vo,hV,by omega,fun H3 y' x' s3 fy' hY1 hx1=>?_⟩
    have hY':=hY1.at
    have hx':=hx1.is
    exists 3
    exact⟨s02.trans s3,y',x',used++[n],_,_,hY',s02.free fy',hx',wf.after vo,by rw[Nr,hul];rfl,hwk,rfl⟩
   ·rw[if_neg hn] at hwk
    rw[show(!decide (dueM Vc T B hand used S n=V.non))=true by simp[hn]]
    refine iteT ?_
    exists 3
    exists Y8
    refine⟨_,rfl,k H2 y x s02 fy ?_ ?_ ?_⟩
    ·rw[←hwk];exact hY.same s2
    ·rw[←hwk];exact hx.same s2
    ·rw[←hwk];exact wf
  ·rintro σ H' ⟨sI,y,x,used,S,v5,hY,fy,hx,wf,hul,hwalk,rfl⟩
   rw[Nb,Dq] at hwalk
   have hwk:=hwalk
   unfold walkM at hwk
   nofun
   exists Y6
   refine⟨_,rfl,k H' y x sI fy ?_ ?_ ?_⟩
   ·rw[←hwk];exact hY
   ·rw[←hwk];exact hx
   ·rw[←hwk];exact wf
noncomputable def kd3(T:TillD)(B:Bask)(hand:List Int)(order:List Nat):Option (Nat×L2.V):=
 let r:=walkM T B hand order [] (stnd0 B)
 if r.1.length<order.length then match T.vs[order.getD r.1.length 0]? with
  |none=>none
  |some V=>some (r.1.length,dueM V T B hand r.1 r.2 (order.getD r.1.length 0))
 else if(onlyM T.rs r.1).isNone=true then none else some (r.1.length, .str "only")
noncomputable def FltIs(H:Hp)(v:L2.V):Option (Nat×L2.V)→Prop
 |none=>v=.non
 |some (k,z)=>∃a,v=.ref a∧H a=some (.tup [iV k,z])
inductive kjA (d:D) (vs:List V) (H:Hp) (Q:VK) (E_:XK):Prop
 |ct (t b h o:Addr)(T:TillD)(B:Bask)(hand:List Int)(order:List Nat)(_:vs=[.ref t, .ref b, .ref h, .ref o])(_:TillIs d H t T)(_:kc2 T)(_:BaskIs d.qf d.qd H b B)(_:Wf T.ps B (stnd0 B))(_:H h=some (.lst (hand.map V.int)))(_:H o=some (.lst (order.map iV)))(_:hand.length=T.vs.length)(_:(∀n∈order,n<T.vs.length))(_:order.length<64)(_:∀(H':Hp)(v:L2.V),Same H H'→FltIs H' v (kd3 T B hand order)→Q v H'):kjA d vs H Q E_
theorem XH:kat ["till","basket","hand","order","way","place"] ["till","basket","hand","order"] (kah khp):=by ac_rfl
theorem kkT(W:WB K mg d base):FO P w W 8 d.Ys d.Yt ["till","basket","hand","order"] (kjA d):=by
 exists W.Vl.F,XH
 ·obtain⟨t,b,h,o,T,B,hand,order,rfl,hT,tok,hB,wf0,hh,ho,hl,hlt,h64,k⟩:=h
  exists UI,kjZ,W
  exists Qt,kb8,W
  exists XI,kcM,W
  exists hr2,2,hr,0
  exists hr5,5,hr,0
  refine⟨_,kab (psl (i:=4) XH.nd (pcl UI hr W.Vm (kaa (pv 0) (kaa (pv 1) (kaa (pv 2) (kaa (pv 3) kae))))))
   (kab (psl (i:=5) XH.nd (kan (r:=kaE K) kao (by rfl) W.B.len b_len (kaa (kaj (K:=K) (pv 4) rfl) kae)))
   (kab (ps_if (kap op_lt (pv 5) (kan (r:=kaE K) kao (by rfl) W.B.len b_len (kaa (pv 3) kae)) (kav _)) (kaf (kas (kb5 (kaa (pv 5) (kaa (kdO (pv 4) W.c_Way.cl W.qQ.me Qt hr5 W.qQ.b .nil pass0 (kaa (pe_ix (r:=rIxL K) kaw (pv 3) (pv 5) (fun _ _=>rfl)) kae)) kae))))) (kau))
   (kab (ps_if (kcv (kaN (ken (pv 4) W.c_Way.cl W.Qp.me XI hr2 W.Qp.b .nil pass0))) (kaf (kas (kb5 (kaa (pv 5) (kaa kbQ kae))))) (kau))
   (kaf (kas kbd))))),?_⟩
  exists Y4
  refine⟨_,rfl,_,rfl,_,rfl,_,rfl,t,b,h,o,T,B,hand,order,rfl,hT,tok,hB,wf0,hh,ho,hl,hlt,h64,fun H1 y x s1 fy hY hx wf=>?_⟩
  unfold kd3 at k
  simp only at k
  generalize walkM T B hand order [] (stnd0 B)=r at *
  obtain⟨used,S⟩:=r
  simp only at *
  obtain⟨dxw,fsw,hd,u,hw,w1,w2,w3,w4,w5,w6,w7,w8,w9,w10,hh',hu⟩:=id hY
  symm
  exists Y4
  refine⟨_,rfl,y,d.c_Way,dxw,fsw,_,rfl,hw,W.c_Way.cl,W.qP,w4,u,_,rfl, .inl (SqL.of hu),?_⟩
  rw[Nb]
  symm
  exists Y4
  refine⟨_,rfl,_,rfl,o,_,rfl, .inl (SqL.of (s1 _ _ ho)),_,_,rfl,rfl,_,rfl,?_⟩
  rw[Nb]
  by_cases hlen:used.length<order.length
  ·rw[if_pos hlen] at k
   rw[show decide ((used.length:Int)<(order.length:Int))=true by simp;exact hlen]
   obtain⟨n,en⟩:=at_of hlen
   have eg:order.getD used.length 0=n:=by rw[Nt,en];rfl
   obtain⟨Vc,hV⟩:=at_of (hlt n (Nj en))
   rw[eg,hV] at k
   have vo:=tok.vs Vc (Nj hV)
   refine iteT ?_
   symm
   exists Y6
   refine⟨_,rfl,_,rfl,y,dxw,fsw,rfl,hw,w6,_,rfl,_,rfl,o,_,_,_,rfl,rfl,SqL.of (s1 _ _ ho),kaA (v:=iV n) (by rw[Ni,en];rfl),y,t,b,x,T,B,S,hand,used,n,Vc,rfl,hY,hT.same s1,hB.same s1,hx,wf,vo,hV,hl,fun H2 s2=>?_⟩
   nofun
   exists Y6
   refine⟨(by show 2≤sizeLine;decide),fun q hq=>?_⟩
   nofun
   exact k _ _ ((s1.trans s2).trans (kal hq)) ⟨q,rfl,kad⟩
  ·rw[if_neg hlen] at k
   rw[show decide ((used.length:Int)<(order.length:Int))=false by simp;omega]
   refine iteF ?_
   nofun
   exists Y6
   refine⟨_,rfl,y,dxw,fsw,rfl,hw,w8,y,t,b,x,T,hand,used,rfl,hY,hT.same s1,_,rfl,?_⟩
   cases e:(onlyM T.rs used).isNone with
   |true=>
    rw[e,if_pos rfl] at k
    refine iteF ?_
    nofun
    exact k H1 _ s1 rfl
   |false=>
    rw[e,if_neg Np] at k
    refine iteT ?_
    nofun
    exists Y8
    refine⟨_,rfl,(by show 2≤sizeLine;decide),fun q hq=>?_⟩
    exists 3
    exact k _ _ (s1.trans (kal hq)) ⟨q,rfl,kad⟩
noncomputable def waysM(T:TillD)(B:Bask)(hand:List Int):Nat→List Nat→Stnd→List (List Nat×Stnd)
 |0,_,_=>[]
 |k+1,used,S=>(if(onlyM T.rs used).isNone=true then [(used,S)] else [])++(folM T B hand used S).flatMap fun n=>match T.vs[n]? with
  |none=>[]
  |some V=>waysM T B hand k (used++[n]) (aftM V T.ps (kds B) S)
noncomputable def Deep(T:TillD)(B:Bask)(hand:List Int):Nat→List Nat→Stnd→Prop
 |0,_,_=>False
 |k+1,used,S=>∀n∈folM T B hand used S,∀V,T.vs[n]?=some V→Deep T B hand k (used++[n]) (aftM V T.ps (kds B) S)
theorem WayN.same{d:D}{m:Nat}{H0 H H':Hp}{w t b x:Addr}{hand:List Int}{used:List Nat}(s:Same H H'):WayN d m H0 H w t b x hand used→WayN d m H0 H' w t b x hand used:=by rintro⟨f,dx,fs,h,u,f1,f2,h1,h2,h3,h4,h5,h6,h7,h8,h9,h10,h11,h12,h13⟩;exact
 ⟨f,dx,fs,h,u,f1,f2,s _ _ h1,h2,h3,h4,h5,h6,h7,h8,h9,h10,h11,s _ _ h12,s _ _ h13⟩
theorem StndN.same{C x:Addr}{H0 H H':Hp}{S:Stnd}(s:Same H H'):StndN C H0 H x S→StndN C H0 H' x S:=by rintro⟨f,o,p,mk,⟨dx,fs,hx,r⟩,f1,f2,f3,h1,h2,h3⟩;exact⟨f,o,p,mk,⟨dx,fs,s _ _ hx,r⟩,f1,f2,f3,s _ _ h1,s _ _ h2,s _ _ h3⟩
noncomputable def WayQ(d:D)(t b:Addr)(hand:List Int)(H0 H:Hp)(w:Addr)(q:List Nat×Stnd):Prop:=∃x,WayN d 7 H0 H w t b x hand q.1∧StndN d.qc H0 H x q.2
theorem WayQ.same{d:D}{t b w:Addr}{hand:List Int}{H0 H H':Hp}{q:List Nat×Stnd}(s:Same H H'):WayQ d t b hand H0 H w q→WayQ d t b hand H0 H' w q:=by rintro⟨x,h1,h2⟩;exact⟨x,h1.same s,h2.same s⟩
theorem WayQ.rmv{d:D}{t b w z:Addr}{hand:List Int}{H0 H1 H:Hp}{q:List Nat×Stnd}(s:Same H0 H1)(hz:H1 z≠none):WayQ d t b hand H1 H w q→WayQ d t b hand H0 (Vs.rmv z H) w q:=by rintro⟨x,⟨f,dx,fs,h,u,f1,f2,g,h2,h3,h4,h5,h6,h7,h8,h9,h10,h11,h12,h13⟩,⟨e,o,p,mk,⟨dy,gs,hx,r⟩,e1,e2,e3,k1,k2,k3⟩⟩;exact
 ⟨x,⟨none_of s f,dx,fs,h,u,none_of s f1,none_of s f2,(kce hz f).trans g,h2,h3,h4,h5,h6,h7,h8,h9,h10,h11,(kce hz f1).trans h12,(kce hz f2).trans h13⟩,
  ⟨none_of s e,o,p,mk,⟨dy,gs,(kce hz e).trans hx,r⟩,none_of s e1,none_of s e2,none_of s e3,(kce hz e1).trans k1,(kce hz e2).trans k2,(kce hz e3).trans k3⟩⟩
inductive kfp (d:D) (n:Nat) (vs:List V) (H:Hp) (Q:VK) (E_:XK):Prop
 |ct (H0:Hp)(wy t b:Addr)(T:TillD)(B:Bask)(S:Stnd)(hand:List Int)(used:List Nat)(_:vs=[.ref wy])(_:Same H0 H)(_:WayQ d t b hand H0 H wy (used,S))(_:TillIs d H t T)(_:kc2 T)(_:BaskIs d.qf d.qd H b B)(_:Wf T.ps B S)(_:hand.length=T.vs.length)(_:Deep T B hand n used S)(_:used.length+n<64)(_:(waysM T B hand n used S).length≤1000)(_:∀(H':Hp)(p:Addr)(wl:List Addr),Same H H'→H p=none→H' p=some (.lst (wl.map V.ref))→P2 (fun w q=>WayQ d t b hand H0 H' w q) wl (waysM T B hand n used S)→Q (.ref p) H'):kfp d n vs H Q E_
theorem kjr{d:D}{vs:List V}{H:Hp}{Q:VK}{E:XK}(h:kfp d 0 vs H Q E):False:=by
 obtain⟨_,_,_,_,_,_,_,_,_,_,_,_,_,_,_,_,_,h,_⟩:=h
 exact h
theorem kgU{α β:Type}{f: α→List β}{l:List α}{i:Nat}{a: α}(h:l[i]?=some a):(l.take (i+1)).flatMap f=(l.take i).flatMap f++f a:=by
 rw[take_snoc h,List.flatMap_append,List.flatMap_cons,Dr,Mv]
theorem kml{α β:Type}{f: α→List β}{l:List α}{i:Nat}:((l.take i).flatMap f).length≤(l.flatMap f).length:=by
 conv=>rhs;rw[←M3 i l,List.flatMap_append,Nr]
 omega
theorem XJ:kat ["way","found","number"] ["way"] (kah kdb):=by ac_rfl
theorem kfe(W:WB K mg d base)(n:Nat)(G_rec:FO P w W (6+n) d.Qg d.Qh ["way"] ((kfp d) n)):FO P w W (6+n+1) d.Qg d.Qh ["way"] ((kfp d) (n+1)):=by
 refine FunD.ok W.Qj.F XJ (fun vs H Q E h=>?_) (fun cdv A outer s H vs Q E hr h=>?_)
 ·obtain⟨H0,wy,t,b,T,B,S,hand,used,rfl,_⟩:=h
  rfl
 ·obtain⟨H0,wy,t,b,T,B,S,hand,used,rfl,s0,hq,hT,tok,hB,wf,hl,hdp,h64,hlen,kk⟩:=h
  exists XI,kcM,W
  exists UJ,kei,W
  exists Qu,kcH,W
  have hr2:Room 2 _:=hr.mono (by omega)
  have hr6:Room 6 _:=hr.mono (by omega)
  refine⟨_,kab (psl (i:=1) XJ.nd (kik (kdp (kaN (ken (pv 0) W.c_Way.cl W.Qp.me XI hr2 W.Qp.b .nil pass0)) (kaT (kaa (pv 0) kae)) (kaT kae))))
   (kab (kaR PassesOwn.never rfl (kaz (K:=K) (ken (pv 0) W.c_Way.cl W.Xt.me UJ hr6 W.Xt.b .nil pass0)) (pgn (i:=2) XJ.nd)
   (kaf (kaM (pe_bm NQ Dm Do keS (pv 1) (kaa (kjT G_rec hr rfl W.Qj.m W.Qj.F.kp W.Qj.b .nil pass0 (kaa (kdO (pv 0) W.c_Way.cl W.qR.me Qu hr6 W.qR.b .nil pass0 (kaa (pv 2) kae)) kae)) kae)))))
   (kaf (kas (pv 1)))),?_⟩
  obtain⟨x,hY,hS⟩:=id hq
  have hYI:=hY.at
  have hSI:=hS.is
  obtain⟨dxw,fsw,hd,u,hw,w1,w2,w3,w4,w5,w6,w7,w8,w9,w10,hh,hu⟩:=id hYI
  have hws:waysM T B hand (n+1) used S=(if(onlyM T.rs used).isNone=true then [(used,S)] else [])++(folM T B hand used S).flatMap fun m=>match T.vs[m]? with
   |none=>[]
   |some V=>waysM T B hand n (used++[m]) (aftM V T.ps (kds B) S):=rfl
  generalize hpre:(if(onlyM T.rs used).isNone=true then [(used,S)] else [])=pre at hws
  have hdp':∀m∈folM T B hand used S,∀V,T.vs[m]?=some V→Deep T B hand n (used++[m]) (aftM V T.ps (kds B) S):=hdp
  generalize hfm:(fun m=>match T.vs[m]? with
   |none=>[]
   |some V=>waysM T B hand n (used++[m]) (aftM V T.ps (kds B) S))=fm at hws
  refine⟨fun v H1=>∃(fo:Addr)(wl:List Addr),v=.ref fo∧Same H H1∧H fo=none∧H1 fo=some (.lst (wl.map V.ref))∧P2 (fun w q=>WayQ d t b hand H0 H w q) wl pre,?_,?_⟩
  ·refine⟨_,rfl,wy,dxw,fsw,rfl,hw,w8,wy,t,b,x,T,hand,used,rfl,hYI,hT,_,rfl,?_⟩
   cases e:(onlyM T.rs used).isNone with
   |true=>
    rw[e,if_pos rfl] at hpre
    subst hpre
    exact iteT ⟨_,rfl,(by show 1≤sizeLine;decide),fun fo ffo=>⟨fo,[wy],rfl,kal ffo,ffo,kad, .cons hq .nil⟩⟩
   |false=>
    rw[e,if_neg Np] at hpre
    subst hpre
    exact iteF ⟨(by show 0≤sizeLine;decide),fun fo ffo=>⟨fo,[],rfl,kal ffo,ffo,kad, .nil⟩⟩
  rintro v H1 ⟨fo,wl0,rfl,s1,ffo,efo0,hwl0⟩
  refine⟨_,rfl,wy,dxw,fsw,rfl,s1 _ _ hw,w9,wy,t,b,x,T,B,S,hand,used,rfl,hYI.same s1,hT.same s1,tok,hB.same s1,hSI.same s1,wf,hl,fun H2 fl s2 ffl efl=>?_⟩
  have s02:=s1.trans s2
  refine⟨fl,rfl,⟨_,SqL.of efl⟩,kaZ (xs:=(folM T B hand used S).map iV) (fun i σ H'=>Same H H'∧H' fl=some (.lst ((folM T B hand used S).map iV))∧∃(Hw:Hp)(wl:List Addr)(v2:Option V),Same Hw H'∧Same H0 Hw∧Hw fo=none∧H' fo=some (.lst (wl.map V.ref))∧P2 (fun w q=>WayQ d t b hand H0 Hw w q) wl (pre++((folM T B hand used S).take i).flatMap fm)∧σ=[some (.ref wy),some (.ref fo),v2])
   ⟨s02,efl,H,wl0,none,s02,s0,ffo,s2 _ _ efo0,by rw[List.take_zero,Dr,Mv];exact hwl0,rfl⟩ (fun i σ H' _ h=>SqL.of h.2.1) ?_ ?_⟩
  ·rintro i y σ H' hy ⟨sI,efl',Hw,wl,v2,sw,s0w,fwo,efo,hwl,rfl⟩
   obtain⟨m,em,rfl⟩:∃m,(folM T B hand used S)[i]?=some m∧y=iV m:=kba hy
   have hmem:=Nj em
   have hm:m<T.vs.length:=by
    unfold folM at hmem
    exact MJ.mp (NW.mp hmem).1
   obtain⟨Vc,hV⟩:=at_of hm
   have vo:=tok.vs Vc (Nj hV)
   have efm:fm m=waysM T B hand n (used++[m]) (aftM Vc T.ps (kds B) S):=by rw[←hfm];simp only[hV]
   have hle:=kml (f:=fm) (l:=folM T B hand used S) (i:=i+1)
   rw[kgU em,Nr] at hle
   rw[hws,Nr] at hlen
   have lwl:=hwl.len
   rw[Nr] at lwl
   refine⟨_,rfl, .inl ⟨rfl,_,SqL.of efo⟩,_,rfl,wy,dxw,fsw,rfl,sI _ _ hw,w7,_,rfl,wy,t,b,x,T,B,S,hand,used,m,Vc,rfl,hYI.same sI,hT.same sI,hB.same sI,hSI.same sI,wf,vo,hV,by omega,fun H4 wy' x' s4 f4 hY' hx'=>?_⟩
   have s04:=sI.trans s4
   refine⟨H',wy',t,b,T,B,aftM Vc T.ps (kds B) S,hand,used++[m],rfl,s4,⟨x',hY',hx'⟩,hT.same s04,tok,hB.same s04,wf.after vo,hl,hdp' m hmem Vc hV,(by rw[Nr,Ml];omega),(by rw[←efm];omega),fun H5 p5 wl5 s5 f5 e5 hwl5=>?_⟩
   have s15:=s4.trans s5
   have efo5:=s15 _ _ efo
   rw[←efm] at hwl5
   have l5:=hwl5.len
   refine⟨fo,p5,_,_,rfl,rfl,efo5,e5,Nq (kar (by rw[Nb,Nb];omega)),?_⟩
   rw[←Nl]
   have hfo':H' fo≠none:=by rw[efo];intro z;cases z
   have nfl:fl≠fo:=fun e=>by
    rw[e] at ffl
    rw[efo0] at ffl
    cases ffl
   have bw:=kl2 (x:=fo) (H:=H5) (nx efo5)
   have sw5:=kiO (sw.trans s15) bw fwo
   have s0H':Same H0 H':=s0.trans sI
   refine⟨kaq ffo (sI.trans s15) (nx efo5),by rw[kak nfl];exact s15 _ _ efl',Vs.rmv fo H5,wl++wl5,_,kiO kl1 (kay (nx efo5)) kjL,s0w.trans sw5,kjL,kad,?_,rfl⟩
   rw[kgU em,←Mc]
   exact P2.append (hwl.mono fun w q h=>h.same sw5) (hwl5.mono fun w q h=>h.rmv s0H' hfo')
  ·rintro σ H' ⟨sI,_,Hw,wl,v2,sw,s0w,fwo,efo,hwl,rfl⟩
   rw[Nb,ND,←hws] at hwl
   exact⟨_,rfl,kk H' fo wl sI ffo efo (hwl.mono fun w q h=>h.same sw)⟩
theorem kdr(W:WB K mg d base):∀n:Nat,FO P w W (6+n) d.Qg d.Qh ["way"] ((kfp d) n)
 |0=>⟨fun _ _ _ _ h=>(kjr h).elim,fun _ _ _ _ _ _ _ _ _ _ _ _ _ h=>(kjr h).elim⟩
 |n+1=>kfe W n (kdr W n)
theorem kgC(W:WB K mg d base):FO P w W 16 d.Qg d.Qh ["way"] ((kfp d) 10):=kdr W 10
theorem kku(hl:hand.length=T.vs.length):∀(k:Nat)(used:List Nat)(S:Stnd),remM hand used<k→Deep T B hand k used S
 |0,_,_,h=>by omega
 |k+1,used,S,h=>fun n hn V _=>by
  have hc:=(NW.mp hn).2
  obtain⟨h1,h2⟩:=ket hc
  have:=kie (hand:=hand) (used:=used) (n:=n) (by omega) h2
  exact kku hl k _ _ (by omega)
theorem khL{T:TillD}{B:Bask}{hand:List Int}(hl:hand.length=T.vs.length):∀(k:Nat)(used:List Nat)(S:Stnd),(waysM T B hand k used S).length≤fan (remM hand used)
 |0,_,_=>by unfold waysM;exact NO _
 | k+1,used,S=>by
  have h0:(if(onlyM T.rs used).isNone=true then [(used,S)] else []).length≤1:=by split <;> simp
  unfold waysM
  rw[Nr]
  cases er:remM hand used with
  |zero=>
   have hf:=klK (T:=T) (B:=B) (used:=used) (S:=S) hl
   rw[er] at hf
   have:folM T B hand used S=[]:=Dt.mp (Nat.le_zero.mp hf)
   rw[this,Dr]
   show _+0≤1
   omega
  | succ r=>
   have hf:=klK (T:=T) (B:=B) (used:=used) (S:=S) hl
   rw[er] at hf
   show _≤1+(r+1)*fan r
   refine Nk (Nat.add_le_add h0 (kiF (k:=fan r) (fun n hn=>?_))) (Nat.add_le_add_left (EM _ hf) 1)
   cases e:T.vs[n]? with
   |none=>exact NO _
   |some V=>
    have hc:=(NW.mp hn).2
    obtain⟨h1,h2⟩:=ket hc
    have hd:=kie (hand:=hand) (used:=used) (n:=n) (by omega) h2
    have hi:=khL (B:=B) hl k (used++[n]) (aftM V T.ps (kds B) S)
    rw[show remM hand (used++[n])=r by omega] at hi
    exact hi
theorem kgT{S:Stnd}(hl:hand.length=T.vs.length)(hn:∀z∈hand,0≤z)(h5:hand.sum≤5):Deep T B hand 10 [] S∧(waysM T B hand 10 [] S).length≤1000:=by
 have e:=kl3 hand hn
 have h:remM hand []≤5:=by omega
 exact⟨kku hl 10 [] S (by omega),Nk (khL hl 10 [] S) (Nk (kiH h) (by decide))⟩
theorem P2.memO{α β:Type}{R: α→β→Prop}:∀{as:List α}{bs:List β},P2 R as bs→∀a∈as,∃b∈bs,R a b
 |_,_, .nil,a,h=>by simp at h
 | _,_, .cons (a:=x) (b:=y) r t,a,h=>by
  rcases NF.mp h with rfl|h
  ·exact⟨y,by simp,r⟩
  ·obtain⟨b,hb,q⟩:=P2.memO t a h
   exact⟨b,NC _ hb,q⟩
theorem kkH{d:D}{m:Nat}{H:Hp}{w t b x:Addr}{hand:List Int}{used:List Nat}(hm:m≤7):WayAt d m H w t b x hand used→WayN d 7 (fun _=>none) H w t b x hand used:=by rintro⟨dx,fs,h,u,h1,h2,h3,h4,h5,h6,h7,h8,h9,h10,h11,h12,h13⟩;exact
 ⟨rfl,dx,fs,h,u,rfl,rfl,h1,h2,h3,h4,h5,h6,h7,h8,h9,h10,Nk h11 hm,h12,h13⟩
theorem kjm{C x:Addr}{H:Hp}{S:Stnd}:StndIs C H x S→StndN C (fun _=>none) H x S:=by rintro⟨o,p,mk,h,h1,h2,h3⟩;exact⟨rfl,o,p,mk,h,rfl,rfl,rfl,h1,h2,h3⟩
theorem kjI{H:Hp}:Same (fun _=>none) H:=fun b u e=>by cases e
inductive khY (d:D) (vs:List V) (H:Hp) (Q:VK) (E_:XK):Prop
 |ct (t b h:Addr)(T:TillD)(B:Bask)(hand:List Int)(_:vs=[.ref t, .ref b, .ref h])(_:TillIs d H t T)(_:kc2 T)(_:BaskIs d.qf d.qd H b B)(_:Wf T.ps B (stnd0 B))(_:H h=some (.lst (hand.map V.int)))(_:hand.length=T.vs.length)(_:Deep T B hand 10 [] (stnd0 B))(_:(waysM T B hand 10 [] (stnd0 B)).length≤1000)(_:∀(H':Hp)(p:Addr)(ol:List Addr),Same H H'→H p=none→H' p=some (.lst (ol.map V.ref))→P2 (fun o q=>H o=none∧H' o=some (.lst (q.map iV))) ol ((waysM T B hand 10 [] (stnd0 B)).map Prod.fst)→ol.Nodup→(∀o∈ol,o≠p)→Q (.ref p) H'):khY d vs H Q E_
theorem kjH:kat ["till","basket","hand"] ["till","basket","hand"] (kah kfU):=by ac_rfl
theorem kj0(W:WB K mg d base):FO P w W 17 d.YM d.YN ["till","basket","hand"] (khY d):=by
 exists W.Q9.F,kjH
 ·obtain⟨t,b,h,T,B,hand,rfl,hT,tok,hB,wf0,hh,hl,hdp,hlen,kk⟩:=h
  exists UK,kgC,W
  exists qS,kcG,W
  exists hr5,5,hr,0
  refine⟨_,kaf (kas (kbp (N:=["way"]) (CompScope.plain rfl (by decide +kernel) (by decide +kernel) (by decide +kernel) (nd1 _)) rfl (kaz (K:=K) (pcl UK hr W.Qj (kaa (kbc (W.qD.mk' W.c_Way) qS hr5 rfl W.c_Way.m W.qD.b .nil pass0 (kaa (pv 0) (kaa (pv 1) (kaa (pv 2) kae)))) kae))) (fun _ _ _ _=>pgn (i:=0) (nd1 _)) (fun _ _ _ _=>(kaQ (r:=kbg K) kaD (by rfl) W.B.list kbn (kaa (kaj (K:=K) (pv 0) rfl) kae))))),?_⟩
  refine⟨_,rfl,_,rfl,_,rfl,kiu hh hB wf0.nl wf0.ok fun H1 y x s1 fy fx hy hx=>?_⟩
  refine⟨fun _=>none,y,t,b,T,B,stnd0 B,hand,[],rfl,kjI,⟨x,kkH (by decide) hy.at,kjm hx⟩,hT.same s1,tok,hB.same s1,wf0,hl,hdp,by decide,hlen,fun H2 p wl s2 fp ep hwl=>?_⟩
  have hws:=hwl.len
  have s02:=s1.trans s2
  refine⟨p,rfl,⟨_,SqL.of ep⟩,kaL (xs:=wl.map V.ref) (fun i σ ys H'=>Same H2 H'∧∃(ol:List Addr)(v0:Option V),ys=ol.map V.ref∧P2 (fun o q=>H o=none∧H' o=some (.lst (q.map iV))) ol (((waysM T B hand 10 [] (stnd0 B)).map Prod.fst).take i)∧ol.Nodup∧σ=[v0]) ⟨Same.refl _,[],none,rfl, .nil,ED,rfl⟩ (by rw[Nb];exact Nq (kar (by omega))) ?_ ?_ ?_⟩
  ·rintro i σ ys H' hi ⟨s3,ol,v0,rfl,hol,_,rfl⟩
   rw[Nb] at hi
   exact⟨SqL.of (s3 _ _ ep),by rw[Nb,hol.len,Nv,Nb];omega⟩
  ·rintro i y σ ys H' hy ⟨s3,ol,v0,rfl,hol,hnd,rfl⟩
   obtain⟨w,ew,rfl⟩:=kcf hy
   obtain⟨q,eq,hw⟩:=hwl.at ew
   obtain⟨x',hW,_⟩:=hw.same s3
   obtain⟨_,dxw,fsw,hd,u,_,_,hwi,w1,w2,w3,w4,w5,w6,w7,w8,w9,w10,hh',hu⟩:=hW
   refine⟨_,rfl,w,d.c_Way,dxw,fsw,_,rfl,hwi,W.c_Way.cl,W.qP,w4,u,_,rfl, .inl (SqL.of hu),fun o fo=>?_⟩
   have n4:=kal (o:=.lst (q.1.map iV)) fo
   refine⟨s3.trans n4,ol++[o],_,by rw[Nl];rfl,?_,?_,rfl⟩
   ·rw[take_snoc (show((waysM T B hand 10 [] (stnd0 B)).map Prod.fst)[i]?=some q.1 by rw[Ni,eq];rfl)]
    exact P2.snoc (hol.mono fun o q h=>⟨h.1,n4 _ _ h.2⟩) ⟨(s02.trans s3).free fo,kad⟩
   ·rw[Eg]
    refine⟨hnd,by simp,fun a ha c hc=>?_⟩
    have e:c=o:=by simpa using hc
    rw[e]
    obtain⟨q',_,hq'⟩:=P2.memO hol a ha
    exact kai hq'.2 fo
  ·rintro σ ys H' ⟨s3,ol,v0,rfl,hol,hnd,rfl⟩ D hD
   rw[Nb,hws,←Nb (f:=Prod.fst),ND] at hol
   have n4:=kal (o:=.lst (ol.map V.ref)) hD
   refine kk _ D ol ((s02.trans s3).trans n4) ((s02.trans s3).free hD) kad (hol.mono fun o q h=>⟨h.1,n4 _ _ h.2⟩) hnd fun o ho=>?_
   obtain⟨q',_,hq'⟩:=P2.memO hol o ho
   exact kai hq'.2 hD
structure Step where
 n:Nat
 cs:List Int
 c:Int
noncomputable def StepIs(H:Hp)(a:Addr)(s:Step):Prop:=∃l,H a=some (.tup [iV s.n, .ref l, .int s.c])∧H l=some (.lst (s.cs.map V.int))
theorem StepIs.same{H H':Hp}{a:Addr}{t:Step}(s:Same H H'):StepIs H a t→StepIs H' a t:=by rintro⟨l,h1,h2⟩;exact⟨l,s _ _ h1,s _ _ h2⟩
noncomputable def StepN(H0 H:Hp)(a:Addr)(s:Step):Prop:=H0 a=none∧∃l,H0 l=none∧H a=some (.tup [iV s.n, .ref l, .int s.c])∧H l=some (.lst (s.cs.map V.int))
theorem StepN.same{H0 H H':Hp}{a:Addr}{t:Step}(s:Same H H'):StepN H0 H a t→StepN H0 H' a t:=by rintro⟨f,l,g,h1,h2⟩;exact⟨f,l,g,s _ _ h1,s _ _ h2⟩
theorem StepN.but{H0 H H':Hp}{a x:Addr}{t:Step}(b:But x H H')(hx:H0 x≠none):StepN H0 H a t→StepN H0 H' a t:=by rintro⟨f,l,g,h1,h2⟩;exact⟨f,l,g,b _ _ (fun e=>hx (e▸f)) h1,b _ _ (fun e=>hx (e▸g)) h2⟩
structure BillD where
 order:List Nat
 steps:List Step
 pr:List Int
 cg:Int
 total:Int
inductive BillIs (d:D) (H0 H:Hp) (b:Addr) (B:BillD):Prop
 |ct (dx:Addr)(fs:List (Str×V))(o s p:Addr)(sa:List Addr)(_:H b=some (.ins d.qe dx fs))(_:fs.lookup ("order" :Str)=some (.ref o))(_:fs.lookup ("steps" :Str)=some (.ref s))(_:fs.lookup ("prices" :Str)=some (.ref p))(_:fs.lookup ("carriage" :Str)=some (.int B.cg))(_:fs.lookup ("total" :Str)=some (.int B.total))(_:H0 b=none)(_:H0 o=none)(_:H0 s=none)(_:H0 p=none)(_:H o=some (.lst (B.order.map iV)))(_:H s=some (.lst (sa.map V.ref)))(_:P2 (fun a t=>StepN H0 H a t) sa B.steps)(_:H p=some (.lst (B.pr.map V.int))):BillIs d H0 H b B
theorem BillIs.same{d:D}{H0 H H':Hp}{b:Addr}{B:BillD}(z:Same H H'):BillIs d H0 H b B→BillIs d H0 H' b B:=by rintro⟨dx,fs,o,s,p,sa,h1,h2,h3,h4,h5,h6,f1,f2,f3,f4,h7,h8,h9,h10⟩;exact
 ⟨dx,fs,o,s,p,sa,z _ _ h1,h2,h3,h4,h5,h6,f1,f2,f3,f4,z _ _ h7,z _ _ h8,h9.mono fun a t h=>h.same z,z _ _ h10⟩
theorem BillIs.but{d:D}{H0 H H':Hp}{b x:Addr}{B:BillD}(z:But x H H')(hx:H0 x≠none):BillIs d H0 H b B→BillIs d H0 H' b B:=by rintro⟨dx,fs,o,s,p,sa,h1,h2,h3,h4,h5,h6,f1,f2,f3,f4,h7,h8,h9,h10⟩;exact
 ⟨dx,fs,o,s,p,sa,z _ _ (fun e=>hx (e▸f1)) h1,h2,h3,h4,h5,h6,f1,f2,f3,f4,z _ _ (fun e=>hx (e▸f2)) h7,z _ _ (fun e=>hx (e▸f3)) h8,h9.mono fun a t h=>h.but z hx,z _ _ (fun e=>hx (e▸f4)) h10⟩
inductive khh (d:D) (vs:List V) (H:Hp) (Q:VK) (E_:XK):Prop
 |ct (H0:Hp)(b dx o s x:Addr)(order:List Nat)(steps:List Step)(S:Stnd)(sa:List Addr)(_:vs=[.ref b, .ref o, .ref s, .ref x])(_:H0 b=none)(_:Same H0 H)(_:H b=some (.ins d.qe dx []))(_:H0 o=some (.lst (order.map iV)))(_:H0 s=some (.lst (sa.map V.ref)))(_:P2 (fun a t=>StepIs H0 a t) sa steps)(_:steps.length<64)(_:StndIs d.qc H0 x S)(_:∀H',Same H0 H'→BillIs d H0 H' b ⟨order,steps,S.pr,S.cg,S.pr.sum+S.cg⟩→Q .non H'):khh d vs H Q E_
theorem kgy:kat ["self","order","steps","standing"] ["self","order","steps","standing"] (kah kde):=by ac_rfl
theorem kgI(W:WB K mg d base):FO P w W 2 d.ZY d.ZZ ["self","order","steps","standing"] (khh d):=by
 exists W.Xx.F,kgy
 ·obtain⟨H0,b,dx,o,st,x,order,steps,S,sa,rfl,fb,s0,hb,ho,hst,hsa,h64,hS,kk⟩:=h
  obtain⟨ow,pp,mm,⟨dxs,fss,hxs,l1,l2,l3,l4,l5⟩,how,hpp,hmm⟩:=id hS
  exists UL,kdT,W
  refine⟨_,kab (kaJ (pv 0) (kaQ (r:=kbg K) kaD (by rfl) W.B.list kbn (kaa (pv 1) kae)) rfl)
   (kab (kaJ (pv 0) (kbp (N:=["number","piece_cuts","carriage_cut"]) (CompScope.plain rfl (by decide +kernel) (by decide +kernel) (by decide +kernel) (show(["number","piece_cuts","carriage_cut"]:List Str).Nodup by decide +kernel)) rfl (kaz (K:=K) (pv 2)) (fun _ _ _ _=>kbi (K:=K) (n:=3) rfl (kax (pgn (i:=0) (show(["number","piece_cuts","carriage_cut"]:List Str).Nodup by decide +kernel)) (kax (pgn (i:=1) (show(["number","piece_cuts","carriage_cut"]:List Str).Nodup by decide +kernel)) (kax (pgn (i:=2) (show(["number","piece_cuts","carriage_cut"]:List Str).Nodup by decide +kernel)) kbh)))) (fun _ _ _ _=>(kb5 (kaa (pv 0) (kaa (kaQ (r:=kbg K) kaD (by rfl) W.B.list kbn (kaa (pv 1) kae)) (kaa (pv 2) kae)))))) rfl)
   (kab (kaJ (pv 0) (kaQ (r:=kbg K) kaD (by rfl) W.B.list kbn (kaa (kaj (K:=K) (pv 3) rfl) kae)) rfl)
   (kab (kaJ (pv 0) (kaj (K:=K) (pv 3) rfl) rfl)
   (kaf (kaJ (pv 0) (ken (pv 3) W.qc.cl W.Xr.me UL hr W.Xr.b .nil pass0) rfl))))),?_⟩
  exists Y4
  refine⟨_,rfl,o,_,rfl, .inl (SqL.of (s0 _ _ ho)),fun o' ho'=>?_⟩
  have n1:=kal (o:=.lst (order.map iV)) ho'
  have fo:=s0.free ho'
  have no:o'≠b:=(kai hb ho').symm
  have e1:(upd H o' (.lst (order.map iV))) o'=some (.lst (order.map iV)):=kad
  have s1:=s0.trans n1
  have hb1:=n1 _ _ hb
  clear n1
  generalize upd H o' (.lst (order.map iV))=H1 at *
  symm
  exists Y4
  refine⟨_,rfl,b,d.qe,dx,[],rfl,hb1,W.qe.cl,W.VT,by decide,?_⟩
  have s2:Same H0 (upd H1 b (.ins d.qe dx (putF "order" (.ref o') []))):=kaq fb s1 (nx hb1)
  have e2:(upd H1 b (.ins d.qe dx (putF "order" (.ref o') []))) o'=some (.lst (order.map iV)):=by rw[kak no];exact e1
  have hb2:(upd H1 b (.ins d.qe dx (putF "order" (.ref o') []))) b=some (.ins d.qe dx (putF "order" (.ref o') [])):=kad
  generalize upd H1 b (.ins d.qe dx (putF "order" (.ref o') []))=H2 at *
  symm
  exists Y4
  refine⟨_,rfl,st,rfl,⟨_,SqL.of (s2 _ _ hst)⟩,kaL (xs:=sa.map V.ref) (fun i σ ys H'=>Same H2 H'∧∃(ta:List Addr)(v0 v1 v2:Option V),ys=ta.map V.ref∧P2 (fun a t=>StepN H0 H' a t) ta (steps.take i)∧σ=[v0,v1,v2])
   ⟨Same.refl _,[],none,none,none,rfl, .nil,rfl⟩ (by rw[Nb,hsa.len];exact Nq (kar (by omega))) ?_ ?_ ?_⟩
  ·rintro i σ ys H' hi ⟨s3,ta,v0,v1,v2,rfl,hT,rfl⟩
   symm
   exists Y6
   refine⟨SqL.of (s3 _ _ (s2 _ _ hst)),?_⟩
   rw[Nb,hT.len,Nv]
   rw[Nb,hsa.len] at hi
   omega
  ·rintro i y σ ys H' hy ⟨s3,ta,v0,v1,v2,rfl,hT,rfl⟩
   obtain⟨a,ea,rfl⟩:=kcf hy
   obtain⟨t,et,l,ha,hl⟩:=hsa.at ea
   have s03:=s2.trans s3
   nofun
   exists Y6
   refine⟨a,_,rfl,SqT.of (s03 _ _ ha),rfl,_,_,rfl,_,_,rfl,_,_,rfl,rfl,?_⟩
   nofun
   exists Y6
   refine⟨_,rfl,_,rfl,l,_,rfl, .inl (SqL.of (s03 _ _ hl)),fun l' hl'=>⟨_,rfl,(by show 3≤sizeLine;decide),fun q hq=>?_⟩⟩
   have n4:=kal (o:=.lst (t.cs.map V.int)) hl'
   have n5:=kal (o:=.tup [iV t.n,V.ref l',V.int t.c]) hq
   nofun
   exists Y6
   refine⟨s3.trans (n4.trans n5),ta++[q],_,_,_,by rw[Nl];rfl,?_,rfl⟩
   rw[kbJ et]
   nofun
   exact P2.snoc (hT.mono fun a t h=>h.same (n4.trans n5)) ⟨s03.free (n4.free hq),l',s03.free hl',kad,n5 _ _ kad⟩
  rintro σ ys H3 ⟨s3,ta,v0,v1,v2,rfl,hT,rfl⟩ sp hsp
  rw[Nb,hsa.len,ND] at hT
  have n4:=kal (o:=.lst (ta.map V.ref)) hsp
  have s03:=s2.trans s3
  have fsp:=s03.free hsp
  have hb3:=s3 _ _ hb2
  have nsp:sp≠b:=(kai hb3 hsp).symm
  have s4:=s03.trans n4
  have e4:=n4 _ _ (s3 _ _ e2)
  have es4:(upd H3 sp (.lst (ta.map V.ref))) sp=some (.lst (ta.map V.ref)):=kad
  have hT4:P2 (fun a t=>StepN H0 (upd H3 sp (.lst (ta.map V.ref))) a t) ta steps:=hT.mono fun a t h=>h.same n4
  have hb4:=n4 _ _ hb3
  clear n4
  generalize upd H3 sp (.lst (ta.map V.ref))=H4 at *
  symm
  exists Y4
  refine⟨_,rfl,b,d.qe,dx,_,rfl,hb4,W.qe.cl,W.qE,few (Nk (kam (n:=0) (Nd _)) (by decide)),?_⟩
  have b5:But b H4 (upd H4 b (.ins d.qe dx (putF "steps" (.ref sp) (putF "order" (.ref o') [])))):=kay (nx hb4)
  have s5:Same H0 (upd H4 b (.ins d.qe dx (putF "steps" (.ref sp) (putF "order" (.ref o') [])))):=kaq fb s4 (nx hb4)
  have e5:(upd H4 b (.ins d.qe dx (putF "steps" (.ref sp) (putF "order" (.ref o') [])))) o'=some (.lst (order.map iV)):=by rw[kak no];exact e4
  have es5:(upd H4 b (.ins d.qe dx (putF "steps" (.ref sp) (putF "order" (.ref o') [])))) sp=some (.lst (ta.map V.ref)):=by rw[kak nsp];exact es4
  have hb5:(upd H4 b (.ins d.qe dx (putF "steps" (.ref sp) (putF "order" (.ref o') [])))) b=some (.ins d.qe dx (putF "steps" (.ref sp) (putF "order" (.ref o') []))):=kad
  have stepb:∀{H5:Hp},But b H4 H5→P2 (fun a t=>StepN H0 H5 a t) ta steps:=fun {H5} bt=>hT4.mono fun a t ⟨f,l,g,h1,h2⟩=>⟨f,l,g,bt _ _ (ne_of h1 hb4 (by intro z;cases z)) h1,bt _ _ (ne_of h2 hb4 (by intro z;cases z)) h2⟩
  generalize upd H4 b (.ins d.qe dx (putF "steps" (.ref sp) (putF "order" (.ref o') [])))=H5 at *
  symm
  exists Y4
  refine⟨_,rfl,x,d.qc,dxs,fss,_,rfl,s5 _ _ hxs,W.qc.cl,W.qw,l2,pp,_,rfl, .inl (SqL.of (s5 _ _ hpp)),fun p' hp'=>?_⟩
  have n6:=kal (o:=.lst (S.pr.map V.int)) hp'
  have fp:=s5.free hp'
  have np:p'≠b:=(kai hb5 hp').symm
  have s6:=s5.trans n6
  have b6:=b5.same n6
  have e6:=n6 _ _ e5
  have es6:=n6 _ _ es5
  have ep6:(upd H5 p' (.lst (S.pr.map V.int))) p'=some (.lst (S.pr.map V.int)):=kad
  have hb6:=n6 _ _ hb5
  clear n6
  generalize upd H5 p' (.lst (S.pr.map V.int))=H6 at *
  symm
  exists Y4
  refine⟨_,rfl,b,d.qe,dx,_,rfl,hb6,W.qe.cl,W.Xu,few (Nk (kam (kam (n:=0) (Nd _))) (by decide)),?_⟩
  have b7:But b H4 (upd H6 b (.ins d.qe dx (putF "prices" (.ref p') (putF "steps" (.ref sp) (putF "order" (.ref o') []))))):=b6.trans (kay (nx hb6))
  have s7:Same H0 (upd H6 b (.ins d.qe dx (putF "prices" (.ref p') (putF "steps" (.ref sp) (putF "order" (.ref o') []))))):=kaq fb s6 (nx hb6)
  have e7:(upd H6 b (.ins d.qe dx (putF "prices" (.ref p') (putF "steps" (.ref sp) (putF "order" (.ref o') []))))) o'=some (.lst (order.map iV)):=by rw[kak no];exact e6
  have es7:(upd H6 b (.ins d.qe dx (putF "prices" (.ref p') (putF "steps" (.ref sp) (putF "order" (.ref o') []))))) sp=some (.lst (ta.map V.ref)):=by rw[kak nsp];exact es6
  have ep7:(upd H6 b (.ins d.qe dx (putF "prices" (.ref p') (putF "steps" (.ref sp) (putF "order" (.ref o') []))))) p'=some (.lst (S.pr.map V.int)):=by rw[kak np];exact ep6
  have hb7:(upd H6 b (.ins d.qe dx (putF "prices" (.ref p') (putF "steps" (.ref sp) (putF "order" (.ref o') []))))) b=some (.ins d.qe dx (putF "prices" (.ref p') (putF "steps" (.ref sp) (putF "order" (.ref o') [])))):=kad
  generalize upd H6 b (.ins d.qe dx (putF "prices" (.ref p') (putF "steps" (.ref sp) (putF "order" (.ref o') []))))=H7 at *
  symm
  exists Y4
  refine⟨_,rfl,x,d.qc,dxs,fss,_,rfl,s7 _ _ hxs,W.qc.cl,W.qY,l3,_,rfl,b,d.qe,dx,_,rfl,hb7,W.qe.cl,W.Xv,few (Nk (kam (kam (kam (n:=0) (Nd _)))) (by decide)),?_⟩
  have s8:Same H0 (upd H7 b (.ins d.qe dx (putF "carriage" (.int S.cg) (putF "prices" (.ref p') (putF "steps" (.ref sp) (putF "order" (.ref o') [])))))):=kaq fb s7 (nx hb7)
  have hb8:(upd H7 b (.ins d.qe dx (putF "carriage" (.int S.cg) (putF "prices" (.ref p') (putF "steps" (.ref sp) (putF "order" (.ref o') [])))))) b=some (.ins d.qe dx (putF "carriage" (.int S.cg) (putF "prices" (.ref p') (putF "steps" (.ref sp) (putF "order" (.ref o') []))))):=kad
  symm
  exists Y4
  refine⟨_,rfl,x,dxs,fss,rfl,s8 _ _ hxs,l5,x,ow,pp,mm,S.cg,S.pr,rfl,⟨dxs,fss,s8 _ _ hxs,l1,l2,l3,l4,l5⟩,s8 _ _ hpp,_,rfl,b,d.qe,dx,_,rfl,hb8,W.qe.cl,W.Xw,few (Nk (kam (kam (kam (kam (n:=0) (Nd _))))) (by decide)),?_⟩
  symm
  refine kk _ (kaq fb s8 (nx hb8)) ⟨dx,_,o',sp,p',ta,kad,?_,?_,?_,?_,?_,fb,fo,fsp,fp,?_,?_,stepb ((b7.trans (kay (nx hb7))).trans (kay (nx hb8))),?_⟩
  ·ac_nf
  ·ac_nf
  ·ac_nf
  ·ac_nf
  ·ac_nf
  ·rw[kak no,kak no];exact e7
  ·rw[kak nsp,kak nsp];exact es7
  ·rw[kak np,kak np];exact ep7
theorem kmg{d:D}{H:Hp}{o s x:Addr}{order:List Nat}{steps:List Step}{S:Stnd}{sa:List Addr}{R:Addr→Hp→Prop}{E:XK}(ho:H o=some (.lst (order.map iV)))(hs:H s=some (.lst (sa.map V.ref)))(hsa:P2 (fun a t=>StepIs H a t) sa steps)(h64:steps.length<64)(hS:StndIs d.qc H x S)
  (k:∀(H':Hp)(b:Addr),Same H H'→BillIs d H H' b ⟨order,steps,S.pr,S.cg,S.pr.sum+S.cg⟩→R b H'):
  ∀b dx,H b=none→H dx=none→dx≠b→khh d [.ref b, .ref o, .ref s, .ref x] (upd (upd H dx (.own b)) b (.ins d.qe dx [])) (fun v H2=>v=.non∧R b H2) E:=
 fun b dx nb nd _=>⟨H,b,dx,o,s,x,order,steps,S,sa,rfl,nb,kbl nb nd,kad,ho,hs,hsa,h64,hS,fun H' z hB=>⟨rfl,k H' b z hB⟩⟩
theorem kdM{H:Hp}{sp o:Addr}{xs:List Addr}{ys:List V}(hsp:H sp=some (.lst (xs.map V.ref)))(h0:xs≠[])(ho:H o=some (.lst ys))(hy:∀y∈ys,∀r,y≠V.ref r):o≠sp:=fun z=>by
 rw[z,hsp] at ho
 injection ho with ho
 injection ho with ho
 cases xs with
 |nil=>exact h0 rfl
 |cons r xs=>exact hy (V.ref r) (by rw[←ho];simp) r rfl
theorem StndIs.butR{C sp x:Addr}{H H':Hp}{S:Stnd}{xs:List Addr}(b:But sp H H')(hsp:H sp=some (.lst (xs.map V.ref)))(h0:xs≠[]):StndIs C H x S→StndIs C H' x S:=by rintro⟨o,p,mk,⟨dx,fs,hx,q⟩,ho,hp,hm⟩;exact
 ⟨o,p,mk,⟨dx,fs,b _ _ (ne_of hx hsp (by intro z;cases z)) hx,q⟩,
  b _ _ (kdM hsp h0 ho fun y hy r e=>by obtain⟨n,_,rfl⟩:=Ny.mp hy;cases e) ho,
  b _ _ (kdM hsp h0 hp fun y hy r e=>by obtain⟨n,_,rfl⟩:=Ny.mp hy;cases e) hp,
  b _ _ (kdM hsp h0 hm fun y hy r e=>by obtain⟨n,_,rfl⟩:=Ny.mp hy;cases e) hm⟩
theorem WayAt.butR{d:D}{m:Nat}{sp w t b x:Addr}{H H':Hp}{hand:List Int}{used:List Nat}{xs:List Addr}(z:But sp H H')(hsp:H sp=some (.lst (xs.map V.ref)))(h0:xs≠[]):WayAt d m H w t b x hand used→WayAt d m H' w t b x hand used:=by rintro⟨dx,fs,h,u,h1,h2,h3,h4,h5,h6,h7,h8,h9,h10,h11,h12,h13⟩;exact
 ⟨dx,fs,h,u,z _ _ (ne_of h1 hsp (by intro z;cases z)) h1,h2,h3,h4,h5,h6,h7,h8,h9,h10,h11,
  z _ _ (kdM hsp h0 h12 fun y hy r e=>by obtain⟨n,_,rfl⟩:=Ny.mp hy;cases e) h12,
  z _ _ (kdM hsp h0 h13 fun y hy r e=>by obtain⟨n,_,rfl⟩:=Ny.mp hy;cases e) h13⟩
noncomputable def billM(T:TillD)(B:Bask):List Nat→Stnd→List Step×Stnd
 |[],S=>([],S)
 |n::ns,S=>match T.vs[n]? with
  |none=>([],S)
  |some V=>(⟨n,(cutM V T.ps (kds B) S).1,(cutM V T.ps (kds B) S).2⟩::(billM T B ns (aftM V T.ps (kds B) S)).1,(billM T B ns (aftM V T.ps (kds B) S)).2)
noncomputable def kkC(T:TillD)(B:Bask)(order:List Nat):BillD:=⟨order,(billM T B order (stnd0 B)).1,(billM T B order (stnd0 B)).2.pr,(billM T B order (stnd0 B)).2.cg,(billM T B order (stnd0 B)).2.pr.sum+(billM T B order (stnd0 B)).2.cg⟩
inductive khW (d:D) (vs:List V) (H:Hp) (Q:VK) (E_:XK):Prop
 |ct (t b h o:Addr)(T:TillD)(B:Bask)(hand:List Int)(order:List Nat)(_:vs=[.ref t, .ref b, .ref h, .ref o])(_:TillIs d H t T)(_:kc2 T)(_:BaskIs d.qf d.qd H b B)(_:Wf T.ps B (stnd0 B))(_:H h=some (.lst (hand.map V.int)))(_:H o=some (.lst (order.map iV)))(_:hand.length=T.vs.length)(_:(∀n∈order,n<T.vs.length))(_:order.length<64)(_:kd3 T B hand order=none)(_:∀(H0 H':Hp)(bl:Addr),Same H H0→Same H0 H'→BillIs d H0 H' bl (kkC T B order)→Q (.ref bl) H'):khW d vs H Q E_
theorem qT:kat ["till","basket","hand","order","due","way","steps","number","told"] ["till","basket","hand","order"] (kah kfT):=by ac_rfl
theorem kgD(W:WB K mg d base):FO P w W 9 d.YE d.YF ["till","basket","hand","order"] (khW d):=by
 exists W.Q7.F,qT
 ·obtain⟨t,b,h,o,T,B,hand,order,rfl,hT,tok,hB,wf0,hh,ho,hl,hlt,h64,hf,kk⟩:=h
  exists UM,kkT,W
  exists qS,kcG,W
  exists UN,kmc,W
  exists Qu,kcH,W
  exists UO,kgI,W
  exists hr3,3,hr,0
  exists hr5,5,hr,0
  exists hr6,6,hr,0
  refine⟨_,kab (psl (i:=4) qT.nd (pcl UM hr W.Vl (kaa (pv 0) (kaa (pv 1) (kaa (pv 2) (kaa (pv 3) kae))))))
   (kab (ps_if (kap kct (pv 4) kbd (kav _)) (kaf (ps_no)) (kau))
   (kab (psl (i:=5) qT.nd (kbc (W.qD.mk' W.c_Way) qS hr5 rfl W.c_Way.m W.qD.b .nil pass0 (kaa (pv 0) (kaa (pv 1) (kaa (pv 2) kae)))))
   (kab (psl (i:=6) qT.nd (kaT kae))
   (kab (kaR PassesOwn.never rfl (kaz (K:=K) (pv 3)) (pgn (i:=7) qT.nd)
   (kab (psl (i:=8) qT.nd (pcl UN hr5 W.Vf (kaa (pe_ix (r:=rIxL K) kaw (kaj (K:=K) (pv 0) rfl) (pv 7) (fun _ _=>rfl)) (kaa (kaj (K:=K) (pv 0) rfl) (kaa (pv 1) (kaa (kaj (K:=K) (pv 5) rfl) kae))))))
   (kab (kaM (pe_bm NQ N7 N8 kaU (pv 6) (kaa (kb5 (kaa (pv 7) (kaa (pe_ix (r:=rIxT K) kcz (pv 8) kag (fun _ _=>rfl)) (kaa (pe_ix (r:=rIxT K) kcz (pv 8) kag (fun _ _=>rfl)) kae)))) kae)))
   (kaf (psl (i:=5) qT.nd (kdO (pv 5) W.c_Way.cl W.qR.me Qu hr6 W.qR.b .nil pass0 (kaa (pv 7) kae)))))))
   (kaf (kas (kbc (W.Xx.mk' W.qe) UO hr3 rfl W.qe.m W.Xx.b .nil pass0 (kaa (pv 3) (kaa (pv 6) (kaa (kaj (K:=K) (pv 5) rfl) kae)))))))))),?_⟩
  exists Y4
  refine⟨_,rfl,_,rfl,_,rfl,_,rfl,t,b,h,o,T,B,hand,order,rfl,hT,tok,hB,wf0,hh,ho,hl,hlt,h64,fun H1 v s1 hF=>?_⟩
  rw[hf] at hF
  have ev:v=.non:=hF
  subst ev
  symm
  exists Y4
  refine⟨_,rfl,rfl,_,rfl,?_⟩
  show if(!decide (V.non=V.non))=true then _ else _
  rw[show(!decide (V.non=V.non))=false by simp]
  refine iteF ?_
  symm
  exists Y4
  refine⟨_,rfl,_,rfl,_,rfl,kiu (s1 _ _ hh) (hB.same s1) wf0.nl wf0.ok fun H2 y0 x0 s2 fy0 fx0 hy0N hx0=>?_⟩
  have hy0:=hy0N.at
  have s02:=s1.trans s2
  symm
  exists Y4
  refine⟨by decide,fun sp fsp=>?_⟩
  generalize hgH3:upd H2 sp _=H3
  obtain⟨n3,(esp0:H3 sp=some (.lst (([]:List Addr).map V.ref)))⟩:=kaI hgH3 fsp
  have fsp0:=s02.free fsp
  generalize eR:billM T B order (stnd0 B)=R at *
  symm
  exists Y4
  refine⟨_,rfl,o,rfl,⟨_,SqL.of ((s02.trans n3) _ _ ho)⟩,kaZ (xs:=order.map iV) (fun i σ H'=>Same H2 H'∧∃(y x:Addr)(used:List Nat)(S:Stnd)(sa:List Addr)(st:List Step)(v7 v8:Option V),WayIs d H' y t b x hand used∧StndIs d.qc H' x S∧(sa=[]→WayIs d H2 y t b x hand used∧StndIs d.qc H2 x S)∧Wf T.ps B S∧used.length=i∧H' sp=some (.lst (sa.map V.ref))∧P2 (fun a t=>StepIs H' a t) sa st∧st.length=i∧st++(billM T B (order.drop i) S).1=R.1∧(billM T B (order.drop i) S).2=R.2∧σ=[some (.ref t),some (.ref b),some (.ref h),some (.ref o),some .non,some (.ref y),some (.ref sp),v7,v8])
   ⟨n3,y0,x0,[],_,[],[],none,none,(hy0.most (by decide)).same n3,hx0.same n3,(fun _=>⟨hy0.most (by decide),hx0⟩),wf0,rfl,esp0, .nil,rfl,by rw[M7,eR];rfl,by rw[M7,eR],rfl⟩ (fun i σ H' _ h=>SqL.of ((s02.trans h.1) _ _ ho)) ?_ ?_⟩
  ·rintro i yv σ H' hyv ⟨sI,y,x,used,S,sa,st,v7,v8,hY,hx,h2,wf,hul,hsp,hsa,hsl,hR1,hR2,rfl⟩
   obtain⟨n,en,rfl⟩:∃n,order[i]?=some n∧yv=iV n:=kba hyv
   have hi:=at_lt en
   obtain⟨Vc,hV⟩:=at_of (hlt n (Nj en))
   have vo:=tok.vs Vc (Nj hV)
   have ed:order.drop i=n::order.drop (i+1):=by
    obtain⟨z1,z2⟩:=Nu.mp en
    rw[EO z1,z2]
   rw[ed] at hR1 hR2
   unfold billM at hR1 hR2
   rw[hV] at hR1 hR2
   simp only at hR1 hR2
   have s0I:=s02.trans sI
   obtain⟨dxw,fsw,hd,u,hw,w1,w2,w3,w4,w5,w6,w7,w8,w9,w10,hh',hu⟩:=id hY
   obtain⟨dx,fs,p,vl,rl,va,ra,ht,t1,t2,t3,t4,hp,hvl,hva,hrl,hra⟩:=id (hT.same s0I)
   obtain⟨vv,evv⟩:=at_of (xs:=va) (i:=n) (by rw[hva.len];exact at_lt hV)
   obtain⟨Vc',eV',hVv⟩:=hva.at evv
   rw[hV] at eV'
   cases eV'
   symm
   exists Y6
   refine⟨_,rfl,t,d.qg,dx,fs,_,rfl,ht,W.qg.cl,W.qM,t2,_,rfl,vl,_,_,_,rfl,rfl,SqL.of hvl,kaA (v:=.ref vv) (by rw[Ni,evv];rfl),?_⟩
   nofun
   exists Y6
   refine⟨_,rfl,t,d.qg,dx,fs,_,rfl,ht,W.qg.cl,W.q9,t1,_,rfl,_,rfl,y,d.c_Way,dxw,fsw,_,rfl,hw,W.c_Way.cl,W.qZ,w5,?_⟩
   nofun
   exists Y6
   refine⟨vv,p,b,x,Vc,T.ps,B,S,rfl,hVv,SqL.of hp,hB.same s0I,hx,wf,vo,fun H4 tt pc s4 ft fpc htt hpc=>?_⟩
   have hsp4:=s4 _ _ hsp
   nofun
   exists Y6
   refine⟨_,rfl, .inl ⟨rfl,_,SqL.of hsp4⟩,_,rfl,_,rfl,tt,_,_,_,rfl,rfl,SqT.of htt,rfl,_,rfl,tt,_,_,_,rfl,rfl,SqT.of htt,rfl,(by show 3≤sizeLine;decide),fun q hq=>?_⟩
   have n5:=kal (o:=.tup [iV n,V.ref pc,V.int (cutM Vc T.ps (kds B) S).2]) hq
   have eq5:(upd H4 q (.tup [iV n,V.ref pc,V.int (cutM Vc T.ps (kds B) S).2])) q=some (.tup [iV n,V.ref pc,V.int (cutM Vc T.ps (kds B) S).2]):=kad
   have s5:=s4.trans n5
   have hsp5:=n5 _ _ hsp4
   have hpc5:=n5 _ _ hpc
   have npc:pc≠sp:=(kai hsp fpc).symm
   clear n5
   generalize upd H4 q (.tup [iV n,V.ref pc,V.int (cutM Vc T.ps (kds B) S).2])=H5 at *
   nofun
   exists Y6
   refine⟨sp,_,_,rfl,rfl,hsp5,kar (by rw[Nb,hsa.len];omega),?_⟩
   have b6:But sp H5 (upd H5 sp (.lst (sa.map V.ref++[V.ref q]))):=kay (nx hsp5)
   have s6:Same H2 (upd H5 sp (.lst (sa.map V.ref++[V.ref q]))):=kaq fsp (sI.trans s5) (nx hsp5)
   have esp6:(upd H5 sp (.lst (sa.map V.ref++[V.ref q]))) sp=some (.lst ((sa++[q]).map V.ref)):=by rw[kad,Nl];rfl
   generalize upd H5 sp (.lst (sa.map V.ref++[V.ref q]))=H6 at *
   have hYx:WayIs d H6 y t b x hand used∧StndIs d.qc H6 x S:=by
    by_cases h0:sa=[]
    ·exact⟨(h2 h0).1.same s6,(h2 h0).2.same s6⟩
    ·exact⟨(hY.same s5).butR b6 hsp5 h0,(hx.same s5).butR b6 hsp5 h0⟩
   have hst:P2 (fun a t=>StepIs H6 a t) (sa++[q]) (st++[⟨n,(cutM Vc T.ps (kds B) S).1,(cutM Vc T.ps (kds B) S).2⟩]):=by
    nofun
    refine P2.snoc ?_ ⟨pc,b6 _ _ (ne_of eq5 hsp5 (by intro z;cases z)) eq5,b6 _ _ npc hpc5⟩
    by_cases h0:sa=[]
    ·subst h0
     cases hsa
     nofun
     exact .nil
    ·refine hsa.mono fun a t zz=>?_
     obtain⟨l,g1,g2⟩:=zz
     have g1':=s5 _ _ g1
     have g2':=s5 _ _ g2
     nofun
     exists Y10
     refine⟨l,b6 _ _ (ne_of g1' hsp5 (by intro z;cases z)) g1',b6 _ _ ?_ g2'⟩
     exists 4
     exact kdM hsp5 h0 g2' fun y hy r e=>by obtain⟨n,_,rfl⟩:=Ny.mp hy;cases e
   have s06:=s02.trans s6
   obtain⟨dxw',fsw',hd',u',hw',_,_,_,_,_,_,w7',_⟩:=id hYx.1
   nofun
   exists Y6
   refine⟨_,rfl,y,dxw',fsw',rfl,hw',w7',_,rfl,y,t,b,x,T,B,S,hand,used,n,Vc,rfl,hYx.1,hT.same s06,hB.same s06,hYx.2,wf,vo,hV,by omega,fun H7 y' x' s7 fy' hY1 hx1=>?_⟩
   have hY':=hY1.at
   have hx':=hx1.is
   nofun
   exists Y6
   refine⟨s6.trans s7,y',x',used++[n],_,sa++[q],_,_,_,hY',hx',(fun e=>by simp at e),wf.after vo,by rw[Nr,hul];rfl,s7 _ _ esp6,hst.mono fun a t h=>h.same s7,by rw[Nr,hsl];rfl,?_,hR2,rfl⟩
   rw[Mc]
   nofun
   exact hR1
  ·rintro σ H' ⟨sI,y,x,used,S,sa,st,v7,v8,hY,hx,h2,wf,hul,hsp,hsa,hsl,hR1,hR2,rfl⟩
   rw[Nb,Dq] at hR1 hR2
   unfold billM at hR1 hR2
   have e1:st=R.1:=by simpa using hR1
   have e2:S=R.2:=hR2
   obtain⟨dxw,fsw,hd,u,hw,w1,w2,w3,w4,w5,w6,w7,w8,w9,w10,hh',hu⟩:=id hY
   rw[Nb] at hsl
   nofun
   exists Y6
   refine⟨_,rfl,_,rfl,_,rfl,y,d.c_Way,dxw,fsw,_,rfl,hw,W.c_Way.cl,W.qZ,w5,kmg ((s02.trans sI) _ _ ho) hsp hsa (by omega) hx fun H8 bl s8 hBl=>?_⟩
   nofun
   refine kk H' H8 bl (s02.trans sI) s8 ?_
   unfold kkC
   rw[eR,←e1,←e2]
   nofun
   exact hBl
noncomputable def segs:List Nat→List Int→List Int
 |[],_=>[]
 |m::ms,as=>(as.take m).sum::segs ms (as.drop m)
noncomputable def mans(rs:List Row):List Nat:=rs.map fun r=>r.mn.toNat
theorem kem:∀(ms:List Nat)(as:List Int),(segs ms as).length=ms.length
 |[],_=>rfl
 |m::ms,as=>by show(segs ms (as.drop m)).length+1=ms.length+1;rw[kem ms]
noncomputable def lsum(ow:List Nat)(as:List Int)(l:Nat):Int:=((ow.zip as).map fun p=>if p.1=l then p.2 else 0).sum
theorem kgM{ow:List Nat}{as:List Int}{i o:Nat}{a:Int}(h1:ow[i]?=some o)(h2:as[i]?=some a)(l:Nat):lsum (ow.take (i+1)) (as.take (i+1)) l=lsum (ow.take i) (as.take i) l+if o=l then a else 0:=by
 have hl1:i<ow.length:=(Nu.mp h1).1
 have hl2:i<as.length:=(Nu.mp h2).1
 unfold lsum
 rw[take_snoc h1,take_snoc h2,EI (by rw[Nv,Nv];omega),Nl,Mt]
 simp
theorem kiy:∀(m k:Nat)(as:List Int),as.length=m→lsum (Nh m k) as k=as.sum
 |0,k,as,h=>by
  have:as=[]:=Dt.mp h
  subst this
  rfl
 |m+1,k,[],h=>by cases h
 |m+1,k,a::as,h=>by
  have ih:=kiy m k as (by simpa using h)
  unfold lsum at ih⊢
  rw[Mr,EK,Nw,NN,ih,NN,if_pos rfl]
theorem khA:∀(ow:List Nat)(as:List Int)(l:Nat),(∀o∈ow,o≠l)→lsum ow as l=0
 |[],_,l,_=>rfl
 |o::ow,[],l,_=>rfl
 |o::ow,a::as,l,h=>by
  have ih:=khA ow as l fun x hx=>h x (NC _ hx)
  unfold lsum at ih⊢
  rw[EK,Nw,NN,ih,if_neg (h o NJ)]
  rfl
theorem kiz{o1 o2:List Nat}{as:List Int}{l:Nat}(h:o1.length≤as.length):lsum (o1++o2) as l=lsum o1 (as.take o1.length) l+lsum o2 (as.drop o1.length) l:=by
 unfold lsum
 conv=>lhs;rw[←M3 o1.length as]
 rw[EI (by rw[Nv];omega),Nl,Mt]
theorem kkq:∀(rs:List Row)(k:Nat),∀o∈((rs.zipIdx k).map fun p=>Nh p.1.mn.toNat p.2).flatten,k≤o
 |[],k,o,h=>by simp at h
 | r::rs,k,o,h=>by
  rw[M1,Nw,NK,NR] at h
  rcases h with h|h
  ·rw[(Ei.mp h).2];exact Nd _
  ·have:=kkq rs (k+1) o h
   omega
theorem kfy:∀(rs:List Row)(k:Nat)(as:List Int),as.length=((rs.zipIdx k).map fun p=>Nh p.1.mn.toNat p.2).flatten.length→(Nf rs.length).map (fun l=>lsum ((rs.zipIdx k).map fun p=>Nh p.1.mn.toNat p.2).flatten as (k+l))=segs (mans rs) as
 |[],k,as,_=>rfl
 | r::rs,k,as,h=>by
  rw[M1,Nw,NK] at h⊢
  rw[Nr,Mf] at h
  change as.length=r.mn.toNat+_ at h
  have ih:=kfy rs (k+1) (as.drop r.mn.toNat) (by rw[Mw,h];simp)
  show _=(as.take r.mn.toNat).sum::segs (mans rs) (as.drop r.mn.toNat)
  have hle:(Nh r.mn.toNat k).length≤as.length:=by rw[Mf,h];omega
  rw[NT,Dz,Nw,NH,←ih]
  congr 1
  ·rw[kiz hle,Mf,Nat.add_zero,kiy _ _ _ (by rw[Nv,h];omega),khA _ _ _ fun o ho=>by have:=kkq rs (k+1) o ho;omega]
   omega
  ·refine N2 fun l _=>?_
   show lsum _ as (k+(l+1))=_
   rw[kiz hle,Mf,khA _ _ _ fun o ho=>by rw[(Ei.mp ho).2];omega,Int.zero_add,show k+(l+1)=k+1+l by omega]
theorem kgN(rs:List Row)(as:List Int)(h:as.length=(ownN rs).length):(Nf rs.length).map (lsum (ownN rs) as)=segs (mans rs) as:=by
 have:=kfy rs 0 as h
 simp only[Ea] at this
 exact this
theorem kjj:∀(a b:List Int),a.length=b.length→(NI (· - ·) a b).sum=a.sum-b.sum
 |[],[],_=>rfl
 |[],_::_,h=>by cases h
 |_::_,[],h=>by cases h
 |x::a,y::b,h=>by
  rw[List.zipWith_cons_cons,NN,NN,NN,kjj a b (by simpa using h)]
  omega
theorem kia:∀(ms:List Nat)(a b:List Int),a.length=b.length→segs ms (NI (· - ·) a b)=NI (· - ·) (segs ms a) (segs ms b)
 |[],a,b,_=>rfl
 |m::ms,a,b,h=>by
  show((NI (· - ·) a b).take m).sum::segs ms ((NI (· - ·) a b).drop m)=((a.take m).sum-(b.take m).sum)::NI (· - ·) (segs ms (a.drop m)) (segs ms (b.drop m))
  rw[List.take_zipWith,List.drop_zipWith,kjj _ _ (by rw[Nv,Nv,h]),kia ms _ _ (by rw[Mw,Mw,h])]
theorem kh9:∀(ms:List Nat)(as:List Int),as.length≤ms.sum→(segs ms as).sum=as.sum
 |[],as,h=>by
  have:as=[]:=Dt.mp (by simpa using h)
  subst this
  rfl
 |m::ms,as,h=>by
  show((as.take m).sum::segs ms (as.drop m)).sum=_
  rw[NN,kh9 ms _ (by rw[Mw];rw[NN] at h;omega),←Mt,M3]
theorem kgA:∀(rs:List Row)(k:Nat),((rs.zipIdx k).map fun p=>Nh p.1.mn.toNat p.2).flatten.length=(mans rs).sum
 |[],k=>rfl
 |r::rs,k=>by
  rw[M1,Nw,NK,Nr,Mf,kgA rs (k+1)]
  rfl
theorem kim(rs:List Row):(ownN rs).length=(mans rs).sum:=kgA rs 0
inductive klq (d:D) (vs:List V) (H:Hp) (Q:VK) (E_:XK):Prop
 |ct (b a:Addr)(B:Bask)(as:List Int)(_:vs=[.ref b, .ref a])(_:BaskIs d.qf d.qd H b B)(_:B.rs.length≤12)(_:(∀r∈B.rs,r.Ok))(_:(ownN B.rs).length≤720)(_:H a=some (.lst (as.map V.int)))(_:as.length=(ownN B.rs).length)(_:∀(H':Hp)(p:Addr),Same H H'→H p=none→H' p=some (.lst ((segs (mans B.rs) as).map V.int))→Q (.ref p) H'):klq d vs H Q E_
theorem QO:kat ["basket","amounts","sums","owner","amount"] ["basket","amounts"] (kah kch):=by ac_rfl
theorem kcV(W:WB K mg d base):FO P w W 4 d.YK d.YL ["basket","amounts"] (klq d):=by
 exists W.Q8.F,QO
 ·obtain⟨b,a,B,as,rfl,hB,h12,hok,h720,ha,hla,k⟩:=h
  obtain⟨l,ls,⟨dxb,fsb,hb,lbl,lbc,lbm⟩,hl,hL⟩:=id hB
  exists Qs,kbP,W
  refine⟨_,kab (kcs (N:=["line"]) (CompScope.plain rfl (by decide +kernel) (by decide +kernel) (by decide +kernel) (nd1 _)) rfl (kaz (K:=K) (kaj (K:=K) (pv 0) rfl)) (fun _ _ _ _=>pgn (i:=0) (nd1 _)) (fun _ _ _ _=>kag) (pgn (i:=2) QO.nd))
   (kab (kaR PassesOwn.never rfl (keG rfl W.B.zip (kaa (kaj (K:=K) (kbc (W.qO.mk' W.qc) Qs hr rfl W.qc.m W.qO.b .nil pass0 (kaa (pv 0) kae)) rfl) (kaa (pv 1) kae))) (kbi (K:=K) (n:=2) rfl (kax (pgn (i:=3) QO.nd) (kax (pgn (i:=4) QO.nd) kbh)))
   (kaf (khs (pv 2) (pv 3) kf9 (pv 4) kgS set_list)))
   (kaf (kas (pv 2)))),?_⟩
  have hll:=hL.len
  refine⟨_,rfl,b,d.qd,dxb,fsb,_,rfl,hb,W.qd.cl,W.qr,lbl,l,rfl,⟨_,SqL.of hl⟩,kaL (xs:=ls.map V.ref) (fun i σ ys H'=>H'=H∧ys=(Nh i (0:Int)).map V.int∧∃v,σ=[v]) ⟨rfl,rfl,none,rfl⟩ (by rw[Nb,hll];exact Nq (kar (by omega))) ?_ ?_ ?_⟩
  ·rintro i σ ys H' hi ⟨rfl,rfl,_⟩
   exact⟨SqL.of hl,by simp⟩
  ·rintro i y σ ys H' hy ⟨rfl,rfl,v,rfl⟩
   refine⟨rfl,?_,_,rfl⟩
   rw[MB,Nl]
   rfl
  ·rintro σ ys H' ⟨rfl,rfl,v,rfl⟩ q hq
   rw[Nb,hll]
   have e0:(Nh B.rs.length (0:Int))=(Nf B.rs.length).map (lsum ((ownN B.rs).take 0) (as.take 0)):=by
    apply N6
    ·simp
    ·intro j h1 h2
     simp[lsum]
   rw[e0]
   have n1:=kal (o:=.lst (((Nf B.rs.length).map (lsum ((ownN B.rs).take 0) (as.take 0))).map V.int)) hq
   have e1:(upd H' q (.lst (((Nf B.rs.length).map (lsum ((ownN B.rs).take 0) (as.take 0))).map V.int))) q=some (.lst (((Nf B.rs.length).map (lsum ((ownN B.rs).take 0) (as.take 0))).map V.int)):=kad
   generalize upd H' q (.lst (((Nf B.rs.length).map (lsum ((ownN B.rs).take 0) (as.take 0))).map V.int))=H1 at *
   obtain⟨l',ls',hb1,hb2,hb3⟩:=hB.same n1
   refine⟨_,rfl,kiv hb1 hb2 hb3 h12 hok fun H2 x o p mk s2 fx fo _ _ hS ho hp hmk=>?_⟩
   obtain⟨dxs,fss,hxx,l1,l2,l3,l4,l5⟩:=hS
   have s12:=n1.trans s2
   have emin:min ((ownN B.rs).map iV).length (as.map V.int).length=(ownN B.rs).length:=by rw[Nb,Nb,hla,MM]
   have bq:But q H2 H2:=But.of_same (Same.refl _)
   have noq:o≠q:=(kai e1 fo).symm
   have naq:a≠q:=kai ha hq
   have ho':H2 o=some (.lst ((ownN B.rs).map iV)):=by
    rw[ho,keo]
   refine⟨x,d.qc,dxs,fss,_,rfl,hxx,W.qc.cl,W.qL,l1,_,rfl,o,a,_,_,rfl,ho',s12 _ _ ha,
    khF (xs:=(ownN B.rs).map iV) (ys:=as.map V.int) (fun i σ H''=>(∃v3 v4:Option V,σ=[some (.ref b),some (.ref a),some (.ref q),v3,v4])∧But q H2 H''∧H'' q=some (.lst (((Nf B.rs.length).map (lsum ((ownN B.rs).take i) (as.take i))).map V.int)))
     ⟨⟨none,none,rfl⟩,bq,s2 _ _ e1⟩ (fun i σ H'' _ h=>⟨h.2.1 _ _ noq ho',h.2.1 _ _ naq (s12 _ _ ha)⟩) ?_ ?_⟩
   ·rintro i y z t σ H3 hy hz ⟨⟨v3,v4,rfl⟩,b3,h3⟩ ht
    obtain⟨ln,eln,rfl⟩:=kba hy
    obtain⟨cz,ecz,rfl⟩:=kba hz
    have hln:=kf1 B.rs (Nj eln)
    have b4:=b3.same (kal (o:=.tup [iV ln,V.int cz]) ht)
    have h4:=kal (o:=.tup [iV ln,V.int cz]) ht _ _ h3
    refine⟨t,_,rfl,SqT.of kad,rfl,_,_,rfl,_,_,rfl,rfl,?_⟩
    have eat:((Nf B.rs.length).map (lsum ((ownN B.rs).take i) (as.take i)))[ln]?=some (lsum ((ownN B.rs).take i) (as.take i) ln):=by
     rw[Ni,M4 hln]
     rfl
    refine⟨_,rfl,_,rfl,q,_,_,_,rfl,rfl,SqL.of h4,kaA (v:=.int (lsum ((ownN B.rs).take i) (as.take i) ln)) (by rw[Ni,eat];rfl),_,rfl,_,_,rfl,rfl,q,_,_,ln,rfl,rfl,h4,kca (by simpa using hln),⟨_,_,rfl⟩,b4.trans (kay (nx h4)),?_⟩
    rw[kad,←Md]
    congr 3
    apply N6
    ·simp
    ·intro j g1 g2
     rw[Ec]
     simp only[MG,MP]
     rw[kgM eln ecz]
     by_cases hjl:ln=j
     ·subst hjl
      rw[if_pos rfl,if_pos rfl]
     ·rw[if_neg hjl,if_neg hjl,Int.add_zero]
   ·rintro σ H3 ⟨⟨v3,v4,rfl⟩,b3,h3⟩
    rw[emin,ND,show as.take (ownN B.rs).length=as by rw[←hla,ND],kgN _ _ hla] at h3
    exact⟨_,rfl,k H3 q (kgZ (But.of_same s12 |>.trans b3) hq) hq h3⟩
inductive kjz (d:D) (vs:List V) (H:Hp) (Q:VK) (E_:XK):Prop
 |ct (b bl:Addr)(B:Bask)(D:BillD)(H0:Hp)(_:vs=[.ref b, .ref bl])(_:BaskIs d.qf d.qd H b B)(_:B.rs.length≤12)(_:(∀r∈B.rs,r.Ok))(_:(ownN B.rs).length≤720)(_:BillIs d H0 H bl D)(_:(∀s∈D.steps,s.cs.length=(ownN B.rs).length))(_:D.steps.length<64)(_:∀(H':Hp)(p:Addr)(qs:List Addr),Same H H'→H p=none→p∉qs→(∀q∈qs,H q=none)→H' p=some (.lst (qs.map V.ref))→P2 (fun q (s:Step)=>H' q=some (.lst ((segs (mans B.rs) s.cs).map V.int))) qs D.steps→Q (.ref p) H'):kjz d vs H Q E_
theorem kgv:kat ["basket","bill"] ["basket","bill"] (kah kcF):=by ac_rfl
theorem kgE(W:WB K mg d base):FO P w W 5 d.YG d.YH ["basket","bill"] (kjz d):=by
 exists W.Vr.F,kgv
 ·obtain⟨b,bl,B,D,H0,rfl,hB,h12,hok,h720,⟨dx,fs,o,sp,pp,sa,hb1,h2,h3,h4,h5,h6,f1,f2,f3,f4,h7,h8,h9,h10⟩,hcs,h64,k⟩:=h
  exists XM,kcV,W
  refine⟨_,kaf (kas (kbp (N:=["number","piece_cuts","carriage_cut","basket"]) (CompScope.of (N:=["number","piece_cuts","carriage_cut","basket"]) (cap:=[none,none,none,some 0]) (kah kcF).names ["basket","bill"] rfl rfl (by decide +kernel)) rfl (kaz (K:=K) (kaj (K:=K) (pv 1) rfl)) (fun _ _ _ _=>kbi (K:=K) (n:=3) rfl (kax (pgn (i:=0) (show(["number","piece_cuts","carriage_cut","basket"]:List Str).Nodup by decide +kernel)) (kax (pgn (i:=1) (show(["number","piece_cuts","carriage_cut","basket"]:List Str).Nodup by decide +kernel)) (kax (pgn (i:=2) (show(["number","piece_cuts","carriage_cut","basket"]:List Str).Nodup by decide +kernel)) kbh)))) (fun _ _ _ _=>(pcl XM hr W.Q8 (kaa (pv 3) (kaa (pv 1) kae)))))),?_⟩
  have lsa:=h9.len
  refine⟨_,rfl,bl,d.qe,dx,fs,_,rfl,hb1,W.qe.cl,W.qE,h3,sp,rfl,⟨_,SqL.of h8⟩,kaL (xs:=sa.map V.ref) (fun i σ ys H'=>Same H H'∧∃(qs:List Addr)(v0 v1 v2:Option V),ys=qs.map V.ref∧(∀q∈qs,H q=none)∧P2 (fun q (s:Step)=>H' q=some (.lst ((segs (mans B.rs) s.cs).map V.int))) qs (D.steps.take i)∧σ=[v0,v1,v2,some (.ref b)])
   ⟨Same.refl _,[],none,none,none,rfl,(fun q hq=>by simp at hq), .nil,rfl⟩ (by rw[Nb,lsa];exact Nq (kar (by omega))) ?_ ?_ ?_⟩
  ·rintro i σ ys H' hi ⟨s1,qs,v0,v1,v2,rfl,fq,hq,rfl⟩
   exact⟨SqL.of (s1 _ _ h8),by have:=hq.len;rw[Nb,this,Nv];rw[Nb,lsa] at hi;omega⟩
  ·rintro i y σ ys H' hy ⟨s1,qs,v0,v1,v2,rfl,fq,hq,rfl⟩
   obtain⟨a,ea,rfl⟩:=kcf hy
   obtain⟨s,es,_,lc,_,hga,hlc⟩:=h9.at ea
   refine⟨a,_,rfl,SqT.of (s1 _ _ hga),rfl,_,_,rfl,_,_,rfl,_,_,rfl,rfl,?_⟩
   refine⟨_,rfl,_,rfl,b,lc,B,s.cs,rfl,hB.same s1,h12,hok,h720,s1 _ _ hlc,hcs s (Nj es),fun H2 q s2 f2 e2=>⟨s1.trans s2,qs++[q],_,_,_,by rw[Nl];rfl,?_,?_,rfl⟩⟩
   ·intro x hx
    rcases NR.mp hx with hx|hx
    ·exact fq x hx
    ·rw[Mi.mp hx]
     exact s1.free f2
   ·rw[take_snoc es]
    exact P2.snoc (hq.mono fun q s e=>s2 _ _ e) e2
  ·rintro σ ys H' ⟨s1,qs,v0,v1,v2,rfl,fq,hq,rfl⟩ p hp
   rw[Nb,lsa,ND] at hq
   have n2:=kal (o:=.lst (qs.map V.ref)) hp
   refine k _ p qs (s1.trans n2) (s1.free hp) (fun hm=>?_) fq kad (hq.mono fun q s e=>n2 _ _ e)
   obtain⟨j,hj⟩:=Mp.mp hm
   obtain⟨_,_,he⟩:=hq.at hj
   rw[he] at hp
   cases hp
inductive khU (d:D) (vs:List V) (H:Hp) (Q:VK) (E_:XK):Prop
 |ct (b bl:Addr)(B:Bask)(D:BillD)(H0:Hp)(_:vs=[.ref b, .ref bl])(_:BaskIs d.qf d.qd H b B)(_:B.rs.length≤12)(_:(∀r∈B.rs,r.Ok))(_:(ownN B.rs).length≤720)(_:BillIs d H0 H bl D)(_:D.pr.length=(ownN B.rs).length)(_:∀(H':Hp)(p:Addr),Same H H'→H p=none→H' p=some (.lst ((segs (mans B.rs) D.pr).map V.int))→Q (.ref p) H'):khU d vs H Q E_
theorem kff:kat ["basket","bill"] ["basket","bill"] (kah kcE):=by ac_rfl
theorem kfj(W:WB K mg d base):FO P w W 5 d.YI d.YJ ["basket","bill"] (khU d):=by
 exists W.Vt.F,kff
 ·obtain⟨b,bl,B,D,H0,rfl,hB,h12,hok,h720,⟨dx,fs,o,sp,pp,sa,hb1,h2,h3,h4,h5,h6,f1,f2,f3,f4,h7,h8,h9,h10⟩,hlp,k⟩:=h
  exists XM,kcV,W
  refine⟨_,kaf (kas (pcl XM hr W.Q8 (kaa (pv 0) (kaa (kaj (K:=K) (pv 1) rfl) kae)))),?_⟩
  exact⟨_,rfl,_,rfl,bl,d.qe,dx,fs,_,rfl,hb1,W.qe.cl,W.Xu,h4,b,pp,B,D.pr,rfl,hB,h12,hok,h720,h10,hlp,fun H' p s f e=>k H' p s f e⟩
theorem kfP:kat ["_law_found"] ["_law_found"] (kah kcO):=by ac_rfl
theorem kdu(W:WB K mg d base):FO P w W 1 d.YO d.YQ ["_law_found"] khS:=by
 exists W.Qy.F,kfP
 ·obtain⟨n,rfl,k⟩:=h
  refine⟨_,kaf (kas (kjU (kan (r:=rIsi K) kaK (by rfl) W.B.isi b_isi (kaa (pv 0) (kaa (keH (v:=.ty "int") (by rfl) W.B.int b_int rfl) kae))) (kij (kmE (kan (r:=rIsi K) kaK (by rfl) W.B.isi b_isi (kaa (pv 0) (kaa (keH (v:=.ty "bool") (by rfl) W.B.bool kmT rfl) kae))))))),?_⟩
  exact⟨_,rfl,_,_,_,_,rfl, .inl ⟨_,rfl⟩,TyOf.int _,kbT _ _,_,rfl,iteT ⟨_,rfl,_,_,_,_,rfl, .inl ⟨_,rfl⟩,TyOf.int _,kgR _,_,rfl,k⟩⟩
inductive kh4 (K:Nc) (vs:List V) (H:Hp) (Q:VK) (E_:XK):Prop
 |ct (a:Addr)(ns:List Int)(n:Int)(_:vs=[.ref a, .int n])(_:SqL K H a (ns.map V.int))(_:0≤n)(_:∀z:Int,Q (.int z) H):kh4 K vs H Q E_
theorem keA:kat ["_law_script","_law_k"] ["_law_script","_law_k"] (kah kcq):=by ac_rfl
theorem kcW(W:WB K mg d base):FO P w W 1 d.YR d.YS ["_law_script","_law_k"] (kh4 K):=by
 exists W.qV.F,keA
 ·obtain⟨a,ns,n,rfl,hS,n0,kk⟩:=h
  refine⟨_,kab (ps_if (kap op_lt (pv 1) (kan (r:=kaE K) kao (by rfl) W.B.len b_len (kaa (pv 0) kae)) (kav _)) (kaf (kas (pe_ix (r:=rIxL K) kaw (pv 0) (pv 1) (fun _ _=>rfl)))) (kau))
   (kaf (kas kag)),?_⟩
  obtain⟨m,rfl⟩:=Int.eq_ofNat_of_zero_le n0
  refine⟨_,rfl,_,rfl,a,_,rfl, .inl hS,_,_,rfl,rfl,_,rfl,ite2 (fun h=>?_) (fun _=>kk 0)⟩
  have hn:m<ns.length:=by
   have:(m:Int)<((ns.map V.int).length:Nat):=by simpa using h
   rw[Nb] at this
   omega
  obtain⟨z,ez⟩:=at_of hn
  exact⟨_,rfl,_,rfl,a,_,_,_,rfl,rfl,hS,kaA (v:=.int z) (by rw[Ni,ez];rfl),kk z⟩
theorem khl:kat ["_law_cell","_law_factor","_law_prime"] ["_law_cell","_law_factor","_law_prime"] (kah kdK):=by ac_rfl
theorem kbq(W:WB K mg d base):FO P w W 1 d.YT d.YU ["_law_cell","_law_factor","_law_prime"] spMix:=by
 exists W.qB.F,khl
 ·obtain⟨c,f,p,rfl,hf,hp,k⟩:=h
  refine⟨_,kaf (kas (pe_op kaC (pe_op kb7 (pv 0) (pv 1)) (pv 2))),?_⟩
  exact⟨_,rfl,_,rfl,_,_,rfl,rfl, .inr hf,_,rfl,_,_,rfl,rfl,hp,k⟩
inductive kjC (vs:List V) (H:Hp) (Q:VK) (E_:XK):Prop
 |ct (c:Int)(_:vs=[.int c])(_:∀z:Int,0≤z→z≤1000000000000→Q (.int z) H):kjC vs H Q E_
theorem V1:kat ["_law_cell","_law_how"] ["_law_cell"] (kah kcp):=by ac_rfl
theorem keR(W:WB K mg d base):FO P w W 2 d.YV d.YW ["_law_cell"] kjC:=by
 exists W.Vu.F,V1
 ·obtain⟨c,rfl,kk⟩:=h
  exists qp,kbq,W
  refine⟨_,kab (psl (i:=1) V1.nd (pe_op kaC (pv 0) kag))
   (kab (ps_if (kap op_eq (pv 1) kag (kav _)) (kaf (kas (pe_op kaC (pe_op kaB (pv 0) kag) kag))) (kau))
   (kab (ps_if (kap op_eq (pv 1) kag (kav _)) (kaf (kas (pe_op kaC (pe_op kb7 (pe_op kaB (pv 0) kag) kag) kag))) (kau))
   (kab (ps_if (kap op_eq (pv 1) kag (kav _)) (kaf (kas (pe_op kcK kag (pe_op kaC (pe_op kaB (pv 0) kag) kag)))) (kau))
   (kab (ps_if (kap op_eq (pv 1) kag (kav _)) (kaf (kas (pe_op kb7 kag (pe_op kaC (pe_op kaB (pv 0) kag) kag)))) (kau))
   (kaf (kas (pe_op kbR kag (pe_op kaC (pcl qp hr W.qB (kaa (pv 0) (kaa kag (kaa kag kae)))) kag)))))))),?_⟩
  refine⟨_,rfl,_,_,rfl,rfl,(by show(0:Int)<5;decide),?_⟩
  refine⟨_,rfl,rfl,_,rfl,ite2 (fun _=>?_) (fun _=>?_)⟩
  ·exact⟨_,rfl,_,_,rfl,rfl,⟨by decide,by decide⟩,_,_,rfl,rfl,(by show(0:Int)<7;decide),kk (c/5%7) (by omega) (by omega)⟩
  refine⟨_,rfl,rfl,_,rfl,ite2 (fun _=>?_) (fun _=>?_)⟩
  ·exact⟨_,rfl,_,_,rfl,rfl,⟨by decide,by decide⟩,_,_,rfl,rfl, .inr ⟨by decide,by decide⟩,_,_,rfl,rfl,(by show(0:Int)<1000000000001;decide),kk (c/5*2862933555777941757%1000000000001) (by omega) (by omega)⟩
  refine⟨_,rfl,rfl,_,rfl,ite2 (fun _=>?_) (fun _=>?_)⟩
  ·exact⟨_,rfl,_,_,rfl,rfl,⟨by decide,by decide⟩,_,_,rfl,rfl,(by show(0:Int)<3;decide),_,_,rfl,rfl,kk (1000000000000-c/5%3) (by omega) (by omega)⟩
  refine⟨_,rfl,rfl,_,rfl,ite2 (fun _=>?_) (fun _=>?_)⟩
  ·exact⟨_,rfl,_,_,rfl,rfl,⟨by decide,by decide⟩,_,_,rfl,rfl,(by show(0:Int)<40;decide),_,_,rfl,rfl, .inl ⟨by decide,by decide⟩,kk (100*(c/5%40)) (by omega) (by omega)⟩
  exact⟨_,rfl,c,48271,2147483647,rfl,⟨by decide,by decide⟩,by decide,_,_,rfl,rfl,(by show(0:Int)<5000;decide),_,_,rfl,rfl,kk (1+c*48271%2147483647%5000) (by omega) (by omega)⟩
inductive kh3 (vs:List V) (H:Hp) (Q:VK) (E_:XK):Prop
 |ct (c s:Int)(_:vs=[.int c, .int s])(_:∀z:Int,0≤z→z≤1000000000000→Q (.int z) H):kh3 vs H Q E_
theorem kez:kat ["_law_cell","_law_scale"] ["_law_cell","_law_scale"] (kah kco):=by ac_rfl
theorem kbw(W:WB K mg d base):FO P w W 3 d.YX d.YY ["_law_cell","_law_scale"] kh3:=by
 exists W.qK.F,kez
 ·obtain⟨c,s',rfl,kk⟩:=h
  exists UP,keR,W
  refine⟨_,kab (ps_if (kap op_eq (pv 1) kag (kav _)) (kaf (kas (pe_op kaC (pv 0) kag))) (kau))
   (kab (ps_if (kap op_eq (pv 1) kag (kav _)) (kaf (kas (pe_op kb7 kag (pe_op kaC (pv 0) kag)))) (kau))
   (kab (ps_if (kap op_eq (pv 1) kag (kav _)) (kaf (kas (pe_op kaC (pe_op kb7 (pv 0) kag) kag))) (kau))
   (kaf (kas (pcl UP hr W.Vu (kaa (pv 0) kae)))))),?_⟩
  refine⟨_,rfl,rfl,_,rfl,ite2 (fun _=>?_) (fun _=>?_)⟩
  ·exact⟨_,rfl,_,_,rfl,rfl,(by show(0:Int)<10;decide),kk (c%10) (by omega) (by omega)⟩
  refine⟨_,rfl,rfl,_,rfl,ite2 (fun _=>?_) (fun _=>?_)⟩
  ·exact⟨_,rfl,_,_,rfl,rfl,(by show(0:Int)<60;decide),_,_,rfl,rfl, .inl ⟨by decide,by decide⟩,kk (50*(c%60)) (by omega) (by omega)⟩
  refine⟨_,rfl,rfl,_,rfl,ite2 (fun _=>?_) (fun _=>?_)⟩
  ·exact⟨_,rfl,_,_,rfl,rfl, .inr ⟨by decide,by decide⟩,_,_,rfl,rfl,(by show(0:Int)<1000000000001;decide),kk (c*2862933555777941757%1000000000001) (by omega) (by omega)⟩
  exact⟨_,rfl,c,rfl,kk⟩
inductive khZ (d:D) (vs:List V) (H:Hp) (Q:VK) (E_:XK):Prop
 |ct (c:Int)(n:Nat)(s m:Int)(_:vs=[.int c,iV n, .int s, .int m])(_:0<n)(_:0≤m)(_:m≤7)(_:∀(H':Hp)(x:Addr)(r:Row),Same H H'→H x=none→LineAt d.qf H' x r→r.Ok→(0≤r.kd∧r.kd<(n:Int))→r.mn≤m→Q (.ref x) H'):khZ d vs H Q E_
theorem Qb:kat ["_law_cell","_law_kinds","_law_scale","_law_most","_law_mixed","_law_special","_law_many"] ["_law_cell","_law_kinds","_law_scale","_law_most"] (kah kcm):=by ac_rfl
theorem keP(W:WB K mg d base):FO P w W 4 d.YZ d.Y0 ["_law_cell","_law_kinds","_law_scale","_law_most"] (khZ d):=by
 exists W.Vv.F,Qb
 ·obtain⟨c,n,s',m,rfl,hn,hm0,hm7,kk⟩:=h
  exists qp,kbq,W
  exists qx,kbw,W
  exists UQ,kgH,W
  exists hr1,1,hr,0
  exists hr2,2,hr,0
  refine⟨_,kab (psl (i:=4) Qb.nd (pcl qp hr1 W.qB (kaa (pv 0) (kaa kag (kaa kag kae)))))
   (kab (psl (i:=5) Qb.nd kbd)
   (kab (kbG (ps_if (kap op_eq (pe_op kaC (pv 4) kag) kag (kav _)) (kaf (psl (i:=5) Qb.nd (pcl qx hr W.qK (kaa (pe_op kaB (pv 0) kag) (kaa (pv 2) kae))))) (kau)))
   (kab (psl (i:=6) Qb.nd (pe_op kaC (pe_op kaB (pv 4) kag) kag))
   (kab (kbG (ps_if (kap op_eq (pe_op kaC (pe_op kaB (pv 4) kag) kag) kag (kav _)) (kaf (psl (i:=6) Qb.nd (pe_op kaC (pe_op kaB (pv 4) kag) kag))) (kau)))
   (kaf (kas (kbc (W.Xo.mk' W.qf) UQ hr2 rfl W.qf.m W.Xo.b .nil pass0 (kaa (pe_op kaC (pe_op kaB (pv 4) kag) (pv 1)) (kaa (pcl qx hr W.qK (kaa (pe_op kaB (pv 0) kag) (kaa (pv 2) kae))) (kaa (kan (kcB rfl) (by rfl) W.B.min b_min (kaa (pv 6) (kaa (pv 3) kae))) (kaa (pv 5) kae))))))))))),?_⟩
  refine⟨_,rfl,c,16807,2147483399,rfl,⟨by decide,by decide⟩,by decide,?_⟩
  have hx0:0≤c*16807%2147483399:=by omega
  generalize c*16807%2147483399=mx at *
  refine⟨fun σ' H'=>H'=H∧∃sp:Option Int,(∀z,sp=some z→0≤z∧z≤1000000000000)∧σ'=[some (.int c),some (iV n),some (.int s'),some (.int m),some (.int mx),some (oV sp),none],?_,?_⟩
  ·refine⟨_,rfl,_,_,rfl,rfl,(by show(0:Int)<3;decide),rfl,_,rfl,ite2 (fun _=>?_) (fun _=>⟨rfl,none,(fun z e=>by cases e),rfl⟩)⟩
   exact⟨_,rfl,_,_,rfl,rfl,⟨by decide,by decide⟩,_,rfl,_,_,rfl,fun z z0 z1=>⟨rfl,some z,(fun y e=>by cases e;exact⟨z0,z1⟩),rfl⟩⟩
  rintro σ' H' ⟨rfl,sp,hsp,rfl⟩
  refine⟨_,rfl,_,_,rfl,rfl,⟨by decide,by decide⟩,_,_,rfl,rfl,(by show(0:Int)<4;decide),?_⟩
  refine⟨fun σ' H2=>H2=H'∧∃mn:Int,0≤mn∧mn≤7∧σ'=[some (.int c),some (iV n),some (.int s'),some (.int m),some (.int mx),some (oV sp),some (.int mn)],?_,?_⟩
  ·refine⟨_,rfl,_,_,rfl,rfl,⟨by decide,by decide⟩,_,_,rfl,rfl,(by show(0:Int)<8;decide),rfl,_,rfl,ite2 (fun _=>?_) (fun _=>⟨rfl,mx/3%4,by omega,by omega,rfl⟩)⟩
   exact⟨_,rfl,_,_,rfl,rfl,⟨by decide,by decide⟩,_,_,rfl,rfl,(by show(0:Int)<8;decide),rfl,mx/96%8,by omega,by omega,rfl⟩
  rintro σ' H2 ⟨rfl,mn,hmn0,hmn7,rfl⟩
  have k0:0≤mx/768%(n:Int):=Int.emod_nonneg _ (by omega)
  have k1:mx/768%(n:Int)<(n:Int):=Int.emod_lt_of_pos _ (by omega)
  refine⟨_,rfl,_,_,rfl,rfl,⟨by decide,by decide⟩,_,rfl,_,_,rfl,rfl,(by show(0:Int)<(n:Int);omega),_,rfl,_,_,rfl,rfl,⟨by decide,by decide⟩,_,rfl,_,_,rfl,fun pz p0 p1=>?_⟩
  have hq:0≤(if m<mn then m else mn)∧(if m<mn then m else mn)≤m:=by split <;> omega
  refine⟨_,rfl,_,rfl,_,_,rfl,_,rfl,kmf (r:=⟨mx/768%(n:Int),pz,if m<mn then m else mn,sp⟩) fun H1 y s1 fy hy=>?_⟩
  generalize (if m<mn then m else mn)=q at *
  exact kk H1 y _ s1 fy hy ⟨p0,p1,hq.1,(by show q≤60;omega),hsp⟩ ⟨k0,k1⟩ hq.2
inductive kgn (d:D) (vs:List V) (H:Hp) (Q:VK) (E_:XK):Prop
 |ct (c:Int)(ps:List (Option Nat))(s:Int)(_:vs=[.int c,iV ps.length, .int s])(_:0<ps.length)(_:∀(H':Hp)(x:Addr)(M:Mks),Same H H'→H x=none→MksIs d.qh H' x M→MksOk ps M→Q (.ref x) H'):kgn d vs H Q E_
theorem qH:kat ["_law_cell","_law_kinds","_law_scale","_law_mixed","_law_kind","_law_needs","_law_most","_law_more"] ["_law_cell","_law_kinds","_law_scale"] (kah kbY):=by ac_rfl
theorem kef(W:WB K mg d base):FO P w W 4 d.Y1 d.Y2 ["_law_cell","_law_kinds","_law_scale"] (kgn d):=by
 exists W.Vw.F,qH
 ·obtain⟨c,ps,s',rfl,hn,kk⟩:=h
  exists qp,kbq,W
  exists qx,kbw,W
  exists Xz,kdy,W
  exists hr1,1,hr,0
  exists hr2,2,hr,0
  refine⟨_,kab (psl (i:=3) qH.nd (pcl qp hr1 W.qB (kaa (pv 0) (kaa kag (kaa kag kae)))))
   (kab (psl (i:=4) qH.nd kbd)
   (kab (kbG (ps_if (kap op_eq (pe_op kaC (pv 3) kag) kag (kav _)) (kaf (psl (i:=4) qH.nd (pe_op kaC (pe_op kaB (pv 3) kag) (pv 1)))) (kau)))
   (kab (psl (i:=5) qH.nd kag)
   (kab (kbG (ps_if (kap op_eq (pe_op kaC (pe_op kaB (pv 3) kag) kag) kag (kav _)) (kaf (psl (i:=5) qH.nd (pcl qx hr W.qK (kaa (pe_op kaB (pv 0) kag) (kaa (pv 2) kae))))) (kau)))
   (kab (psl (i:=6) qH.nd kbd)
   (kab (kbG (ps_if (kap op_eq (pe_op kaC (pe_op kaB (pv 3) kag) kag) kag (kav _)) (kaf (psl (i:=6) qH.nd (pcl qx hr W.qK (kaa (pe_op kaB (pv 0) kag) (kaa (pv 2) kae))))) (kau)))
   (kab (psl (i:=7) qH.nd (pe_op kaB (pv 3) kag))
   (kaf (kas (kbc (W.QB.mk' W.qh) Xz hr2 rfl W.qh.m W.QB.b .nil pass0 (kaa (pv 4) (kaa (pv 5) (kaa (pv 6) (kaa (kb6 op_eq (pe_op kaC (pv 7) kag) kag (kav _)) (kaa (kb6 op_eq (pe_op kaC (pe_op kaB (pv 7) kag) kag) kag (kav _)) (kaa (kb6 op_eq (pe_op kaC (pe_op kaB (pv 7) kag) kag) kag (kav _)) kae)))))))))))))))),?_⟩
  refine⟨_,rfl,c,39373,2147483587,rfl,⟨by decide,by decide⟩,by decide,?_⟩
  have hx0:0≤c*39373%2147483587:=by omega
  generalize c*39373%2147483587=mx at *
  refine⟨fun σ' H'=>H'=H∧∃kd:Option Nat,(∀k,kd=some k→k<ps.length)∧σ'=[some (.int c),some (iV ps.length),some (.int s'),some (.int mx),some (pV kd),none,none,none],?_,?_⟩
  ·refine⟨_,rfl,_,_,rfl,rfl,(by show(0:Int)<2;decide),rfl,_,rfl,ite2 (fun _=>?_) (fun _=>⟨rfl,none,(fun z e=>by cases e),rfl⟩)⟩
   have k0:0≤mx/2%(ps.length:Int):=Int.emod_nonneg _ (by omega)
   have k1:mx/2%(ps.length:Int)<(ps.length:Int):=Int.emod_lt_of_pos _ (by omega)
   refine⟨_,rfl,_,_,rfl,rfl,⟨by decide,by decide⟩,_,rfl,_,_,rfl,rfl,(by show(0:Int)<(ps.length:Int);omega),rfl,some (mx/2%(ps.length:Int)).toNat,(fun k e=>by cases e;omega),?_⟩
   show _=[some (V.int c),some (iV ps.length),some (V.int s'),some (V.int mx),some (V.int (((mx/2%(ps.length:Int)).toNat:Nat):Int)),none,none,none]
   rw[Int.toNat_of_nonneg k0]
   rfl
  rintro σ' H' ⟨rfl,kd,hkd,rfl⟩
  refine⟨fun σ' H2=>H2=H'∧∃nd:Int,(0≤nd∧nd≤1000000000000)∧σ'=[some (.int c),some (iV ps.length),some (.int s'),some (.int mx),some (pV kd),some (.int nd),none,none],?_,?_⟩
  ·refine⟨_,rfl,_,_,rfl,rfl,⟨by decide,by decide⟩,_,_,rfl,rfl,(by show(0:Int)<4;decide),rfl,_,rfl,ite2 (fun _=>?_) (fun _=>⟨rfl,0,⟨by decide,by decide⟩,rfl⟩)⟩
   exact⟨_,rfl,_,_,rfl,rfl,⟨by decide,by decide⟩,_,rfl,_,_,rfl,fun z z0 z1=>⟨rfl,z,⟨z0,z1⟩,rfl⟩⟩
  rintro σ' H2 ⟨rfl,nd,hnd,rfl⟩
  refine⟨fun σ' H3=>H3=H2∧∃mo:Option Int,(∀z,mo=some z→0≤z∧z≤1000000000000)∧σ'=[some (.int c),some (iV ps.length),some (.int s'),some (.int mx),some (pV kd),some (.int nd),some (oV mo),none],?_,?_⟩
  ·refine⟨_,rfl,_,_,rfl,rfl,⟨by decide,by decide⟩,_,_,rfl,rfl,(by show(0:Int)<4;decide),rfl,_,rfl,ite2 (fun _=>?_) (fun _=>⟨rfl,none,(fun z e=>by cases e),rfl⟩)⟩
   exact⟨_,rfl,_,_,rfl,rfl,⟨by decide,by decide⟩,_,rfl,_,_,rfl,fun z z0 z1=>⟨rfl,some z,(fun y e=>by cases e;exact⟨z0,z1⟩),rfl⟩⟩
  rintro σ' H3 ⟨rfl,mo,hmo,rfl⟩
  refine⟨_,rfl,_,_,rfl,rfl,⟨by decide,by decide⟩,?_⟩
  have fin:∀b1 b2 b3:Bool,∀x dx,H3 x=none→H3 dx=none→dx≠x→kel d.qh [.ref x,pV kd, .int nd,oV mo, .bl b1, .bl b2, .bl b3] (upd (upd H3 dx (.own x)) x (.ins d.qh dx [])) (fun v H2=>v=.non∧Q (.ref x) H2) E0:=fun b1 b2 b3=>kiw (M:=⟨kd,nd,mo,b1,b2,b3⟩) fun H1 x s1 fx hM=>kk H1 x _ s1 fx hM ⟨hkd,hnd,hmo⟩
  refine⟨_,rfl,_,rfl,_,rfl,_,rfl,_,_,rfl,rfl,(by show(0:Int)<9;decide),rfl,_,rfl,_,_,rfl,rfl,⟨by decide,by decide⟩,_,_,rfl,rfl,(by show(0:Int)<4;decide),rfl,_,rfl,_,_,rfl,rfl,⟨by decide,by decide⟩,_,_,rfl,rfl,(by show(0:Int)<4;decide),rfl,?_⟩
  exact fin _ _ _
theorem at3V{a b c:V}{i:Int}(h0:0≤i)(h3:i<3):∃v,atI [a,b,c] i=some v∧(v=a∨v=b∨v=c):=by
 obtain⟨n,rfl⟩:=Int.eq_ofNat_of_zero_le h0
 have hn:n<3:=by omega
 match n,hn with
 |0,_=>exact⟨a,rfl, .inl rfl⟩
 |1,_=>exact⟨b,rfl, .inr (.inl rfl)⟩
 |2,_=>exact⟨c,rfl, .inr (.inr rfl)⟩
inductive kgm (d:D) (vs:List V) (H:Hp) (Q:VK) (E_:XK):Prop
 |ct (c:Int)(ps:List (Option Nat))(s:Int)(_:vs=[.int c,iV ps.length, .int s])(_:0<ps.length)(_:Tbs d H)(_:∀(H':Hp)(x:Addr)(V:Vch),Same H H'→H x=none→VchIs d H' x V→VchOk ps V→Q (.ref x) H'):kgm d vs H Q E_
theorem XO:kat ["_law_cell","_law_kinds","_law_scale","_law_mixed","_law_marks"] ["_law_cell","_law_kinds","_law_scale"] (kah kbA):=by ac_rfl
theorem kdv(W:WB K mg d base):FO P w W 6 d.Y3 d.Y5 ["_law_cell","_law_kinds","_law_scale"] (kgm d):=by
 exists W.Vx.F,XO
 ·obtain⟨c,ps,s',rfl,hn,htb0,kk⟩:=h
  exists qp,kbq,W
  exists UR,kef,W
  exists US,khy,W
  exists qx,kbw,W
  exists UT,kf4,W
  exists UU,kej,W
  exists UV,kfl,W
  exists UW,kek,W
  exists hr1,1,hr,0
  exists hr3,3,hr,0
  exists hr4,4,hr,0
  refine⟨_,kab (psl (i:=3) XO.nd (pcl qp hr1 W.qB (kaa (pv 0) (kaa kag (kaa kag kae)))))
   (kab (psl (i:=4) XO.nd (pcl UR hr4 W.Vw (kaa (pv 0) (kaa (pv 1) (kaa (pv 2) kae)))))
   (kab (ps_if (kap op_eq (pe_op kaC (pv 3) kag) kag (kav _)) (kaf (kas (kbc (W.Xc.mk' W.c_Off) US hr rfl W.c_Off.m W.Xc.b .nil pass0 (kaa (pcl qx hr3 W.qK (kaa (pe_op kaB (pv 0) kag) (kaa (pv 2) kae))) (kaa (pv 4) kae))))) (kau))
   (kab (ps_if (kap op_eq (pe_op kaC (pv 3) kag) kag (kav _)) (kaf (kas (kbc (W.Xf.mk' W.qi) UT hr rfl W.qi.m W.Xf.b .nil pass0 (kaa (pe_ix (r:=rIxL K) kaw (kaT (kaa kag (kaa kag (kaa (pe_op kbR kag (pe_op kaC (pe_op kaB (pv 3) kag) kag)) kae)))) (pe_op kaC (pe_op kaB (pv 3) kag) kag) (fun _ _=>rfl)) (kaa (kb6 op_eq (pe_op kaC (pe_op kaB (pv 3) kag) kag) kag (kav _)) (kaa (pv 4) kae)))))) (kau))
   (kab (ps_if (kap op_eq (pe_op kaC (pv 3) kag) kag (kav _)) (kaf (kas (kbc (W.Xi.mk' W.ql) UU hr rfl W.ql.m W.Xi.b .nil pass0 (kaa (pe_op kbR kag (pe_op kaC (pe_op kaB (pv 3) kag) kag)) (kaa (pv 4) kae))))) (kau))
   (kab (ps_if (kap op_eq (pe_op kaC (pv 3) kag) kag (kav _)) (kaf (kas (kbc (W.Xl.mk' W.qj) UV hr rfl W.qj.m W.Xl.b .nil pass0 (kaa (pe_op kbR kag (pe_op kaC (pe_op kaB (pv 3) kag) kag)) (kaa (pcl qx hr3 W.qK (kaa (pe_op kaB (pv 0) kag) (kaa (pv 2) kae))) (kaa (pv 4) kae)))))) (kau))
   (kaf (kas (kbc (W.Xm.mk' W.qm) UW hr rfl W.qm.m W.Xm.b .nil pass0 (kaa (pv 4) kae))))))))),?_⟩
  refine⟨_,rfl,c,40692,2147483579,rfl,⟨by decide,by decide⟩,by decide,?_⟩
  have hx0:0≤c*40692%2147483579:=by omega
  generalize c*40692%2147483579=mx at *
  refine⟨_,rfl,_,rfl,_,rfl,c,ps,s',rfl,hn,fun H1 mA M s1 f1 hM hMo=>?_⟩
  have htb:Tbs d H1:=Tbs.same s1 htb0
  have fin:∀(so:Srt)(H2:Hp)(x:Addr),Same H1 H2→H1 x=none→VchIs d H2 x ⟨so,M⟩→SrtOk so→Q (.ref x) H2:=fun so H2 x s2 f2 hV hso=>kk H2 x _ (s1.trans s2) (s1.free f2) hV ⟨hso,hMo⟩
  refine⟨_,rfl,_,_,rfl,rfl,(by show(0:Int)<5;decide),rfl,_,rfl,ite2 (fun _=>?_) (fun _=>?_)⟩
  ·exact⟨_,rfl,_,_,rfl,rfl,⟨by decide,by decide⟩,_,rfl,_,_,rfl,fun z z0 z1=>⟨_,rfl,kgJ (so:=.off z) ⟨_,rfl⟩ rfl hM fun H2 x s2 f2 hV=>fin (.off z) H2 x s2 f2 hV ⟨z0,z1⟩⟩⟩
  refine⟨_,rfl,_,_,rfl,rfl,(by show(0:Int)<5;decide),rfl,_,rfl,ite2 (fun _=>?_) (fun _=>?_)⟩
  ·refine⟨_,rfl,_,_,rfl,rfl,⟨by decide,by decide⟩,_,_,rfl,rfl,(by show(0:Int)<1000;decide),_,_,rfl,rfl,(by show 3≤sizeLine;decide),fun l fl=>?_⟩
   obtain⟨v,e,hv⟩:=at3V (a:=.int 1000) (b:=.int 500) (c:=.int (1+mx/10%1000)) (i:=mx/5%3) (by omega) (by omega)
   obtain⟨sh,rfl,hsh⟩:∃sh:Int,v=.int sh∧1≤sh∧sh≤1000:=by
    rcases hv with rfl|rfl|rfl
    ·exact⟨1000,rfl,by decide,by decide⟩
    ·exact⟨500,rfl,by decide,by decide⟩
    ·exact⟨_,rfl,by omega,by omega⟩
   have s2:=kal (o:=.lst [V.int 1000,V.int 500,V.int (1+mx/10%1000)]) fl
   have e2:(upd H1 l (.lst [V.int 1000,V.int 500,V.int (1+mx/10%1000)])) l=some (.lst [V.int 1000,V.int 500,V.int (1+mx/10%1000)]):=kad
   have hM2:=hM.same s2
   have htb2:=Tbs.same s2 htb
   have fin2:∀(b:Bool)(H2:Hp)(x:Addr),Same (upd H1 l (.lst [V.int 1000,V.int 500,V.int (1+mx/10%1000)])) H2→(upd H1 l (.lst [V.int 1000,V.int 500,V.int (1+mx/10%1000)])) x=none→VchIs d H2 x ⟨.share sh b,M⟩→Q (.ref x) H2:=fun b H2 x s3 f3 hV=>fin (.share sh b) H2 x (s2.trans s3) (s2.free f3) hV hsh
   generalize upd H1 l (.lst [V.int 1000,V.int 500,V.int (1+mx/10%1000)])=H2 at *
   refine⟨_,rfl,_,_,rfl,rfl,⟨by decide,by decide⟩,_,_,rfl,rfl,(by show(0:Int)<3;decide),l,_,_,_,rfl,rfl,SqL.of e2,e,?_⟩
   have mk:∀b:Bool,∀x dx,H2 x=none→H2 dx=none→dx≠x→kdX d.qi d.qh (fun so=>∃s b,so=.share s b) (.ref x::([.int sh, .bl b]++[.ref mA])) (upd (upd H2 dx (.own x)) x (.ins d.qi dx [])) (fun v H2=>v=.non∧Q (.ref x) H2) E0:=fun b=>kgJ (so:=.share sh b) ⟨_,_,rfl⟩ rfl hM2 (fun H3 x s3 f3 hV=>fin2 b H3 x s3 f3 hV) htb2
   refine⟨_,rfl,_,_,rfl,rfl,⟨by decide,by decide⟩,_,_,rfl,rfl,(by show(0:Int)<2;decide),rfl,_,rfl,?_⟩
   exact mk _
  refine⟨_,rfl,_,_,rfl,rfl,(by show(0:Int)<5;decide),rfl,_,rfl,ite2 (fun _=>?_) (fun _=>?_)⟩
  ·exact⟨_,rfl,_,_,rfl,rfl,⟨by decide,by decide⟩,_,_,rfl,rfl,(by show(0:Int)<3;decide),_,_,rfl,rfl,_,rfl,kgJ (so:=.cheap (2+mx/5%3)) ⟨_,rfl⟩ rfl hM fun H2 x s2 f2 hV=>fin _ H2 x s2 f2 hV ⟨by omega,by omega⟩⟩
  refine⟨_,rfl,_,_,rfl,rfl,(by show(0:Int)<5;decide),rfl,_,rfl,ite2 (fun _=>?_) (fun _=>?_)⟩
  ·exact⟨_,rfl,_,_,rfl,rfl,⟨by decide,by decide⟩,_,_,rfl,rfl,(by show(0:Int)<3;decide),_,_,rfl,rfl,_,rfl,_,_,rfl,rfl,⟨by decide,by decide⟩,_,rfl,_,_,rfl,fun z z0 z1=>⟨_,rfl,kgJ (so:=.bund (2+mx/5%3) z) ⟨_,_,rfl⟩ rfl hM fun H2 x s2 f2 hV=>fin _ H2 x s2 f2 hV ⟨by omega,by omega,z0,z1⟩⟩⟩
  exact⟨_,rfl,kgJ (so:=.carr) rfl rfl hM fun H2 x s2 f2 hV=>fin _ H2 x s2 f2 hV trivial⟩
inductive kjx (vs:List V) (H:Hp) (Q:VK) (E_:XK):Prop
 |ct (c:Int)(_:vs=[.int c])(_:∀(H':Hp)(p:Addr)(ps:List (Option Nat)),Same H H'→H p=none→H' p=some (.lst (ps.map pV))→Good ps→ps.length≤20→0<ps.length→Q (.ref p) H'):kjx vs H Q E_
theorem Qc:kat ["_law_cell","_law_parents","_law_many","_law_k","_law_mixed"] ["_law_cell"] (kah kbB):=by ac_rfl
theorem kdw(W:WB K mg d base):FO P w W 2 d.Y7 d.Y9 ["_law_cell"] kjx:=by
 exists W.Vy.F,Qc
 ·obtain⟨c,rfl,kk⟩:=h
  exists qp,kbq,W
  refine⟨_,kab (psl (i:=1) Qc.nd (kaT kae))
   (kab (psl (i:=2) Qc.nd (pe_op kbR kag (pe_op kaC (pv 0) kag)))
   (kab (kbG (ps_if (kap op_eq (pe_op kaC (pe_op kaB (pv 0) kag) kag) kag (kav _)) (kaf (psl (i:=2) Qc.nd kag)) (kau)))
   (kab (kaR PassesOwn.never rfl (kaY rfl W.B.range (kaa (pv 2) kae)) (pgn (i:=3) Qc.nd)
   (kab (psl (i:=4) Qc.nd (pcl qp hr W.qB (kaa (pe_op kbR (pv 0) (pe_op kb7 (pe_op kb7 kag (pv 3)) (pv 3))) (kaa kag (kaa kag kae)))))
   (kaf (kaM (pe_bm NQ N7 N8 kaU (pv 1) (kaa (kik (kdp (PW.pt (pw_or (kap op_eq (pv 3) kag (kav _)) (kdY (kap op_eq (pe_op kaC (pv 4) kag) kag (kav _))))) kbd (pe_op kaC (pe_op kaB (pv 4) kag) (pv 3)))) kae))))))
   (kaf (kas (pv 1)))))),?_⟩
  refine⟨by decide,fun p fp=>?_⟩
  exists H,p,H1,n1,e1,fp
  refine⟨_,rfl,_,_,rfl,rfl,(by show(0:Int)<5;decide),_,_,rfl,rfl,?_⟩
  refine⟨fun σ' H'=>H'=H1∧∃m:Nat,0<m∧m≤20∧σ'=[some (.int c),some (.ref p),some (iV m),none,none],?_,?_⟩
  ·refine⟨_,rfl,_,_,rfl,rfl,⟨by decide,by decide⟩,_,_,rfl,rfl,(by show(0:Int)<8;decide),rfl,_,rfl,ite2 (fun _=>⟨rfl,20,by decide,by decide,rfl⟩) (fun _=>⟨rfl,(1+c%5).toNat,by omega,by omega,?_⟩)⟩
   show _=[some (V.int c),some (.ref p),some (V.int (((1+c%5).toNat:Nat):Int)),none,none]
   rw[Int.toNat_of_nonneg (by omega)]
   rfl
  rintro σ' H' ⟨rfl,m,hm0,hm20,rfl⟩
  refine⟨_,rfl,_,rfl,by omega,by omega,?_⟩
  rw[Int.toNat_natCast]
  refine kbb (fun i σ H'=>Same H H'∧∃(ps:List (Option Nat))(v3 v4:Option V),σ=[some (.int c),some (.ref p),some (iV m),v3,v4]∧H' p=some (.lst (ps.map pV))∧ps.length=i∧Good ps)
   ⟨n1,[],none,none,rfl,e1,rfl,kla⟩ ?_ ?_
  ·rintro i σ H' hi ⟨s2,ps,v3,v4,rfl,hp2,hl,hg⟩
   rw[Int.zero_add]
   refine⟨_,rfl,_,rfl,_,_,rfl,rfl, .inl ⟨by decide,by decide⟩,_,rfl,_,_,rfl,rfl, .inr ⟨by omega,by omega⟩,_,_,rfl,rfl,_,48271,2147483647,rfl,⟨by decide,by decide⟩,by decide,?_⟩
   dsimp only
   have hx0:0≤(c+7*(i:Int)*(i:Int))*48271%2147483647:=by omega
   generalize (c+7*(i:Int)*(i:Int))*48271%2147483647=mx at *
   refine⟨_,rfl, .inl ⟨rfl,_,SqL.of hp2⟩,?_⟩
   refine⟨fun v H3=>H3=H'∧∃o:Option Nat,v=pV o∧∀k,o=some k→k<i,?_,?_⟩
   ·refine⟨_,rfl,rfl,_,rfl,?_⟩
    show if decide (iV i=iV 0)=true then _ else _
    rw[kfC]
    by_cases h0:i=0
    ·rw[decide_eq_true h0]
     exact iteT (iteT ⟨rfl,none,rfl,fun k e=>by cases e⟩)
    ·rw[decide_eq_false h0]
     have k0:0≤mx/4%(i:Int):=Int.emod_nonneg _ (by omega)
     have k1:mx/4%(i:Int)<(i:Int):=Int.emod_lt_of_pos _ (by omega)
     refine iteF ⟨_,rfl,_,_,rfl,rfl,(by show(0:Int)<4;decide),rfl,_,rfl,ite2 (fun _=>⟨rfl,none,rfl,fun k e=>by cases e⟩) (fun _=>?_)⟩
     refine⟨_,rfl,_,_,rfl,rfl,⟨by decide,by decide⟩,_,rfl,_,_,rfl,rfl,(by show(0:Int)<(i:Int);omega),rfl,some (mx/4%(i:Int)).toNat,?_,fun k e=>by cases e;omega⟩
     show V.int _=V.int (((mx/4%(i:Int)).toNat:Nat):Int)
     rw[Int.toNat_of_nonneg k0]
   rintro v H3 ⟨rfl,o,rfl,ho⟩
   refine⟨p,_,_,rfl,rfl,hp2,kar (by rw[Nb];omega),?_⟩
   refine⟨kaq fp s2 (nx hp2),ps++[o],_,_,rfl,?_,by simp[hl],kkp hg (fun k e=>by rw[hl];exact ho k e)⟩
   rw[kad]
   simp
  ·rintro σ H' ⟨s2,ps,v3,v4,rfl,hp2,hl,hg⟩
   exact⟨_,rfl,kk H' p ps s2 fp hp2 hg (by omega) (by omega)⟩
theorem kew:∀(l:List Int)(j:Nat)(x z:Int),l[j]?=some z→(l.set j x).sum=l.sum-z+x
 |[],j,x,z,h=>by simp at h
 |a::l,0,x,z,h=>by
  have e:a=z:=by simpa using h
  subst e
  simp[NN]
  omega
 |a::l,j+1,x,z,h=>by
  have ih:=kew l j x z (by simpa using h)
  rw[List.set_cons_succ,NN,ih,NN]
  omega
theorem kh8{l:List Int}{j:Nat}{x:Int}(h:∀z∈l,0≤z)(hx:0≤x):∀z∈l.set j x,0≤z:=fun z hz=>by
 rcases Du hz with h'|h'
 ·exact h z h'
 ·rw[h'];exact hx
theorem kgk:∀n:Nat,(Nh n (0:Int)).sum=0
 |0=>rfl
 |n+1=>by rw[Mr,NN,kgk n];rfl
inductive kh0 (vs:List V) (H:Hp) (Q:VK) (E_:XK):Prop
 |ct (mh vo:Addr)(ks:List Int)(va:List Addr)(m:Nat)(f:Int)(_:vs=[.ref mh, .ref vo,iV m, .int f])(_:H mh=some (.lst (ks.map V.int)))(_:H vo=some (.lst (va.map V.ref)))(_:ks.length≤100)(_:va.length≤8)(_:m≤20)(_:∀(H':Hp)(p:Addr)(hand:List Int),Same H H'→H p=none→H' p=some (.lst (hand.map V.int))→hand.length=va.length→(∀z∈hand,0≤z)→hand.sum≤(m:Int)→Q (.ref p) H'):kh0 vs H Q E_
theorem QP:kat ["_law_more_held","_law_vouchers","_law_most_held","_law_first","_law_hand","_law_k","_law_number"] ["_law_more_held","_law_vouchers","_law_most_held","_law_first"] (kah kcn):=by ac_rfl
theorem keQ(W:WB K mg d base):FO P w W 1 d.Za d.Zb ["_law_more_held","_law_vouchers","_law_most_held","_law_first"] kh0:=by
 exists W.Vz.F,QP
 ·obtain⟨mh,vo,ks,va,m,f,rfl,hmh,hvo,hk,h8,hm,kk⟩:=h
  refine⟨_,kab (kcs (N:=["_law_voucher"]) (CompScope.plain rfl (by decide +kernel) (by decide +kernel) (by decide +kernel) (nd1 _)) rfl (kaz (K:=K) (pv 1)) (fun _ _ _ _=>pgn (i:=0) (nd1 _)) (fun _ _ _ _=>kag) (pgn (i:=4) QP.nd))
   (kab (kaR PassesOwn.never rfl (kaY rfl W.B.range (kaa (kan (kcB rfl) (by rfl) W.B.min b_min (kaa (kan (r:=kaE K) kao (by rfl) W.B.len b_len (kaa (pv 4) kae)) (kaa (pv 2) kae))) kae)) (pgn (i:=5) QP.nd)
   (kaf (kcw kag (kdo (pv 4) (pe_op kaC (pe_op kbR (pv 3) (pv 5)) (kan (r:=kaE K) kao (by rfl) W.B.len b_len (kaa (pv 4) kae))) set_list))))
   (kab (kaR PassesOwn.never rfl (kaz (K:=K) (pv 0)) (pgn (i:=6) QP.nd)
   (kaf (ps_if (PW.pt (ka6 (kap op_gt (kan (r:=kaE K) kao (by rfl) W.B.len b_len (kaa (pv 4) kae)) kag (kav _)) (ka6 (kap op_lt (kan (r:=rSum K) (ka2 rfl) (by rfl) W.B.sum b_sum (kaa (pv 4) kae)) (pv 2) (kav _)) (kaX (kap op_lt (pe_ix (r:=rIxL K) kaw (pv 4) (pe_op kaC (pv 6) (kan (r:=kaE K) kao (by rfl) W.B.len b_len (kaa (pv 4) kae))) (fun _ _=>rfl)) kag (kav _)))))) (kaf (khs (pv 4) (pe_op kaC (pv 6) (kan (r:=kaE K) kao (by rfl) W.B.len b_len (kaa (pv 4) kae))) kf9 kag kgS set_list)) (kaf (ps_if (PW.pt (ka6 (kap op_gt (kan (r:=kaE K) kao (by rfl) W.B.len b_len (kaa (pv 4) kae)) kag (kav _)) (kaX (kap op_eq (pe_op kaC (pe_op kaB (pv 6) kag) kag) kag (kav _))))) (kaf (kcw kag (kdo (pv 4) (pe_op kaC (pv 6) (kan (r:=kaE K) kao (by rfl) W.B.len b_len (kaa (pv 4) kae))) set_list))) (kau))))))
   (kaf (kas (pv 4))))),?_⟩
  refine⟨_,rfl,vo,rfl,⟨_,SqL.of hvo⟩,kaL (xs:=va.map V.ref) (fun i σ ys H'=>H'=H∧ys=(Nh i (0:Int)).map V.int∧∃v0:Option V,σ=[v0]) ⟨rfl,rfl,none,rfl⟩ (by rw[Nb];exact Nq (kar (by omega))) ?_ ?_ ?_⟩
  ·rintro i σ ys H' hi ⟨rfl,rfl,_⟩
   exact⟨SqL.of hvo,by simp⟩
  ·rintro i y σ ys H' hy ⟨rfl,rfl,v0,rfl⟩
   refine⟨rfl,?_,_,rfl⟩
   rw[MB,Nl]
   rfl
  rintro σ ys H' ⟨rfl,rfl,v0,rfl⟩ p fp
  rw[Nb]
  exists H',p,H1,n1,e1,fp
  refine⟨_,rfl,p,_,rfl, .inl (SqL.of e1),_,rfl,_,_,rfl,?_⟩
  have hL:((((Nh va.length (0:Int)).map V.int).length:Nat):Int)=(va.length:Int):=by simp
  rw[hL]
  have hq:0≤(if(m:Int)<(va.length:Int) then(m:Int) else(va.length:Int))∧(if(m:Int)<(va.length:Int) then(m:Int) else(va.length:Int))≤(m:Int)∧(if(m:Int)<(va.length:Int) then(m:Int) else(va.length:Int))≤(va.length:Int):=by split <;> omega
  generalize (if(m:Int)<(va.length:Int) then(m:Int) else(va.length:Int))=q at *
  refine⟨_,rfl,by omega,by omega,?_⟩
  refine kbb (fun i σ H2=>Same H' H2∧∃(hand:List Int)(v5:Option V),H2 p=some (.lst (hand.map V.int))∧hand.length=va.length∧(∀z∈hand,0≤z)∧hand.sum≤(i:Int)∧σ=[some (.ref mh),some (.ref vo),some (iV m),some (.int f),some (.ref p),v5,none])
   ⟨n1,_,none,e1,by simp,(fun z hz=>by rw[(Ei.mp hz).2];exact Int.le_refl _),by rw[kgk];exact Int.le_refl _,rfl⟩ ?_ ?_
  ·rintro i σ H2 hi ⟨s2,hand,v5,e2,hl,hnn,hsum,rfl⟩
   rw[Int.zero_add]
   have hl0:0<hand.length:=by omega
   have k0:0≤(f+(i:Int))%(hand.length:Int):=Int.emod_nonneg _ (by omega)
   have k1:(f+(i:Int))%(hand.length:Int)<(hand.length:Int):=Int.emod_lt_of_pos _ (by omega)
   obtain⟨j,ej⟩:=Int.eq_ofNat_of_zero_le k0
   obtain⟨z,ez⟩:=at_of (xs:=hand) (i:=j) (by omega)
   have hz:=hnn z (Nj ez)
   refine⟨_,rfl,_,rfl,_,rfl,_,_,rfl,rfl,_,rfl,p,_,rfl, .inl (SqL.of e2),_,_,rfl,rfl,(by rw[Nb];omega),p,_,_,j,rfl,rfl,e2,(by rw[Nb];show ixN hand.length ((f+(i:Int))%((hand.length:Nat):Int))=some j;rw[ej];exact kca (by omega)),?_⟩
   rw[←Md]
   refine⟨kaq fp s2 (nx e2),hand.set j 1,_,kad,by rw[ME];exact hl,kh8 hnn (by decide),?_,rfl⟩
   rw[kew hand j 1 z ez]
   omega
  rintro σ H2 ⟨s2,hand0,v5,e2,hl0,hnn0,hsum0,rfl⟩
  refine⟨_,rfl,mh,rfl,⟨_,SqL.of (s2 _ _ hmh)⟩,kaZ (xs:=ks.map V.int) (fun i σ H3=>Same H' H3∧∃(hand:List Int)(v6:Option V),H3 p=some (.lst (hand.map V.int))∧hand.length=va.length∧(∀z∈hand,0≤z)∧hand.sum≤(m:Int)∧σ=[some (.ref mh),some (.ref vo),some (iV m),some (.int f),some (.ref p),v5,v6])
   ⟨s2,hand0,none,e2,hl0,hnn0,by omega,rfl⟩ (fun i σ H3 _ h=>SqL.of (h.1 _ _ hmh)) ?_ ?_⟩
  ·rintro i y σ H3 hy ⟨s3,hand,v6,e3,hl,hnn,hsum,rfl⟩
   obtain⟨k,_,rfl⟩:∃z,ks[i]?=some z∧y=V.int z:=kba hy
   have hL3:(((hand.map V.int).length:Nat):Int)=(hand.length:Int):=by rw[Nb]
   refine⟨_,rfl,p,_,rfl, .inl (SqL.of e3),_,_,rfl,rfl,_,rfl,?_⟩
   by_cases h0:0<hand.length
   ·have k0:0≤k%(hand.length:Int):=Int.emod_nonneg _ (by omega)
    have k1:k%(hand.length:Int)<(hand.length:Int):=Int.emod_lt_of_pos _ (by omega)
    obtain⟨j,ej⟩:=Int.eq_ofNat_of_zero_le k0
    obtain⟨z,ez⟩:=at_of (xs:=hand) (i:=j) (by omega)
    have hz:=hnn z (Nj ez)
    have atJ:atI (hand.map V.int) (k%(((hand.map V.int).length:Nat):Int))=some (V.int z):=by rw[hL3,ej];exact kaA (by rw[Ni,ez];rfl)
    have ixJ:ixN (hand.map V.int).length (k%(((hand.map V.int).length:Nat):Int))=some j:=by rw[hL3,ej];exact kca (by rw[Nb];omega)
    have hpos:(0:Int)<(((hand.map V.int).length:Nat):Int):=by omega
    rw[show decide ((((hand.map V.int).length:Nat):Int) > 0)=true from decide_eq_true (by omega)]
    refine iteT ⟨_,rfl,p,hand,rfl,SqL.of e3,_,rfl,_,_,rfl,rfl,_,rfl,?_⟩
    by_cases hs:hand.sum<(m:Int)
    ·rw[show decide (hand.sum<(m:Int))=true from decide_eq_true hs]
     refine iteT ⟨_,rfl,_,rfl,_,rfl,p,_,rfl, .inl (SqL.of e3),_,_,rfl,rfl,hpos,p,_,_,_,rfl,rfl,SqL.of e3,atJ,_,_,rfl,rfl,_,rfl,ite2 (fun _=>?_) (fun _=>?_)⟩
     ·refine⟨_,rfl,_,rfl,_,rfl,p,_,rfl, .inl (SqL.of e3),_,_,rfl,rfl,hpos,p,_,_,_,rfl,rfl,SqL.of e3,atJ,_,_,rfl,rfl,p,_,_,j,rfl,rfl,e3,ixJ,?_⟩
      rw[←Md]
      refine⟨kaq fp s3 (nx e3),hand.set j (z+1),_,kad,by rw[ME];exact hl,kh8 hnn (by omega),?_,rfl⟩
      rw[kew hand j (z+1) z ez]
      omega
     ·refine⟨_,rfl,p,_,rfl, .inl (SqL.of e3),_,_,rfl,rfl,_,rfl,?_⟩
      rw[show decide ((((hand.map V.int).length:Nat):Int) > 0)=true from decide_eq_true (by omega)]
      refine iteT ⟨_,rfl,_,_,rfl,rfl,⟨by decide,by decide⟩,_,_,rfl,rfl,(by show(0:Int)<3;decide),rfl,_,rfl,ite2 (fun _=>?_) (fun _=>⟨s3,hand,_,e3,hl,hnn,hsum,rfl⟩)⟩
      refine⟨_,rfl,_,rfl,_,rfl,p,_,rfl, .inl (SqL.of e3),_,_,rfl,rfl,hpos,p,_,_,j,rfl,rfl,e3,ixJ,?_⟩
      rw[←Md]
      refine⟨kaq fp s3 (nx e3),hand.set j 0,_,kad,by rw[ME];exact hl,kh8 hnn (by decide),?_,rfl⟩
      rw[kew hand j 0 z ez]
      omega
    ·rw[show decide (hand.sum<(m:Int))=false from decide_eq_false hs]
     refine iteF (iteF ?_)
     refine⟨_,rfl,p,_,rfl, .inl (SqL.of e3),_,_,rfl,rfl,_,rfl,?_⟩
     rw[show decide ((((hand.map V.int).length:Nat):Int) > 0)=true from decide_eq_true (by omega)]
     refine iteT ⟨_,rfl,_,_,rfl,rfl,⟨by decide,by decide⟩,_,_,rfl,rfl,(by show(0:Int)<3;decide),rfl,_,rfl,ite2 (fun _=>?_) (fun _=>⟨s3,hand,_,e3,hl,hnn,hsum,rfl⟩)⟩
     refine⟨_,rfl,_,rfl,_,rfl,p,_,rfl, .inl (SqL.of e3),_,_,rfl,rfl,hpos,p,_,_,j,rfl,rfl,e3,ixJ,?_⟩
     rw[←Md]
     refine⟨kaq fp s3 (nx e3),hand.set j 0,_,kad,by rw[ME];exact hl,kh8 hnn (by decide),?_,rfl⟩
     rw[kew hand j 0 z ez]
     omega
   ·rw[show decide ((((hand.map V.int).length:Nat):Int) > 0)=false from decide_eq_false (by omega)]
    refine iteF (iteF ⟨_,rfl,p,_,rfl, .inl (SqL.of e3),_,_,rfl,rfl,_,rfl,?_⟩)
    rw[show decide ((((hand.map V.int).length:Nat):Int) > 0)=false from decide_eq_false (by omega)]
    exact iteF (iteF ⟨s3,hand,_,e3,hl,hnn,hsum,rfl⟩)
  ·rintro σ H3 ⟨s3,hand,v6,e3,hl,hnn,hsum,rfl⟩
   exact⟨_,rfl,kk H3 p hand s3 fp e3 hl hnn hsum⟩
theorem kix:∀{rs:List Row},(∀r∈rs,0≤r.mn)→(rs.map fun r=>r.mn).sum=(((mans rs).sum:Nat):Int)
 |[],_=>rfl
 |r::rs,h=>by
  have h0:=h r NJ
  have ih:=kix (rs:=rs) fun r hr=>h r (NC _ hr)
  unfold mans at ih⊢
  rw[Nw,Nw,NN,NN,ih]
  omega
theorem klx:∀(l:List Nat)(j x:Nat),(l.set j x).sum≤l.sum+x
 |[],j,x=>by simp
 |a::l,0,x=>by simp[NN];omega
 |a::l,j+1,x=>by
  have:=klx l j x
  rw[List.set_cons_succ,NN,NN]
  omega
theorem VchIs.lst{d:D}{H:Hp}{l v:Addr}{V:Vch}{xs:List L2.V}{o:HO}(hl:H l=some (.lst xs))(tb:Tbs d (upd H l o)):VchIs d H v V→VchIs d (upd H l o) v V:=by rintro⟨mA,dv,fv,h1,h2,h3,⟨dm,fm,h4,h5⟩,h6,_⟩;exact
 ⟨mA,dv,fv,by rw[kak (ne_of h1 hl (by intro z;cases z))];exact h1,h2,h3,⟨dm,fm,by rw[kak (ne_of h4 hl (by intro z;cases z))];exact h4,h5⟩,h6,tb⟩
theorem P2.put{α β:Type}{R: α→β→Prop}{a: α}{b: β}(r:R a b):∀{as:List α}{bs:List β}(i:Nat),P2 R as bs→P2 R (as.set i a) (bs.set i b)
 |_,_,_, .nil=>.nil
 |_,_,0, .cons _ t=>.cons r t
 |_,_,i+1, .cons q t=>.cons q (P2.put r i t)
theorem kkD{ss:List Str}{i:Int}(h0:0≤i)(h:i<((ss.length:Nat):Int)):∃z,z∈ss∧atI (ss.map V.str) i=some (.str z):=by
 obtain⟨n,rfl⟩:=Int.eq_ofNat_of_zero_le h0
 obtain⟨z,ez⟩:=at_of (xs:=ss) (i:=n) (by omega)
 exact⟨z,Nj ez,kaA (by rw[Ni,ez];rfl)⟩
theorem RulIs.put{H:Hp}{a l:Addr}{r:Rul}{xs ys:List L2.V}(hl:H l=some (.lst xs))(h:RulIs H a r):RulIs (upd H l (.lst ys)) a r:=by
 have h':H a=some (.tup [.str r.w,iV r.a,iV r.b]):=h
 show(upd H l (.lst ys)) a=_
 rw[kak (ne_of h' hl (by intro z;cases z))]
 exact h'
noncomputable def RowW(n:Nat)(r:Row):Prop:=r.Ok∧(0≤r.kd∧r.kd<(n:Int))∧r.mn≤7
theorem two'{c:Bool}{T A B:Prop}(hT:B→T)(hB:B):if c=true then T else(if false=true then A else B):=by
 cases c with
 |true=>exact iteT (hT hB)
 |false=>exact iteF (iteF hB)
structure Ap4 (ln vc lk mo:Addr):Prop where
 lv:ln≠vc
 ll:ln≠lk
 lm:ln≠mo
 vl:vc≠lk
 vm:vc≠mo
 km:lk≠mo
structure WldS (d:D) (H:Hp) (ln vc lk mo:Addr) (la va:List Addr) (rs:List Row) (vs:List Vch) (ls ks:List Int):Prop where
 eln:H ln=some (.lst (la.map V.ref))
 evc:H vc=some (.lst (va.map V.ref))
 elk:H lk=some (.lst (ls.map V.int))
 emo:H mo=some (.lst (ks.map V.int))
 hln:Lines d.qf H la rs
 hvc:P2 (fun v V=>VchIs d H v V) va vs
theorem WldS.same{d:D}{H H':Hp}{ln vc lk mo:Addr}{la va:List Addr}{rs:List Row}{vs:List Vch}{ls ks:List Int}(s:Same H H')(h:WldS d H ln vc lk mo la va rs vs ls ks):WldS d H' ln vc lk mo la va rs vs ls ks:=
 ⟨s _ _ h.eln,s _ _ h.evc,s _ _ h.elk,s _ _ h.emo,h.hln.same s,h.hvc.mono fun v V q=>q.same s⟩
section
variable {d:D} {H:Hp} {ln vc lk mo:Addr} {la va:List Addr} {rs:List Row} {vs:List Vch} {ls ks:List Int}
theorem WldS.putL(a:Ap4 ln vc lk mo){la':List Addr}{rs':List Row}(h:WldS d H ln vc lk mo la va rs vs ls ks)(tb:Tbs d (upd H ln (.lst (la'.map V.ref))))(hl:Lines d.qf H la' rs'):WldS d (upd H ln (.lst (la'.map V.ref))) ln vc lk mo la' va rs' vs ls ks:=
 ⟨kad,by rw[kak a.lv.symm];exact h.evc,by rw[kak a.ll.symm];exact h.elk,by rw[kak a.lm.symm];exact h.emo,hl.set h.eln,h.hvc.mono fun v V q=>q.lst h.eln tb⟩
theorem WldS.putV(a:Ap4 ln vc lk mo){va':List Addr}{vs':List Vch}(h:WldS d H ln vc lk mo la va rs vs ls ks)(tb:Tbs d (upd H vc (.lst (va'.map V.ref))))(hv:P2 (fun v V=>VchIs d H v V) va' vs'):WldS d (upd H vc (.lst (va'.map V.ref))) ln vc lk mo la va' rs vs' ls ks:=
 ⟨by rw[kak a.lv];exact h.eln,kad,by rw[kak a.vl.symm];exact h.elk,by rw[kak a.vm.symm];exact h.emo,h.hln.set h.evc,hv.mono fun v V q=>q.lst h.evc tb⟩
theorem WldS.putK(a:Ap4 ln vc lk mo){ls':List Int}(h:WldS d H ln vc lk mo la va rs vs ls ks)(tb:Tbs d (upd H lk (.lst (ls'.map V.int)))):WldS d (upd H lk (.lst (ls'.map V.int))) ln vc lk mo la va rs vs ls' ks:=
 ⟨by rw[kak a.ll];exact h.eln,by rw[kak a.vl];exact h.evc,kad,by rw[kak a.km.symm];exact h.emo,h.hln.set h.elk,h.hvc.mono fun v V q=>q.lst h.elk tb⟩
theorem WldS.putM(a:Ap4 ln vc lk mo){ks':List Int}(h:WldS d H ln vc lk mo la va rs vs ls ks)(tb:Tbs d (upd H mo (.lst (ks'.map V.int)))):WldS d (upd H mo (.lst (ks'.map V.int))) ln vc lk mo la va rs vs ls ks':=
 ⟨by rw[kak a.lm];exact h.eln,by rw[kak a.vm];exact h.evc,by rw[kak a.km];exact h.elk,kad,h.hln.set h.emo,h.hvc.mono fun v V q=>q.lst h.emo tb⟩
end
structure NumW (n:Nat) (ps:List (Option Nat)) (rs:List Row) (vs:List Vch) (ls ks:List Int):Prop where
 rows:∀r∈rs,RowW n r
 vok:∀V∈vs,VchOk ps V
 pcs:(mans rs).sum≤24
 lr:rs.length≤12
 lv:vs.length≤8
 ll:ls.length≤3
 lk:ks.length≤6
inductive LpW (d:D) (H1:Hp) (ps:List (Option Nat)) (a p ln vc lk mo:Addr) (mv' mh ml mp:Nat) (sc fl:Int) (l6:Addr) (ms:List Int) (σ:St) (H':Hp):Prop
 |ct (s:Same H1 H')(el:H' l6=some (.lst (ms.map V.int)))(la va:List Addr)(rs:List Row)(vs:List Vch)(ls ks:List Int)(v12 v13 v14:Option V)(w:WldS d H' ln vc lk mo la va rs vs ls ks)(N:NumW ps.length ps rs vs ls ks)(h:(mans rs).sum≤12)(e: σ=[some (.ref a),some (iV mv'),some (iV mh),some (.int sc),some (.ref p),some (.ref ln),some (.ref vc),some (.ref lk),some (.ref mo),some (.int fl),some (iV ml),some (iV mp),v12,v13,v14,none,none,none,none,none])
theorem LpW.el6{d:D}{H1:Hp}{ps:List (Option Nat)}{a p ln vc lk mo:Addr}{mv' mh ml mp:Nat}{sc fl:Int}{l6:Addr}{ms:List Int}{σ:St}{H':Hp}(h:LpW d H1 ps a p ln vc lk mo mv' mh ml mp sc fl l6 ms σ H'):H' l6=some (.lst (ms.map V.int)):=by
 cases h
 assumption
inductive JnV (d:D) (H1:Hp) (ps:List (Option Nat)) (a p ln vc lk mo:Addr) (mv' mh ml mp:Nat) (sc fl:Int) (v12 v13 v14:Option V) (la:List Addr) (rs:List Row) (ls ks:List Int) (σ:St) (H':Hp):Prop
 |ct (s:Same H1 H')(va':List Addr)(vs':List Vch)(w:WldS d H' ln vc lk mo la va' rs vs' ls ks)(N:NumW ps.length ps rs vs' ls ks)(e: σ=[some (.ref a),some (iV mv'),some (iV mh),some (.int sc),some (.ref p),some (.ref ln),some (.ref vc),some (.ref lk),some (.ref mo),some (.int fl),some (iV ml),some (iV mp),v12,v13,v14,none,none,none,none,none])
inductive JnL (d:D) (H1:Hp) (ps:List (Option Nat)) (a p ln vc lk mo:Addr) (mv' mh ml mp:Nat) (sc fl:Int) (v12 v13 v14:Option V) (va':List Addr) (vs':List Vch) (ls ks:List Int) (σ:St) (H':Hp):Prop
 |ct (s:Same H1 H')(la':List Addr)(rs':List Row)(w:WldS d H' ln vc lk mo la' va' rs' vs' ls ks)(N:NumW ps.length ps rs' vs' ls ks)(e: σ=[some (.ref a),some (iV mv'),some (iV mh),some (.int sc),some (.ref p),some (.ref ln),some (.ref vc),some (.ref lk),some (.ref mo),some (.int fl),some (iV ml),some (iV mp),v12,v13,v14,none,none,none,none,none])
inductive kjp (K:Nc) (d:D) (vs:List V) (H:Hp) (Q:VK) (E_:XK):Prop
 |ct (a:Addr)(ns:List Int)(mv mh:Nat)(_:vs=[.ref a,iV mv,iV mh])(_:SqL K H a (ns.map V.int))(_:ns.length≤63)(_:mv≤8)(_:mh≤20)(_:Tbs d H)(_:∀(H':Hp)(w t b h:Addr)(T:TillD)(B:Bask)(hand:List Int),Same H H'→H h=none→H' w=some (.tup [.ref t, .ref b, .ref h])→TillIs d H' t T→kc2 T→BaskIs d.qf d.qd H' b B→Wf T.ps B (stnd0 B)→H' h=some (.lst (hand.map V.int))→hand.length=T.vs.length→(∀z∈hand,0≤z)→hand.sum≤(mh:Int)→T.rs.length≤3→(∀r∈T.rs,r.a<T.vs.length∧r.b<T.vs.length)→(T.bk=("again" :Str)∨T.bk=("shares" :Str))→Q (.ref w) H'):kjp K d vs H Q E_
theorem qo:kat ["_law_script","_law_most_vouchers","_law_most_held","_law_scale","_law_parents","_law_lines","_law_vouchers","_law_links","_law_more_held","_law_flag","_law_most_lines","_law_most_pieces","_law_cell","_law_mixed","_law_left","_law_rules","_law_link","_law_one","_law_basket","_law_till"] ["_law_script","_law_most_vouchers","_law_most_held"] (kah kbX):=by ac_rfl
theorem kee(W:WB K mg d base):FO P w W 7 d.Zc d.Zd ["_law_script","_law_most_vouchers","_law_most_held"] (kjp K d):=by
 exists W.VA.F,qo
 ·obtain⟨a,ns,mv,mh,rfl,hS,hn,hmv,hmh,htb0,kk⟩:=h
  exists Qd,kcW,W
  exists UX,kdw,W
  exists qp,kbq,W
  exists UY,keP,W
  exists UZ,kdv,W
  exists U0,kfm,W
  exists qx,kbw,W
  exists XQ,kd0,W
  exists U1,keQ,W
  exists hr1,1,hr,0
  exists hr2,2,hr,0
  exists hr3,3,hr,0
  exists hr4,4,hr,0
  refine⟨_,kab (psl (i:=3) qo.nd (pe_op kaC (pcl Qd hr1 W.qV (kaa (pv 0) (kaa kag kae))) kag))
   (kab (psl (i:=4) qo.nd (pcl UX hr2 W.Vy (kaa (pe_op kaB (pcl Qd hr1 W.qV (kaa (pv 0) (kaa kag kae))) kag) kae)))
   (kab (psl (i:=5) qo.nd (kaT kae))
   (kab (psl (i:=6) qo.nd (kaT kae))
   (kab (psl (i:=7) qo.nd (kaT kae))
   (kab (psl (i:=8) qo.nd (kaT kae))
   (kab (psl (i:=9) qo.nd (pcl qp hr1 W.qB (kaa (pcl Qd hr1 W.qV (kaa (pv 0) (kaa kag kae))) (kaa kag (kaa kag kae)))))
   (kab (psl (i:=10) qo.nd kag)
   (kab (psl (i:=11) qo.nd kag)
   (kab (kbG (ps_if (kap op_eq (pe_op kaC (pv 9) kag) kag (kav _)) (kaf (psl (i:=1) qo.nd kag)) (kau)))
   (kab (kbG (ps_if (kap op_eq (pe_op kaC (pe_op kaB (pv 9) kag) kag) kag (kav _)) (kab (psl (i:=10) qo.nd kag)
   (kaf (psl (i:=11) qo.nd kag))) (kau)))
   (kab (kaR PassesOwn.never rfl (kaz (K:=K) (kf0 (r:=rSlL K) khj (pv 0) (kfZ kag) kjQ)) (pgn (i:=12) qo.nd)
   (kab (psl (i:=13) qo.nd (pcl qp hr1 W.qB (kaa (pv 12) (kaa kag (kaa kag kae)))))
   (kaf (ps_if (PW.pt (ka6 (kap op_lt (pe_op kaC (pv 13) kag) kag (kav _)) (kaX (kap op_lt (kan (r:=kaE K) kao (by rfl) W.B.len b_len (kaa (pv 5) kae)) (pv 10) (kav _))))) (kab (psl (i:=14) qo.nd (kan (ke8 rfl) (by rfl) W.B.max b_max (kaa kag (kaa (pe_op kcK kag (kan (r:=rSum K) (ka2 rfl) (by rfl) W.B.sum b_sum (kaa (kbp (N:=["_law_line"]) (CompScope.plain rfl (by decide +kernel) (by decide +kernel) (by decide +kernel) (nd1 _)) rfl (kaz (K:=K) (pv 5)) (fun _ _ _ _=>pgn (i:=0) (nd1 _)) (fun _ _ _ _=>(kaj (K:=K) (pv 0) rfl))) kae))) kae))))
   (kaf (kaM (pe_bm NQ N7 N8 kaU (pv 5) (kaa (pcl UY hr4 W.Vv (kaa (pv 12) (kaa (kan (r:=kaE K) kao (by rfl) W.B.len b_len (kaa (pv 4) kae)) (kaa (pv 3) (kaa (kan (kcB rfl) (by rfl) W.B.min b_min (kaa (pv 14) (kaa (pv 11) kae))) kae))))) kae))))) (kaf (ps_if (PW.pt (ka6 (kap op_lt (pe_op kaC (pv 13) kag) kag (kav _)) (kaX (kap op_lt (kan (r:=kaE K) kao (by rfl) W.B.len b_len (kaa (pv 6) kae)) (pv 1) (kav _))))) (kaf (kaM (pe_bm NQ N7 N8 kaU (pv 6) (kaa (pcl UZ hr W.Vx (kaa (pv 12) (kaa (kan (r:=kaE K) kao (by rfl) W.B.len b_len (kaa (pv 4) kae)) (kaa (pv 3) kae)))) kae)))) (kaf (ps_if (PW.pt (ka6 (kap op_eq (pe_op kaC (pv 13) kag) kag (kav _)) (kaX (kap op_lt (kan (r:=kaE K) kao (by rfl) W.B.len b_len (kaa (pv 7) kae)) kag (kav _))))) (kaf (kaM (pe_bm NQ N7 N8 kaU (pv 7) (kaa (pe_op kaB (pv 13) kag) kae)))) (kaf (ps_if (kap op_lt (kan (r:=kaE K) kao (by rfl) W.B.len b_len (kaa (pv 8) kae)) kag (kav _)) (kaf (kaM (pe_bm NQ N7 N8 kaU (pv 8) (kaa (pe_op kaB (pv 13) kag) kae)))) (kau)))))))))))
   (kab (kbG (ps_if (PW.pt (ka6 (kap op_eq (pe_op kaC (pe_op kaB (pv 9) kag) kag) kag (kav _)) (kaX (kap op_gt (kan (r:=kaE K) kao (by rfl) W.B.len b_len (kaa (pv 6) kae)) kag (kav _))))) (kaf (kcw (pe_ix (r:=rIxL K) kaw (pv 6) kag (fun _ _=>rfl)) (kdo (pv 6) kag set_list))) (kau)))
   (kab (kbG (ps_if (PW.pt (ka6 (kap op_eq (pe_op kaC (pe_op kaB (pv 9) kag) kag) kag (kav _)) (kaX (kap op_gt (kan (r:=kaE K) kao (by rfl) W.B.len b_len (kaa (pv 5) kae)) kag (kav _))))) (kaf (kcw (pe_ix (r:=rIxL K) kaw (pv 5) kag (fun _ _=>rfl)) (kdo (pv 5) kag set_list))) (kau)))
   (kab (psl (i:=15) qo.nd (kaT kae))
   (kab (kaR PassesOwn.never rfl (kaz (K:=K) (pv 7)) (pgn (i:=16) qo.nd)
   (kaf (ps_if (kap op_gt (kan (r:=kaE K) kao (by rfl) W.B.len b_len (kaa (pv 6) kae)) kag (kav _)) (kab (psl (i:=17) qo.nd (pe_op kaC (pe_op kaB (pv 16) kag) (kan (r:=kaE K) kao (by rfl) W.B.len b_len (kaa (pv 6) kae))))
   (kaf (kaM (pe_bm NQ N7 N8 kaU (pv 15) (kaa (kb5 (kaa (pe_ix (r:=rIxL K) kaw (kaT (kaa kbQ (kaa kbQ (kaa kbQ kae)))) (pe_op kaC (pv 16) kag) (fun _ _=>rfl)) (kaa (pv 17) (kaa (pe_op kaC (pe_op kaB (pv 16) kag) (kan (r:=kaE K) kao (by rfl) W.B.len b_len (kaa (pv 6) kae))) kae)))) kae))))) (kau))))
   (kab (psl (i:=12) qo.nd (pcl Qd hr1 W.qV (kaa (pv 0) (kaa kag kae))))
   (kab (psl (i:=18) qo.nd (kbc (W.Xq.mk' W.qd) U0 hr2 rfl W.qd.m W.Xq.b .nil pass0 (kaa (pv 5) (kaa (pcl qx hr3 W.qK (kaa (pe_op kaB (pv 12) kag) (kaa (pv 3) kae))) (kaa (kb6 op_eq (pe_op kaC (pv 12) kag) kag (kav _)) kae)))))
   (kab (psl (i:=19) qo.nd (kbc (W.QG.mk' W.qg) XQ hr2 rfl W.qg.m W.QG.b .nil pass0 (kaa (pv 4) (kaa (pv 6) (kaa (pv 15) (kaa (pe_ix (r:=rIxL K) kaw (kaT (kaa kbQ (kaa kbQ kae))) (pe_op kaC (pe_op kaB (pv 12) kag) kag) (fun _ _=>rfl)) kae))))))
   (kaf (kas (kb5 (kaa (pv 19) (kaa (pv 18) (kaa (pcl U1 hr1 W.Vz (kaa (pv 8) (kaa (pv 6) (kaa (pv 2) (kaa (pe_op kaB (pv 9) kag) kae))))) kae)))))))))))))))))))))))),?_⟩
  exists Y4
  refine⟨_,rfl,a,ns,0,rfl,hS,by decide,fun z0=>⟨_,_,rfl,rfl,(by show(0:Int)<4;decide),?_⟩⟩
  dsimp only
  generalize z0%4=sc
  symm
  exists Y4
  refine⟨_,rfl,a,ns,0,rfl,hS,by decide,fun z1=>⟨_,_,rfl,rfl,⟨by decide,by decide⟩,_,rfl,fun H1 p ps s1 f1 hp hg hl20 hl0=>?_⟩⟩
  symm
  exists Y4
  refine⟨by decide,fun ln fln=>?_⟩
  exists H1,ln,H2,n2,e2,fln
  symm
  exists Y4
  refine⟨by decide,fun vc fvc=>?_⟩
  exists H2,vc,H3,n3,e3,fvc
  symm
  exists Y4
  refine⟨by decide,fun lk flk=>?_⟩
  exists H3,lk,H4,n4,e4,flk
  symm
  exists Y4
  refine⟨by decide,fun mo fmo=>?_⟩
  exists H4,mo,H5,n5,e5,fmo
  have ap:Ap4 ln vc lk mo:=⟨kai e2 fvc,kai (n3 _ _ e2) flk,kai ((n3.trans n4) _ _ e2) fmo,kai e3 flk,kai (n4 _ _ e3) fmo,kai e4 fmo⟩
  have s15:=((n2.trans n3).trans n4).trans n5
  have fvc1:H1 vc=none:=n2.free fvc
  have flk1:H1 lk=none:=(n2.trans n3).free flk
  have fmo1:H1 mo=none:=((n2.trans n3).trans n4).free fmo
  have htb1:Tbs d H1:=Tbs.same s1 htb0
  have w0:WldS d H5 ln vc lk mo [] [] [] [] [] []:=⟨((n3.trans n4).trans n5) _ _ e2,(n4.trans n5) _ _ e3,n5 _ _ e4,e5, .nil, .nil⟩
  clear e2 e3 e4 e5 n2 n3 n4 n5 fvc flk fmo
  have s05:=s1.trans s15
  symm
  exists Y4
  refine⟨_,rfl,a,ns,1,rfl,s05.seq hS,by decide,fun z2=>⟨_,16807,2147483399,rfl,⟨by decide,by decide⟩,by decide,?_⟩⟩
  generalize z2*16807%2147483399=fl
  symm
  refine⟨fun σ' H'=>H'=H5∧∃mv':Nat,mv'≤8∧σ'=[some (.ref a),some (iV mv'),some (iV mh),some (.int sc),some (.ref p),some (.ref ln),some (.ref vc),some (.ref lk),some (.ref mo),some (.int fl),some (iV 4),some (iV 7),none,none,none,none,none,none,none,none],?_,?_⟩
  ·exact⟨_,rfl,_,_,rfl,rfl,(by show(0:Int)<8;decide),rfl,_,rfl,ite2 (fun _=>⟨rfl,8,by decide,rfl⟩) (fun _=>⟨rfl,mv,hmv,rfl⟩)⟩
  rintro σ' H' ⟨rfl,mv',hmv',rfl⟩
  symm
  refine⟨fun σ' H2=>H2=H'∧∃ml mp:Nat,ml≤12∧mp≤7∧σ'=[some (.ref a),some (iV mv'),some (iV mh),some (.int sc),some (.ref p),some (.ref ln),some (.ref vc),some (.ref lk),some (.ref mo),some (.int fl),some (iV ml),some (iV mp),none,none,none,none,none,none,none,none],?_,?_⟩
  ·exact⟨_,rfl,_,_,rfl,rfl,⟨by decide,by decide⟩,_,_,rfl,rfl,(by show(0:Int)<8;decide),rfl,_,rfl,ite2 (fun _=>⟨rfl,12,1,by decide,by decide,rfl⟩) (fun _=>⟨rfl,4,7,by decide,by decide,rfl⟩)⟩
  rintro σ' H2 ⟨rfl,ml,mp,hml,hmp,rfl⟩
  symm
  refine⟨_,rfl,_,rfl,a,_,rfl,s05.seq hS,fun l6 fl6=>?_⟩
  obtain⟨ms,ems,lms⟩:=klf ns (some 2) none
  rw[ems]
  exists H2,l6,H6,n6,e6,fl6
  have nl6:∀{x:Addr}{o:HO},H2 x=some o→l6≠x:=fun e=>(kai e fl6).symm
  have nln:=nl6 w0.eln
  have nvc:=nl6 w0.evc
  have nlk:=nl6 w0.elk
  have nmo:=nl6 w0.emo
  symm
  exists Y4
  refine⟨l6,rfl,⟨_,SqL.of e6⟩,kaZ (xs:=ms.map V.int) (fun i σ H'=>LpW d H1 ps a p ln vc lk mo mv' mh ml mp sc fl l6 ms σ H')
   ⟨s15.trans n6,e6,[],[],[],[],[],[],none,none,none,w0.same n6,⟨(fun r h=>by simp at h),(fun r h=>by simp at h),by decide,by decide,by decide,by decide,by decide⟩,by decide,rfl⟩ (fun i σ H' _ h=>SqL.of h.el6) ?_ ?_⟩
  ·rintro i y σ Hi hy ⟨si,el6,la,va,rs,vs,ls,ks,v12,v13,v14,w,N,hpc,rfl⟩
   obtain⟨c,_,rfl⟩:∃z,ms[i]?=some z∧y=V.int z:=kba hy
   have htb:∀{H':Hp},Same H1 H'→Tbs d H':=fun s=>Tbs.same s htb1
   have lla:=w.hln.len
   have lva:=w.hvc.len
   symm
   exists Y6
   refine⟨_,rfl,c,69621,2147483629,rfl,⟨by decide,by decide⟩,by decide,?_⟩
   generalize c*69621%2147483629=mx
   nofun
   exists Y6
   refine⟨_,rfl,_,_,rfl,rfl,(by show(0:Int)<8;decide),_,_,rfl,rfl,_,rfl,two' (fun els=>?_) ?_⟩
   ·
    nofun
    exists Y8
    refine⟨_,rfl,ln,_,rfl, .inl (SqL.of w.eln),_,rfl,_,_,rfl,rfl,_,rfl,ite2 (fun h2=>?_) (fun _=>els)⟩
    clear els
    have hlt:la.length<ml:=by
     have:=of_decide_eq_true h2
     rw[Nb] at this
     omega
    exists 3
    exists Y8
    refine⟨_,rfl,ln,rfl,⟨_,SqL.of w.eln⟩,kaL (xs:=la.map V.ref) (fun i σ ys H'=>H'=Hi∧ys=((rs.take i).map fun r=>r.mn).map V.int∧∃v0:Option V,σ=[v0]) ⟨rfl,rfl,none,rfl⟩ (by rw[Nb];exact Nq (kar (by omega))) ?_ ?_ ?_⟩
    ·rintro i σ ys H' hi ⟨rfl,rfl,_⟩
     rw[Nb] at hi
     exists 3
     exact⟨SqL.of w.eln,by rw[Nb,Nb,Nv];omega⟩
    ·rintro i y σ ys H' hy ⟨rfl,rfl,v0,rfl⟩
     obtain⟨x,ex,rfl⟩:=kcf hy
     obtain⟨r,er,dx,fs,hx,k1,k2,k3,k4⟩:=w.hln.at ex
     exists 3
     exists Y10
     refine⟨_,rfl,x,d.qf,dx,fs,_,rfl,hx,W.qf.cl,W.Qm,k3,rfl,?_,_,rfl⟩
     rw[take_snoc er,Nl,Nl]
     rfl
    rintro σ ys H' ⟨rfl,rfl,v0,rfl⟩ q fq
    rw[Nb,lla,ND]
    have hsm:=kix (rs:=rs) fun r hr=>(N.rows r hr).1.mn0
    exists H',q,Hq,nq,eq,fq
    exists 3
    exists Y8
    refine⟨q,_,rfl,SqL.of eq,_,_,rfl,rfl,_,_,rfl,?_⟩
    rw[hsm]
    have wq:=w.same nq
    have hleft:0≤(if(12:Int)-(((mans rs).sum:Nat):Int) > 0 then(12:Int)-(((mans rs).sum:Nat):Int) else 0)∧(((mans rs).sum:Nat):Int)+(if(12:Int)-(((mans rs).sum:Nat):Int) > 0 then(12:Int)-(((mans rs).sum:Nat):Int) else 0)≤12:=by split <;> omega
    generalize (if(12:Int)-(((mans rs).sum:Nat):Int) > 0 then(12:Int)-(((mans rs).sum:Nat):Int) else 0)=left at *
    have hm:0≤(if(mp:Int)<left then(mp:Int) else left)∧(if(mp:Int)<left then(mp:Int) else left)≤7∧(if(mp:Int)<left then(mp:Int) else left)≤left:=by split <;> omega
    exists 3
    exists Y8
    refine⟨_,rfl, .inl ⟨rfl,_,SqL.of wq.eln⟩,_,rfl,_,rfl,p,_,rfl, .inl (SqL.of ((si.trans nq) _ _ hp)),_,rfl,_,rfl,_,rfl,_,_,rfl,c,ps.length,sc,(if(mp:Int)<left then(mp:Int) else left),(by rw[Nb];rfl),hl0,hm.1,hm.2.1,fun H7 x r s7 f7 hx hok hkd hmn=>?_⟩
    generalize (if(mp:Int)<left then(mp:Int) else left)=mm at *
    have w7:=wq.same s7
    have s17:=(si.trans nq).trans s7
    exists 3
    exists Y8
    refine⟨ln,_,_,rfl,rfl,w7.eln,kar (by rw[Nb];omega),?_⟩
    have s8:=kaq (o:=.lst ((la++[x]).map V.ref)) fln s17 (nx w7.eln)
    rw[show la.map V.ref++[V.ref x]=(la++[x]).map V.ref by rw[Nl];rfl]
    have hpc':(mans (rs++[r])).sum≤12:=by
     have:mans (rs++[r])=mans rs++[r.mn.toNat]:=by unfold mans;rw[Nl];rfl
     rw[this,Mt]
     have:=hok.mn0
     simp only[NN,EN]
     omega
    exists 3
    exists Y8
    refine⟨s8,by rw[kak nln];exact(nq.trans s7) _ _ el6,la++[x],va,rs++[r],vs,ls,ks,_,_,_,w7.putL ap (htb s8) (P2.snoc w7.hln hx),⟨fun r' hr'=>?_,N.vok,by omega,by rw[Nr,Ml];omega,N.lv,N.ll,N.lk⟩,hpc',rfl⟩
    rcases NR.mp hr' with h|h
    ·exact N.rows r' h
    ·have e:r'=r:=by simpa using h
     rw[e]
     exists 3
     exact⟨hok,hkd,by omega⟩
   nofun
   exists Y6
   refine⟨_,rfl,_,_,rfl,rfl,(by show(0:Int)<8;decide),_,_,rfl,rfl,_,rfl,two' (fun els=>?_) ?_⟩
   ·
    nofun
    exists Y8
    refine⟨_,rfl,vc,_,rfl, .inl (SqL.of w.evc),_,rfl,_,_,rfl,rfl,_,rfl,ite2 (fun h2=>?_) (fun _=>els)⟩
    clear els
    have hlt:va.length<mv':=by
     have:=of_decide_eq_true h2
     rw[Nb] at this
     omega
    exists 3
    exists Y8
    refine⟨_,rfl, .inl ⟨rfl,_,SqL.of w.evc⟩,_,rfl,_,rfl,p,_,rfl, .inl (SqL.of (si _ _ hp)),_,rfl,c,ps,sc,(by rw[Nb];rfl),hl0,htb si,fun H7 x V s7 f7 hx hok=>?_⟩
    have w7:=w.same s7
    have s17:=si.trans s7
    exists 3
    exists Y8
    refine⟨vc,_,_,rfl,rfl,w7.evc,kar (by rw[Nb];omega),?_⟩
    have s8:=kaq (o:=.lst ((va++[x]).map L2.V.ref)) fvc1 s17 (nx w7.evc)
    rw[show va.map L2.V.ref++[L2.V.ref x]=(va++[x]).map L2.V.ref by rw[Nl];rfl]
    exists 3
    exists Y8
    refine⟨s8,by rw[kak nvc];exact s7 _ _ el6,la,va++[x],rs,vs++[V],ls,ks,_,_,_,w7.putV ap (htb s8) (P2.snoc w7.hvc hx),⟨N.rows,fun V' hV'=>?_,N.pcs,N.lr,by rw[Nr,Ml];omega,N.ll,N.lk⟩,hpc,rfl⟩
    rcases NR.mp hV' with h|h
    ·exact N.vok V' h
    ·have e:V'=V:=by simpa using h
     rw[e]
     exists 3
     exact hok
   nofun
   exists Y6
   refine⟨_,rfl,_,_,rfl,rfl,(by show(0:Int)<8;decide),rfl,_,rfl,two' (fun els=>?_) ?_⟩
   ·
    nofun
    exists Y8
    refine⟨_,rfl,lk,_,rfl, .inl (SqL.of w.elk),_,_,rfl,rfl,_,rfl,ite2 (fun h2=>?_) (fun _=>els)⟩
    clear els
    have hlt:ls.length<3:=by
     have:=of_decide_eq_true h2
     rw[Nb] at this
     omega
    exists 3
    exists Y8
    refine⟨_,rfl, .inl ⟨rfl,_,SqL.of w.elk⟩,_,rfl,_,_,rfl,rfl,⟨by decide,by decide⟩,lk,_,_,rfl,rfl,w.elk,kar (by rw[Nb];omega),?_⟩
    have s8:=kaq (o:=.lst ((ls++[mx/8]).map V.int)) flk1 si (nx w.elk)
    rw[show ls.map V.int++[V.int (mx/8)]=(ls++[mx/8]).map V.int by rw[Nl];rfl]
    exists 3
    exact⟨s8,by rw[kak nlk];exact el6,la,va,rs,vs,ls++[mx/8],ks,_,_,_,w.putK ap (htb s8),⟨N.rows,N.vok,N.pcs,N.lr,N.lv,by rw[Nr,Ml];omega,N.lk⟩,hpc,rfl⟩
   nofun
   exists Y6
   refine⟨_,rfl,mo,_,rfl, .inl (SqL.of w.emo),_,_,rfl,rfl,_,rfl,ite2 (fun h2=>?_) (fun _=>⟨si,el6,la,va,rs,vs,ls,ks,_,_,_,w,N,hpc,rfl⟩)⟩
   have hlt:ks.length<6:=by
    have:=of_decide_eq_true h2
    rw[Nb] at this
    omega
   nofun
   exists Y6
   refine⟨_,rfl, .inl ⟨rfl,_,SqL.of w.emo⟩,_,rfl,_,_,rfl,rfl,⟨by decide,by decide⟩,mo,_,_,rfl,rfl,w.emo,kar (by rw[Nb];omega),?_⟩
   have s8:=kaq (o:=.lst ((ks++[mx/8]).map V.int)) fmo1 si (nx w.emo)
   rw[show ks.map V.int++[V.int (mx/8)]=(ks++[mx/8]).map V.int by rw[Nl];rfl]
   nofun
   exact⟨s8,by rw[kak nmo];exact el6,la,va,rs,vs,ls,ks++[mx/8],_,_,_,w.putM ap (htb s8),⟨N.rows,N.vok,N.pcs,N.lr,N.lv,N.ll,by rw[Nr,Ml];omega⟩,hpc,rfl⟩
  rintro σ Hi ⟨si,_,la,va,rs,vs,ls,ks,v12,v13,v14,w,N,hpc,rfl⟩
  have htb:∀{H':Hp},Same H1 H'→Tbs d H':=fun s=>Tbs.same s htb1
  symm
  refine⟨JnV d H1 ps a p ln vc lk mo mv' mh ml mp sc fl v12 v13 v14 la rs ls ks,?_,?_⟩
  ·refine⟨_,rfl,_,_,rfl,rfl,⟨by decide,by decide⟩,_,_,rfl,rfl,(by show(0:Int)<4;decide),rfl,_,rfl,two' (fun els=>?_) ⟨si,va,vs,w,N,rfl⟩⟩
   symm
   refine⟨_,rfl,vc,_,rfl, .inl (SqL.of w.evc),_,_,rfl,rfl,_,rfl,ite2 (fun h2=>?_) (fun _=>els)⟩
   have hlt:1<va.length:=by
    have:=of_decide_eq_true h2
    rw[Nb] at this
    omega
   obtain⟨x0,ex⟩:=at_of (xs:=va) (i:=0) (by omega)
   obtain⟨V0,eV,hV0⟩:=w.hvc.at ex
   symm
   refine⟨_,rfl,vc,_,_,_,rfl,rfl,SqL.of w.evc,(show atI (va.map L2.V.ref) ((0:Nat):Int)=_ from kaA (v:=.ref x0) (by rw[Ni,ex];rfl)),_,rfl,vc,_,_,1,rfl,rfl,w.evc,(show ixN (va.map L2.V.ref).length ((1:Nat):Int)=some 1 from kca (by rw[Nb];omega)),?_⟩
   rw[←Md]
   have s8:=kaq (o:=.lst ((va.set 1 x0).map L2.V.ref)) fvc1 si (nx w.evc)
   symm
   refine⟨s8,va.set 1 x0,vs.set 1 V0,w.putV ap (htb s8) (P2.put hV0 1 w.hvc),⟨N.rows,fun V' hV'=>?_,N.pcs,N.lr,by rw[ME];exact N.lv,N.ll,N.lk⟩,rfl⟩
   rcases Du hV' with h|h
   ·exact N.vok V' h
   ·rw[h]
    symm
    exact N.vok V0 (Nj eV)
  clear w N si
  rintro σ' Hj ⟨si,va',vs',w,N,rfl⟩
  symm
  refine⟨JnL d H1 ps a p ln vc lk mo mv' mh ml mp sc fl v12 v13 v14 va' vs' ls ks,?_,?_⟩
  ·refine⟨_,rfl,_,_,rfl,rfl,⟨by decide,by decide⟩,_,_,rfl,rfl,(by show(0:Int)<4;decide),rfl,_,rfl,two' (fun els=>?_) ⟨si,la,rs,w,N,rfl⟩⟩
   symm
   refine⟨_,rfl,ln,_,rfl, .inl (SqL.of w.eln),_,_,rfl,rfl,_,rfl,ite2 (fun h2=>?_) (fun _=>els)⟩
   have hlt:1<la.length:=by
    have:=of_decide_eq_true h2
    rw[Nb] at this
    omega
   obtain⟨x0,ex⟩:=at_of (xs:=la) (i:=0) (by omega)
   obtain⟨r0,er,hr0⟩:=w.hln.at ex
   have hm0:=Nj er
   have hr7:=(N.rows r0 hm0).2.2
   symm
   refine⟨_,rfl,ln,_,_,_,rfl,rfl,SqL.of w.eln,(show atI (la.map V.ref) ((0:Nat):Int)=_ from kaA (v:=.ref x0) (by rw[Ni,ex];rfl)),_,rfl,ln,_,_,1,rfl,rfl,w.eln,(show ixN (la.map V.ref).length ((1:Nat):Int)=some 1 from kca (by rw[Nb];omega)),?_⟩
   rw[←Md]
   have s8:=kaq (o:=.lst ((la.set 1 x0).map V.ref)) fln si (nx w.eln)
   symm
   refine⟨s8,la.set 1 x0,rs.set 1 r0,w.putL ap (htb s8) (P2.put hr0 1 w.hln),⟨fun r' hr'=>?_,N.vok,?_,by rw[ME];exact N.lr,N.lv,N.ll,N.lk⟩,rfl⟩
   ·rcases Du hr' with h|h
    ·exact N.rows r' h
    ·rw[h]
     symm
     exact N.rows r0 hm0
   ·unfold mans
    rw[Md]
    symm
    refine Nk (klx _ _ _) ?_
    show(mans rs).sum+r0.mn.toNat≤24
    omega
  clear w N si
  rintro σ' Hk ⟨si,la',rs',w,N,rfl⟩
  have lva:=w.hvc.len
  symm
  refine⟨by decide,fun rl frl=>?_⟩
  exists Hk,rl,H7,n7,e7,frl
  have hL:(((va'.map V.ref).length:Nat):Int)=(vs'.length:Int):=by rw[Nb];omega
  symm
  refine⟨_,rfl,lk,rfl,⟨_,SqL.of (n7 _ _ w.elk)⟩,kaZ (xs:=ls.map V.int) (fun i σ H'=>Same Hk H'∧∃(ra:List Addr)(us:List Rul)(v16 v17:Option V),H' rl=some (.lst (ra.map V.ref))∧P2 (fun a r=>RulIs H' a r) ra us∧(∀r∈us,r.a<vs'.length∧r.b<vs'.length)∧us.length≤i∧σ=[some (.ref a),some (iV mv'),some (iV mh),some (.int sc),some (.ref p),some (.ref ln),some (.ref vc),some (.ref lk),some (.ref mo),some (.int fl),some (iV ml),some (iV mp),v12,v13,v14,some (.ref rl),v16,v17,none,none])
   ⟨n7,[],[],none,none,e7, .nil,(fun r h=>by simp at h),Nd _,rfl⟩ (fun i σ H' _ h=>SqL.of (h.1 _ _ w.elk)) ?_ ?_⟩
  ·rintro i y σ H8 hy ⟨s8,ra,us,v16,v17,erl,hra,hub,hul,rfl⟩
   obtain⟨k,ek,rfl⟩:∃z,ls[i]?=some z∧y=V.int z:=kba hy
   have hi3:=at_lt ek
   have hl3:=N.ll
   have lra:=hra.len
   symm
   refine⟨_,rfl,vc,_,rfl, .inl (SqL.of (s8 _ _ w.evc)),_,_,rfl,rfl,_,rfl,ite2 (fun h2=>?_) (fun _=>⟨s8,ra,us,_,_,erl,hra,hub,Nat.le_succ_of_le hul,rfl⟩)⟩
   have h0:(0:Int)<(vs'.length:Int):=by
    have:=of_decide_eq_true h2
    rw[hL] at this
    omega
   have q0:0≤k/3%(vs'.length:Int):=Int.emod_nonneg _ (by omega)
   have q1:k/3%(vs'.length:Int)<(vs'.length:Int):=Int.emod_lt_of_pos _ h0
   have q2:0≤k/24%(vs'.length:Int):=Int.emod_nonneg _ (by omega)
   have q3:k/24%(vs'.length:Int)<(vs'.length:Int):=Int.emod_lt_of_pos _ h0
   symm
   refine⟨_,rfl,_,_,rfl,rfl,⟨by decide,by decide⟩,_,rfl,vc,_,rfl, .inl (SqL.of (s8 _ _ w.evc)),_,_,rfl,rfl,(by rw[hL];exact h0),?_⟩
   symm
   refine⟨_,rfl, .inl ⟨rfl,_,SqL.of erl⟩,(by show 3≤sizeLine;decide),fun l9 fl9=>?_⟩
   exists H8,l9,H9,n9,e9,fl9
   obtain⟨wd,_,ewd⟩:=kkD (ss:=["only","never","ahead"]) (i:=k%3) (by omega) (by show k%3<3;omega)
   symm
   refine⟨_,rfl,_,_,rfl,rfl,(by show(0:Int)<3;decide),l9,_,_,_,rfl,rfl,SqL.of e9,ewd,_,rfl,_,rfl,_,_,rfl,rfl,⟨by decide,by decide⟩,_,rfl,vc,_,rfl, .inl (SqL.of ((s8.trans n9) _ _ w.evc)),_,_,rfl,rfl,(by rw[hL];exact h0),(by show 3≤sizeLine;decide),fun q fq=>?_⟩
   obtain⟨ua,eua⟩:=Int.eq_ofNat_of_zero_le q0
   obtain⟨ub,eub⟩:=Int.eq_ofNat_of_zero_le q2
   exists H9,q,HA,nA,eA,fq
   have hrA:RulIs HA q ⟨wd,ua,ub⟩:=by
    show HA q=some (.tup [.str wd,V.int ((ua:Nat):Int),V.int ((ub:Nat):Int)])
    rw[←eua,←eub,←hL]
    symm
    exact eA
   have erlA:=(n9.trans nA) _ _ erl
   symm
   refine⟨rl,_,_,rfl,rfl,erlA,kar (by rw[Nb];omega),?_⟩
   symm
   refine⟨kaq frl ((s8.trans n9).trans nA) (nx erlA),ra++[q],us++[⟨wd,ua,ub⟩],_,_,by rw[kad,Nl];rfl,P2.snoc (hra.mono fun a r h=>RulIs.put erlA ((n9.trans nA) _ _ h)) (RulIs.put erlA hrA),fun r hr=>?_,by rw[Nr,Ml];omega,rfl⟩
   rcases NR.mp hr with h|h
   ·exact hub r h
   ·have e:r=⟨wd,ua,ub⟩:=by simpa using h
    rw[e]
    symm
    exact⟨by show ua<vs'.length;omega,by show ub<vs'.length;omega⟩
  rintro σ H8 ⟨s8,ra,us,v16,v17,erl,hra,hub,hul,rfl⟩
  rw[Nb] at hul
  have s18:=si.trans s8
  have w8:=w.same s8
  symm
  refine⟨_,rfl,a,ns,1,rfl,(s1.trans s18).seq hS,by decide,fun z3=>?_⟩
  symm
  refine⟨_,rfl,_,rfl,_,_,rfl,rfl,⟨by decide,by decide⟩,_,rfl,_,_,rfl,fun cg c0 c1=>?_⟩
  symm
  refine⟨_,rfl,_,_,rfl,rfl,(by show(0:Int)<3;decide),rfl,kmh (SqL.of w8.eln) fun H9 b l' s9 f9 fl' hl' hb'=>?_⟩
  obtain⟨mb,hb⟩:∃mb:Bool,BaskAt d.qd H9 b l' cg mb:=⟨_,hb'⟩
  clear hb'
  have hbk:BaskIs d.qf d.qd H9 b ⟨rs',cg,mb⟩:=⟨l',la',hb,hl',w8.hln.same s9⟩
  have w9:=w8.same s9
  have s19:=s18.trans s9
  symm
  refine⟨_,rfl,_,rfl,_,rfl,(by show 2≤sizeLine;decide),fun lA flA=>?_⟩
  exists H9,lA,HA,nA,eA,flA
  obtain⟨bk,hbm,ebk⟩:=kkD (ss:=["again","shares"]) (i:=z3/3%2) (by omega) (by show z3/3%2<2;omega)
  have s9A:=s9.trans nA
  symm
  refine⟨_,rfl,_,_,rfl,rfl,⟨by decide,by decide⟩,_,_,rfl,rfl,(by show(0:Int)<2;decide),lA,_,_,_,rfl,rfl,SqL.of eA,ebk,kj4 (T:=⟨ps,vs',us,bk⟩) ((s19.trans nA) _ _ hp) (nA _ _ w9.evc) (w9.hvc.mono fun v V h=>h.same nA) (s9A _ _ erl) (hra.mono fun a r h=>s9A _ _ h) fun HB t sB fB hT=>?_⟩
  have s9B:=nA.trans sB
  have wB:=w9.same s9B
  have s1B:=s19.trans s9B
  have hks:=N.lk
  have hlv:=N.lv
  symm
  refine⟨_,rfl,_,rfl,_,rfl,_,rfl,_,rfl,_,rfl,_,_,rfl,rfl,⟨by decide,by decide⟩,mo,vc,ks,va',mh,_,rfl,wB.emo,wB.evc,by omega,by omega,hmh,fun HC h hand sC fh eh hl hnn hsum=>⟨(by show 3≤sizeLine;decide),fun w' fw=>?_⟩⟩
  exists HC,w',HD,nD,eD,fw
  have sBD:=sC.trans nD
  have s0D:=(s1.trans s1B).trans sBD
  symm
  refine kk HD w' t b h ⟨ps,vs',us,bk⟩ ⟨rs',cg,mb⟩ hand s0D ((s1.trans s1B).free fh) eD (hT.same sBD) ⟨N.vok,hlv⟩ (hbk.same (s9B.trans sBD)) ?_ (nD _ _ eh) (by show hand.length=vs'.length;omega) hnn hsum (by show us.length≤3;have:=N.ll;omega) hub (by simpa using hbm)
  symm
  exact Wf.start hg hl20 (fun r hr=>(N.rows r hr).2.1) (fun r hr=>(N.rows r hr).1) N.lr ⟨c0,c1⟩ (by show(ownN rs').length<64;rw[kim];have:=N.pcs;omega)
theorem qU:kat ["_law_cut","_law_weights","_law_whole_here","_law_parts","_law_ahead","_law_weight","_law_less"] ["_law_cut","_law_weights"] (kah kcP):=by ac_rfl
theorem kdx(W:WB K mg d base):FO P w W 1 d.Ze d.Zf ["_law_cut","_law_weights"] (khg K):=by
 exists W.qW.F,qU
 ·obtain⟨c,a,ws,rfl,hS,hn,hs,hc0,hc1,hl,k⟩:=h
  refine⟨_,kab (psl (i:=2) qU.nd (kan (r:=rSum K) (ka2 rfl) (by rfl) W.B.sum b_sum (kaa (pv 1) kae)))
   (kab (psl (i:=3) qU.nd (kaT kae))
   (kab (psl (i:=4) qU.nd kag)
   (kab (kaR PassesOwn.never rfl (kaz (K:=K) (pv 1)) (pgn (i:=5) qU.nd)
   (kab (kbG (ps_if (kap op_eq (pv 2) kag (kav _)) (kaf (kaM (pe_bm NQ N7 N8 kaU (pv 3) (kaa kag kae)))) (kab (psl (i:=6) qU.nd (pe_op kf2 (pe_op kb7 (pv 0) (pv 4)) (pv 2)))
   (kaf (kaM (pe_bm NQ N7 N8 kaU (pv 3) (kaa (pe_op kcK (pe_op kf2 (pe_op kb7 (pv 0) (pe_op kbR (pv 4) (pv 5))) (pv 2)) (pv 6)) kae)))))))
   (kaf (klz (i:=4) qU.nd rfl (Or.inl rfl) (pv 5) kgS))))
   (kaf (kas (pv 3)))))),?_⟩
  have h0:=kbr hn
  refine⟨_,rfl,a,ws,rfl,hS,?_⟩
  refine⟨by decide,fun p hp=>?_⟩
  have s1:∀o,Same H (upd H p o):=fun o=>kal hp
  refine⟨_,rfl,a,rfl,⟨_,(s1 _).seq hS⟩,kaZ (K:=K) (a:=a) (xs:=ws.map V.int) (fun i σ H'=>H'=upd H p (.lst (((dl c ws).take i).map V.int))∧
   ∃(v5 v6:Option V),σ=[some (.int c),some (.ref a),some (.int ws.sum),some (.ref p),some (.int (pre ws i)),v5,v6])
   ⟨rfl,none,none,by simp[kih];rfl⟩ (fun i σ H' _ ⟨e,_⟩=>by rw[e];exact(s1 _).seq hS) ?_ ?_⟩
  ·rintro i x σ H' hi ⟨rfl,v5,v6,rfl⟩
   obtain⟨z,ez,rfl⟩:=int_at hi
   have hil:=at_lt ez
   have ep:=kdn ez
   have p1:=klA hn i
   have p2:=klB hn i
   have p3:=klA hn (i+1)
   have p4:=klB hn (i+1)
   obtain⟨u,eu⟩:=at_of (xs:=dl c ws) (i:=i) (by rw[kcb];exact hil)
   have hlen:(((dl c ws).take i).map V.int).length<sizeLine:=kar (by rw[Nb,Nv,kcb];omega)
   have fin:upd (upd H p (.lst (((dl c ws).take i).map V.int))) p (.lst (((dl c ws).take i).map V.int++[V.int u]))=upd H p (.lst (((dl c ws).take (i+1)).map V.int)):=by
    rw[keu,take_snoc eu,Nl]
    rfl
   refine⟨fun σ' H'=>H'=upd H p (.lst (((dl c ws).take (i+1)).map V.int))∧∃v6:Option V,σ'=[some (.int c),some (.ref a),some (.int ws.sum),some (.ref p),some (.int (pre ws i)),some (.int z),v6],⟨_,rfl,rfl,_,rfl,?_⟩,?_⟩
   ·by_cases hz:ws.sum=0
    ·rw[show decide (V.int ws.sum=V.int 0)=true by rw[hz];simp]
     rw[kiJ hz hil] at eu
     cases eu
     exact iteT ⟨_,rfl, .inl ⟨rfl,_,SqL.of kad⟩,p,_,_,rfl,rfl,kad,hlen,fin,_,rfl⟩
    ·rw[show decide (V.int ws.sum=V.int 0)=false by refine decide_eq_false fun z=>hz ?_;injection z]
     rw[dl_at hz hil] at eu
     unfold part at eu
     rw[ep] at eu
     cases eu
     exact iteF ⟨_,rfl,_,rfl,_,_,rfl,rfl, .inl ⟨by omega,by omega⟩,_,rfl,_,_,rfl,rfl,⟨by omega,by omega⟩,_,rfl, .inl ⟨rfl,_,SqL.of kad⟩,_,rfl,_,rfl,_,rfl,_,_,rfl,rfl,_,_,rfl,rfl, .inl ⟨by omega,by omega⟩,_,rfl,_,_,rfl,rfl,⟨by omega,by omega⟩,_,rfl,_,_,rfl,rfl,p,_,_,rfl,rfl,kad,hlen,fin,_,rfl⟩
   rintro σ' H' ⟨rfl,v6',rfl⟩
   refine⟨_,rfl,_,rfl,_,_,rfl,rfl,rfl,some (.int z),v6',?_⟩
   rw[ep]
   rfl
  ·rintro σ H' ⟨rfl,v5,v6,rfl⟩
   refine⟨_,rfl,?_⟩
   have:=k p hp
   rw[Nb,Mg (by rw[kcb];exact Nd _)]
   exact this
theorem V2:kat ["_law_parents","_law_one","_law_other"] ["_law_parents","_law_one","_law_other"] (kah kbZ):=by ac_rfl
theorem keg(W:WB K mg d base):FO P w W 1 d.Zg d.Zh ["_law_parents","_law_one","_law_other"] (khc K):=by
 exists W.VB.F,V2
 ·obtain⟨a,ps,one,other,rfl,hS,hg,ho,k⟩:=h
  refine⟨_,kab (kfW PassesOwn.never (kap kct (pv 1) kbd (kav _))
   (kab (ps_if (kap op_eq (pv 1) (pv 2) (kav _)) (kaf (kas pe_bl)) (kau))
   (kaf (psl (i:=1) V2.nd (pe_ix (r:=rIxL K) kaw (pv 0) (pv 1) (fun _ _=>rfl))))))
   (kaf (kas pe_bl)),?_⟩
  refine kfJ (fun σ H'=>∃o:Option Nat,σ=[some (.ref a),some (pV o),some (.int other)]∧H'=H∧(∀i,o=some i→i<ps.length)∧decide (other∈up ps one)=decide (other∈rest ps o))
   (fun σ _=>match σ with|[_,some (.int i),_]=>i.toNat+1|_=>0) ⟨some one,rfl,rfl,fun i e=>by cases e;exact ho,rfl⟩ ?_ ?_
  ·rintro σ H' ⟨o,rfl,rfl,hb,he⟩
   refine⟨_,rfl,rfl,_,rfl,?_⟩
   cases o with
   |none=>
    show if(!decide (V.non=V.non))=true then _ else _
    rw[kfv]
    refine iteF ?_
    show Q (.bl false) _
    have e:decide (other∈up ps one)=false:=by rw[he];simp[Kin.rest]
    rw[e] at k
    exact k
   | some i=>
    show if(!decide (V.int i=V.non))=true then _ else _
    rw[kfw]
    refine iteT ?_
    have hi:=hb i rfl
    refine⟨_,rfl,_,rfl,rfl,_,rfl,?_⟩
    show if decide (V.int i=V.int other)=true then _ else _
    rw[eq_int]
    obtain⟨o,eo⟩:∃o,ps[i]?=some o:=⟨ps[i],by simp[hi]⟩
    refine ite2 (fun h=>?_) (fun h=>?_)
    ·have h':i=other:=of_decide_eq_true h
     subst h'
     have e:decide (i∈up ps one)=true:=by
      rw[he]
      show decide (i∈up ps i)=true
      rw[up_eq hg eo]
      simp
     rw[e] at k
     exact k
    ·have h':¬i=other:=fun z=>h (decide_eq_true z)
     refine⟨_,rfl,_,rfl,a,_,_,pV o,rfl,rfl,hS,kaA (by simp[eo]),?_⟩
     refine⟨⟨o,rfl,rfl,fun j e=>?_,?_⟩,?_⟩
     ·subst e
      have:=hg i j eo
      omega
     ·rw[he]
      show decide (other∈up ps i)=_
      rw[up_eq hg eo]
      have:¬other=i:=fun z=>h' z.symm
      simp[this]
     ·cases o with
      |none=>exact Nat.succ_pos _
      |some j=>
       have:=hg i j eo
       show((j:Int)).toNat+1<((i:Int)).toNat+1
       omega
  ·rintro σ H' Q' Q'' hq ⟨v,h1,h2,h3⟩
   exact⟨v,h1,h2,by obtain⟨b,e,q⟩:=h3;exact⟨b,e,hq _ _ q⟩⟩
inductive spPcs (d:D) (vs:List V) (H:Hp) (Q:VK) (E_:XK):Prop
 |ct (v t b ow mk:Addr)(V:Vch)(T:TillD)(B:Bask)(S:Stnd)(_:vs=[.ref v, .ref t, .ref b, .ref ow, .ref mk])(_:VchIs d H v V)(_:TillIs d H t T)(_:BaskIs d.qf d.qd H b B)(_:H ow=some (.lst (S.ow.map iV)))(_:H mk=some (.lst (S.mkd.map L2.V.bl)))(_:Wf T.ps B S)(_:∀(q:Addr),H q=none→Q (.ref q) (upd H q (.lst ((abt T.ps (kds B) V.ms.kind V.ms.lone S).map iV)))):spPcs d vs H Q E_
theorem Qe:kat ["_law_voucher","_law_till","_law_basket","_law_owners","_law_marked","_law_found","_law_piece","_law_line","_law_kind","_law_fits"] ["_law_voucher","_law_till","_law_basket","_law_owners","_law_marked"] (kah kbN):=by ac_rfl
theorem kdS(W:WB K mg d base):FO P w W 2 d.Zi d.Zj ["_law_voucher","_law_till","_law_basket","_law_owners","_law_marked"] (spPcs d):=by
 exists W.VC.F,Qe
 ·obtain⟨v,t,b,ow,mk,⟨so,⟨kind,nd,mo,b1,b2,lone⟩⟩,T,B,S,rfl,hV,⟨dxt,fst,p,vl,rl,va,ra,ht,t1,t2,t3,t4,hp,_⟩,⟨l,ls,⟨dxb,fsb,hb,lb1,lb2,lb3⟩,hl,hL⟩,ho,hmk,wf,k⟩:=h
  obtain⟨mA,dxv,fsv,hv,lvm,_,hM,hh,htb⟩:=id hV
  obtain⟨dxm,fsm,hm,m1,m2,m3,m4,m5,m6⟩:=id hM
  exists U2,keg,W
  refine⟨_,kab (psl (i:=5) Qe.nd (kaT kae))
   (kab (kaR PassesOwn.never rfl (kaY rfl W.B.range (kaa (kan (r:=kaE K) kao (by rfl) W.B.len b_len (kaa (pv 3) kae)) kae)) (pgn (i:=6) Qe.nd)
   (kab (psl (i:=7) Qe.nd (pe_ix (r:=rIxL K) kaw (pv 3) (pv 6) (fun _ _=>rfl)))
   (kab (psl (i:=8) Qe.nd (kaj (K:=K) (kaj (K:=K) (pv 0) rfl) rfl))
   (kab (psl (i:=9) Qe.nd (pe_or (kb6 kfu (pv 8) kbd (kav _)) (kij (pcl U2 hr W.VB (kaa (kaj (K:=K) (pv 1) rfl) (kaa (kaj (K:=K) (pe_ix (r:=rIxL K) kaw (kaj (K:=K) (pv 2) rfl) (pv 7) (fun _ _=>rfl)) rfl) (kaa (pv 8) kae)))))))
   (kaf (ps_if (PW.pt (ka6 (kaN (pv 9)) (kaX (kcv (PW.pt (ka6 (kaN (kaj (K:=K) (kaj (K:=K) (pv 0) rfl) rfl)) (kaX (kaN (pe_ix (r:=rIxL K) kaw (pv 4) (pv 7) (fun _ _=>rfl)))))))))) (kaf (kaM (pe_bm NQ N7 N8 kaU (pv 5) (kaa (pv 6) kae)))) (kau)))))))
   (kaf (kas (pv 5)))),?_⟩
  refine⟨by decide,fun q hq=>?_⟩
  have s1:=kal (o:=.lst []) hq
  have np:=wf.np
  have lenO:(((S.ow.map iV).length:Nat):Int).toNat=S.ow.length:=by simp
  refine⟨_,rfl,ow,_,rfl, .inl (SqL.of (s1 _ _ ho)),_,rfl,by omega,by rw[Nb];omega,kbb (fun i σ H'=>∃(v6 v7 v8 v9:Option V),H'=upd H q (.lst (((Nf i).filter fun i=>hits T.ps (kds B) kind lone S.mkd (S.ow.getD i 0)).map iV))∧σ=[some (.ref v),some (.ref t),some (.ref b),some (.ref ow),some (.ref mk),some (.ref q),v6,v7,v8,v9])
   ⟨none,none,none,none,rfl,rfl⟩ ?_ ?_⟩
  ·rintro i σ H' hi ⟨v6,v7,v8,v9,rfl,rfl⟩
   rw[lenO] at hi
   rw[Int.zero_add]
   have s2:Same H (upd H q (.lst (((Nf i).filter fun i=>hits T.ps (kds B) kind lone S.mkd (S.ow.getD i 0)).map iV))):=kal hq
   have hq2:(upd H q (.lst (((Nf i).filter fun i=>hits T.ps (kds B) kind lone S.mkd (S.ow.getD i 0)).map iV))) q=some (.lst (((Nf i).filter fun i=>hits T.ps (kds B) kind lone S.mkd (S.ow.getD i 0)).map iV)):=kad
   have flen:((Nf i).filter fun i=>hits T.ps (kds B) kind lone S.mkd (S.ow.getD i 0)).length≤i:=by
    have:=MH (fun i=>hits T.ps (kds B) kind lone S.mkd (S.ow.getD i 0)) (Nf i)
    simpa using this
   obtain⟨ln,eln⟩:=at_of hi
   have hln:=wf.line eln
   obtain⟨r,er⟩:=at_of hln
   obtain⟨lx,elx⟩:=at_of (xs:=ls) (i:=ln) (by rw[hL.len];exact hln)
   obtain⟨dxl,fsl,hlx,lk1,_⟩:=(hL.get elx er).same s2
   have hkd:=wf.kd r (Nj er)
   obtain⟨kn,ekn⟩:=Int.eq_ofNat_of_zero_le hkd.1
   have hkn:kn<T.ps.length:=by omega
   obtain⟨mv,emv⟩:=at_of (xs:=S.mkd) (i:=ln) (by rw[wf.lm];exact hln)
   have ev:hits T.ps (kds B) kind lone S.mkd (S.ow.getD i 0)=(kHit T.ps kind kn&&(!lone|| !mv)):=by
    unfold hits
    have e1:S.ow.getD i 0=ln:=by rw[Nt,eln];rfl
    have e2:S.mkd.getD ln false=mv:=by rw[Nt,emv];rfl
    rw[e1,e2,klI er,ekn,Int.toNat_natCast]
   have no:hits T.ps (kds B) kind lone S.mkd (S.ow.getD i 0)=false→upd H q (.lst (((Nf i).filter fun i=>hits T.ps (kds B) kind lone S.mkd (S.ow.getD i 0)).map iV))=upd H q (.lst (((Nf (i+1)).filter fun i=>hits T.ps (kds B) kind lone S.mkd (S.ow.getD i 0)).map iV)):=fun e=>by rw[kgg,e];simp
   have yes:hits T.ps (kds B) kind lone S.mkd (S.ow.getD i 0)=true→upd (upd H q (.lst (((Nf i).filter fun i=>hits T.ps (kds B) kind lone S.mkd (S.ow.getD i 0)).map iV))) q (.lst (((Nf i).filter fun i=>hits T.ps (kds B) kind lone S.mkd (S.ow.getD i 0)).map iV++[V.int (i:Nat)]))=upd H q (.lst (((Nf (i+1)).filter fun i=>hits T.ps (kds B) kind lone S.mkd (S.ow.getD i 0)).map iV)):=fun e=>by
      rw[kgg,e,if_pos rfl,Nl,keu]
      rfl
   generalize upd H q (.lst (((Nf i).filter fun i=>hits T.ps (kds B) kind lone S.mkd (S.ow.getD i 0)).map iV))=H2 at *
   have atO:atI (S.ow.map iV) (i:Int)=some (.int (ln:Nat)):=kaA (by rw[Ni,eln];rfl)
   have atM:atI (S.mkd.map V.bl) (ln:Int)=some (.bl mv):=kaA (by rw[Ni,emv];rfl)
   have sml:(((Nf i).filter fun i=>hits T.ps (kds B) kind lone S.mkd (S.ow.getD i 0)).map iV).length<sizeLine:=kar (by rw[Nb];omega)
   refine⟨_,rfl,_,rfl,ow,_,_,_,rfl,rfl,SqL.of (s2 _ _ ho),atO,?_⟩
   refine⟨_,rfl,v,clsOf d so,dxv,fsv,_,rfl,s2 _ _ hv,cl_of W hh,na_of W hh,lvm,mA,d.qh,dxm,fsm,_,rfl,s2 _ _ hm,W.qh.cl,W.Ql,m1,?_⟩
   have hgd:=wf.good
   clear wf k hL
   have tl:∀(f:Bool),f=kHit T.ps kind kn→(f=true→lone=true→mv=false→hits T.ps (kds B) kind lone S.mkd (S.ow.getD i 0)=true)∧(f=true→lone=false→hits T.ps (kds B) kind lone S.mkd (S.ow.getD i 0)=true)∧(f=false→hits T.ps (kds B) kind lone S.mkd (S.ow.getD i 0)=false)∧(lone=true→mv=true→hits T.ps (kds B) kind lone S.mkd (S.ow.getD i 0)=false):=fun f ef=>by
    rw[ev,←ef]
    refine⟨fun a b c=>by rw[a,b,c];rfl,fun a b=>by rw[a,b];rfl,fun a=>by rw[a];rfl,fun a b=>by rw[a,b];cases f <;> rfl⟩
   have hv2:=s2 _ _ hv
   have hm2:=s2 _ _ hm
   cases kind with
   | none=>
    obtain⟨y1,y2,_,y4⟩:=tl true rfl
    refine⟨_,rfl,rfl,_,rfl,?_⟩
    rw[show decide (pV none=V.non)=true by show decide (V.non=V.non)=true;simp]
    refine iteT ⟨_,rfl,true,rfl,iteT ⟨_,rfl,v,clsOf d so,dxv,fsv,_,rfl,hv2,cl_of W hh,na_of W hh,lvm,mA,d.qh,dxm,fsm,_,rfl,hm2,W.qh.cl,W.qX,m6,lone,rfl,?_⟩⟩
    cases lone with
    |false=>exact iteF (iteT ⟨_,rfl, .inl ⟨rfl,_,SqL.of hq2⟩,_,rfl,q,_,_,rfl,rfl,hq2,sml,_,_,_,_,yes (y2 rfl rfl),rfl⟩)
    |true=>
     refine iteT ⟨_,rfl,_,rfl,mk,_,_,_,rfl,rfl,SqL.of (s2 _ _ hmk),atM,mv,rfl,?_⟩
     cases mv with
     |false=>exact iteT ⟨_,rfl, .inl ⟨rfl,_,SqL.of hq2⟩,_,rfl,q,_,_,rfl,rfl,hq2,sml,_,_,_,_,yes (y1 rfl rfl rfl),rfl⟩
     |true=>exact iteF ⟨_,_,_,_,no (y4 rfl rfl),rfl⟩
   | some kk=>
    refine⟨_,rfl,rfl,_,rfl,?_⟩
    rw[show decide (pV (some kk)=V.non)=false by show decide (V.int _=V.non)=false;simp]
    refine iteF ⟨_,rfl,t,d.qg,dxt,fst,_,rfl,s2 _ _ ht,W.qg.cl,W.q9,t1,_,rfl,b,d.qd,dxb,fsb,_,rfl,s2 _ _ hb,W.qd.cl,W.qr,lb1,_,rfl,l,_,_, .ref lx,rfl,rfl,SqL.of (s2 _ _ hl),kaA (by rw[Ni,elx];rfl),lx,d.qf,dxl,fsl,_,rfl,hlx,W.qf.cl,W.Xn,lk1,_,rfl,p,T.ps,kn,kk,by rw[ekn];rfl,SqL.of (s2 _ _ hp),hgd,hkn,_,rfl,_,rfl,?_⟩
    obtain⟨y1,y2,y3,y4⟩:=tl (decide (kk∈up T.ps kn)) rfl
    show if decide (kk∈up T.ps kn)=true then _ else _
    cases hu:decide (kk∈up T.ps kn) with
    |false=>exact iteF (iteF ⟨_,_,_,_,no (y3 hu),rfl⟩)
    | true=>
     refine iteT ⟨_,rfl,v,clsOf d so,dxv,fsv,_,rfl,hv2,cl_of W hh,na_of W hh,lvm,mA,d.qh,dxm,fsm,_,rfl,hm2,W.qh.cl,W.qX,m6,lone,rfl,?_⟩
     cases lone with
     |false=>exact iteF (iteT ⟨_,rfl, .inl ⟨rfl,_,SqL.of hq2⟩,_,rfl,q,_,_,rfl,rfl,hq2,sml,_,_,_,_,yes (y2 hu rfl),rfl⟩)
     |true=>
      refine iteT ⟨_,rfl,_,rfl,mk,_,_,_,rfl,rfl,SqL.of (s2 _ _ hmk),atM,mv,rfl,?_⟩
      cases mv with
      |false=>exact iteT ⟨_,rfl, .inl ⟨rfl,_,SqL.of hq2⟩,_,rfl,q,_,_,rfl,rfl,hq2,sml,_,_,_,_,yes (y1 hu rfl rfl),rfl⟩
      |true=>exact iteF ⟨_,_,_,_,no (y4 rfl rfl),rfl⟩
  ·rintro σ H' ⟨v6,v7,v8,v9,rfl,rfl⟩
   refine⟨_,rfl,?_⟩
   rw[lenO]
   exact k q hq
inductive spPut (vs:List V) (H:Hp) (Q:VK) (E_:XK):Prop
 |ct (tl pc pa:Addr)(n:Nat)(js is:List Nat)(us ws:List Int)(_:vs=[.ref tl, .ref pc, .ref pa])(_:H tl=some (.lst ((spr n js us).map V.int)))(_:H pc=some (.lst (is.map iV)))(_:H pa=some (.lst (ws.map V.int)))(_:tl≠pc)(_:tl≠pa)(_:js.length=us.length)(_:is.length=ws.length)(_:(js++is).Nodup)(_:(∀i∈is,i<n))(_:is.length≤1000)(_:Q .non (upd H tl (.lst ((spr n (js++is) (us++ws)).map V.int)))):spPut vs H Q E_
theorem klT{H:Hp}{p:Addr}{o:HO}(h:H p=some o):upd H p o=H:=by
 funext y
 unfold upd
 split
 ·rename_i e
  rw[e,h]
 ·rfl
theorem V3:kat ["_law_told","_law_pieces","_law_parts","_law_k"] ["_law_told","_law_pieces","_law_parts"] (kah kdJ):=by ac_rfl
theorem khx(W:WB K mg d base):FO P w W 1 d.Zk d.Zl ["_law_told","_law_pieces","_law_parts"] spPut:=by
 exists W.Qk.F,V3
 ·obtain⟨tl,pc,pa,n,js,is,us,ws,rfl,htl,hpc,hpa,n1,n2,hjl,hil,hnd,hlt,hl,k⟩:=h
  refine⟨_,kaf (kaR PassesOwn.never rfl (kaY rfl W.B.range (kaa (kan (r:=kaE K) kao (by rfl) W.B.len b_len (kaa (pv 1) kae)) kae)) (pgn (i:=3) V3.nd)
   (kaf (kcw (pe_ix (r:=rIxL K) kaw (pv 2) (pv 3) (fun _ _=>rfl)) (kdo (pv 0) (pe_ix (r:=rIxL K) kaw (pv 1) (pv 3) (fun _ _=>rfl)) set_list)))),?_⟩
  refine⟨_,rfl,pc,_,rfl, .inl (SqL.of hpc),_,rfl,by omega,by rw[Nb];omega,kbb (fun i σ H'=>∃v3:Option V,H'=upd H tl (.lst ((spr n (js++is.take i) (us++ws.take i)).map V.int))∧σ=[some (.ref tl),some (.ref pc),some (.ref pa),v3])
   ⟨none,by simp[klT htl],rfl⟩ ?_ ?_⟩
  ·rintro i σ H' hi ⟨v3,rfl,rfl⟩
   have hi':i<is.length:=by simpa using hi
   rw[Int.zero_add]
   obtain⟨x,ex⟩:=at_of hi'
   obtain⟨z,ez⟩:=at_of (xs:=ws) (i:=i) (by omega)
   have hpc2:(upd H tl (.lst ((spr n (js++is.take i) (us++ws.take i)).map V.int))) pc=some (.lst (is.map iV)):=by rw[kak n1.symm];exact hpc
   have hpa2:(upd H tl (.lst ((spr n (js++is.take i) (us++ws.take i)).map V.int))) pa=some (.lst (ws.map V.int)):=by rw[kak n2.symm];exact hpa
   refine⟨_,rfl,_,rfl,pa,_,_,_,rfl,rfl,SqL.of hpa2,kaA (v:=.int z) (by rw[Ni,ez];rfl),_,rfl,_,rfl,_,rfl,pc,_,_,_,rfl,rfl,SqL.of hpc2,kaA (v:=iV x) (by rw[Ni,ex];rfl),tl,_,_,x,rfl,rfl,kad,kca (by rw[Nb,kcC];exact hlt x (Nj ex)),?_⟩
   rw[←Md,keu]
   refine⟨_,?_,rfl⟩
   rw[kfN (by rw[Nr,Nr,Nv,Nv];omega) ?_ (hlt x (Nj ex)),Mc,Mc,←take_snoc ex,←take_snoc ez]
   rw[Mc,←take_snoc ex]
   exact hnd.sublist (Dj.append_left (E4 _ _) _)
  ·rintro σ H' ⟨v3,rfl,rfl⟩
   have e:(((is.map iV).length:Nat):Int).toNat=is.length:=by simp
   rw[e,ND,hil,ND]
   exact k
theorem Sel.pre{q:List Int}{row left:List Nat}(h:Sel q row left):row=(ordQ q).take row.length:=by
 have hmp:=List.mergeSort_perm left (leQ q)
 have f:Fall q (row++left.mergeSort (leQ q)):=by
  refine⟨(Ed.append_left row hmp).trans h.pm,List.pairwise_append.mpr ⟨h.pw,?_,fun r hr l hl=>h.cr r hr l (hmp.mem_iff.mp hl)⟩⟩
  have h1:(left.mergeSort (leQ q)).Pairwise (fun a b=>leQ q a b=true):=DG (le:=leQ q) (fun a b c h h'=>by simp only[leQ,decide_eq_true_eq] at *;omega) (fun a b=>by simp only[leQ,Ex,decide_eq_true_eq];omega) _
  have h2:(left.mergeSort (leQ q)).Nodup:=hmp.nodup_iff.mpr (h.inc.imp fun hlt=>NL hlt)
  refine(h1.and h2).imp fun {a b} h=>?_
  have h3:=h.1
  have h4:a≠b:=h.2
  simp only[leQ,decide_eq_true_eq] at h3
  unfold bef
  omega
 have e:=ke3 f (kdq q)
 rw[←e,Dh rfl]
theorem kk8{m:Nat}(hm:0<m)(r:List Nat):grp m r=grp m (r.take (r.length/m*m)):=by
 unfold grp
 have hle:=Dg r.length m
 rw[Nv,MT hle,ER _ hm]
 refine N2 fun g hg=>?_
 have hg':=MJ.mp hg
 rw[List.drop_take,List.take_take]
 have h1:(g+1)*m≤r.length/m*m:=EM m hg'
 rw[MR,MS] at h1
 rw[MT (by omega)]
theorem kk9{m c:Nat}{r g:List Nat}(hm:0<m)(hr:r.length=c*m)(hg:g.length=m):grp m (r++g)=grp m r++[g]:=by
 unfold grp
 rw[Nr,hr,hg,ER _ hm,show c*m+m=(c+1)*m by rw[MR,MS],ER _ hm,Mb,Nl]
 congr 1
 ·refine N2 fun i hi=>?_
  have hi':=MJ.mp hi
  have h1:(i+1)*m≤c*m:=EM m hi'
  rw[MR,MS] at h1
  rw[List.drop_append_of_le_length (by omega),List.take_append_of_le_length (by rw[Mw];omega)]
 ·show [((r++g).drop (c*m)).take m]=[g]
  rw[List.drop_left' hr,Mg (by omega)]
theorem kgV{f:Nat→Nat}{t:Nat}:∀{l:List Nat},(∀x∈l,f x=f t→x=t)→(l.map f).erase (f t)=(l.erase t).map f
 |[],_=>rfl
 | a::l,h=>by
  rw[Nw,EL,EL]
  by_cases e:a=t
  ·subst e
   simp
  ·have h1:(a==t)=false:=by simp[e]
   have h2:(f a==f t)=false:=beq_eq_false_iff_ne.mpr fun z=>e (h a NJ z)
   rw[h1,h2]
   simp[kgV fun x hx=>h x (NC _ hx)]
theorem keL(n:Nat)(ow is:List Nat):owns (n+1) ow is=owns n ow is++[is.filter fun i=>ow.getD i 0==n]:=by
 unfold owns
 rw[Mb,Nl]
 rfl
theorem ki0{n:Nat}{ow is:List Nat}(h:is.Nodup):(owns n ow is).flatten.Nodup:=by
 unfold owns
 refine List.pairwise_flatten.mpr ⟨fun l hl=>?_,?_⟩
 ·obtain⟨k,_,rfl⟩:=Ny.mp hl
  exact MF.filter _ h
 ·refine Eh.mpr (Ef.imp fun {p q} hlt x hx y hy e=>?_)
  have h1:=(NW.mp hx).2
  have h2:=(NW.mp hy).2
  subst e
  have h1':ow.getD x 0=p:=by simpa using h1
  have h2':ow.getD x 0=q:=by simpa using h2
  omega
theorem kdh{F:List Nat→List Int}(hF:F []=[]){n:Nat}{ow is:List Nat}(h:∀i∈is,ow.getD i 0<n):∀k,(owns (n+k) ow is).flatten=(owns n ow is).flatten∧((owns (n+k) ow is).map F).flatten=((owns n ow is).map F).flatten
 |0=>⟨rfl,rfl⟩
 | k+1=>by
  obtain⟨a,b⟩:=kdh hF h k
  have e:(is.filter fun i=>ow.getD i 0==n+k)=[]:=DK.mpr fun i hi=>by
   have:=h i hi
   have e:(ow.getD i 0==n+k)=false:=beq_eq_false_iff_ne.mpr (by omega)
   rw[e]
   exact Np
  rw[←Nat.add_assoc,keL,e]
  constructor
  ·rw[Mm,a]
   simp
  ·rw[Nl,Mm,b]
   simp[hF]
theorem ke1{pr:List Int}{i:Nat}(h:i<pr.length):atI (pr.map V.int) (i:Int)=some (.int (pr.getD i 0)):=by
 obtain⟨z,ez⟩:=at_of h
 exact kaA (by rw[Ni,ez,Nt,ez];rfl)
noncomputable def GrpS(so:Srt)(m:Int):Prop:=so=.cheap m∨∃p,so=.bund m p
noncomputable def gtold(so:Srt)(n:Nat)(g:Nat→Nat)(q:List Int)(m:Nat)(row:List Nat):List Int:=match so with
 | .bund _ p=>spr n ((grp m row).flatten.map g) ((grp m row).map fun o=>dl (max 0 ((qs q o).sum-p)) (qs q o)).flatten
 |_=>spr n ((lasts (grp m row)).map g) (qs q (lasts (grp m row)))
theorem kkk{so:Srt}{m:Nat}(hs:GrpS so (m:Int))(hm:0<m){n:Nat}{ab:List Nat}{q:List Int}(hnd:ab.Nodup)(lq:q.length=ab.length){row left:List Nat}{c:Nat}(sel:Sel q row left)(hr:row.length=c*m)(hl:left.length<m)(N:Nat)(ls:List Nat):
  gtold so n (fun j=>ab.getD j 0) q m row=spr n ab (want so N ls q):=by
 have hlen:=sel.len
 have hc:q.length/m=c:=by
  have h1:q.length=c*m+left.length:=by omega
  rw[h1,Nat.mul_comm,Nat.mul_add_div hm,Nat.div_eq_of_lt hl,Nat.add_zero]
 have lo:(ordQ q).length=q.length:=by
  have:=(kcT q).length_eq
  simpa using this
 have eg:grp m (ordQ q)=grp m row:=by
  rw[kk8 hm (ordQ q),lo,hc,←hr,←sel.pre]
 have hfl:∀j∈(grp m (ordQ q)).flatten,j<ab.length:=fun j hj=>by
  rw[kf8] at hj
  rw[←lq]
  exact khw (MO hj)
 rcases hs with rfl|⟨p,rfl⟩
 ·show spr n ((lasts (grp m row)).map _) (qs q (lasts (grp m row)))=spr n ab (spr q.length (lasts (grp (m:Int).toNat (ordQ q))) (qs q (lasts (grp (m:Int).toNat (ordQ q)))))
  rw[Int.toNat_natCast,lq,kex hnd,eg]
  intro j hj
  obtain⟨i,hi⟩:=Mp.mp hj
  have hi':i<(grp m (ordQ q)).length:=by
   have:=at_lt hi
   rwa [kcy] at this
  have e1:(grp m (ordQ q))[i]?=some (grp m (ordQ q))[i]:=by simp[hi']
  have a1:=keW hm e1
  rw[kep e1] at hi
  cases hi
  rw[←lq]
  exact khw (Nj a1)
 ·show spr n ((grp m row).flatten.map _) _=spr n ab (spr q.length (grp (m:Int).toNat (ordQ q)).flatten (((grp (m:Int).toNat (ordQ q)).map fun g=>dl (max 0 ((qs q g).sum-p)) (qs q g)).flatten))
  rw[Int.toNat_natCast,lq,kex hnd hfl,eg]
theorem kis{f:Nat→Nat}{l:List Nat}(h:l.Nodup)(hi:∀x∈l,∀y∈l,f x=f y→x=y):(l.map f).Nodup:=Eh.mpr (h.imp_of_mem fun ha hb hn e=>hn (hi _ ha _ hb e))
theorem kfA(gs:List (List Nat))(g:List Nat):lasts (gs++[g])=lasts gs++[g.getLastD 0]:=by simp[lasts]
theorem kk0{g:List Nat}(h:0<g.length):g[g.length-1]?=some (g.getLastD 0):=by
 cases g with
 |nil=>simp at h
 |cons x xs=>
  have e:(x::xs).getLastD 0=(x::xs).getLast (by simp):=by simp[List.getLastD]
  rw[e,DH,Nu]
  exact⟨by omega,rfl⟩
theorem kgQ{m:Nat}{r:List Nat}(hm:0<m){j:Nat}(h:j∈lasts (grp m r)):j∈r:=by
 obtain⟨i,hi⟩:=Mp.mp h
 have hi':i<(grp m r).length:=by
  have:=at_lt hi
  rwa [kcy] at this
 have e1:(grp m r)[i]?=some (grp m r)[i]:=by simp[hi']
 have a1:=keW hm e1
 rw[kep e1] at hi
 cases hi
 exact Nj a1
inductive klp (d:D) (vs:List V) (H:Hp) (Q:VK) (E_:XK):Prop
 |ct (v pc pr ow:Addr)(V:Vch)(ps:List (Option Nat))(B:Bask)(S:Stnd)(ab:List Nat)(_:vs=[.ref v, .ref pc, .ref pr, .ref ow])(_:VchIs d H v V)(_:VchOk ps V)(_:H pc=some (.lst (ab.map iV)))(_:H pr=some (.lst (S.pr.map L2.V.int)))(_:H ow=some (.lst (S.ow.map iV)))(_:Wf ps B S)(_:ab.Nodup)(_:(∀i∈ab,i<S.pr.length))(_:ab.Pairwise (· < ·))(_:∀(H':Hp)(l:Addr),Same H H'→H l=none→H' l=some (.lst ((spr S.pr.length ab (want V.so S.mkd.length (ab.map fun i=>S.ow.getD i 0) (qs S.pr ab))).map L2.V.int))→Q (.ref l) H'):klp d vs H Q E_
theorem qt:kat ["_law_voucher","_law_pieces","_law_prices","_law_owners","_law_told","_law_own","_law_line","_law_some","_law_left","_law_group","_law_k","_law_dearest","_law_piece"] ["_law_voucher","_law_pieces","_law_prices","_law_owners"] (kah ka7):=by ac_rfl
theorem kfk(W:WB K mg d base):FO P w W 2 d.Zm d.Zn ["_law_voucher","_law_pieces","_law_prices","_law_owners"] (klp d):=by
 exists W.VD.F,qt
 ·obtain⟨v,pc,pr,ow,⟨so,ms⟩,ps,B,S,ab,rfl,⟨mA,dxv,fsv,hv,lvm,hso,hM,hh,htb⟩,vo,hpc,hpr,how,wf,hnd,hlt,hinc,k⟩:=h
  exists QQ,khx,W
  exists Qf,kdx,W
  refine⟨_,kab (kcs (N:=["_law_price"]) (CompScope.plain rfl (by decide +kernel) (by decide +kernel) (by decide +kernel) (nd1 _)) rfl (kaz (K:=K) (pv 2)) (fun _ _ _ _=>pgn (i:=0) (nd1 _)) (fun _ _ _ _=>kag) (pgn (i:=4) qt.nd))
   (kab (kcs (N:=["_law_piece","_law_prices"]) (CompScope.of (N:=["_law_piece","_law_prices"]) (cap:=[none,some 2]) (kah ka7).names ["_law_voucher","_law_pieces","_law_prices","_law_owners","_law_told","_law_own","_law_line","_law_some","_law_left","_law_group","_law_k","_law_dearest","_law_piece"] rfl rfl (by decide +kernel)) rfl (kaz (K:=K) (pv 1)) (fun _ _ _ _=>pgn (i:=0) (show(["_law_piece","_law_prices"]:List Str).Nodup by decide +kernel)) (fun _ _ _ _=>(pe_ix (r:=rIxL K) kaw (pv 1) (pv 0) (fun _ _=>rfl))) (pgn (i:=5) qt.nd))
   (kab (ps_if (kaN (kan (r:=rIsi K) kaK (by rfl) W.B.isi b_isi (kaa (pv 0) (kaa (kbC (v:=.ref d.c_Off) (by rfl) W.g_Off rfl) kae)))) (kaf (kaM (pcl QQ hr W.Qk (kaa (pv 4) (kaa (pv 1) (kaa (pcl Qf hr W.qW (kaa (kan (kcB rfl) (by rfl) W.B.min b_min (kaa (kaj (K:=K) (pv 0) rfl) (kaa (kan (r:=rSum K) (ka2 rfl) (by rfl) W.B.sum b_sum (kaa (pv 5) kae)) kae))) (kaa (pv 5) kae))) kae)))))) (kaf (ps_if (PW.pt (ka6 (kaN (kan (r:=rIsi K) kaK (by rfl) W.B.isi b_isi (kaa (pv 0) (kaa (kbC (v:=.ref d.qi) (by rfl) W.Xd rfl) kae)))) (kaX (kcv (kaN (kaj (K:=K) (pv 0) rfl)))))) (kaf (kaM (pcl QQ hr W.Qk (kaa (pv 4) (kaa (pv 1) (kaa (pcl Qf hr W.qW (kaa (pe_op kaB (pe_op kb7 (kan (r:=rSum K) (ka2 rfl) (by rfl) W.B.sum b_sum (kaa (pv 5) kae)) (kaj (K:=K) (pv 0) rfl)) kag) (kaa (pv 5) kae))) kae)))))) (kaf (ps_if (kaN (kan (r:=rIsi K) kaK (by rfl) W.B.isi b_isi (kaa (pv 0) (kaa (kbC (v:=.ref d.qi) (by rfl) W.Xd rfl) kae)))) (kaf (kaR PassesOwn.never rfl (kaY rfl W.B.range (kaa (pe_op kbR kag (kan (r:=rMaxL K) (kkB rfl) (by rfl) W.B.max b_max (kaa (pe_op kjY (kaT (kaa kag kae)) (pv 3)) kae))) kae)) (pgn (i:=6) qt.nd)
   (kab (kkM (N:=["_law_piece","_law_owners","_law_line"]) (CompScope.of (N:=["_law_piece","_law_owners","_law_line"]) (cap:=[none,some 3,some 6]) (kah ka7).names ["_law_voucher","_law_pieces","_law_prices","_law_owners","_law_told","_law_own","_law_line","_law_some","_law_left","_law_group","_law_k","_law_dearest","_law_piece"] rfl rfl (by decide +kernel)) rfl (kaz (K:=K) (pv 1)) (fun _ _ _ _=>pgn (i:=0) (show(["_law_piece","_law_owners","_law_line"]:List Str).Nodup by decide +kernel)) (fun _ _ _ _=>khu (kap op_eq (pe_ix (r:=rIxL K) kaw (pv 1) (pv 0) (fun _ _=>rfl)) (pv 2) (kav _))) (fun _ _ _ _=>(pv 0)) (pgn (i:=7) qt.nd))
   (kab (kcs (N:=["_law_piece","_law_prices"]) (CompScope.of (N:=["_law_piece","_law_prices"]) (cap:=[none,some 2]) (kah ka7).names ["_law_voucher","_law_pieces","_law_prices","_law_owners","_law_told","_law_own","_law_line","_law_some","_law_left","_law_group","_law_k","_law_dearest","_law_piece"] rfl rfl (by decide +kernel)) rfl (kaz (K:=K) (pv 7)) (fun _ _ _ _=>pgn (i:=0) (show(["_law_piece","_law_prices"]:List Str).Nodup by decide +kernel)) (fun _ _ _ _=>(pe_ix (r:=rIxL K) kaw (pv 1) (pv 0) (fun _ _=>rfl))) (pgn (i:=5) qt.nd))
   (kaf (kaM (pcl QQ hr W.Qk (kaa (pv 4) (kaa (pv 7) (kaa (pcl Qf hr W.qW (kaa (pe_op kaB (pe_op kb7 (kan (r:=rSum K) (ka2 rfl) (by rfl) W.B.sum b_sum (kaa (pv 5) kae)) (kaj (K:=K) (pv 0) rfl)) kag) (kaa (pv 5) kae))) kae)))))))))) (kaf (ps_if (kaN (kan (r:=kly K) kjc (by rfl) W.B.isi b_isi (kaa (pv 0) (kaa (kb5 (kaa (kbC (v:=.ref d.ql) (by rfl) W.Xg rfl) (kaa (kbC (v:=.ref d.qj) (by rfl) W.VP rfl) kae))) kae)))) (kab (psl (i:=8) qt.nd (kaQ (r:=kbg K) kaD (by rfl) W.B.list kbn (kaa (pv 1) kae)))
   (kaf (kfW PassesOwn.never (kap op_ge (kan (r:=kaE K) kao (by rfl) W.B.len b_len (kaa (pv 8) kae)) (kaj (K:=K) (pv 0) rfl) (kav _))
   (kab (psl (i:=9) qt.nd (kaT kae))
   (kab (kaR PassesOwn.never rfl (kaY rfl W.B.range (kaa (kaj (K:=K) (pv 0) rfl) kae)) (pgn (i:=10) qt.nd)
   (kab (psl (i:=11) qt.nd (pe_ix (r:=rIxL K) kaw (pv 8) kag (fun _ _=>rfl)))
   (kab (kaR PassesOwn.never rfl (kaz (K:=K) (pv 8)) (pgn (i:=12) qt.nd)
   (kaf (ps_if (kap op_gt (pe_ix (r:=rIxL K) kaw (pv 2) (pv 12) (fun _ _=>rfl)) (pe_ix (r:=rIxL K) kaw (pv 2) (pv 11) (fun _ _=>rfl)) (kav _)) (kaf (psl (i:=11) qt.nd (pv 12))) (kau))))
   (kab (kaM (pe_bm NQ PySem.F.slot_list_remove PySem.F.type_list_remove kj3 (pv 8) (kaa (pv 11) kae)))
   (kaf (kaM (pe_bm NQ N7 N8 kaU (pv 9) (kaa (pv 11) kae))))))))
   (kab (kcs (N:=["_law_piece","_law_prices"]) (CompScope.of (N:=["_law_piece","_law_prices"]) (cap:=[none,some 2]) (kah ka7).names ["_law_voucher","_law_pieces","_law_prices","_law_owners","_law_told","_law_own","_law_line","_law_some","_law_left","_law_group","_law_k","_law_dearest","_law_piece"] rfl rfl (by decide +kernel)) rfl (kaz (K:=K) (pv 9)) (fun _ _ _ _=>pgn (i:=0) (show(["_law_piece","_law_prices"]:List Str).Nodup by decide +kernel)) (fun _ _ _ _=>(pe_ix (r:=rIxL K) kaw (pv 1) (pv 0) (fun _ _=>rfl))) (pgn (i:=5) qt.nd))
   (kaf (ps_if (kaN (kan (r:=rIsi K) kaK (by rfl) W.B.isi b_isi (kaa (pv 0) (kaa (kbC (v:=.ref d.ql) (by rfl) W.Xg rfl) kae)))) (kaf (kcw (pe_ix (r:=rIxL K) kaw (pv 5) (pe_un khO kag) (fun _ _=>rfl)) (kdo (pv 4) (pe_ix (r:=rIxL K) kaw (pv 9) (pe_un khO kag) (fun _ _=>rfl)) set_list))) (kaf (kaM (pcl QQ hr W.Qk (kaa (pv 4) (kaa (pv 9) (kaa (pcl Qf hr W.qW (kaa (kan (ke8 rfl) (by rfl) W.B.max b_max (kaa kag (kaa (pe_op kcK (kan (r:=rSum K) (ka2 rfl) (by rfl) W.B.sum b_sum (kaa (pv 5) kae)) (kaj (K:=K) (pv 0) rfl)) kae))) (kaa (pv 5) kae))) kae)))))))))))))) (kau))))))))
   (kaf (kas (pv 4))))),?_⟩
  have I:=kiB W hh
  have lpr:S.pr.length≤720:=by rw[wf.lp];exact wf.np
  have lab:ab.length≤720:=Nk (kj2 hnd hlt) lpr
  have hsum:=keE wf lab hlt
  have hnn:Nn (qs S.pr ab):=qs_nn wf.nn ab
  have hs0:=kbr hnn
  have lq:(qs S.pr ab).length=ab.length:=ka5 _ _
  refine⟨_,rfl,pr,rfl,⟨_,SqL.of hpr⟩,kaL (xs:=S.pr.map V.int) (fun i σ ys H'=>H'=H∧ys=(Nh i (0:Int)).map V.int∧∃v,σ=[v]) ⟨rfl,rfl,none,rfl⟩ (by rw[Nb];exact Nq (kar (by omega))) ?_ ?_ ?_⟩
  ·rintro i σ ys H' hi ⟨rfl,rfl,v,rfl⟩
   exact⟨SqL.of hpr,by simp⟩
  ·rintro i x σ ys H' hx ⟨rfl,rfl,v,rfl⟩
   exact⟨rfl,by rw[MB];simp,_,rfl⟩
  rintro σ ys H' ⟨rfl,rfl,v',rfl⟩ tl ftl
  rw[Nb,←khb S.pr.length []]
  exists H',tl,H1,n1,e1,ftl
  have np1:tl≠pc:=(kai hpc ftl).symm
  have npr:tl≠pr:=(kai hpr ftl).symm
  have now:tl≠ow:=(kai how ftl).symm
  have hpc1:=n1 _ _ hpc
  have hpr1:=n1 _ _ hpr
  refine⟨_,rfl,pc,rfl,⟨_,SqL.of hpc1⟩,kaL (xs:=ab.map iV) (fun j σ ys H'=>H'=H1∧ys=(qs S.pr (ab.take j)).map V.int∧∃v,σ=[v,some (.ref pr)]) ⟨rfl,rfl,none,rfl⟩ (by rw[Nb];exact Nq (kar (by omega))) ?_ ?_ ?_⟩
  ·rintro i σ ys H'' hi ⟨rfl,rfl,_⟩
   refine⟨SqL.of hpc1,?_⟩
   rw[Nb] at hi⊢
   rw[ka5,Nv]
   omega
  ·rintro i y σ ys H'' hy ⟨rfl,rfl,v',rfl⟩
   obtain⟨n,en,rfl⟩:=kba hy
   refine⟨_,rfl,_,rfl,pr,_,_,_,rfl,rfl,SqL.of hpr1,ke1 (hlt n (Nj en)),rfl,?_,_,rfl⟩
   rw[take_snoc en,kcR,Nl]
   rfl
  rintro σ ys H'' ⟨rfl,rfl,v',rfl⟩ on fon
  rw[Nb,ND]
  exists H'',on,H2,n2,e2,fon
  have s2:=n1.trans n2
  have e12:=n2 _ _ e1
  have non_:tl≠on:=kai e1 fon
  have hpc2:=s2 _ _ hpc
  have hpr2:=s2 _ _ hpr
  have hv2:=s2 _ _ hv
  clear n1 n2 e1 hpc1 hpr1 fon
  refine⟨_,rfl,_,_,_,_,rfl, .inr ⟨_,rfl⟩,TyOf.ins hv2 (cl_of W hh) I.ha I.hn I.ht I.hm,kkc W hh,_,rfl,?_⟩
  by_cases hg:∃m,GrpS so m
  ·obtain⟨mz,hgs⟩:=hg
   have aO:khK so=false:=by rcases hgs with rfl|⟨p,rfl⟩ <;> rfl
   have aS:kdD so=false:=by rcases hgs with rfl|⟨p,rfl⟩ <;> rfl
   have hmany:fsv.lookup ("many" :Str)=some (.int mz):=by
    rcases hgs with rfl|⟨p,rfl⟩
    ·exact hso
    ·exact hso.1
   have hna:NoAttr K (clsOf d so) "many":=by
    rcases hgs with rfl|⟨p,rfl⟩
    ·exact W.Xh
    ·exact W.Xj
   have hmz:2≤mz∧mz≤20:=by
    rcases hgs with rfl|⟨p,rfl⟩
    ·exact vo.so
    ·exact⟨vo.so.1,vo.so.2.1⟩
   have hkt:Mz K (.ref (clsOf d so)) [.ref d.ql, .ref d.qj]=some true:=by
    have e1:=kbt W hh
    have e2:=kc4 W hh
    unfold Mz Mz Mz
    rw[e1,e2]
    rcases hgs with rfl|⟨p,rfl⟩ <;> rfl
   obtain⟨m,rfl⟩:=Int.eq_ofNat_of_zero_le (show 0≤mz by omega)
   have hm0:0<m:=by omega
   have hinj:∀i j:Nat,i<ab.length→j<ab.length→ab.getD i 0=ab.getD j 0→i=j:=fun i j hi hj e=>by
    rw[Nt,Nt,N5 hi,N5 hj] at e
    exact(EW hnd).mp e
   have hgat:∀j:Nat,j<ab.length→ab.getD j 0<S.pr.length∧S.pr.getD (ab.getD j 0) 0=(qs S.pr ab).getD j 0:=fun j hj=>by
    obtain⟨x,ex⟩:=at_of hj
    have e:ab.getD j 0=x:=by rw[Nt,ex];rfl
    refine⟨by rw[e];exact hlt x (Nj ex),?_⟩
    rw[e,Nt (l:=qs S.pr ab)]
    unfold qs
    rw[Ni,ex]
    rfl
   have habm:ab=(Nf ab.length).map fun j=>ab.getD j 0:=by
    apply N6
    ·simp
    ·intro j h1 h2
     simp[Nt,h1]
   show if khK so=true then _ else _
   rw[aO]
   refine iteF ⟨_,rfl,_,_,_,_,rfl, .inr ⟨_,rfl⟩,TyOf.ins hv2 (cl_of W hh) I.ha I.hn I.ht I.hm,kbm W hh,_,rfl,?_⟩
   show if kdD so=true then _ else _
   rw[aS]
   refine iteF ⟨_,rfl,_,_,_,_,rfl, .inr ⟨_,rfl⟩,TyOf.ins hv2 (cl_of W hh) I.ha I.hn I.ht I.hm,kbm W hh,_,rfl,?_⟩
   show if kdD so=true then _ else _
   rw[aS]
   refine iteF ⟨_,rfl,(by show 2≤sizeLine;decide),fun tq ftq=>?_⟩
   exists H2,tq,H3,n3,e3,ftq
   refine⟨_,tq,_,[d.ql,d.qj],true,rfl,SqT.of e3,TyOf.ins (n3 _ _ hv2) (cl_of W hh) I.ha I.hn I.ht I.hm,hkt,_,rfl,iteT ?_⟩
   refine⟨_,rfl,pc,_,rfl, .inl (SqL.of (n3 _ _ hpc2)),fun lf flf=>?_⟩
   exists H3,lf,H4,n4,e4,flf
   have flf':H' lf=none:=(s2.trans n3).free flf
   have s4:=(s2.trans n3).trans n4
   have etl4:=(n3.trans n4) _ _ e12
   have ntl:tl≠lf:=kai (n3 _ _ e12) flf
   generalize hqq:qs S.pr ab=q at *
   have e4':H4 lf=some (.lst (((Nf q.length).map fun j=>ab.getD j 0).map iV)):=by rw[e4,lq,←habm]
   have etl4':H4 tl=some (.lst ((gtold so S.pr.length (fun j=>ab.getD j 0) q m []).map V.int)):=by
    rw[etl4]
    have e0:grp m []=[]:=by simp[grp]
    rcases hgs with rfl|⟨p,rfl⟩
    ·unfold gtold
     rw[e0]
     rfl
    ·unfold gtold
     rw[e0]
     rfl
   refine kfJ (fun σ Hx=>Same H' Hx∧∃(c:Nat)(row left:List Nat)(v5 v9 v10 v11 v12:Option V),Sel q row left∧row.length=c*m∧Hx lf=some (.lst ((left.map fun j=>ab.getD j 0).map iV))∧Hx tl=some (.lst ((gtold so S.pr.length (fun j=>ab.getD j 0) q m row).map V.int))∧σ=[some (.ref v),some (.ref pc),some (.ref pr),some (.ref ow),some (.ref tl),v5,none,none,some (.ref lf),v9,v10,v11,v12])
    (fun _ Hx=>match Hx lf with|some (.lst xs)=>xs.length|_=>0) ⟨s4,0,[],Nf q.length,_,none,none,none,none,Sel.start q,by simp,e4',etl4',rfl⟩ ?_ ?_
   ·rintro σ Hx ⟨sx,c,row,left,v5,v9,v10,v11,v12,sel,hrow,elf,etl,rfl⟩
    refine⟨_,rfl,lf,_,rfl, .inl (SqL.of elf),_,rfl,v,clsOf d so,dxv,fsv,_,rfl,sx _ _ hv,cl_of W hh,hna,hmany,_,_,rfl,rfl,_,rfl,?_⟩
    rw[Nb,Nb]
    by_cases hge:((left.length:Nat):Int)≥((m:Nat):Int)
    ·rw [decide_eq_true hge]
     refine iteT ⟨by decide,fun gp fgp=>?_⟩
     have nlf:lf≠gp:=kai elf fgp
     have ntg:tl≠gp:=kai etl fgp
     have fgp':H' gp=none:=sx.free fgp
     exists Hx,gp,H5,n5,e5,fgp
     have s5:=sx.trans n5
     refine⟨_,rfl,v,clsOf d so,dxv,fsv,_,rfl,s5 _ _ hv,cl_of W hh,hna,hmany,_,rfl,by omega,by omega,?_⟩
     rw[Int.toNat_natCast]
     refine kbb (fun i σ Hy=>Same H' Hy∧∃(gr left':List Nat)(v10 v11 v12:Option V),Sel q (row++gr) left'∧gr.length=i∧left'.length+i=left.length∧Hy lf=some (.lst ((left'.map fun j=>ab.getD j 0).map iV))∧Hy gp=some (.lst ((gr.map fun j=>ab.getD j 0).map iV))∧Hy tl=some (.lst ((gtold so S.pr.length (fun j=>ab.getD j 0) q m row).map V.int))∧σ=[some (.ref v),some (.ref pc),some (.ref pr),some (.ref ow),some (.ref tl),v5,none,none,some (.ref lf),some (.ref gp),v10,v11,v12])
      ⟨s5,[],left,_,_,_,by rw[Mv];exact sel,rfl,rfl,n5 _ _ elf,e5,n5 _ _ etl,rfl⟩ ?_ ?_
     ·rintro i σ Hy hi ⟨sy,gr,left',v10,v11,v12,sel',hgr,hll,elf',egp,etl',rfl⟩
      rw[Int.zero_add]
      obtain⟨t0,et0⟩:=at_of (xs:=left') (i:=0) (by omega)
      refine⟨_,rfl,lf,_,_,_,rfl,rfl,SqL.of elf',(show atI _ ((0:Nat):Int)=_ from kaA (v:=iV (ab.getD t0 0)) (by rw[Ni,Ni,et0];rfl)),?_⟩
      have hpry:=sy _ _ hpr
      refine⟨_,rfl,lf,rfl,⟨_,SqL.of elf'⟩,kaZ (xs:=(left'.map fun j=>ab.getD j 0).map iV) (fun j σ Hz=>Hz=Hy∧∃(top:Nat)(v12:Option V),TopI q left' j top∧σ=[some (.ref v),some (.ref pc),some (.ref pr),some (.ref ow),some (.ref tl),v5,none,none,some (.ref lf),some (.ref gp),some (iV i),some (iV (ab.getD top 0)),v12])
       ⟨rfl,t0,_,TopI.start et0,rfl⟩ (fun j σ Hz _ h=>by rw[h.1];exact SqL.of elf') ?_ ?_⟩
      ·rintro j y σ Hz hy ⟨rfl,top,v12',ht,rfl⟩
       obtain⟨x',ex',rfl⟩:=kba hy
       obtain⟨x,ex,rfl⟩:∃x,left'[j]?=some x∧x'=ab.getD x 0:=by
        rw[Ni] at ex'
        cases e:left'[j]? with
        |none=>rw[e] at ex';cases ex'
        |some x=>rw[e] at ex';exact⟨x,rfl,(Option.some.inj ex').symm⟩
       have hx:=sel'.lt (Nj ex)
       have htm:top∈left':=by obtain⟨⟨k,ek,_⟩,_⟩:=ht;exact Nj ek
       have htl:=sel'.lt htm
       rw[lq] at hx htl
       obtain⟨x1,x2⟩:=hgat x hx
       obtain⟨y1,y2⟩:=hgat top htl
       have hmo:=ht.more sel'.inc ex
       refine⟨_,rfl,_,rfl,pr,_,_,_,rfl,rfl,SqL.of hpry,ke1 x1,_,rfl,_,rfl,pr,_,_,_,rfl,rfl,SqL.of hpry,ke1 y1,_,_,rfl,rfl,_,rfl,?_⟩
       rw[x2,y2]
       by_cases hc:q.getD top 0<q.getD x 0
       ·rw[if_pos hc] at hmo
        rw[show decide (q.getD x 0 > q.getD top 0)=true from decide_eq_true hc]
        exact iteT ⟨_,rfl,rfl,x,_,hmo,rfl⟩
       ·rw[if_neg hc] at hmo
        rw[show decide (q.getD x 0 > q.getD top 0)=false from decide_eq_false hc]
        exact iteF ⟨rfl,top,_,hmo,rfl⟩
      rintro σ Hz ⟨rfl,top,v12',ht,rfl⟩
      rw[Nb,Nb] at ht
      obtain⟨sel2,hm⟩:=sel'.step ht
      have htl:=sel'.lt hm
      rw[lq] at htl
      have elf2:Hz lf=some (.lst (((left'.map fun j=>ab.getD j 0).map fun(i:Nat)=>(i:Int)).map V.int)):=by rw[elf',NH (g:=V.int)];rfl
      refine⟨_,rfl, .inl ⟨rfl,_,SqL.of elf'⟩,_,rfl,lf,_,_,rfl,rfl,elf2,Ny.mpr ⟨ab.getD top 0,Ny.mpr ⟨top,hm,rfl⟩,rfl⟩,?_⟩
      rw[kfG,kgV (f:=fun j=>ab.getD j 0) (t:=top) (fun z hz e=>hinj z top (by have:=sel'.lt hz;omega) htl e)]
      have elf3:(upd Hz lf (.lst ((((left'.erase top).map fun j=>ab.getD j 0).map fun(i:Nat)=>(i:Int)).map V.int))) lf=some (.lst (((left'.erase top).map fun j=>ab.getD j 0).map iV)):=by rw[kad,NH (g:=V.int)];rfl
      have egp3:(upd Hz lf (.lst ((((left'.erase top).map fun j=>ab.getD j 0).map fun(i:Nat)=>(i:Int)).map V.int))) gp=some (.lst ((gr.map fun j=>ab.getD j 0).map iV)):=by rw[kak nlf.symm];exact egp
      have etl3:(upd Hz lf (.lst ((((left'.erase top).map fun j=>ab.getD j 0).map fun(i:Nat)=>(i:Int)).map V.int))) tl=some (.lst ((gtold so S.pr.length (fun j=>ab.getD j 0) q m row).map V.int)):=by rw[kak ntl];exact etl'
      have s6:Same H' (upd Hz lf (.lst ((((left'.erase top).map fun j=>ab.getD j 0).map fun(i:Nat)=>(i:Int)).map V.int))):=kaq flf' sy (nx elf')
      generalize upd Hz lf (.lst ((((left'.erase top).map fun j=>ab.getD j 0).map fun(i:Nat)=>(i:Int)).map V.int))=H6 at *
      refine⟨_,rfl, .inl ⟨rfl,_,SqL.of egp3⟩,_,rfl,gp,_,_,rfl,rfl,egp3,kar (by rw[Nb,Nb];omega),?_⟩
      have her:=Dc hm
      have hpos:=DM hm
      refine⟨kaq fgp' s6 (nx egp3),gr++[top],left'.erase top,_,_,_,by rw[←Mc];exact sel2,by rw[Nr,hgr];rfl,by omega,by rw[kak nlf];exact elf3,by rw[kad,Nl,Nl];rfl,by rw[kak ntg];exact etl3,rfl⟩
     rintro σ Hy ⟨sy,gr,left',v10',v11',v12',sel',hgr,hll,elf',egp,etl',rfl⟩
     have hgrl:∀j∈gr,j<ab.length:=fun j hj=>by rw[←lq];exact sel'.ltr (NS row hj)
     have hgrm:∀z∈gr.map fun j=>ab.getD j 0,z<S.pr.length:=fun z hz=>by
      obtain⟨j,hj,rfl⟩:=Ny.mp hz
      exact(hgat j (hgrl j hj)).1
     have eqq:qs S.pr (gr.map fun j=>ab.getD j 0)=qs q gr:=by rw[←hqq,qs_qs hgrl]
     have hpry:=sy _ _ hpr
     refine⟨_,rfl,gp,rfl,⟨_,SqL.of egp⟩,kaL (xs:=(gr.map fun j=>ab.getD j 0).map iV) (fun j σ ys Hz=>Hz=Hy∧ys=(qs S.pr ((gr.map fun j=>ab.getD j 0).take j)).map V.int∧∃v,σ=[v,some (.ref pr)]) ⟨rfl,rfl,none,rfl⟩ (by rw[Nb,Nb];exact Nq (kar (by omega))) ?_ ?_ ?_⟩
     ·rintro j σ ys Hz hj ⟨rfl,rfl,_⟩
      refine⟨SqL.of egp,?_⟩
      rw[Nb] at hj⊢
      rw[ka5,Nv]
      omega
     ·rintro j y σ ys Hz hy ⟨rfl,rfl,v',rfl⟩
      obtain⟨n,en,rfl⟩:=kba hy
      refine⟨_,rfl,_,rfl,pr,_,_,_,rfl,rfl,SqL.of hpry,ke1 (hgrm n (Nj en)),rfl,?_,_,rfl⟩
      rw[take_snoc en,kcR,Nl]
      rfl
     rintro σ ys Hz ⟨rfl,rfl,v',rfl⟩ o2 fo2
     rw[Nb,ND,eqq]
     exists Hz,o2,H6,n6,e6,fo2
     have s6:=sy.trans n6
     have egp6:=n6 _ _ egp
     have elf6:=n6 _ _ elf'
     have etl6:=n6 _ _ etl'
     have hrow2:(row++gr).length=(c+1)*m:=by rw[Nr,hrow,hgr,MR,MS]
     have hgs2:grp m (row++gr)=grp m row++[gr]:=kk9 hm0 hrow hgr
     have hndr:(row++gr).Nodup:=by
      have:=sel'.pm.nodup_iff.mpr Eb
      exact(Eg.mp this).1
     have fin:∀Hw,Same H' Hw→Hw lf=some (.lst ((left'.map fun j=>ab.getD j 0).map iV))→Hw tl=some (.lst ((gtold so S.pr.length (fun j=>ab.getD j 0) q m (row++gr)).map V.int))→∀v5' v10' v11' v12':Option V,(Same H' Hw∧∃(c:Nat)(row left:List Nat)(v5 v9 v10 v11 v12:Option V),Sel q row left∧row.length=c*m∧Hw lf=some (.lst ((left.map fun j=>ab.getD j 0).map iV))∧Hw tl=some (.lst ((gtold so S.pr.length (fun j=>ab.getD j 0) q m row).map V.int))∧([some (.ref v),some (.ref pc),some (.ref pr),some (.ref ow),some (.ref tl),v5',none,none,some (.ref lf),some (.ref gp),v10',v11',v12']:St)=[some (.ref v),some (.ref pc),some (.ref pr),some (.ref ow),some (.ref tl),v5,none,none,some (.ref lf),v9,v10,v11,v12])∧(match Hw lf with|some (.lst xs)=>xs.length|_=>0)<(match Hx lf with|some (.lst xs)=>xs.length|_=>0):=fun Hw sw ew1 ew2 _ _ _ _=>by
      refine⟨⟨sw,c+1,row++gr,left',_,_,_,_,_,sel',hrow2,ew1,ew2,rfl⟩,?_⟩
      rw[ew1,elf]
      show((left'.map fun j=>ab.getD j 0).map iV).length<((left.map fun j=>ab.getD j 0).map iV).length
      rw[Nb,Nb,Nb,Nb]
      omega
     refine⟨_,rfl,_,_,_,_,rfl, .inr ⟨_,rfl⟩,TyOf.ins (s6 _ _ hv) (cl_of W hh) I.ha I.hn I.ht I.hm,kbt W hh,_,rfl,?_⟩
     rcases hgs with rfl|⟨pz,rfl⟩
     ·have hg0:0<gr.length:=by omega
      have hla:=kk0 hg0
      have hlm:=Nj hla
      have hlt1:=hgrl _ hlm
      have al:atI ((gr.map fun j=>ab.getD j 0).map iV) (-1)=some (iV (ab.getD (gr.getLastD 0) 0)):=kfb (by rw[Nb,Nb,Ni,Ni,hla];rfl) (by rw[Nb,Nb];exact hg0)
      have ao:atI ((qs q gr).map V.int) (-1)=some (V.int (q.getD (gr.getLastD 0) 0)):=kfb (by rw[Nb,ka5,Ni];unfold qs;rw[Ni,hla];rfl) (by rw[Nb,ka5];exact hg0)
      refine iteT ⟨_,rfl,1,rfl,o2,_,_,_,rfl,rfl,SqL.of e6,ao,_,rfl,_,rfl,1,rfl,gp,_,_,_,rfl,rfl,SqL.of egp6,al,tl,_,_,ab.getD (gr.getLastD 0) 0,rfl,rfl,etl6,kca (by rw[Nb];show _<(spr _ _ _).length;rw[kcC];exact(hgat _ hlt1).1),?_⟩
      rw[←Md]
      refine fin _ (kaq ftl s6 (nx etl6)) (by rw[kak ntl.symm];exact elf6) ?_ _ _ _ _
      rw[kad]
      show some (HO.lst (((spr S.pr.length ((lasts (grp m row)).map fun j=>ab.getD j 0) (qs q (lasts (grp m row)))).set _ _).map V.int))=some (HO.lst ((spr S.pr.length ((lasts (grp m (row++gr))).map fun j=>ab.getD j 0) (qs q (lasts (grp m (row++gr))))).map V.int))
      have hnl:=kis (f:=fun j=>ab.getD j 0) (keV hm0 hndr) fun x hx y hy e=>hinj x y (by have:=sel'.ltr (kgQ hm0 hx);omega) (by have:=sel'.ltr (kgQ hm0 hy);omega) e
      rw[hgs2,kfA,Nl,List.map_singleton] at hnl
      rw[hgs2,kfA,Nl,kcR,kfN (by rw[Nb,ka5]) hnl (hgat _ hlt1).1]
      rfl
     ·have hpz:0≤pz∧pz≤1000000000000:=⟨vo.so.2.2.1,vo.so.2.2.2⟩
      have gnn:Nn (qs q gr):=by rw[←eqq];exact qs_nn wf.nn _
      have gs0:=kbr gnn
      have gsl:(qs q gr).sum≤720000000000000:=by rw[←eqq];exact keE wf (by rw[Nb];omega) hgrm
      refine iteF ⟨_,rfl,_,rfl,_,rfl,o2,_,rfl,SqL.of e6,_,rfl,v,d.qj,dxv,fsv,_,rfl,s6 _ _ hv,W.qj.cl,W.Xk,hso.2,_,_,rfl,rfl,_,_,rfl,_,rfl,?_⟩
      rw[show(if(qs q gr).sum-pz > 0 then(qs q gr).sum-pz else 0)=max 0 ((qs q gr).sum-pz) by split <;> omega]
      refine⟨_,o2,qs q gr,rfl,SqL.of e6,gnn,by omega,by omega,by omega,by rw[ka5];omega,fun p fp=>?_⟩
      have n7:=kal (o:=.lst ((dl (max 0 ((qs q gr).sum-pz)) (qs q gr)).map V.int)) fp
      have e7:(upd H6 p (.lst ((dl (max 0 ((qs q gr).sum-pz)) (qs q gr)).map V.int))) p=some (.lst ((dl (max 0 ((qs q gr).sum-pz)) (qs q gr)).map V.int)):=kad
      generalize upd H6 p (.lst ((dl (max 0 ((qs q gr).sum-pz)) (qs q gr)).map V.int))=H7 at *
      have efl:(grp m row).flatten=row:=by rw[kf8,hrow,ER _ hm0,←hrow,ND]
      have hnl:=kis (f:=fun j=>ab.getD j 0) hndr fun x hx y hy e=>hinj x y (by have:=sel'.ltr hx;omega) (by have:=sel'.ltr hy;omega) e
      rw[Nl] at hnl
      have hll2:(grp m row).flatten.length=((grp m row).map fun o=>dl (max 0 ((qs q o).sum-pz)) (qs q o)).flatten.length:=by
       generalize grp m row=gg
       clear hnl
       induction gg with
       |nil=>rfl
       |cons g gg ih=>rw[Nw,NK,NK,Nr,Nr,kcb,ka5,ih]
      refine⟨tl,gp,p,S.pr.length,_,_,_,_,rfl,n7 _ _ etl6,n7 _ _ egp6,e7,ntg,kai etl6 fp,by rw[Nb];exact hll2,by rw[Nb,kcb,ka5],by rw[efl];exact hnl,hgrm,by rw[Nb];omega,?_⟩
      refine fin _ (kaq ftl (s6.trans n7) (nx (n7 _ _ etl6))) (by rw[kak ntl.symm];exact n7 _ _ elf6) ?_ _ _ _ _
      rw[kad]
      show _=some (HO.lst ((spr S.pr.length ((grp m (row++gr)).flatten.map fun j=>ab.getD j 0) ((grp m (row++gr)).map fun o=>dl (max 0 ((qs q o).sum-pz)) (qs q o)).flatten).map V.int))
      rw[hgs2,Mm,ES,Nl,Nl (l₁:=grp m row),Mm,List.map_singleton,ES]
    ·rw[decide_eq_false hge]
     refine iteF ⟨_,rfl,k Hx tl sx ftl ?_⟩
     rw[etl,kkk hgs hm0 hnd lq sel hrow (by omega)]
   ·rintro σ Hx Q' Q'' hq ⟨z1,z2,z3,z4,z5,z6,z7,z8,z9,z10,z11,z12,z13,z14,z15,z16,z17,z18,z19,z20,z21,z22,b,e,z⟩
    exact⟨z1,z2,z3,z4,z5,z6,z7,z8,z9,z10,z11,z12,z13,z14,z15,z16,z17,z18,z19,z20,z21,z22,b,e,hq _ _ z⟩
  cases so with
  |off am=>
   have ha:0≤am∧am≤1000000000000:=vo.so
   refine iteT ⟨_,rfl,_,rfl,_,rfl,v,d.c_Off,dxv,fsv,_,rfl,hv2,W.c_Off.cl,W.Xb,hso,_,rfl,on,_,rfl,SqL.of e2,_,_,rfl,_,rfl,?_⟩
   rw[show(if(qs S.pr ab).sum<am then(qs S.pr ab).sum else am)=min am (qs S.pr ab).sum by split <;> omega]
   refine⟨_,on,qs S.pr ab,rfl,SqL.of e2,hnn,by omega,by omega,by omega,by omega,fun p fp=>?_⟩
   have n3:=kal (o:=.lst ((dl (min am (qs S.pr ab).sum) (qs S.pr ab)).map V.int)) fp
   have e3:(upd H2 p (.lst ((dl (min am (qs S.pr ab).sum) (qs S.pr ab)).map V.int))) p=some (.lst ((dl (min am (qs S.pr ab).sum) (qs S.pr ab)).map V.int)):=kad
   generalize upd H2 p (.lst ((dl (min am (qs S.pr ab).sum) (qs S.pr ab)).map V.int))=H3 at *
   refine⟨tl,pc,p,S.pr.length,[],ab,[],_,rfl,n3 _ _ e12,n3 _ _ hpc2,e3,np1,kai e12 fp,rfl,by rw[kcb,lq],by simpa using hnd,hlt,by omega,?_⟩
   exact⟨_,rfl,k _ tl (kaq ftl (s2.trans n3) (nx (n3 _ _ e12))) ftl kad⟩
  | share sh bl=>
   have hsh:1≤sh∧sh≤1000:=vo.so
   have hshl:=kdk hs0 hsh.1 hsh.2
   refine iteF ⟨_,rfl,_,_,_,_,rfl, .inr ⟨_,rfl⟩,TyOf.ins hv2 (cl_of W hh) I.ha I.hn I.ht I.hm,kbm W hh,_,rfl,iteT ⟨_,rfl,v,d.qi,dxv,fsv,_,rfl,hv2,W.qi.cl,W.Xe,hso.2,bl,rfl,?_⟩⟩
   cases bl with
   |false=>
    refine iteT ⟨_,rfl,_,rfl,_,rfl,on,_,rfl,SqL.of e2,_,rfl,v,d.qi,dxv,fsv,_,rfl,hv2,W.qi.cl,W.QC,hso.1,_,_,rfl,rfl, .inl ⟨by omega,by omega⟩,_,_,rfl,rfl,⟨by decide,by decide⟩,_,rfl,?_⟩
    refine⟨_,on,qs S.pr ab,rfl,SqL.of e2,hnn,by omega,by omega,by omega,by omega,fun p fp=>?_⟩
    have n3:=kal (o:=.lst ((dl ((qs S.pr ab).sum*sh/1000) (qs S.pr ab)).map V.int)) fp
    have e3:(upd H2 p (.lst ((dl ((qs S.pr ab).sum*sh/1000) (qs S.pr ab)).map V.int))) p=some (.lst ((dl ((qs S.pr ab).sum*sh/1000) (qs S.pr ab)).map V.int)):=kad
    generalize upd H2 p (.lst ((dl ((qs S.pr ab).sum*sh/1000) (qs S.pr ab)).map V.int))=H3 at *
    refine⟨tl,pc,p,S.pr.length,[],ab,[],_,rfl,n3 _ _ e12,n3 _ _ hpc2,e3,np1,kai e12 fp,rfl,by rw[kcb,lq],by simpa using hnd,hlt,by omega,?_⟩
    exact⟨_,rfl,k _ tl (kaq ftl (s2.trans n3) (nx (n3 _ _ e12))) ftl kad⟩
   | true=>
    refine iteF ⟨_,rfl,_,_,_,_,rfl, .inr ⟨_,rfl⟩,TyOf.ins hv2 (cl_of W hh) I.ha I.hn I.ht I.hm,kbm W hh,_,rfl,iteT ?_⟩
    refine⟨(by show 1≤sizeLine;decide),fun l0 fl0=>?_⟩
    exists H2,l0,H3,n3,e3,fl0
    have how3:H3 ow=some (.lst (S.ow.map iV)):=(s2.trans n3) _ _ how
    refine⟨_,rfl,l0,ow,_,_,rfl,rfl,e3,how3,Nq (kar (by rw[Nb];have:=wf.np;rw[Ml];omega)),fun l1 fl1=>?_⟩
    exists H3,l1,H4,n4,e4,fl1
    have e4':H4 l1=some (.lst (((0:Int)::S.ow.map fun z:Nat=>(z:Int)).map V.int)):=by rw[e4,Nw,NH];rfl
    refine⟨l1,_,rfl,SqL.of e4',by simp,fun mx hmx hub=>?_⟩
    have hmx0:0≤mx:=hub 0 NJ
    have hmx12:mx<12:=by
     rcases NF.mp hmx with e|e
     ·omega
     ·obtain⟨z,hz,rfl⟩:=Ny.mp e
      obtain⟨j,ej⟩:=Mp.mp hz
      have:=wf.line ej
      have:=wf.nl
      omega
    obtain⟨mxn,rfl⟩:=Int.eq_ofNat_of_zero_le hmx0
    have hbey:∀i∈ab,S.ow.getD i 0<mxn+1:=fun i hi=>by
     obtain⟨z,ez⟩:=at_of (xs:=S.ow) (i:=i) (by rw[←wf.lp];exact hlt i hi)
     have:=hub (z:Int) (NC _ (Ny.mpr ⟨z,Nj ez,rfl⟩))
     rw[Nt,ez]
     show z<mxn+1
     omega
    refine⟨_,_,rfl,rfl,_,rfl,by omega,by omega,?_⟩
    rw[show((1:Int)+((mxn:Nat):Int)).toNat=mxn+1 by omega]
    have e14:=(n3.trans n4) _ _ e12
    have s4:=(s2.trans n3).trans n4
    have hwl:∀i∈ab,S.ow.getD i 0<S.mkd.length:=fun i hi=>by
     obtain⟨z,ez⟩:=at_of (xs:=S.ow) (i:=i) (by rw[←wf.lp];exact hlt i hi)
     rw[Nt,ez,wf.lm]
     exact wf.line ez
    have efin:spr S.pr.length (owns (mxn+1) S.ow ab).flatten ((owns (mxn+1) S.ow ab).map fun o=>dl ((qs S.pr o).sum*sh/1000) (qs S.pr o)).flatten=spr S.pr.length ab (want (.share sh true) S.mkd.length (ab.map fun i=>S.ow.getD i 0) (qs S.pr ab)):=by
     show _=spr S.pr.length ab (gdl (fun z=>z*sh/1000) (kd4 S.mkd.length (ab.map fun i=>S.ow.getD i 0)) (qs S.pr ab))
     rw[ke9 _ hnd]
     have f0:(fun o=>dl ((qs S.pr o).sum*sh/1000) (qs S.pr o)) []=[]:=rfl
     obtain⟨a1,a2⟩:=kdh (F:=fun o=>dl ((qs S.pr o).sum*sh/1000) (qs S.pr o)) f0 hbey (S.mkd.length)
     obtain⟨b1,b2⟩:=kdh (F:=fun o=>dl ((qs S.pr o).sum*sh/1000) (qs S.pr o)) f0 hwl (mxn+1)
     rw[←a1,←a2,←b1,←b2,Nat.add_comm]
    rw[←efin] at k
    clear efin hbey hub hmx e4 e4' how3
    refine kbb (fun i σ Hi=>Same H' Hi∧Hi tl=some (.lst ((spr S.pr.length (owns i S.ow ab).flatten ((owns i S.ow ab).map fun o=>dl ((qs S.pr o).sum*sh/1000) (qs S.pr o)).flatten).map V.int))∧∃v5 v6 v7:Option V,σ=[some (.ref v),some (.ref pc),some (.ref pr),some (.ref ow),some (.ref tl),v5,v6,v7,none,none,none,none,none])
     ⟨s4,e14,_,none,none,rfl⟩ ?_ ?_
    ·rintro i σ Hi hi ⟨si,ei,v5,v6,v7,rfl⟩
     rw[Int.zero_add]
     have hpci:=si _ _ hpc
     have howi:=si _ _ how
     have hpri:=si _ _ hpr
     refine⟨_,rfl,pc,rfl,⟨_,SqL.of hpci⟩,kja (xs:=ab.map iV) (fun j σ ys Hx=>Hx=Hi∧ys=((ab.take j).filter fun z=>S.ow.getD z 0==i).map iV∧∃v0:Option V,σ=[v0,some (.ref ow),some (iV i)]) ⟨rfl,rfl,none,rfl⟩ (by rw[Nb];exact Nq (kar (by omega))) ?_ ?_ ?_⟩
     ·rintro j σ ys Hx hj ⟨rfl,rfl,v0,rfl⟩
      exact⟨SqL.of hpci,by rw[Nb];exact Nk (MH _ _) (by rw[Nv];omega)⟩
     ·rintro j y σ ys Hx hy ⟨rfl,rfl,v0,rfl⟩
      obtain⟨n,en,rfl⟩:=kba hy
      obtain⟨z,ez⟩:=at_of (xs:=S.ow) (i:=n) (by rw[←wf.lp];exact hlt n (Nj en))
      have ezd:S.ow.getD n 0=z:=by rw[Nt,ez];rfl
      refine⟨_,rfl,_,rfl,ow,_,_,_,rfl,rfl,SqL.of howi,kaA (v:=iV z) (by rw[Ni,ez];rfl),_,rfl,rfl,_,rfl,?_⟩
      rw[kfC,take_snoc en,MI]
      by_cases hz:z=i
      ·rw[decide_eq_true hz]
       refine iteT ⟨_,rfl,rfl,?_,_,rfl⟩
       rw[Ej,ezd,show(z==i)=true by simp[hz],if_pos rfl,Ek,Nl]
       rfl
      ·rw[decide_eq_false hz]
       refine iteF ⟨rfl,?_,_,rfl⟩
       rw[Ej,ezd,show(z==i)=false by simp[hz],if_neg Np,Ek,Mv]
     rintro σ ys Hx ⟨rfl,rfl,v0,rfl⟩ sm fsm
     rw[Nb,ND]
     generalize hog:(ab.filter fun z=>S.ow.getD z 0==i)=og
     have hogl:og.length≤720:=by rw[←hog];exact Nk (MH _ _) lab
     have hogm:∀z∈og,z<S.pr.length:=fun z hz=>by
      rw[←hog] at hz
      exact hlt z (NW.mp hz).1
     exists Hx,sm,H5,n5,e5,fsm
     have hpr5:=n5 _ _ hpri
     refine⟨_,rfl,sm,rfl,⟨_,SqL.of e5⟩,kaL (xs:=og.map iV) (fun j σ ys Hy=>Hy=H5∧ys=(qs S.pr (og.take j)).map V.int∧∃v,σ=[v,some (.ref pr)]) ⟨rfl,rfl,none,rfl⟩ (by rw[Nb];exact Nq (kar (by omega))) ?_ ?_ ?_⟩
     ·rintro j σ ys Hy hj ⟨rfl,rfl,_⟩
      refine⟨SqL.of e5,?_⟩
      rw[Nb] at hj⊢
      rw[ka5,Nv]
      omega
     ·rintro j y σ ys Hy hy ⟨rfl,rfl,v',rfl⟩
      obtain⟨n,en,rfl⟩:=kba hy
      refine⟨_,rfl,_,rfl,pr,_,_,_,rfl,rfl,SqL.of hpr5,ke1 (hogm n (Nj en)),rfl,?_,_,rfl⟩
      rw[take_snoc en,kcR,Nl]
      rfl
     rintro σ ys Hy ⟨rfl,rfl,v',rfl⟩ o2 fo2
     rw[Nb,ND]
     exists Hy,o2,H6,n6,e6,fo2
     have n56:=n5.trans n6
     have gnn:=qs_nn wf.nn og
     have gs0:=kbr gnn
     have gsl:=keE wf hogl hogm
     have gsh:=kdk gs0 hsh.1 hsh.2
     have glq:=ka5 S.pr og
     refine⟨_,rfl,_,rfl,_,rfl,o2,_,rfl,SqL.of e6,_,rfl,v,d.qi,dxv,fsv,_,rfl,(si.trans n56) _ _ hv,W.qi.cl,W.QC,hso.1,_,_,rfl,rfl, .inl ⟨by omega,by omega⟩,_,_,rfl,rfl,⟨by decide,by decide⟩,_,rfl,?_⟩
     refine⟨_,o2,qs S.pr og,rfl,SqL.of e6,gnn,by omega,by omega,by omega,by omega,fun p fp=>?_⟩
     have n7:=kal (o:=.lst ((dl ((qs S.pr og).sum*sh/1000) (qs S.pr og)).map V.int)) fp
     have e7:(upd H6 p (.lst ((dl ((qs S.pr og).sum*sh/1000) (qs S.pr og)).map V.int))) p=some (.lst ((dl ((qs S.pr og).sum*sh/1000) (qs S.pr og)).map V.int)):=kad
     generalize upd H6 p (.lst ((dl ((qs S.pr og).sum*sh/1000) (qs S.pr og)).map V.int))=H7 at *
     have n57:=n56.trans n7
     have etl6:=n56 _ _ ei
     have etl7:=n57 _ _ ei
     have hon:=ki0 (n:=i+1) (ow:=S.ow) hnd
     rw[keL,hog,Mm,ES] at hon
     have hll:(owns i S.ow ab).flatten.length=((owns i S.ow ab).map fun o=>dl ((qs S.pr o).sum*sh/1000) (qs S.pr o)).flatten.length:=by
      generalize owns i S.ow ab=gg
      clear hon ei etl6 etl7
      induction gg with
      |nil=>rfl
      |cons g gg ih=>rw[Nw,NK,NK,Nr,Nr,kcb,ka5,ih]
     refine⟨tl,sm,p,S.pr.length,_,og,_,_,rfl,etl7,(n6.trans n7) _ _ e5,e7,kai ei fsm,kai etl6 fp,hll,by rw[kcb,glq],hon,hogm,by omega,?_⟩
     refine⟨kaq ftl (si.trans n57) (nx etl7),?_,_,_,_,rfl⟩
     rw[kad,keL,hog,Nl,Mm,Mm,ES]
     simp
    ·rintro σ Hi ⟨si,ei,v5,v6,v7,rfl⟩
     exact⟨_,rfl,k Hi tl si ftl ei⟩
  |cheap m=>exact absurd ⟨m, .inl rfl⟩ hg
  |bund m p=>exact absurd ⟨m, .inr ⟨p,rfl⟩⟩ hg
  | carr=>
   refine iteF ⟨_,rfl,_,_,_,_,rfl, .inr ⟨_,rfl⟩,TyOf.ins hv2 (cl_of W hh) I.ha I.hn I.ht I.hm,kbm W hh,_,rfl,iteF ?_⟩
   refine⟨_,rfl,_,_,_,_,rfl, .inr ⟨_,rfl⟩,TyOf.ins hv2 (cl_of W hh) I.ha I.hn I.ht I.hm,kbm W hh,_,rfl,iteF ?_⟩
   refine⟨_,rfl,(by show 2≤sizeLine;decide),fun tq ftq=>?_⟩
   exists H2,tq,H3,n3,e3,ftq
   refine⟨_,tq,_,[d.ql,d.qj],false,rfl,SqT.of e3,TyOf.ins (n3 _ _ hv2) (cl_of W hh) I.ha I.hn I.ht I.hm,?_,_,rfl,iteF ?_⟩
   ·have e1:=kbt W hh
    have e2:=kc4 W hh
    show Mz K _ [_,_]=_
    unfold Mz Mz Mz
    rw[e1,e2]
    rfl
   refine⟨_,rfl,k H3 tl (s2.trans n3) ftl ?_⟩
   rw[n3 _ _ e12]
   show _=some (HO.lst ((spr S.pr.length ab (Nh _ 0)).map V.int))
   rw[spr_zero,khb]
noncomputable def StT(H:Hp)(st:Addr)(S:Stnd):Prop:=∃p m:Addr,H st=some (.tup [.ref p, .int S.cg, .ref m])∧H p=some (.lst (S.pr.map V.int))∧H m=some (.lst (S.mkd.map V.bl))
theorem StT.same{H H':Hp}{st:Addr}{S:Stnd}(s:Same H H'):StT H st S→StT H' st S:=by rintro⟨p,m,h1,h2,h3⟩;exact⟨p,m,s _ _ h1,s _ _ h2,s _ _ h3⟩
theorem kmq{V:Vch}{ps:List (Option Nat)}{kk:List Nat}{S:Stnd}(hm:∀m,V.ms.most=some m→0≤m):(cutM V ps kk S).2=match V.ms.most with|none=>fee V.so S.cg|some m=>if fee V.so S.cg > m then m else fee V.so S.cg:=by
 unfold cutM cap
 cases e:V.ms.most with
 |none=>rfl
 | some m=>
  have h0:=hm m e
  simp only
  generalize hw:want V.so S.mkd.length ((abt ps kk V.ms.kind V.ms.lone S).map fun i=>S.ow.getD i 0) (qs S.pr (abt ps kk V.ms.kind V.ms.lone S))=w
  by_cases hc:V.so=.carr
  ·have hs:w.sum=0:=by
    rw[←hw,hc]
    show(Nh _ (0:Int)).sum=0
    simp
   rw[hs]
   split
   ·rename_i h
    show min _ _=_
    rw[if_pos (by omega)]
    omega
   ·rename_i h
    rw[if_neg (by omega)]
  ·have hf:fee V.so S.cg=0:=by
    unfold fee
    split
    ·rename_i z
     exact absurd z hc
    ·rfl
   rw[hf,if_neg (show ¬(0:Int) > m by omega)]
   split
   ·show min _ _=_
    omega
   ·rfl
inductive kjv (d:D) (vs:List V) (H:Hp) (Q:VK) (E_:XK):Prop
 |ct (v t b ow st:Addr)(V:Vch)(T:TillD)(B:Bask)(S:Stnd)(_:vs=[.ref v, .ref t, .ref b, .ref ow, .ref st])(_:VchIs d H v V)(_:VchOk T.ps V)(_:TillIs d H t T)(_:BaskIs d.qf d.qd H b B)(_:H ow=some (.lst (S.ow.map iV)))(_:StT H st S)(_:Wf T.ps B S)(_:∀(H':Hp)(r l:Addr),Same H H'→H' r=some (.tup [.ref l, .int (cutM V T.ps (kds B) S).2])→H' l=some (.lst ((cutM V T.ps (kds B) S).1.map L2.V.int))→Q (.ref r) H'):kjv d vs H Q E_
theorem qy:kat ["_law_voucher","_law_till","_law_basket","_law_owners","_law_state","_law_prices","_law_fee","_law_marked","_law_pieces","_law_told","_law_cut_fee","_law_most"] ["_law_voucher","_law_till","_law_basket","_law_owners","_law_state"] (kah kdd):=by ac_rfl
theorem kgG(W:WB K mg d base):FO P w W 3 d.Zo d.Zp ["_law_voucher","_law_till","_law_basket","_law_owners","_law_state"] (kjv d):=by
 exists W.VE.F,qy
 ·obtain⟨v,t,b,ow,st,Vc,T,B,S,rfl,hV,vo,hT,hB,how,⟨p,m,hst,hp,hm⟩,wf,k⟩:=h
  obtain⟨mA,dxv,fsv,hv,lvm,hso,hM,hh,htb⟩:=id hV
  obtain⟨dxm,fsm,hmk,m1,m2,m3,m4,m5,m6⟩:=id hM
  exists U3,kdS,W
  exists U4,kfk,W
  exists Qf,kdx,W
  exists hr1,1,hr,0
  refine⟨_,kab (kcw (pv 4) (kbi (K:=K) (n:=3) rfl (kax (pgn (i:=5) qy.nd) (kax (pgn (i:=6) qy.nd) (kax (pgn (i:=7) qy.nd) kbh)))))
   (kab (psl (i:=8) qy.nd (pcl U3 hr W.VC (kaa (pv 0) (kaa (pv 1) (kaa (pv 2) (kaa (pv 3) (kaa (pv 7) kae)))))))
   (kab (psl (i:=9) qy.nd (pcl U4 hr W.VD (kaa (pv 0) (kaa (pv 8) (kaa (pv 5) (kaa (pv 3) kae))))))
   (kab (psl (i:=10) qy.nd (kik (kdp (kaN (kan (r:=rIsi K) kaK (by rfl) W.B.isi b_isi (kaa (pv 0) (kaa (kbC (v:=.ref d.qm) (by rfl) W.VR rfl) kae)))) (pv 6) kag)))
   (kab (psl (i:=11) qy.nd (kaj (K:=K) (kaj (K:=K) (pv 0) rfl) rfl))
   (kab (kbG (ps_if (PW.pt (ka6 (kap kct (pv 11) kbd (kav _)) (kaX (kap op_gt (pv 10) (pv 11) (kav _))))) (kaf (psl (i:=10) qy.nd (pv 11))) (kau)))
   (kab (kbG (ps_if (PW.pt (ka6 (kap kct (pv 11) kbd (kav _)) (kaX (kap op_gt (kan (r:=rSum K) (ka2 rfl) (by rfl) W.B.sum b_sum (kaa (pv 9) kae)) (pv 11) (kav _))))) (kaf (psl (i:=9) qy.nd (pcl Qf hr1 W.qW (kaa (pv 11) (kaa (pv 9) kae))))) (kau)))
   (kaf (kas (kb5 (kaa (pv 9) (kaa (pv 10) kae))))))))))),?_⟩
  have I:=kiB W hh
  have hnd:=kfd T.ps (kds B) Vc.ms.kind Vc.ms.lone S
  have habl:∀i∈abt T.ps (kds B) Vc.ms.kind Vc.ms.lone S,i<S.pr.length:=fun i hi=>by rw[wf.lp];exact kg8 hi
  have lab:(abt T.ps (kds B) Vc.ms.kind Vc.ms.lone S).length≤720:=Nk (kdV _ _ _ _ _) wf.np
  have hinc:(abt T.ps (kds B) Vc.ms.kind Vc.ms.lone S).Pairwise (· < ·):=MF.filter _ Ef
  have hmo:∀z,Vc.ms.most=some z→0≤z∧z≤1000000000000:=fun z e=>vo.ms.most z e
  have c2:=kmq (ps:=T.ps) (kk:=kds B) (S:=S) (V:=Vc) fun z e=>(hmo z e).1
  have hwl:=kha (n:=S.mkd.length) (lines:=(abt T.ps (kds B) Vc.ms.kind Vc.ms.lone S).map fun i=>S.ow.getD i 0) (qs_nn wf.nn (abt T.ps (kds B) Vc.ms.kind Vc.ms.lone S)) vo.so
  have c1n:=fun e=>kiL (V:=Vc) (ps:=T.ps) (kk:=kds B) (S:=S) e
  have c1s:=fun {z:Int} e (h0:0≤z)=>kiK (V:=Vc) (ps:=T.ps) (kk:=kds B) (S:=S) wf.lp hwl e h0
  have hsl:=kfo wf.nn hwl
  refine⟨_,rfl,st,_,rfl,SqT.of hst,rfl,_,_,rfl,_,_,rfl,_,_,rfl,rfl,?_⟩
  refine⟨_,rfl,_,rfl,_,rfl,_,rfl,_,rfl,v,t,b,ow,m,Vc,T,B,S,rfl,hV,hT,hB,how,hm,wf,fun pc fpc=>?_⟩
  exists H,pc,H1,n1,e1,fpc
  refine⟨_,rfl,_,rfl,_,rfl,_,rfl,v,pc,p,ow,Vc,T.ps,B,S,_,rfl,hV.same n1,vo,e1,n1 _ _ hp,n1 _ _ how,wf,hnd,habl,hinc,fun H2 tl s2 ftl etl=>?_⟩
  have s02:=n1.trans s2
  generalize spr S.pr.length (abt T.ps (kds B) Vc.ms.kind Vc.ms.lone S) (want Vc.so S.mkd.length ((abt T.ps (kds B) Vc.ms.kind Vc.ms.lone S).map fun i=>S.ow.getD i 0) (qs S.pr (abt T.ps (kds B) Vc.ms.kind Vc.ms.lone S)))=sp at *
  refine⟨fun fv H3=>fv=.int (fee Vc.so S.cg)∧H3=H2,?_,?_⟩
  ·refine⟨_,rfl,_,_,_,_,rfl, .inr ⟨_,rfl⟩,TyOf.ins (s02 _ _ hv) (cl_of W hh) I.ha I.hn I.ht I.hm,kd2 W hh,_,rfl,?_⟩
   obtain⟨so,ms⟩:=Vc
   cases so with
   |carr=>exact iteT ⟨_,rfl,rfl,rfl⟩
   |off _=>exact iteF ⟨rfl,rfl⟩
   |share _ _=>exact iteF ⟨rfl,rfl⟩
   |cheap _=>exact iteF ⟨rfl,rfl⟩
   |bund _ _=>exact iteF ⟨rfl,rfl⟩
  rintro fv H3 ⟨rfl,rfl⟩
  refine⟨_,rfl,v,clsOf d Vc.so,dxv,fsv,_,rfl,s02 _ _ hv,cl_of W hh,na_of W hh,lvm,mA,d.qh,dxm,fsm,_,rfl,s02 _ _ hmk,W.qh.cl,W.QA,m3,?_⟩
  generalize hcc:cutM Vc T.ps (kds B) S=cc at *
  refine⟨fun σ' H4=>H4=H3∧σ'=[some (.ref v),some (.ref t),some (.ref b),some (.ref ow),some (.ref st),some (.ref p),some (.int S.cg),some (.ref m),some (.ref pc),some (.ref tl),some (.int cc.2),some (oV Vc.ms.most)],?_,?_⟩
  ·refine⟨_,rfl,rfl,_,rfl,?_⟩
   cases e:Vc.ms.most with
   |none=>
    rw[e] at c2
    rw[show(!decide (oV none=V.non))=false from kfv,c2]
    exact iteF (iteF ⟨rfl,rfl⟩)
   | some z=>
    rw[e] at c2
    rw[show(!decide (oV (some z)=V.non))=true from kfw z]
    refine iteT ⟨_,rfl,_,rfl,_,_,rfl,rfl,_,rfl,?_⟩
    by_cases hz:fee Vc.so S.cg > z
    ·have c2':cc.2=z:=by rw[c2];exact if_pos hz
     rw[show decide (fee Vc.so S.cg > z)=true from decide_eq_true hz,c2']
     exact iteT ⟨_,rfl,rfl,rfl⟩
    ·have c2':cc.2=fee Vc.so S.cg:=by rw[c2];exact if_neg hz
     rw[show decide (fee Vc.so S.cg > z)=false from decide_eq_false hz,c2']
     exact iteF ⟨rfl,rfl⟩
  rintro σ' H4 ⟨rfl,rfl⟩
  refine⟨fun σ' H5=>Same H4 H5∧∃l:Addr,H5 l=some (.lst (cc.1.map V.int))∧σ'=[some (.ref v),some (.ref t),some (.ref b),some (.ref ow),some (.ref st),some (.ref p),some (.int S.cg),some (.ref m),some (.ref pc),some (.ref l),some (.int cc.2),some (oV Vc.ms.most)],?_,?_⟩
  ·refine⟨_,rfl,rfl,_,rfl,?_⟩
   cases e:Vc.ms.most with
   |none=>
    rw[show(!decide (oV none=V.non))=false from kfv,c1n e]
    exact iteF (iteF ⟨Same.refl _,tl,etl,rfl⟩)
   | some z=>
    have hz0:=hmo z e
    have hc:=c1s e hz0.1
    rw[show(!decide (oV (some z)=V.non))=true from kfw z]
    refine iteT ⟨_,rfl,tl,sp,rfl,SqL.of etl,_,rfl,_,_,rfl,rfl,_,rfl,?_⟩
    have hs1:=hsl.sum
    by_cases hz:sp.sum > z
    ·rw[if_pos hz] at hc
     rw[show decide (sp.sum > z)=true from decide_eq_true hz,hc]
     have hps:=keE wf (ab:=Nf S.pr.length) (by rw[Dl,wf.lp];exact wf.np) fun i hi=>MJ.mp hi
     have eps:qs S.pr (Nf S.pr.length)=S.pr:=by
      apply N6
      ·simp[qs]
      ·intro j h1 h2
       simp[qs,Nt,h2]
     rw[eps] at hps
     refine iteT ⟨_,rfl,_,rfl,z,tl,sp,rfl,SqL.of etl,hsl.nn,by omega,by omega,by omega,by rw[hsl.1,wf.lp];have:=wf.np;omega,fun q fq=>?_⟩
     exact⟨kal fq,q,kad,rfl⟩
    ·rw[if_neg hz] at hc
     rw[show decide (sp.sum > z)=false from decide_eq_false hz,hc]
     exact iteF ⟨Same.refl _,tl,etl,rfl⟩
  rintro σ' H5 ⟨s5,l,el,rfl⟩
  refine⟨_,rfl,_,rfl,(by show 2≤sizeLine;decide),fun r fr=>?_⟩
  exact k _ r l ((s02.trans s5).trans (kal fr)) kad (kal fr _ _ el)
inductive klw (d:D) (vs:List V) (H:Hp) (Q:VK) (E_:XK):Prop
 |ct (st sh v ow l:Addr)(V:Vch)(ps:List (Option Nat))(B:Bask)(S:Stnd)(_:vs=[.ref st, .ref sh, .ref v, .ref ow])(_:VchIs d H v V)(_:VchOk ps V)(_:H ow=some (.lst (S.ow.map iV)))(_:StT H st S)(_:Wf ps B S)(_:H sh=some (.tup [.ref l, .int (cutM V ps (kds B) S).2]))(_:H l=some (.lst ((cutM V ps (kds B) S).1.map L2.V.int)))(_:∀(H':Hp)(r:Addr),Same H H'→StT H' r (aftM V ps (kds B) S)→Q (.ref r) H'):klw d vs H Q E_
theorem qI:kat ["_law_state","_law_step_here","_law_voucher","_law_owners","_law_prices","_law_fee","_law_marked","_law_told","_law_cut_fee","_law_left","_law_lines","_law_piece"] ["_law_state","_law_step_here","_law_voucher","_law_owners"] (kah ka8):=by ac_rfl
theorem kc6(W:WB K mg d base):FO P w W 1 d.Zq d.Zr ["_law_state","_law_step_here","_law_voucher","_law_owners"] (klw d):=by
 exists W.VF.F,qI
 ·obtain⟨st,sh,v,ow,l,Vc,ps,B,S,rfl,hV,vo,how,⟨p,m,hst,hp,hm⟩,wf,hsh,hl,k⟩:=h
  obtain⟨mA,dxv,fsv,hv,lvm,hso,hM,hh,htb⟩:=id hV
  obtain⟨dxm,fsm,hmk,m1,m2,m3,m4,m5,m6⟩:=id hM
  refine⟨_,kab (kcw (pv 0) (kbi (K:=K) (n:=3) rfl (kax (pgn (i:=4) qI.nd) (kax (pgn (i:=5) qI.nd) (kax (pgn (i:=6) qI.nd) kbh)))))
   (kab (kcw (pv 1) (kbi (K:=K) (n:=2) rfl (kax (pgn (i:=7) qI.nd) (kax (pgn (i:=8) qI.nd) kbh))))
   (kab (kcs (N:=["_law_piece","_law_prices","_law_told"]) (CompScope.of (N:=["_law_piece","_law_prices","_law_told"]) (cap:=[none,some 4,some 7]) (kah ka8).names ["_law_state","_law_step_here","_law_voucher","_law_owners","_law_prices","_law_fee","_law_marked","_law_told","_law_cut_fee","_law_left","_law_lines","_law_piece"] rfl rfl (by decide +kernel)) rfl (kaY rfl W.B.range (kaa (kan (r:=kaE K) kao (by rfl) W.B.len b_len (kaa (pv 4) kae)) kae)) (fun _ _ _ _=>pgn (i:=0) (show(["_law_piece","_law_prices","_law_told"]:List Str).Nodup by decide +kernel)) (fun _ _ _ _=>(pe_op kcK (pe_ix (r:=rIxL K) kaw (pv 1) (pv 0) (fun _ _=>rfl)) (pe_ix (r:=rIxL K) kaw (pv 2) (pv 0) (fun _ _=>rfl)))) (pgn (i:=9) qI.nd))
   (kab (psl (i:=10) qI.nd (kaQ (r:=kbg K) kaD (by rfl) W.B.list kbn (kaa (pv 6) kae)))
   (kab (kbG (ps_if (kaN (kaj (K:=K) (kaj (K:=K) (pv 2) rfl) rfl)) (kaf (kaR PassesOwn.never rfl (kaY rfl W.B.range (kaa (kan (r:=kaE K) kao (by rfl) W.B.len b_len (kaa (pv 7) kae)) kae)) (pgn (i:=11) qI.nd)
   (kaf (ps_if (kap op_gt (pe_ix (r:=rIxL K) kaw (pv 7) (pv 11) (fun _ _=>rfl)) kag (kav _)) (kaf (kcw pe_bl (kdo (pv 10) (pe_ix (r:=rIxL K) kaw (pv 3) (pv 11) (fun _ _=>rfl)) set_list))) (kau))))) (kau)))
   (kaf (kas (kb5 (kaa (pv 9) (kaa (pe_op kcK (pv 5) (pv 8)) (kaa (pv 10) kae)))))))))),?_⟩
  have lp:=wf.lp
  have np:=wf.np
  have lcut:(cutM Vc ps (kds B) S).1.length=S.pr.length:=(kfD (ps:=ps) (kk:=kds B) wf.nn wf.cg.1 vo.so (fun m hm=>(vo.ms.most m hm).1)).1.1
  have fin:∀(H':Hp)(r a b:Addr),Same H H'→H' r=some (.tup [.ref a, .int (S.cg-(cutM Vc ps (kds B) S).2), .ref b])→H' a=some (.lst ((NI (· - ·) S.pr (cutM Vc ps (kds B) S).1).map V.int))→H' b=some (.lst (((Nf S.mkd.length).map fun l=>S.mkd.getD l false||(Vc.ms.lone&&kbS S.ow (cutM Vc ps (kds B) S).1 l)).map V.bl))→Q (.ref r) H':=fun H' r a b s h1 h2 h3=>k H' r s ⟨a,b,h1,h2,h3⟩
  clear k
  generalize cutM Vc ps (kds B) S=cc at *
  refine⟨_,rfl,st,_,rfl,SqT.of hst,rfl,_,_,rfl,_,_,rfl,_,_,rfl,rfl,?_⟩
  refine⟨_,rfl,sh,_,rfl,SqT.of hsh,rfl,_,_,rfl,_,_,rfl,rfl,?_⟩
  refine⟨_,rfl,p,_,rfl, .inl (SqL.of hp),_,rfl,by omega,(by rw[Nb];omega),kfE (fun i σ ys H'=>H'=H∧ys=((NI (· - ·) S.pr cc.1).take i).map V.int∧∃v0:Option V,σ=[v0,some (.ref p),some (.ref l)])
   ⟨rfl,rfl,none,rfl⟩ (by rw[Nb];exact Nq (kar (by omega))) (fun i σ ys H' hi h=>by rw[h.2.1,Nb,Nv,MQ];rw[Nb] at hi;omega) ?_ ?_⟩
  ·rintro i σ ys H2 hi ⟨rfl,rfl,v0,rfl⟩
   rw[Nb] at hi
   obtain⟨z1,ez1⟩:=at_of (xs:=S.pr) (i:=i) (by omega)
   obtain⟨z2,ez2⟩:=at_of (xs:=cc.1) (i:=i) (by omega)
   rw[Int.zero_add]
   refine⟨_,rfl,_,rfl,p,_,_,_,rfl,rfl,SqL.of hp,kaA (v:=.int z1) (by rw[Ni,ez1];rfl),_,rfl,_,rfl,l,_,_,_,rfl,rfl,SqL.of hl,kaA (v:=.int z2) (by rw[Ni,ez2];rfl),_,_,rfl,rfl,rfl,?_,_,rfl⟩
   rw[kbJ (r:=z1-z2) (by rw[Ee,ez1,ez2]),Nl]
   rfl
  rintro σ ys H2 ⟨rfl,rfl,v0,rfl⟩ D hD
  rw[Nb,Mg (by rw[MQ];omega)]
  exists H2,D,H3,n3,eD,hD
  refine⟨_,rfl,m,_,rfl, .inl (SqL.of (n3 _ _ hm)),fun q hq=>?_⟩
  have fq:H2 q=none:=n3.free hq
  have nDq:D≠q:=kai eD hq
  have e0:S.mkd.map V.bl=((Nf S.mkd.length).map fun l=>S.mkd.getD l false||(Vc.ms.lone&&kbS (S.ow.take 0) cc.1 l)).map V.bl:=by
   congr 1
   apply N6
   ·simp
   ·intro j h1 h2
    simp[kbS,h1]
  rw[e0]
  exists H3,q,H4,n4,e4,hq
  have s4:=n3.trans n4
  have eD4:=n4 _ _ eD
  refine⟨fun σ' H'=>Same H2 H'∧H' D=some (.lst ((NI (· - ·) S.pr cc.1).map V.int))∧H' q=some (.lst (((Nf S.mkd.length).map fun l=>S.mkd.getD l false||(Vc.ms.lone&&kbS S.ow cc.1 l)).map V.bl))∧∃v11:Option V,σ'=[some (.ref st),some (.ref sh),some (.ref v),some (.ref ow),some (.ref p),some (.int S.cg),some (.ref m),some (.ref l),some (.int cc.2),some (.ref D),some (.ref q),v11],?_,?_⟩
  ·refine⟨_,rfl,v,clsOf d Vc.so,dxv,fsv,_,rfl,s4 _ _ hv,cl_of W hh,na_of W hh,lvm,mA,d.qh,dxm,fsm,_,rfl,s4 _ _ hmk,W.qh.cl,W.qX,m6,_,rfl,?_⟩
   cases e:Vc.ms.lone with
   |false=>
    rw[e] at e4
    simp only[Eo] at e4⊢
    exact iteF ⟨s4,eD4,e4,_,rfl⟩
   | true=>
    rw[e] at e4
    refine iteT ⟨_,rfl,l,_,rfl, .inl (SqL.of (s4 _ _ hl)),_,rfl,by omega,(by rw[Nb];omega),kbb (fun i σ H'=>Same H2 H'∧H' D=some (.lst ((NI (· - ·) S.pr cc.1).map V.int))∧H' q=some (.lst (((Nf S.mkd.length).map fun l=>S.mkd.getD l false||(true&&kbS (S.ow.take i) cc.1 l)).map V.bl))∧∃v11:Option V,σ=[some (.ref st),some (.ref sh),some (.ref v),some (.ref ow),some (.ref p),some (.int S.cg),some (.ref m),some (.ref l),some (.int cc.2),some (.ref D),some (.ref q),v11])
     ⟨s4,eD4,e4,none,rfl⟩ ?_ ?_⟩
    ·rintro i σ H5 hi ⟨s5,eD5,h5,v11,rfl⟩
     rw[Nb] at hi
     rw[Int.zero_add]
     obtain⟨ln,eln⟩:=at_of (xs:=S.ow) (i:=i) (by omega)
     have hln:ln<S.mkd.length:=by rw[wf.lm];exact wf.line eln
     obtain⟨cz,ecz⟩:=at_of (xs:=cc.1) (i:=i) (by omega)
     have eg:cc.1.getD i 0=cz:=by rw[Nt,ecz];rfl
     have stp:=fun l=>ke6 (cs:=cc.1) (l:=l) eln
     refine⟨_,rfl,_,rfl,l,_,_,_,rfl,rfl,SqL.of (s5 _ _ hl),kaA (v:=.int cz) (by rw[Ni,ecz];rfl),_,_,rfl,rfl,_,rfl,?_⟩
     by_cases hc0:(0:Int)<cz
     ·rw[decide_eq_true hc0]
      refine iteT ⟨_,rfl,_,rfl,_,rfl,ow,_,_,_,rfl,rfl,SqL.of (s5 _ _ how),kaA (v:=iV ln) (by rw[Ni,eln];rfl),q,_,_,ln,rfl,rfl,h5,kca (by simpa using hln),kaq fq s5 (nx h5),by rw[kak nDq];exact eD5,?_,_,rfl⟩
      rw[kad,←Md]
      congr 3
      apply N6
      ·simp
      ·intro j g1 g2
       have hj:j<S.mkd.length:=by simpa using g1
       rw[Ec]
       simp only[MG,MP]
       rw[stp j,eg]
       by_cases hjl:ln=j
       ·subst hjl
        simp[hc0]
       ·rw[if_neg hjl,show(ln==j)=false by simpa using hjl]
        simp
     ·rw[decide_eq_false hc0]
      refine iteF ⟨s5,eD5,?_,_,rfl⟩
      have st':∀l,kbS (S.ow.take (i+1)) cc.1 l=kbS (S.ow.take i) cc.1 l:=fun l=>by rw[stp l,eg,decide_eq_false hc0,E6,Ez]
      simp only[st']
      exact h5
    ·rintro σ H5 ⟨s5,eD5,h5,v11,rfl⟩
     rw[Nb,Mg (by omega)] at h5
     exact⟨s5,eD5,h5,_,rfl⟩
  rintro σ' H5 ⟨s5,eD5,h5,v11,rfl⟩
  refine⟨_,rfl,_,rfl,_,rfl,_,_,rfl,rfl,_,rfl,(by show 3≤sizeLine;decide),fun r fr=>?_⟩
  have n6:=kal (o:=.tup [V.ref D,V.int (S.cg-cc.2),V.ref q]) fr
  exact fin _ r D q (s5.trans n6) kad (n6 _ _ eD5) (n6 _ _ h5)
theorem kig(m:Bool)(rs0:List Row):∀(rs:List Row)(k:Nat),(∀i r,rs[i]?=some r→rs0[k+i]?=some r)→(((rs.zipIdx k).map fun p=>Nh p.1.mn.toNat p.2).flatten).map (fun l=>(rs0[l]?.map (prc m)).getD 0)=(rs.map fun r=>Nh r.mn.toNat (prc m r)).flatten
 |[],_,_=>rfl
 |r::rs,k,h=>by
  have ih:=kig m rs0 rs (k+1) fun i r' e=>by rw[show k+1+i=k+(i+1) by omega];exact h (i+1) r' e
  rw[M1,Nw,NK,Nl,ih,List.map_replicate,Nw,NK]
  have h0:=h 0 r rfl
  rw[Nat.add_zero] at h0
  show Nh r.mn.toNat ((rs0[k]?.map (prc m)).getD 0)++_=_
  rw[h0]
  rfl
theorem kl8(m:Bool)(rs:List Row):(ownN rs).map (fun l=>(rs[l]?.map (prc m)).getD 0)=prs m rs:=kig m rs rs 0 fun i r e=>by rw[Ea];exact e
inductive kh2 (d:D) (vs:List V) (H:Hp) (Q:VK) (E_:XK):Prop
 |ct (b ow:Addr)(B:Bask)(_:vs=[.ref b, .ref ow])(_:BaskIs d.qf d.qd H b B)(_:H ow=some (.lst ((ownN B.rs).map iV)))(_:(∀l∈ownN B.rs,l<B.rs.length))(_:(ownN B.rs).length≤720)(_:∀p,H p=none→Q (.ref p) (upd H p (.lst ((prs B.m B.rs).map V.int)))):kh2 d vs H Q E_
theorem Qv:kat ["_law_basket","_law_owners","_law_found","_law_line","_law_price"] ["_law_basket","_law_owners"] (kah kbo):=by ac_rfl
theorem kc7(W:WB K mg d base):FO P w W 1 d.Zs d.Zt ["_law_basket","_law_owners"] (kh2 d):=by
 exists W.VG.F,Qv
 ·obtain⟨b,ow,B,rfl,⟨l,ls,⟨dxb,fsb,hb,lb1,lb2,lb3⟩,hl,hL⟩,how,hlt,hle,k⟩:=h
  refine⟨_,kab (psl (i:=2) Qv.nd (kaT kae))
   (kab (kaR PassesOwn.never rfl (kaz (K:=K) (pv 1)) (pgn (i:=3) Qv.nd)
   (kab (psl (i:=4) Qv.nd (kaj (K:=K) (pe_ix (r:=rIxL K) kaw (kaj (K:=K) (pv 0) rfl) (pv 3) (fun _ _=>rfl)) rfl))
   (kab (kbG (ps_if (PW.pt (ka6 (kaN (kaj (K:=K) (pv 0) rfl)) (kaX (kap kct (kaj (K:=K) (pe_ix (r:=rIxL K) kaw (kaj (K:=K) (pv 0) rfl) (pv 3) (fun _ _=>rfl)) rfl) kbd (kav _))))) (kaf (psl (i:=4) Qv.nd (kaj (K:=K) (pe_ix (r:=rIxL K) kaw (kaj (K:=K) (pv 0) rfl) (pv 3) (fun _ _=>rfl)) rfl))) (kau)))
   (kaf (kaM (pe_bm NQ N7 N8 kaU (pv 2) (kaa (pv 4) kae)))))))
   (kaf (kas (pv 2)))),?_⟩
  refine⟨by decide,fun q hq=>?_⟩
  have s1:∀o,Same H (upd H q o):=fun o=>kal hq
  rw[←kl8] at k
  refine⟨_,rfl,ow,rfl,⟨_,SqL.of (s1 _ _ _ how)⟩,kaZ (xs:=(ownN B.rs).map iV) (fun i σ H'=>H'=upd H q (.lst ((((ownN B.rs).map (fun l=>(B.rs[l]?.map (prc B.m)).getD 0)).take i).map V.int))∧∃v3 v4:Option V,σ=[some (.ref b),some (.ref ow),some (.ref q),v3,v4])
   ⟨rfl,none,none,rfl⟩ (fun i σ H' _ h=>by rw[h.1];exact SqL.of (s1 _ _ _ how)) ?_ ?_⟩
  ·rintro i y σ H' hy ⟨rfl,v3,v4,rfl⟩
   obtain⟨ln,eln,rfl⟩:=kba hy
   have hi:=at_lt eln
   obtain⟨r,er⟩:=at_of (hlt ln (Nj eln))
   obtain⟨lx,elx⟩:=at_of (xs:=ls) (i:=ln) (by rw[hL.len];exact at_lt er)
   have s2:=s1 (.lst ((((ownN B.rs).map (fun l=>(B.rs[l]?.map (prc B.m)).getD 0)).take i).map V.int))
   have eq2:(upd H q (.lst ((((ownN B.rs).map (fun l=>(B.rs[l]?.map (prc B.m)).getD 0)).take i).map V.int))) q=some (.lst ((((ownN B.rs).map (fun l=>(B.rs[l]?.map (prc B.m)).getD 0)).take i).map V.int)):=kad
   have hlen:((((ownN B.rs).map (fun l=>(B.rs[l]?.map (prc B.m)).getD 0)).take i).map V.int).length<sizeLine:=kar (by rw[Nb,Nv,Nb];omega)
   have enx:((ownN B.rs).map (fun l=>(B.rs[l]?.map (prc B.m)).getD 0))[i]?=some (prc B.m r):=by rw[Ni,eln];show some ((B.rs[ln]?.map (prc B.m)).getD 0)=_;rw[er];rfl
   have fin:upd (upd H q (.lst ((((ownN B.rs).map (fun l=>(B.rs[l]?.map (prc B.m)).getD 0)).take i).map V.int))) q (.lst ((((ownN B.rs).map (fun l=>(B.rs[l]?.map (prc B.m)).getD 0)).take i).map V.int++[V.int (prc B.m r)]))=upd H q (.lst ((((ownN B.rs).map (fun l=>(B.rs[l]?.map (prc B.m)).getD 0)).take (i+1)).map V.int)):=by
    rw[keu,take_snoc enx,Nl (l₁:=((ownN B.rs).map (fun l=>(B.rs[l]?.map (prc B.m)).getD 0)).take i)]
    rfl
   generalize upd H q (.lst ((((ownN B.rs).map (fun l=>(B.rs[l]?.map (prc B.m)).getD 0)).take i).map V.int))=H2 at *
   obtain⟨dxl,fsl,hlx,lk1,lk2,lk3,lk4⟩:=(hL.get elx er).same s2
   have atL:atI (ls.map V.ref) ((ln:Nat):Int)=some (.ref lx):=kaA (by rw[Ni,elx];rfl)
   refine⟨_,rfl,b,d.qd,dxb,fsb,_,rfl,s2 _ _ hb,W.qd.cl,W.qr,lb1,_,rfl,l,_,_, .ref lx,rfl,rfl,SqL.of (s2 _ _ hl),atL,lx,d.qf,dxl,fsl,_,rfl,hlx,W.qf.cl,W.QD,lk2,?_⟩
   refine⟨fun σ' H'=>H'=H2∧σ'=[some (.ref b),some (.ref ow),some (.ref q),some (iV ln),some (.int (prc B.m r))],⟨_,rfl,b,d.qd,dxb,fsb,_,rfl,s2 _ _ hb,W.qd.cl,W.QE,lb3,B.m,rfl,?_⟩,?_⟩
   ·cases em:B.m with
    |false=>exact iteF (iteF ⟨rfl,rfl⟩)
    | true=>
     refine iteT ⟨_,rfl,b,d.qd,dxb,fsb,_,rfl,s2 _ _ hb,W.qd.cl,W.qr,lb1,_,rfl,l,_,_, .ref lx,rfl,rfl,SqL.of (s2 _ _ hl),atL,lx,d.qf,dxl,fsl,_,rfl,hlx,W.qf.cl,W.Qn,lk4,rfl,_,rfl,?_⟩
     cases ee:r.ex with
     |none=>
      rw[show(!decide (oV none=V.non))=false from kfv]
      refine iteF ⟨rfl,?_⟩
      unfold prc
      rw[ee]
      rfl
     |some z=>
      rw[show(!decide (oV (some z)=V.non))=true from kfw z]
      refine iteT ⟨_,rfl,b,d.qd,dxb,fsb,_,rfl,s2 _ _ hb,W.qd.cl,W.qr,lb1,_,rfl,l,_,_, .ref lx,rfl,rfl,SqL.of (s2 _ _ hl),atL,lx,d.qf,dxl,fsl,_,rfl,hlx,W.qf.cl,W.Qn,lk4,rfl,?_⟩
      unfold prc
      rw[ee]
      rfl
   rintro σ' H' ⟨rfl,rfl⟩
   exact⟨_,rfl, .inl ⟨rfl,_,SqL.of eq2⟩,_,rfl,q,_,_,rfl,rfl,eq2,hlen,fin,_,_,rfl⟩
  ·rintro σ H' ⟨rfl,v3,v4,rfl⟩
   refine⟨_,rfl,?_⟩
   rw[Nb,Mg (by rw[Nb];exact Nd _)]
   exact k q hq
inductive spByL (d:D) (vs:List V) (H:Hp) (Q:VK) (E_:XK):Prop
 |ct (b ow nm:Addr)(B:Bask)(as:List Int)(_:vs=[.ref b, .ref ow, .ref nm])(_:BaskIs d.qf d.qd H b B)(_:B.rs.length≤12)(_:H ow=some (.lst ((ownN B.rs).map iV)))(_:H nm=some (.lst (as.map V.int)))(_:as.length=(ownN B.rs).length)(_:(ownN B.rs).length≤720)(_:∀(H':Hp)(p:Addr),Same H H'→H p=none→H' p=some (.lst ((segs (mans B.rs) as).map V.int))→Q (.ref p) H'):spByL d vs H Q E_
theorem XR:kat ["_law_basket","_law_owners","_law_numbers_here","_law_sums","_law_k"] ["_law_basket","_law_owners","_law_numbers_here"] (kah kb0):=by ac_rfl
theorem keh(W:WB K mg d base):FO P w W 1 d.Zu d.Zv ["_law_basket","_law_owners","_law_numbers_here"] (spByL d):=by
 exists W.Xa.F,XR
 ·obtain⟨b,ow,nm,B,as,rfl,⟨l,ls,⟨dxb,fsb,hb,lbl,lbc,lbm⟩,hl,hL⟩,h12,how,hnm,hla,h720,k⟩:=h
  refine⟨_,kab (kcs (N:=["_law_line"]) (CompScope.plain rfl (by decide +kernel) (by decide +kernel) (by decide +kernel) (nd1 _)) rfl (kaz (K:=K) (kaj (K:=K) (pv 0) rfl)) (fun _ _ _ _=>pgn (i:=0) (nd1 _)) (fun _ _ _ _=>kag) (pgn (i:=3) XR.nd))
   (kab (kaR PassesOwn.never rfl (kaY rfl W.B.range (kaa (kan (r:=kaE K) kao (by rfl) W.B.len b_len (kaa (pv 1) kae)) kae)) (pgn (i:=4) XR.nd)
   (kaf (khs (pv 3) (pe_ix (r:=rIxL K) kaw (pv 1) (pv 4) (fun _ _=>rfl)) kf9 (pe_ix (r:=rIxL K) kaw (pv 2) (pv 4) (fun _ _=>rfl)) kgS set_list)))
   (kaf (kas (pv 3)))),?_⟩
  have hll:=hL.len
  refine⟨_,rfl,b,d.qd,dxb,fsb,_,rfl,hb,W.qd.cl,W.qr,lbl,l,rfl,⟨_,SqL.of hl⟩,kaL (xs:=ls.map V.ref) (fun i σ ys H'=>H'=H∧ys=(Nh i (0:Int)).map V.int∧∃v,σ=[v]) ⟨rfl,rfl,none,rfl⟩ (by rw[Nb,hll];exact Nq (kar (by omega))) ?_ ?_ ?_⟩
  ·rintro i σ ys H' hi ⟨rfl,rfl,_⟩
   exact⟨SqL.of hl,by simp⟩
  ·rintro i y σ ys H' hy ⟨rfl,rfl,v,rfl⟩
   refine⟨rfl,?_,_,rfl⟩
   rw[MB,Nl]
   rfl
  rintro σ ys H' ⟨rfl,rfl,v,rfl⟩ q hq
  rw[Nb,hll]
  have e0:(Nh B.rs.length (0:Int))=(Nf B.rs.length).map (lsum ((ownN B.rs).take 0) (as.take 0)):=by
   apply N6
   ·simp
   ·intro j h1 h2
    simp[lsum]
  rw[e0]
  exists H',q,H1,n1,e1,hq
  refine⟨_,rfl,ow,_,rfl, .inl (SqL.of (n1 _ _ how)),_,rfl,by omega,(by rw[Nb];omega),kbb (fun i σ Hi=>Same H' Hi∧Hi q=some (.lst (((Nf B.rs.length).map (lsum ((ownN B.rs).take i) (as.take i))).map V.int))∧∃v4:Option V,σ=[some (.ref b),some (.ref ow),some (.ref nm),some (.ref q),v4])
   ⟨n1,e1,none,rfl⟩ ?_ ?_⟩
  ·rintro i σ Hi hi ⟨si,ei,v4,rfl⟩
   rw[Nb] at hi
   have hi':i<(ownN B.rs).length:=by simpa using hi
   rw[Int.zero_add]
   obtain⟨ln,eln⟩:=at_of hi'
   obtain⟨cz,ecz⟩:=at_of (xs:=as) (i:=i) (by omega)
   have hln:=kf1 B.rs (Nj eln)
   have eat:((Nf B.rs.length).map (lsum ((ownN B.rs).take i) (as.take i)))[ln]?=some (lsum ((ownN B.rs).take i) (as.take i) ln):=by
    rw[Ni,M4 hln]
    rfl
   refine⟨_,rfl,_,rfl,_,rfl,ow,_,_,_,rfl,rfl,SqL.of (si _ _ how),kaA (v:=iV ln) (by rw[Ni,eln];rfl),q,_,_,_,rfl,rfl,SqL.of ei,kaA (v:=.int (lsum ((ownN B.rs).take i) (as.take i) ln)) (by rw[Ni,eat];rfl),_,rfl,_,rfl,nm,_,_,_,rfl,rfl,SqL.of (si _ _ hnm),kaA (v:=.int cz) (by rw[Ni,ecz];rfl),_,_,rfl,rfl,q,_,_,ln,rfl,rfl,ei,kca (by simpa using hln),kaq hq si (nx ei),?_,_,rfl⟩
   rw[kad,←Md]
   congr 3
   apply N6
   ·simp
   ·intro j g1 g2
    rw[Ec]
    simp only[MG,MP]
    rw[kgM eln ecz]
    by_cases hjl:ln=j
    ·subst hjl
     rw[if_pos rfl,if_pos rfl]
    ·rw[if_neg hjl,if_neg hjl,Int.add_zero]
  ·rintro σ Hi ⟨si,ei,v4,rfl⟩
   rw[Nb,show(((ownN B.rs).length:Nat):Int).toNat=(ownN B.rs).length by simp,ND,show as.take (ownN B.rs).length=as by rw[←hla,ND],kgN _ _ hla] at ei
   exact⟨_,rfl,k Hi q si hq ei⟩
inductive klr (vs:List V) (H:Hp) (Q:VK) (E_:XK):Prop
 |ct (a b:Addr)(zs:List Int)(_:vs=[.ref a, .ref b])(_:H a=some (.lst (zs.map V.int)))(_:H b=some (.lst (zs.map V.int)))(_:Nn zs)(_:Q (.bl true) H):klr vs H Q E_
theorem kdB(zs:List Int):(zs.map V.int).all flatV=true:=by
 rw[M0]
 intro x hx
 obtain⟨n,_,rfl⟩:=Ny.mp hx
 rfl
theorem V4:kat ["_law_found","_law_due","_law_number"] ["_law_found","_law_due"] (kah kcl):=by ac_rfl
theorem keO(W:WB K mg d base):FO P w W 2 d.Zw d.Zx ["_law_found","_law_due"] klr:=by
 exists W.Qz.F,V4
 ·obtain⟨a,b,zs,rfl,ha,hb,hn,k⟩:=h
  exists QR,kdu,W
  refine⟨_,kab (ps_if (PW.pt (pw_or (kcv (kaN (kan (r:=rIsi K) kaK (by rfl) W.B.isi b_isi (kaa (pv 0) (kaa (keH (v:=.ty "list") (by rfl) W.B.list kbn rfl) kae))))) (kdY (kap op_ne (kan (r:=kaE K) kao (by rfl) W.B.len b_len (kaa (pv 0) kae)) (kan (r:=kaE K) kao (by rfl) W.B.len b_len (kaa (pv 1) kae)) (kav _))))) (kaf (kas pe_bl)) (kau))
   (kab (kaR PassesOwn.never rfl (kaz (K:=K) (pv 0)) (pgn (i:=2) V4.nd)
   (kaf (ps_if (PW.pt (pw_or (kcv (kaN (pcl QR hr W.Qy (kaa (pv 2) kae)))) (kdY (kap op_lt (pv 2) kag (kav _))))) (kaf (kas pe_bl)) (kau))))
   (kaf (kas (kb6 (kmH hr.units0) (pv 0) (pv 1) (kav _))))),?_⟩
  refine⟨_,rfl,_,_,_,_,rfl, .inl ⟨_,rfl⟩,TyOf.lst ha,kbT _ _,_,rfl,iteF ?_⟩
  refine⟨_,rfl,a,_,rfl, .inl (SqL.of ha),_,rfl,b,_,rfl, .inl (SqL.of hb),rfl,_,rfl,?_⟩
  rw[show(!decide (V.int (((zs.map V.int).length:Nat):Int)=V.int (((zs.map V.int).length:Nat):Int)))=false by simp]
  refine iteF ⟨_,rfl,a,rfl,⟨_,SqL.of ha⟩,kaZ (xs:=zs.map V.int) (fun _ σ H'=>H'=H∧∃v,σ=[some (.ref a),some (.ref b),v]) ⟨rfl,none,rfl⟩ (fun i σ H' _ h=>by rw[h.1];exact SqL.of ha) ?_ ?_⟩
  ·rintro i x σ H' hi ⟨rfl,v,rfl⟩
   obtain⟨n,en,rfl⟩:=int_at hi
   have h0:=hn n (Nj en)
   refine⟨_,rfl,n,rfl,_,rfl,iteF ⟨_,rfl,_,_,rfl,rfl,_,rfl,?_⟩⟩
   rw[show decide (n<0)=false from decide_eq_false (by omega)]
   exact iteF ⟨rfl,_,rfl⟩
  ·rintro σ H' ⟨rfl,v,rfl⟩
   refine⟨_,rfl,_,rfl,a,b,_,_,rfl,rfl,SqL.of ha,SqL.of hb,kdB _,kdB _,?_⟩
   rw[if_neg Np,ke5 (kdB zs)]
   exact k
theorem kdC{T:TillD}{B:Bask}{n:Nat}{ms:List Nat}{S:Stnd}{Vc:Vch}(e:T.vs[n]?=some Vc):billM T B (n::ms) S=(⟨n,(cutM Vc T.ps (kds B) S).1,(cutM Vc T.ps (kds B) S).2⟩::(billM T B ms (aftM Vc T.ps (kds B) S)).1,(billM T B ms (aftM Vc T.ps (kds B) S)).2):=by
 conv=>lhs;unfold billM
 rw[e]
theorem kgf{T:TillD}{B:Bask}{n:Nat}{ms:List Nat}{S:Stnd}(e:T.vs[n]?=none):billM T B (n::ms) S=([],S):=by
 conv=>lhs;unfold billM
 rw[e]
theorem kg5{T:TillD}{B:Bask}(tok:kc2 T):∀(ns:List Nat)(S:Stnd),Wf T.ps B S→(∀s∈(billM T B ns S).1,s.cs.length=S.pr.length)∧(billM T B ns S).2.pr.length=S.pr.length∧(billM T B ns S).1.length≤ns.length
 |[],S,_=>⟨(fun s h=>by cases h),rfl,Nd _⟩
 | n::ms,S,wf=>by
  cases e:T.vs[n]? with
  |none=>rw[kgf e];exact⟨(fun s h=>by cases h),rfl,NO _⟩
  | some Vc=>
   have vo:=tok.vs Vc (Nj e)
   have cl:=kfD (V:=Vc) (ps:=T.ps) (kk:=kds B) wf.nn wf.cg.1 vo.so fun m e=>(vo.ms.most m e).1
   rw[kdC e]
   have ih:=kg5 tok ms _ (wf.after vo)
   have la:(aftM Vc T.ps (kds B) S).pr.length=S.pr.length:=by
    show(NI _ _ _).length=_
    rw[MQ,cl.1.1,MM]
   refine⟨fun s hs=>?_,ih.2.1.trans la,Nat.succ_le_succ ih.2.2⟩
   rcases NF.mp hs with rfl|hs
   ·exact cl.1.1
   ·exact(ih.1 s hs).trans la
theorem kiE:∀(a b:List Int)(l:Nat),a.length=b.length→(NI (· - ·) a b).getD l 0=a.getD l 0-b.getD l 0
 |[],[],l,_=>by simp
 |[],_::_,_,h=>by cases h
 |_::_,[],_,h=>by cases h
 |x::a,y::b,0,_=>rfl
 |x::a,y::b,l+1,h=>kiE a b l (by simpa using h)
theorem kg4{T:TillD}{B:Bask}(tok:kc2 T)(ks:List Nat)(l:Nat):∀(ns:List Nat)(S:Stnd),Wf T.ps B S→(segs ks (billM T B ns S).2.pr).getD l 0+((billM T B ns S).1.map fun s=>(segs ks s.cs).getD l 0).sum=(segs ks S.pr).getD l 0
 |[],S,_=>Int.add_zero _
 | n::ms,S,wf=>by
  cases e:T.vs[n]? with
  |none=>rw[kgf e];exact Int.add_zero _
  |some Vc=>
   have vo:=tok.vs Vc (Nj e)
   have cl:=kfD (V:=Vc) (ps:=T.ps) (kk:=kds B) wf.nn wf.cg.1 vo.so fun m e=>(vo.ms.most m e).1
   rw[kdC e]
   have ih:=kg4 tok ks l ms _ (wf.after vo)
   have ea:(aftM Vc T.ps (kds B) S).pr=NI (· - ·) S.pr (cutM Vc T.ps (kds B) S).1:=rfl
   rw[ea,kia _ _ _ cl.1.1.symm,kiE _ _ _ (by rw[kem,kem])] at ih
   show(segs ks (billM T B ms (aftM Vc T.ps (kds B) S)).2.pr).getD l 0+((segs ks (cutM Vc T.ps (kds B) S).1).getD l 0::_).sum=_
   rw[NN]
   show _+(_+((billM T B ms (aftM Vc T.ps (kds B) S)).1.map fun s=>(segs ks s.cs).getD l 0).sum)=_
   omega
theorem kg6{T:TillD}{B:Bask}:∀(ns:List Nat)(S:Stnd),(∀n∈ns,n<T.vs.length)→(billM T B ns S).1.length=ns.length
 |[],S,_=>rfl
 |n::ms,S,h=>by
  obtain⟨V,e⟩:=at_of (h n NJ)
  rw[kdC e,NT,NT,kg6 ms _ fun m hm=>h m (NC _ hm)]
theorem kjF:∀(ms:List Nat)(as:List Int),Nn as→Nn (segs ms as)
 |[],_,_=>fun z hz=>by cases hz
 | m::ms,as,h=>fun z hz=>by
  rcases NF.mp hz with e|e
  ·rw[e]
   exact kbr fun x hx=>h x (MO hx)
  ·exact kjF ms (as.drop m) (fun x hx=>h x (Df hx)) z e
theorem kjX(rs:List Row)(r:Row):ownN (rs++[r])=ownN rs++Nh r.mn.toNat rs.length:=by
 unfold ownN
 rw[List.zipIdx_append,Nl,Mm]
 simp
inductive khV (d:D) (vs:List V) (H:Hp) (Q:VK) (E_:XK):Prop
 |ct (t b h o:Addr)(T:TillD)(B:Bask)(hand:List Int)(order:List Nat)(_:vs=[.ref t, .ref b, .ref h, .ref o])(_:TillIs d H t T)(_:kc2 T)(_:BaskIs d.qf d.qd H b B)(_:Wf T.ps B (stnd0 B))(_:H h=some (.lst (hand.map V.int)))(_:H o=some (.lst (order.map iV)))(_:hand.length=T.vs.length)(_:(∀n∈order,n<T.vs.length))(_:order.length<64)(_:kd3 T B hand order=none)(_:∀(H':Hp),Same H H'→Q (.bl true) H'):khV d vs H Q E_
theorem qq:kat ["_law_till","_law_basket","_law_hand","_law_order","_law_owners","_law_line","_law_state","_law_first","_law_bill","_law_cut_lines","_law_k","_law_voucher","_law_step_here","_law_lefts"] ["_law_till","_law_basket","_law_hand","_law_order"] (kah kbF):=by ac_rfl
theorem kf3(W:WB K mg d base):FO P w W 10 d.Zy d.Zz ["_law_till","_law_basket","_law_hand","_law_order"] (khV d):=by
 exists W.VH.F,qq
 ·obtain⟨t,b,h,o,T,B,hand,order,rfl,hT,tok,hB,wf0,hh,ho,hl,hlt,h64,hf,kk⟩:=h
  obtain⟨l,ls,⟨dxb,fsb,hb,lb1,lb2,lb3⟩,hls,hL⟩:=id hB
  exists U5,kc7,W
  exists V5,keh,W
  exists XS,kgD,W
  exists U6,kgE,W
  exists U7,kgG,W
  exists QR,kdu,W
  exists XT,keO,W
  exists U8,kc6,W
  exists U9,kfj,W
  exists hr1,1,hr,0
  exists hr2,2,hr,0
  exists hr3,3,hr,0
  exists hr5,5,hr,0
  refine⟨_,kab (psl (i:=4) qq.nd (kaT kae))
   (kab (kaR PassesOwn.never rfl (kaY rfl W.B.range (kaa (kan (r:=kaE K) kao (by rfl) W.B.len b_len (kaa (kaj (K:=K) (pv 1) rfl) kae)) kae)) (pgn (i:=5) qq.nd)
   (kaf (psl (i:=4) qq.nd (pe_op kjY (pv 4) (kbp (N:=["_law_piece","_law_line"]) (CompScope.of (N:=["_law_piece","_law_line"]) (cap:=[none,some 5]) (kah kbF).names ["_law_till","_law_basket","_law_hand","_law_order","_law_owners","_law_line","_law_state","_law_first","_law_bill","_law_cut_lines","_law_k","_law_voucher","_law_step_here","_law_lefts"] rfl rfl (by decide +kernel)) rfl (kaY rfl W.B.range (kaa (kaj (K:=K) (pe_ix (r:=rIxL K) kaw (kaj (K:=K) (pv 1) rfl) (pv 5) (fun _ _=>rfl)) rfl) kae)) (fun _ _ _ _=>pgn (i:=0) (show(["_law_piece","_law_line"]:List Str).Nodup by decide +kernel)) (fun _ _ _ _=>(pv 1)))))))
   (kab (psl (i:=6) qq.nd (kb5 (kaa (pcl U5 hr1 W.VG (kaa (pv 1) (kaa (pv 4) kae))) (kaa (kaj (K:=K) (pv 1) rfl) (kaa (kbp (N:=["_law_line"]) (CompScope.plain rfl (by decide +kernel) (by decide +kernel) (by decide +kernel) (nd1 _)) rfl (kaz (K:=K) (kaj (K:=K) (pv 1) rfl)) (fun _ _ _ _=>pgn (i:=0) (nd1 _)) (fun _ _ _ _=>pe_bl)) kae)))))
   (kab (psl (i:=7) qq.nd (pcl V5 hr1 W.Xa (kaa (pv 1) (kaa (pv 4) (kaa (pe_ix (r:=rIxT K) kcz (pv 6) kag (fun _ _=>rfl)) kae)))))
   (kab (psl (i:=8) qq.nd (pcl XS hr W.Q7 (kaa (pv 0) (kaa (pv 1) (kaa (kaQ (r:=kbg K) kaD (by rfl) W.B.list kbn (kaa (pv 2) kae)) (kaa (kaQ (r:=kbg K) kaD (by rfl) W.B.list kbn (kaa (pv 3) kae)) kae))))))
   (kab (ps_if (PW.pt (pw_or (kap (kmG hr.units0) (kaj (K:=K) (pv 8) rfl) (pv 3) (kav _)) (pw_or (kcv (kaN (kan (r:=rIsi K) kaK (by rfl) W.B.isi b_isi (kaa (kaj (K:=K) (pv 8) rfl) (kaa (keH (v:=.ty "list") (by rfl) W.B.list kbn rfl) kae))))) (kdY (kap op_ne (kan (r:=kaE K) kao (by rfl) W.B.len b_len (kaa (kaj (K:=K) (pv 8) rfl) kae)) (kan (r:=kaE K) kao (by rfl) W.B.len b_len (kaa (pv 3) kae)) (kav _)))))) (kaf (kas pe_bl)) (kau))
   (kab (psl (i:=9) qq.nd (pcl U6 hr5 W.Vr (kaa (pv 1) (kaa (pv 8) kae))))
   (kab (kaR PassesOwn.never rfl (kaY rfl W.B.range (kaa (kan (r:=kaE K) kao (by rfl) W.B.len b_len (kaa (pv 3) kae)) kae)) (pgn (i:=10) qq.nd)
   (kab (psl (i:=11) qq.nd (pe_ix (r:=rIxL K) kaw (kaj (K:=K) (pv 0) rfl) (pe_ix (r:=rIxL K) kaw (pv 3) (pv 10) (fun _ _=>rfl)) (fun _ _=>rfl)))
   (kab (psl (i:=12) qq.nd (pcl U7 hr3 W.VE (kaa (pv 11) (kaa (pv 0) (kaa (pv 1) (kaa (pv 4) (kaa (pv 6) kae)))))))
   (kab (ps_if (PW.pt (pw_or (kcv (kaN (kan (r:=rIsi K) kaK (by rfl) W.B.isi b_isi (kaa (pe_ix (r:=rIxL K) kaw (kaj (K:=K) (pv 8) rfl) (pv 10) (fun _ _=>rfl)) (kaa (keH (v:=.ty "tuple") (by rfl) W.B.tuple kmt rfl) kae))))) (pw_or (kap op_ne (pe_ix (r:=rIxT K) kcz (pe_ix (r:=rIxL K) kaw (kaj (K:=K) (pv 8) rfl) (pv 10) (fun _ _=>rfl)) kag (fun _ _=>rfl)) (pe_ix (r:=rIxL K) kaw (pv 3) (pv 10) (fun _ _=>rfl)) (kav _)) (kdY (kap op_ne (pe_ix (r:=rIxT K) kcz (pe_ix (r:=rIxL K) kaw (kaj (K:=K) (pv 8) rfl) (pv 10) (fun _ _=>rfl)) kag (fun _ _=>rfl)) (pe_ix (r:=rIxT K) kcz (pv 12) kag (fun _ _=>rfl)) (kav _)))))) (kaf (kas pe_bl)) (kau))
   (kab (ps_if (PW.pt (pw_or (kcv (kaN (pcl XT hr2 W.Qz (kaa (pe_ix (r:=rIxT K) kcz (pe_ix (r:=rIxL K) kaw (kaj (K:=K) (pv 8) rfl) (pv 10) (fun _ _=>rfl)) kag (fun _ _=>rfl)) (kaa (pe_ix (r:=rIxT K) kcz (pv 12) kag (fun _ _=>rfl)) kae))))) (kdY (kcv (kaN (pcl QR hr1 W.Qy (kaa (pe_ix (r:=rIxT K) kcz (pe_ix (r:=rIxL K) kaw (kaj (K:=K) (pv 8) rfl) (pv 10) (fun _ _=>rfl)) kag (fun _ _=>rfl)) kae))))))) (kaf (kas pe_bl)) (kau))
   (kab (ps_if (kcv (kaN (pcl XT hr2 W.Qz (kaa (pe_ix (r:=rIxL K) kaw (pv 9) (pv 10) (fun _ _=>rfl)) (kaa (pcl V5 hr1 W.Xa (kaa (pv 1) (kaa (pv 4) (kaa (pe_ix (r:=rIxT K) kcz (pv 12) kag (fun _ _=>rfl)) kae)))) kae))))) (kaf (kas pe_bl)) (kau))
   (kaf (psl (i:=6) qq.nd (pcl U8 hr1 W.VF (kaa (pv 6) (kaa (pv 12) (kaa (pv 11) (kaa (pv 4) kae)))))))))))))
   (kab (ps_if (PW.pt (pw_or (kcv (kaN (pcl XT hr2 W.Qz (kaa (kaj (K:=K) (pv 8) rfl) (kaa (pe_ix (r:=rIxT K) kcz (pv 6) kag (fun _ _=>rfl)) kae))))) (kdY (kap op_ne (kaj (K:=K) (pv 8) rfl) (pe_ix (r:=rIxT K) kcz (pv 6) kag (fun _ _=>rfl)) (kav _))))) (kaf (kas pe_bl)) (kau))
   (kab (psl (i:=13) qq.nd (pcl U9 hr5 W.Vt (kaa (pv 1) (kaa (pv 8) kae))))
   (kab (kaR PassesOwn.never rfl (kaY rfl W.B.range (kaa (kan (r:=kaE K) kao (by rfl) W.B.len b_len (kaa (kaj (K:=K) (pv 1) rfl) kae)) kae)) (pgn (i:=5) qq.nd)
   (kaf (ps_if (kap op_ne (pe_ix (r:=rIxL K) kaw (pv 7) (pv 5) (fun _ _=>rfl)) (pe_op kbR (pe_ix (r:=rIxL K) kaw (pv 13) (pv 5) (fun _ _=>rfl)) (kan (r:=rSum K) (ka2 rfl) (by rfl) W.B.sum b_sum (kaa (kbp (N:=["_law_cut","_law_line"]) (CompScope.of (N:=["_law_cut","_law_line"]) (cap:=[none,some 5]) (kah kbF).names ["_law_till","_law_basket","_law_hand","_law_order","_law_owners","_law_line","_law_state","_law_first","_law_bill","_law_cut_lines","_law_k","_law_voucher","_law_step_here","_law_lefts"] rfl rfl (by decide +kernel)) rfl (kaz (K:=K) (pv 9)) (fun _ _ _ _=>pgn (i:=0) (show(["_law_cut","_law_line"]:List Str).Nodup by decide +kernel)) (fun _ _ _ _=>(pe_ix (r:=rIxL K) kaw (pv 0) (pv 1) (fun _ _=>rfl)))) kae))) (kav _)) (kaf (kas pe_bl)) (kau))))
   (kaf (kas (kjU (pcl QR hr1 W.Qy (kaa (kaj (K:=K) (pv 8) rfl) kae)) (kjU (kb6 op_eq (kaj (K:=K) (pv 8) rfl) (pe_op kbR (kan (r:=rSum K) (ka2 rfl) (by rfl) W.B.sum b_sum (kaa (pv 13) kae)) (kaj (K:=K) (pv 8) rfl)) (kav _)) (kij (kb6 op_eq (kan (r:=rSum K) (ka2 rfl) (by rfl) W.B.sum b_sum (kaa (pv 13) kae)) (kan (r:=rSum K) (ka2 rfl) (by rfl) W.B.sum b_sum (kaa (pe_ix (r:=rIxT K) kcz (pv 6) kag (fun _ _=>rfl)) kae)) (kav _))))))))))))))))),?_⟩
  have lls:=hL.len
  have h12:=wf0.nl
  have hok:=wf0.ok
  have h720:(ownN B.rs).length≤720:=by have:=wf0.np;exact this
  refine⟨by decide,fun w0 fw0=>?_⟩
  exists H,w0,H1,n1,e1,fw0
  refine⟨_,rfl,b,d.qd,dxb,fsb,_,rfl,n1 _ _ hb,W.qd.cl,W.qr,lb1,l,_,rfl, .inl (SqL.of (n1 _ _ hls)),_,rfl,by omega,(by rw[Nb];omega),?_⟩
  rw[Nb,lls,show((B.rs.length:Nat):Int).toNat=B.rs.length by simp]
  refine kbb (fun i σ H'=>Same H H'∧∃(ow:Addr)(v5:Option V),H' ow=some (.lst ((ownN (B.rs.take i)).map iV))∧σ=[some (.ref t),some (.ref b),some (.ref h),some (.ref o),some (.ref ow),v5,none,none,none,none,none,none,none,none])
   ⟨n1,w0,none,e1,rfl⟩ ?_ ?_
  ·rintro i σ Hi hi ⟨si,ow,v5,eow,rfl⟩
   rw[Int.zero_add]
   obtain⟨r,er⟩:=at_of hi
   obtain⟨lx,elx⟩:=at_of (xs:=ls) (i:=i) (by omega)
   obtain⟨dxl,fsl,hlx,lk1,lk2,lk3,lk4⟩:=(hL.get elx er).same si
   have rok:=hok r (Nj er)
   have mn0:=rok.mn0
   have mn1:=rok.mn1
   have bd:=kht B.m (B.rs.take i) fun r hr=>hok r (MO hr)
   have bd2:(ownN (B.rs.take i)).length≤60*i:=by
    rw[kfX,Nv] at bd
    omega
   refine⟨_,rfl,_,rfl,b,d.qd,dxb,fsb,_,rfl,si _ _ hb,W.qd.cl,W.qr,lb1,_,rfl,l,_,_, .ref lx,rfl,rfl,SqL.of (si _ _ hls),kaA (by rw[Ni,elx];rfl),lx,d.qf,dxl,fsl,_,rfl,hlx,W.qf.cl,W.Qm,lk3,_,rfl,by omega,by omega,?_⟩
   refine kfE (fun j σ ys H'=>H'=Hi∧ys=(Nh j i).map iV∧∃v0:Option V,σ=[v0,some (iV i)])
    ⟨rfl,rfl,none,rfl⟩ (Nq (kar (by omega))) (fun j σ ys H' hj h=>by rw[h.2.1];simp) ?_ ?_
   ·rintro j σ ys H' hj ⟨rfl,rfl,v0,rfl⟩
    refine⟨_,rfl,rfl,?_,_,rfl⟩
    rw[MB,Nl]
    rfl
   rintro σ ys H' ⟨rfl,rfl,v0,rfl⟩ l2 fl2
   exists H',l2,H2,n2,e2,fl2
   refine⟨ow,l2,_,_,rfl,rfl,n2 _ _ eow,e2,Nq (kar (by rw[Nb,Nb,Mf];omega)),fun l3 fl3=>?_⟩
   exists H2,l3,H3,n3,e3,fl3
   refine⟨(si.trans n2).trans n3,l3,_,?_,rfl⟩
   rw[e3,take_snoc er,kjX,Nl,Nv,MT (by omega)]
  rintro σ Hi ⟨si,ow,v5,eow,rfl⟩
  rw[ND] at eow
  refine⟨_,rfl,_,rfl,b,ow,B,rfl,hB.same si,eow,(fun z hz=>kf1 B.rs hz),h720,fun p fp=>?_⟩
  exists Hi,p,H2,n2,e2,fp
  have s2:=si.trans n2
  refine⟨_,rfl,b,d.qd,dxb,fsb,_,rfl,s2 _ _ hb,W.qd.cl,W.Xp,lb2,?_⟩
  refine⟨_,rfl,b,d.qd,dxb,fsb,_,rfl,s2 _ _ hb,W.qd.cl,W.qr,lb1,l,rfl,⟨_,SqL.of (s2 _ _ hls)⟩,kaL (xs:=ls.map V.ref) (fun i σ ys H'=>H'=H2∧ys=(Nh i false).map V.bl∧∃v,σ=[v]) ⟨rfl,rfl,none,rfl⟩ (by rw[Nb,lls];exact Nq (kar (by omega))) ?_ ?_ ?_⟩
  ·rintro i σ ys H' hi ⟨rfl,rfl,_⟩
   exact⟨SqL.of (s2 _ _ hls),by simp⟩
  ·rintro i y σ ys H' hy ⟨rfl,rfl,v,rfl⟩
   exact⟨rfl,by rw[MB,Nl];rfl,_,rfl⟩
  rintro σ ys H' ⟨rfl,rfl,v,rfl⟩ m fm
  rw[Nb,lls]
  exists H',m,H3,n3,e3,fm
  refine⟨(by show 3≤sizeLine;decide),fun st fst=>?_⟩
  exists H3,st,H4,n4,e4,fst
  have s24:=n3.trans n4
  have s4:=s2.trans s24
  have hst:StT H4 st (stnd0 B):=⟨p,m,e4,s24 _ _ e2,n4 _ _ e3⟩
  have eow4:H4 ow=some (.lst ((ownN B.rs).map iV)):=(n2.trans s24) _ _ eow
  have ep4:H4 p=some (.lst ((prs B.m B.rs).map V.int)):=s24 _ _ e2
  clear n2 n3 e2 e3 fp fm fst s2 s24 eow
  refine⟨_,rfl,_,rfl,_,rfl,st,_,_,_,rfl,rfl,SqT.of e4,rfl,b,ow,p,B,prs B.m B.rs,rfl,hB.same s4,h12,eow4,ep4,kfX _ _,h720,fun H5 fi s5 ffi efi=>?_⟩
  have s05:=s4.trans s5
  have hst5:=hst.same s5
  have eow5:=s5 _ _ eow4
  clear hst eow4 ep4 e4 n4 s4 s5
  refine⟨_,rfl,_,rfl,_,rfl,h,_,rfl, .inl (SqL.of (s05 _ _ hh)),fun h2 fh2=>?_⟩
  exists H5,h2,H6,n6,e6,fh2
  refine⟨_,rfl,o,_,rfl, .inl (SqL.of ((s05.trans n6) _ _ ho)),fun o2 fo2=>?_⟩
  exists H6,o2,H7,n7,e7,fo2
  have s57:=n6.trans n7
  have s07:=s05.trans s57
  refine⟨t,b,h2,o2,T,B,hand,order,rfl,hT.same s07,tok,hB.same s07,wf0,n7 _ _ e6,e7,hl,hlt,h64,hf,fun HB H8 bl s8 s8' hbl=>?_⟩
  have s78:=s8.trans s8'
  have s58:=s57.trans s78
  have s08:=s07.trans s78
  have hst8:=hst5.same s58
  have eow8:=s58 _ _ eow5
  have efi8:=s58 _ _ efi
  clear hst5 eow5 efi s57 s78 s58 s8 s8' e6 e7 n6 n7
  have hlens:=kg5 tok order (stnd0 B) wf0
  have hfull:=kg6 (T:=T) (B:=B) order (stnd0 B) hlt
  have hsegs:=fun l=>kg4 tok (mans B.rs) l order (stnd0 B) wf0
  have hown0:(stnd0 B).pr.length=(ownN B.rs).length:=kfX _ _
  have hnnR:∀(ns:List Nat)(S:Stnd),Wf T.ps B S→Nn (billM T B ns S).2.pr:=fun ns=>by
   induction ns with
   |nil=>exact fun S w=>w.nn
   |cons n ms ih=>
    intro S w
    cases e:T.vs[n]? with
    |none=>rw[kgf e];exact w.nn
    |some V=>rw[kdC e];exact ih _ (w.after (tok.vs V (Nj e)))
  have hnnf:=hnnR order (stnd0 B) wf0
  have eRR:billM T B order (stnd0 B)=billM T B order (stnd0 B):=rfl
  unfold kkC at hbl
  generalize hRR:billM T B order (stnd0 B)=R at *
  clear eRR hnnR
  obtain⟨dx,fs,bo,bs,bp,sa,hb1,h2',h3',h4',h5',h6',f1,f2,f3,f4,h7',h8',h9',h10'⟩:=id hbl
  have lsa:=h9'.len
  have hst64:R.1.length<64:=by omega
  have hcsl:∀s∈R.1,s.cs.length=(ownN B.rs).length:=fun s hs=>(hlens.1 s hs).trans hown0
  refine⟨_,rfl,bl,d.qe,dx,fs,_,rfl,hb1,W.qe.cl,W.VT,h2',_,rfl,bo,o,_,_,rfl,rfl,SqL.of h7',SqL.of (s08 _ _ ho),kcu _,kcu _,_,rfl,?_⟩
  rw[if_pos rfl,ke5 (kcu order)]
  refine iteF ?_
  refine⟨_,rfl,bl,d.qe,dx,fs,_,rfl,hb1,W.qe.cl,W.qE,h3',_,_,_,_,rfl, .inl ⟨_,rfl⟩,TyOf.lst h8',kbT _ _,_,rfl,iteF ?_⟩
  refine⟨_,rfl,bl,d.qe,dx,fs,_,rfl,hb1,W.qe.cl,W.qE,h3',bs,_,rfl, .inl (SqL.of h8'),_,rfl,o,_,rfl, .inl (SqL.of (s08 _ _ ho)),rfl,_,rfl,?_⟩
  rw[Nb,Nb,lsa,hfull,show(!decide (V.int ((order.length:Nat):Int)=V.int ((order.length:Nat):Int)))=false by simp]
  refine iteF ?_
  refine⟨_,rfl,_,rfl,b,bl,B,_,HB,rfl,hB.same s08,h12,hok,h720,hbl,hcsl,hst64,fun H9 cl qa s9 fcl ncl fqa ecl hqa=>?_⟩
  have s09:=s08.trans s9
  have hst9:=hst8.same s9
  have lqa:=hqa.len
  refine⟨_,rfl,o,_,rfl, .inl (SqL.of (s09 _ _ ho)),_,rfl,by omega,(by rw[Nb];omega),?_⟩
  rw[Nb,show((order.length:Nat):Int).toNat=order.length by simp]
  obtain⟨dxt,fst,pp,vl,rl,va,ra,ht,t1,t2,t3,t4,hpp,hvl,hva,_⟩:=id hT
  refine kbb (fun i σ Hj=>Same H9 Hj∧∃(st:Addr)(S:Stnd)(v10 v11 v12:Option V),StT Hj st S∧S.ow=ownN B.rs∧Wf T.ps B S∧billM T B (order.drop i) S=(R.1.drop i,R.2)∧σ=[some (.ref t),some (.ref b),some (.ref h),some (.ref o),some (.ref ow),v5,some (.ref st),some (.ref fi),some (.ref bl),some (.ref cl),v10,v11,v12,none])
   ⟨Same.refl _,st,stnd0 B,none,none,none,hst9,rfl,wf0,by rw[M7,M7];exact hRR,rfl⟩ ?_ ?_
  ·rintro i σ Hj hi ⟨sj,st,S,v10,v11,v12,hst,how,wf,hbm,rfl⟩
   rw[Int.zero_add]
   obtain⟨n,en⟩:=at_of hi
   obtain⟨Vc,eV⟩:=at_of (hlt n (Nj en))
   have vo:=tok.vs Vc (Nj eV)
   obtain⟨v,ev⟩:=at_of (xs:=va) (i:=n) (by rw[hva.len];exact at_lt eV)
   have hVc:=hva.get ev eV
   have ed:order.drop i=n::order.drop (i+1):=by
    obtain⟨h1,h2⟩:=Nu.mp en
    rw[EO h1,h2]
   rw[ed,kdC eV] at hbm
   have hb1':=congrArg Prod.fst hbm
   have hb2':=congrArg Prod.snd hbm
   simp only at hb1' hb2'
   obtain⟨sx,esx⟩:=at_of (xs:=R.1) (i:=i) (by omega)
   have ed2:R.1.drop i=sx::R.1.drop (i+1):=by
    obtain⟨h1,h2⟩:=Nu.mp esx
    rw[EO h1,h2]
   rw[ed2] at hb1'
   injection hb1' with hsx hb3'
   have s0j:=s09.trans sj
   have s8j:=s9.trans sj
   have atO:atI (order.map iV) ((i:Nat):Int)=some (iV n):=kaA (v:=iV n) (by rw[Ni,en];rfl)
   refine⟨_,rfl,t,d.qg,dxt,fst,_,rfl,s0j _ _ ht,W.qg.cl,W.qM,t2,_,rfl,_,rfl,o,_,_,_,rfl,rfl,SqL.of (s0j _ _ ho),atO,vl,_,_,_,rfl,rfl,SqL.of (s0j _ _ hvl),kaA (v:=.ref v) (by rw[Ni,ev];rfl),?_⟩
   refine⟨_,rfl,_,rfl,_,rfl,_,rfl,_,rfl,v,t,b,ow,st,Vc,T,B,S,rfl,hVc.same s0j,vo,hT.same s0j,hB.same s0j,by rw[how];exact s8j _ _ eow8,hst,wf,fun H10 sh l1 s10 esh el1=>?_⟩
   obtain⟨a,ea⟩:=at_of (xs:=sa) (i:=i) (by rw[lsa];exact at_lt esx)
   obtain⟨fa,sl,fsl',ha1,ha2⟩:=h9'.get ea esx
   have s810:=s8j.trans s10
   have hb10:=s810 _ _ hb1
   have hs10:=s810 _ _ h8'
   have ha10:=s810 _ _ ha1
   have atS:atI (sa.map V.ref) ((i:Nat):Int)=some (.ref a):=kaA (by rw[Ni,ea];rfl)
   have s010:=s0j.trans s10
   refine⟨_,rfl,bl,d.qe,dx,fs,_,rfl,hb10,W.qe.cl,W.qE,h3',_,rfl,bs,_,_,_,rfl,rfl,SqL.of hs10,atS,_,_,_,_,rfl, .inl ⟨_,rfl⟩,TyOf.tup ha10,kbT _ _,_,rfl,iteF ?_⟩
   have hcl:=(kfD (V:=Vc) (ps:=T.ps) (kk:=kds B) wf.nn wf.cg.1 vo.so (fun m hm=>(vo.ms.most m hm).1)).1
   subst hsx
   refine⟨_,rfl,bl,d.qe,dx,fs,_,rfl,hb10,W.qe.cl,W.qE,h3',_,rfl,bs,_,_,_,rfl,rfl,SqL.of hs10,atS,a,_,_,_,rfl,rfl,SqT.of ha10,rfl,_,rfl,_,rfl,o,_,_,_,rfl,rfl,SqL.of (s010 _ _ ho),atO,rfl,_,rfl,?_⟩
   rw[show(!decide (iV n=iV n))=false by simp]
   refine iteF ⟨_,rfl,bl,d.qe,dx,fs,_,rfl,hb10,W.qe.cl,W.qE,h3',_,rfl,bs,_,_,_,rfl,rfl,SqL.of hs10,atS,a,_,_,_,rfl,rfl,SqT.of ha10,rfl,_,rfl,sh,_,_,_,rfl,rfl,SqT.of esh,rfl,rfl,_,rfl,?_⟩
   rw[show(!decide (V.int (cutM Vc T.ps (kds B) S).2=V.int (cutM Vc T.ps (kds B) S).2))=false by simp]
   refine iteF ?_
   refine⟨_,rfl,bl,d.qe,dx,fs,_,rfl,hb10,W.qe.cl,W.qE,h3',_,rfl,bs,_,_,_,rfl,rfl,SqL.of hs10,atS,a,_,_,_,rfl,rfl,SqT.of ha10,rfl,_,rfl,sh,_,_,_,rfl,rfl,SqT.of esh,rfl,sl,l1,_,rfl,s810 _ _ ha2,el1,hcl.nn,_,rfl,iteF ?_⟩
   refine⟨_,rfl,bl,d.qe,dx,fs,_,rfl,hb10,W.qe.cl,W.qE,h3',_,rfl,bs,_,_,_,rfl,rfl,SqL.of hs10,atS,a,_,_,_,rfl,rfl,SqT.of ha10,rfl,_,rfl,_,rfl,iteF ?_⟩
   obtain⟨qk,eqk⟩:=at_of (xs:=qa) (i:=i) (by rw[lqa];exact at_lt esx)
   have hqk:=hqa.get eqk esx
   have s910:=sj.trans s10
   refine⟨_,rfl,_,rfl,cl,_,_,_,rfl,rfl,SqL.of (s910 _ _ ecl),kaA (v:=.ref qk) (by rw[Ni,eqk];rfl),_,rfl,_,rfl,_,rfl,sh,_,_,_,rfl,rfl,SqT.of esh,rfl,b,ow,l1,B,_,rfl,hB.same s010,h12,s810 _ _ eow8,el1,hcl.1.trans (wf.lp.trans (by rw[how])),h720,fun H11 bz s11 f11 e11=>?_⟩
   refine⟨qk,bz,_,rfl,(s910.trans s11) _ _ hqk,e11,kjF _ _ hcl.nn,_,rfl,iteF ?_⟩
   refine⟨_,rfl,_,rfl,_,rfl,_,rfl,st,sh,v,ow,l1,Vc,T.ps,B,S,rfl,(hVc.same s010).same s11,vo,by rw[how];exact(s810.trans s11) _ _ eow8,(hst.same s10).same s11,wf,s11 _ _ esh,s11 _ _ el1,fun H12 st2 s12 hst2=>?_⟩
   refine⟨(s910.trans s11).trans s12,st2,_,_,_,_,hst2,how,wf.after vo,?_,rfl⟩
   rw[←hb3',←hb2']
  rintro σ Hj ⟨sj,st,S,v10,v11,v12,hst,how,wf,hbm,rfl⟩
  rw[Dq] at hbm
  have hRS:R.2=S:=(congrArg Prod.snd hbm).symm
  have s0j:=s09.trans sj
  have s8j:=s9.trans sj
  obtain⟨sp,sm,est,esp,esm⟩:=id hst
  have hbj:=s8j _ _ hb1
  refine⟨_,rfl,bl,d.qe,dx,fs,_,rfl,hbj,W.qe.cl,W.Xu,h4',_,rfl,st,_,_,_,rfl,rfl,SqT.of est,rfl,bp,sp,R.2.pr,rfl,s8j _ _ h10',by rw[hRS];exact esp,hnnf,_,rfl,iteF ?_⟩
  refine⟨_,rfl,bl,d.qe,dx,fs,_,rfl,hbj,W.qe.cl,W.Xv,h5',_,rfl,st,_,_,_,rfl,rfl,SqT.of est,rfl,rfl,_,rfl,?_⟩
  rw[show(!decide (V.int R.2.cg=V.int S.cg))=false by rw[hRS];simp]
  refine iteF ?_
  have hlpr:R.2.pr.length=(ownN B.rs).length:=hlens.2.1.trans hown0
  refine⟨_,rfl,_,rfl,b,bl,B,_,HB,rfl,hB.same s0j,h12,hok,h720,hbl.same s8j,hlpr,fun H12 lf s12 flf elf=>?_⟩
  have s0c:=s0j.trans s12
  have s8c:=s8j.trans s12
  have s9c:=sj.trans s12
  have hqc:P2 (fun q (s:Step)=>H12 q=some (.lst ((segs (mans B.rs) s.cs).map V.int))) qa R.1:=hqa.mono fun _ _ e=>s9c _ _ e
  have eclc:=s9c _ _ ecl
  have efic:=s8c _ _ efi8
  have lsg:∀xs:List Int,(segs (mans B.rs) xs).length=B.rs.length:=fun xs=>by
   rw[kem]
   unfold mans
   rw[Nb]
  refine⟨_,rfl,b,d.qd,dxb,fsb,_,rfl,s0c _ _ hb,W.qd.cl,W.qr,lb1,l,_,rfl, .inl (SqL.of (s0c _ _ hls)),_,rfl,by omega,(by rw[Nb];omega),?_⟩
  rw[Nb,lls,show((B.rs.length:Nat):Int).toNat=B.rs.length by simp]
  refine kbb (fun i σ Hk=>Same H12 Hk∧∃v5:Option V,σ=[some (.ref t),some (.ref b),some (.ref h),some (.ref o),some (.ref ow),v5,some (.ref st),some (.ref fi),some (.ref bl),some (.ref cl),v10,v11,v12,some (.ref lf)])
   ⟨Same.refl _,_,rfl⟩ ?_ ?_
  ·rintro i σ Hk hi ⟨sk,v5',rfl⟩
   rw[Int.zero_add]
   have gat:∀xs:List Int,(segs (mans B.rs) xs)[i]?=some ((segs (mans B.rs) xs).getD i 0):=fun xs=>by
    rw[Nt,N5 (by rw[lsg];exact hi)]
    rfl
   refine⟨_,rfl,_,rfl,fi,_,_,_,rfl,rfl,SqL.of (sk _ _ efic),kaA (v:=.int ((segs (mans B.rs) (prs B.m B.rs)).getD i 0)) (by rw[Ni,gat];rfl),_,rfl,_,rfl,lf,_,_,_,rfl,rfl,SqL.of (sk _ _ elf),kaA (v:=.int ((segs (mans B.rs) R.2.pr).getD i 0)) (by rw[Ni,gat];rfl),?_⟩
   refine⟨_,rfl,cl,rfl,⟨_,SqL.of (sk _ _ eclc)⟩,kaL (xs:=qa.map V.ref) (fun m σ ys Hm=>Hm=Hk∧ys=((R.1.take m).map fun s=>(segs (mans B.rs) s.cs).getD i 0).map V.int∧∃v,σ=[v,some (iV i)]) ⟨rfl,rfl,none,rfl⟩ (by rw[Nb,lqa];exact Nq (kar (by show R.1.length≤1000;omega))) ?_ ?_ ?_⟩
   ·rintro m σ ys Hm hm ⟨rfl,rfl,_⟩
    refine⟨SqL.of (sk _ _ eclc),?_⟩
    rw[Nb] at hm
    rw[Nb,Nb,Nv]
    have:qa.length=R.1.length:=lqa
    omega
   ·rintro m y σ ys Hm hy ⟨rfl,rfl,v,rfl⟩
    obtain⟨q,eq,rfl⟩:=kcf hy
    obtain⟨sx,esx,hz⟩:=hqc.at eq
    refine⟨_,rfl,_,rfl,q,_,_,_,rfl,rfl,SqL.of (sk _ _ hz),kaA (v:=.int ((segs (mans B.rs) sx.cs).getD i 0)) (by rw[Ni,gat];rfl),rfl,?_,_,rfl⟩
    rw[take_snoc esx,Nl,Nl]
    rfl
   rintro σ ys Hm ⟨rfl,rfl,v,rfl⟩ D hD
   rw[Nb,show qa.length=R.1.length from lqa,ND]
   exists Hm,D,Hn,nn,en,hD
   refine⟨D,_,rfl,SqL.of en,_,_,rfl,rfl,rfl,_,rfl,?_⟩
   have hsi:=hsegs i
   rw[show(!decide (V.int ((segs (mans B.rs) (prs B.m B.rs)).getD i 0)=V.int ((segs (mans B.rs) R.2.pr).getD i 0+(R.1.map fun s=>(segs (mans B.rs) s.cs).getD i 0).sum)))=false by rw[hsi];simp[stnd0]]
   exact iteF ⟨sk.trans nn,_,rfl⟩
  rintro σ Hk ⟨sk,v5',rfl⟩
  have s8k:=s8c.trans sk
  have hbk:=s8k _ _ hb1
  have elk:=sk _ _ elf
  have hsum:=kh9 (mans B.rs) R.2.pr (by rw[hlpr,kim];exact Nd _)
  refine⟨_,rfl,bl,d.qe,dx,fs,_,rfl,hbk,W.qe.cl,W.Xw,h6',_,rfl,_,rfl,iteT ?_⟩
  refine⟨_,rfl,bl,d.qe,dx,fs,_,rfl,hbk,W.qe.cl,W.Xw,h6',_,rfl,lf,_,rfl,SqL.of elk,_,rfl,bl,d.qe,dx,fs,_,rfl,hbk,W.qe.cl,W.Xv,h5',_,_,rfl,rfl,rfl,_,rfl,?_⟩
  rw[hsum,show decide (V.int (R.2.pr.sum+R.2.cg)=V.int (R.2.pr.sum+R.2.cg))=true by simp]
  refine iteT ⟨_,rfl,lf,_,rfl,SqL.of elk,_,rfl,st,_,_,_,rfl,rfl,SqT.of ((s12.trans sk) _ _ est),rfl,sp,_,rfl,SqL.of ((s12.trans sk) _ _ esp),rfl,?_⟩
  rw[hsum,hRS,show decide (V.int S.pr.sum=V.int S.pr.sum)=true by simp]
  exact kk _ (s0c.trans sk)
theorem khM:∀(o1 o2 used:List Nat)(S S1:Stnd),walkM T B hand o1 used S=(used++o1,S1)→walkM T B hand (o1++o2) used S=walkM T B hand o2 (used++o1) S1
 |[],o2,used,S,S1,h=>by
  unfold walkM at h
  rw[Mv] at h⊢
  have:=congrArg Prod.snd h
  simp only at this
  rw[this]
  rfl
 | n::o1,o2,used,S,S1,h=>by
  have hcons:∀o:List Nat,walkM T B hand (n::o) used S=match T.vs[n]? with
   |none=>(used,S)
   |some V=>if dueM V T B hand used S n=.non then walkM T B hand o (used++[n]) (aftM V T.ps (kds B) S) else(used,S):=fun _=>rfl
  rw[EG,hcons]
  rw[hcons] at h
  cases e:T.vs[n]? with
  |none=>
   rw[e] at h
   have:=congrArg MV (congrArg Prod.fst h)
   simp at this
  | some V=>
   rw[e] at h
   simp only at h⊢
   by_cases hn:dueM V T B hand used S n=.non
   ·rw[if_pos hn] at h⊢
    have h':walkM T B hand o1 (used++[n]) (aftM V T.ps (kds B) S)=((used++[n])++o1,S1):=by rw[h,Mc];rfl
    rw[khM o1 o2 _ _ _ h',Mc]
    rfl
   ·rw[if_neg hn] at h
    have:=congrArg MV (congrArg Prod.fst h)
    simp at this
theorem kje:∀(k:Nat)(used:List Nat)(S:Stnd),walkM T B hand used [] (stnd0 B)=(used,S)→(∀n∈used,n<T.vs.length)→∀q∈waysM T B hand k used S,walkM T B hand q.1 [] (stnd0 B)=(q.1,q.2)∧(onlyM T.rs q.1).isNone=true∧(∀n∈q.1,n<T.vs.length)∧q.1.length≤used.length+k
 |0,_,_,_,_,q,h=>by simp[waysM] at h
 | k +1,used,S,hw,hm,q,h=>by
  unfold waysM at h
  rcases NR.mp h with h|h
  ·cases e:(onlyM T.rs used).isNone with
   |false=>rw[e] at h;simp at h
   |true=>
    rw[e,if_pos rfl] at h
    have eq:q=(used,S):=by simpa using h
    rw[eq]
    exact⟨hw,e,hm,by show used.length≤_;omega⟩
  ·obtain⟨n,hn,h2⟩:=List.mem_flatMap.mp h
   have hc:=(NW.mp hn).2
   obtain⟨hn1,_⟩:=ket hc
   obtain⟨V,hV⟩:=at_of hn1
   unfold canM at hc
   rw[hV] at hc
   have hd:dueM V T B hand used S n=.non:=of_decide_eq_true hc
   rw[hV] at h2
   have hw':walkM T B hand (used++[n]) [] (stnd0 B)=(used++[n],aftM V T.ps (kds B) S):=by
    rw[khM used [n] [] _ S (by rw[MZ];exact hw),MZ]
    unfold walkM
    rw[hV]
    simp only
    rw[if_pos hd]
    rfl
   obtain⟨q1,q2,q3,q4⟩:=kje k (used++[n]) _ hw' (fun m hm'=>by
    rcases NR.mp hm' with h'|h'
    ·exact hm m h'
    ·have e:m=n:=by simpa using h'
     rw[e]
     exact hn1) q h2
   rw[Nr,Ml] at q4
   exact⟨q1,q2,q3,by omega⟩
theorem kiP{u:List Nat}{S:Stnd}(h:walkM T B hand u [] (stnd0 B)=(u,S))(h2:onlyM T.rs u=none):kd3 T B hand u=none:=by
 unfold kd3
 rw[h]
 simp only
 rw[if_neg (Mq _),h2]
 rfl
theorem kkG:0<(waysM T B hand 10 [] (stnd0 B)).length:=by
 unfold waysM
 rw[if_pos (show(onlyM T.rs []).isNone=true by
  unfold onlyM
  rw[show T.rs.find? (loneM [])=none from List.find?_eq_none.mpr fun r _=>by unfold loneM;simp]
  rfl),Nr,Ml]
 omega
theorem klD{q:List Nat}(h:q∈(waysM T B hand 10 [] (stnd0 B)).map Prod.fst):kd3 T B hand q=none∧(∀n∈q,n<T.vs.length)∧q.length<64:=by
 obtain⟨w,hw,rfl⟩:=Ny.mp h
 obtain⟨g1,g2,g3,g4⟩:=kje 10 [] (stnd0 B) rfl (fun n h=>by simp at h) w hw
 rw[List.length_nil] at g4
 exact⟨kiP g1 (Option.isNone_iff_eq_none.mp g2),g3,by omega⟩
theorem qz:kat ["_law_script","_law_till","_law_basket","_law_hand","_law_other","_law_order","_law_found","_law_places","_law_k","_law_place"] ["_law_script"] (kah s_law):=by ac_rfl
theorem kmI(W:WB K mg d base):FO P w W 18 d.f_law d.ZA ["_law_script"] (kgo K d.tP_falling_groups):=by
 refine FunD.ok W.d_law.F qz (fun vs H Q E h=>?_) (fun cdv A outer s H vs Q E hr h=>?_)
 ·obtain⟨a,ns,rfl,_⟩:=h
  rfl
 ·obtain⟨a,ns,rfl,hS,hn,htb0,k⟩:=h
  exists Ja,kee,W
  exists XQ,kd0,W
  exists V6,kj0,W
  exists XS,kgD,W
  exists qp,kbq,W
  exists Qd,kcW,W
  exists Jb,kf3,W
  exists hr1,1,hr,0
  exists hr2,2,hr,0
  exists hr7,7,hr,0
  exists hr9,9,hr,0
  exists hr10,10,hr,0
  refine⟨_,kab (kcw (pcl Ja hr7 W.VA (kaa (pv 0) (kaa kag (kaa kag kae)))) (kbi (K:=K) (n:=3) rfl (kax (pgn (i:=1) qz.nd) (kax (pgn (i:=2) qz.nd) (kax (pgn (i:=3) qz.nd) kbh)))))
   (kab (psl (i:=4) qz.nd (kbc (W.QG.mk' W.qg) XQ hr2 rfl W.qg.m W.b1_Till_init (show Vals [.str "again"] [.str "again" d.tok0_Till_init] from(.cons ⟨_,rfl⟩ .nil)) pass0 (kaa (kaQ (r:=kbg K) kaD (by rfl) W.B.list kbn (kaa (kaj (K:=K) (pv 1) rfl) kae)) (kaa (kdg (K:=K) rfl (by rfl) W.B.list (by rfl) W.B.rev (kaj (K:=K) (pv 1) rfl)) (kaa (kaT kae) kae)))))
   (kab (kaR PassesOwn.never rfl (kaz (K:=K) (kf0 (r:=rSlL K) khj (pcl V6 hr W.Q9 (kaa (pv 4) (kaa (pv 2) (kaa (kdg (K:=K) rfl (by rfl) W.B.list (by rfl) W.B.rev (pv 3)) kae)))) kjQ (kfZ kag))) (pgn (i:=5) qz.nd)
   (kaf (kaM (pcl XS hr9 W.Q7 (kaa (pv 4) (kaa (pv 2) (kaa (kdg (K:=K) rfl (by rfl) W.B.list (by rfl) W.B.rev (pv 3)) (kaa (pv 5) kae))))))))
   (kab (psl (i:=6) qz.nd (pcl V6 hr W.Q9 (kaa (pv 1) (kaa (pv 2) (kaa (kaQ (r:=kbg K) kaD (by rfl) W.B.list kbn (kaa (pv 3) kae)) kae)))))
   (kab (psl (i:=7) qz.nd (kaT (kaa kag (kaa (pe_op kcK (kan (r:=kaE K) kao (by rfl) W.B.len b_len (kaa (pv 6) kae)) kag) kae))))
   (kab (kaR PassesOwn.never rfl (kaY rfl W.B.range (kaa kag kae)) (pgn (i:=8) qz.nd)
   (kaf (kaM (pe_bm NQ N7 N8 kaU (pv 7) (kaa (pe_op kaC (pcl qp hr1 W.qB (kaa (pe_op kbR (pcl Qd hr1 W.qV (kaa (pv 0) (kaa (pv 8) kae))) (pe_op kb7 (pe_op kb7 kag (pv 8)) (pv 8))) (kaa kag (kaa kag kae)))) (kan (r:=kaE K) kao (by rfl) W.B.len b_len (kaa (pv 6) kae))) kae)))))
   (kab (kaR PassesOwn.never rfl (kaz (K:=K) (pv 7)) (pgn (i:=9) qz.nd)
   (kaf (ps_if (kcv (kaN (pcl Jb hr10 W.VH (kaa (pv 1) (kaa (pv 2) (kaa (pv 3) (kaa (pe_ix (r:=rIxL K) kaw (pv 6) (pv 9) (fun _ _=>rfl)) kae))))))) (kaf (kas pe_bl)) (kau))))
   (kaf (kas pe_bl)))))))),?_⟩
  exists Y4
  refine⟨_,rfl,a,ns,4,4,rfl,hS,hn,by decide,by decide,htb0,fun H1 w t b h T B hand s1 fh ew hT tok hB wf0 eh hl hnn hsum hr3 hrb hbk=>?_⟩
  have hsum4:hand.sum≤4:=hsum
  have nv:=tok.nv
  symm
  exists Y4
  refine⟨w,_,rfl,SqT.of ew,rfl,_,_,rfl,_,_,rfl,_,_,rfl,rfl,?_⟩
  obtain⟨dxt,fst,pp,vl,rl,va,ra,ht,t1,t2,t3,t4,hpp,hvl,hva,hrl,hra⟩:=id hT
  symm
  exists Y4
  refine⟨_,rfl,t,d.qg,dxt,fst,_,rfl,ht,W.qg.cl,W.q9,t1,pp,_,rfl, .inl (SqL.of hpp),fun p2 fp2=>?_⟩
  exists H1,p2,H2,n2,e2,fp2
  symm
  exists Y4
  refine⟨_,rfl,t,d.qg,dxt,fst,_,rfl,n2 _ _ ht,W.qg.cl,W.qM,t2,vl,_,rfl,SqL.of (n2 _ _ hvl),fun v2 fv2=>?_⟩
  rw[←Dv]
  exists H2,v2,H3,n3,e3,fv2
  symm
  exists Y4
  refine⟨by decide,fun r2 fr2=>?_⟩
  exists H3,r2,H4,n4,e4,fr2
  have s14:=(n2.trans n3).trans n4
  symm
  refine kj4 (T:=⟨T.ps,T.vs.reverse,[],"again"⟩) ((n3.trans n4) _ _ e2) (n4 _ _ e3) (P2.reverse (hva.mono fun v V h=>h.same s14)) (ra:=[]) e4 .nil fun H5 ot s5 fot hOT=>?_
  have s15:=s14.trans s5
  have otok:kc2 ⟨T.ps,T.vs.reverse,[],"again"⟩:=⟨fun V hV=>tok.vs V (List.mem_reverse.mp hV),by show T.vs.reverse.length≤8;rw[EC];exact nv⟩
  have ohl:hand.reverse.length=(⟨T.ps,T.vs.reverse,[],"again"⟩:TillD).vs.length:=by show _=T.vs.reverse.length;rw[EC,EC];exact hl
  obtain⟨odeep,owlen⟩:=kgT (T:=⟨T.ps,T.vs.reverse,[],"again"⟩) (B:=B) (S:=stnd0 B) (hand:=hand.reverse) ohl (fun z hz=>hnn z (List.mem_reverse.mp hz)) (by rw[List.sum_reverse];omega)
  clear e2 e3 e4 n2 n3 n4 fp2 fv2 fr2 s14
  symm
  exists Y4
  refine⟨_,rfl,_,rfl,_,rfl,h,_,rfl,SqL.of (s15 _ _ eh),fun h2 fh2=>?_⟩
  rw[←Dv]
  exists H5,h2,H6,n6,e6,fh2
  symm
  exists Y4
  refine⟨ot,b,h2,⟨T.ps,T.vs.reverse,[],"again"⟩,B,hand.reverse,rfl,hOT.same n6,otok,hB.same (s15.trans n6),wf0,e6,ohl,odeep,owlen,fun H7 op ol s7 fop eop hol _ _=>?_⟩
  symm
  exists Y4
  refine⟨_,rfl,op,_,rfl,SqL.of eop,fun q fq=>?_⟩
  rw[show(20:Int)=((20:Nat):Int) from rfl,kmQ,←M8]
  exists H7,q,H8,n8,e8,fq
  have s58:=(n6.trans s7).trans n8
  have s18:=s15.trans s58
  have hol8:P2 (fun o (q:List Nat)=>H8 o=some (.lst (q.map iV))) ol ((waysM ⟨T.ps,T.vs.reverse,[],"again"⟩ B hand.reverse 10 [] (stnd0 B)).map Prod.fst):=hol.mono fun _ _ z=>n8 _ _ z.2
  have hOT8:=hOT.same s58
  clear hol hOT odeep owlen e6 n6 n8 s7 eop fop
  symm
  exists Y4
  refine⟨q,rfl,⟨_,SqL.of e8⟩,kaZ (xs:=(ol.take 20).map V.ref) (fun i σ H'=>Same H8 H'∧∃v5:Option V,σ=[some (.ref a),some (.ref t),some (.ref b),some (.ref h),some (.ref ot),v5,none,none,none,none])
   ⟨Same.refl _,none,rfl⟩ (fun i σ H' _ h=>SqL.of (h.1 _ _ e8)) ?_ ?_⟩
  ·rintro i y σ Hi hy ⟨si,v5,rfl⟩
   obtain⟨oa,eoa,rfl⟩:=kcf hy
   have eoa':ol[i]?=some oa:=by
    rw[Dp] at eoa
    split at eoa
    ·exact eoa
    ·cases eoa
   obtain⟨q1,eq1,hq1⟩:=hol8.at eoa'
   obtain⟨g1,g2,g3⟩:=klD (Nj eq1)
   have s1i:=s18.trans si
   symm
   exists Y6
   refine⟨_,rfl,_,rfl,_,rfl,h,_,rfl,SqL.of (s1i _ _ eh),fun h3 fh3=>?_⟩
   rw[←Dv]
   exists Hi,h3,H9,n9,e9,fh3
   have s89:=si.trans n9
   nofun
   exists Y6
   refine⟨_,rfl,ot,b,h3,oa,⟨T.ps,T.vs.reverse,[],"again"⟩,B,hand.reverse,q1,rfl,hOT8.same s89,otok,hB.same (s18.trans s89),wf0,e9,s89 _ _ hq1,ohl,g2,g3,g1,fun HB H10 bl s10 s10' _=>?_⟩
   nofun
   exact⟨(s89.trans s10).trans s10',_,rfl⟩
  rintro σ Hi ⟨si,v5,rfl⟩
  have s1i:=s18.trans si
  clear hol8 hOT8 e8 otok ohl fq
  obtain⟨hdeep,hwlen⟩:=kgT (T:=T) (B:=B) (S:=stnd0 B) hl hnn (by omega)
  symm
  exists Y4
  refine⟨_,rfl,_,rfl,_,rfl,h,_,rfl, .inl (SqL.of (s1i _ _ eh)),fun h2' fh2'=>?_⟩
  exists Hi,h2',H12,n12,e12,fh2'
  have s112:=s1i.trans n12
  symm
  exists Y4
  refine⟨t,b,h2',T,B,hand,rfl,hT.same s112,tok,hB.same s112,wf0,e12,hl,hdeep,hwlen,fun H13 p ol' s13 fp ep hol _ _=>?_⟩
  have s113:=s112.trans s13
  have lpos:=kkG (T:=T) (B:=B) (hand:=hand)
  have lol:=hol.len
  rw[Nb] at lol
  have hol':P2 (fun o (q:List Nat)=>H13 o=some (.lst (q.map iV))) ol' ((waysM T B hand 10 [] (stnd0 B)).map Prod.fst):=hol.mono fun _ _ z=>z.2
  have hoo:∀q∈(waysM T B hand 10 [] (stnd0 B)).map Prod.fst,kd3 T B hand q=none∧(∀n∈q,n<T.vs.length)∧q.length<64:=fun q hq=>klD hq
  clear hol hdeep
  generalize waysM T B hand 10 [] (stnd0 B)=ws at *
  have lenO:(((ol'.map V.ref).length:Nat):Int)=((ws.length:Nat):Int):=by rw[Nb,lol]
  symm
  exists Y4
  refine⟨_,rfl,p,_,rfl, .inl (SqL.of ep),_,_,rfl,rfl,(by show 2≤sizeLine;decide),fun pl fpl=>?_⟩
  exists H13,pl,H14,n14,e14,fpl
  have e14':H14 pl=some (.lst (([0,((ws.length:Nat):Int)-1]:List Int).map V.int)):=by rw[e14,lenO];rfl
  clear e14
  symm
  exists Y4
  refine⟨6,rfl,by decide,by decide,?_⟩
  symm
  refine kbb (n:=6) (fun i σ H'=>Same H13 H'∧∃(zs:List Int)(v8:Option V),H' pl=some (.lst (zs.map V.int))∧(∀z∈zs,0≤z∧z<((ws.length:Nat):Int))∧zs.length=2+i∧σ=[some (.ref a),some (.ref t),some (.ref b),some (.ref h),some (.ref ot),v5,some (.ref p),some (.ref pl),v8,none])
   ⟨n14,_,none,e14',(fun z hz=>by
    simp only[NF,My,or_false] at hz
    omega),rfl,rfl⟩ ?_ ?_
  ·rintro i σ Hj hi ⟨sj,zs,v8,ez,hz,hzl,rfl⟩
   rw[Int.zero_add]
   have hi6:i<6:=hi
   symm
   exists Y6
   refine⟨_,rfl, .inl ⟨rfl,_,SqL.of ez⟩,_,rfl,_,rfl,a,ns,(i:Int),rfl,((s1.trans s113).trans sj).seq hS,by omega,fun c=>?_⟩
   nofun
   exists Y6
   refine⟨_,rfl,_,_,rfl,rfl, .inl ⟨by decide,by decide⟩,_,rfl,_,_,rfl,rfl, .inl ⟨by omega,by omega⟩,_,_,rfl,rfl,?_⟩
   nofun
   exists Y6
   refine⟨_,48271,2147483647,rfl,⟨by decide,by decide⟩,by decide,?_⟩
   have epj:=sj _ _ ep
   nofun
   exists Y6
   refine⟨_,rfl,p,_,rfl, .inl (SqL.of epj),_,_,rfl,rfl,(by show(0:Int)<_;rw[lenO];omega),pl,_,_,rfl,rfl,ez,kar (by rw[Nb];omega),?_⟩
   dsimp only
   rw[lenO]
   generalize hzz:_%((ws.length:Nat):Int)=zz
   have hz0:0≤zz:=by rw[←hzz];exact Int.emod_nonneg _ (by omega)
   have hz1:zz<((ws.length:Nat):Int):=by rw[←hzz];exact Int.emod_lt_of_pos _ (by omega)
   nofun
   exists Y6
   refine⟨kaq fpl sj (nx ez),zs++[zz],_,by rw[kad,Nl];rfl,(fun z hzm=>?_),by rw[Nr,hzl];rfl,rfl⟩
   rcases NR.mp hzm with e|e
   ·exact hz z e
   ·rw[Mi.mp e]
    nofun
    exact⟨hz0,hz1⟩
  rintro σ Hj ⟨sj,zs,v8,ez,hz,hzl,rfl⟩
  symm
  exists Y4
  refine⟨_,rfl,pl,rfl,⟨_,SqL.of ez⟩,kaZ (xs:=zs.map V.int) (fun i σ H'=>Same Hj H'∧∃v9:Option V,σ=[some (.ref a),some (.ref t),some (.ref b),some (.ref h),some (.ref ot),v5,some (.ref p),some (.ref pl),v8,v9])
   ⟨Same.refl _,none,rfl⟩ (fun i σ H' _ h=>SqL.of (h.1 _ _ ez)) ?_ ?_⟩
  ·rintro i y σ Hk hy ⟨sk,v9,rfl⟩
   obtain⟨z,ezz,rfl⟩:=int_at hy
   obtain⟨z0,z1⟩:=hz z (Nj ezz)
   obtain⟨j,rfl⟩:=Int.eq_ofNat_of_zero_le z0
   obtain⟨oa,eoa⟩:=at_of (xs:=ol') (i:=j) (by omega)
   obtain⟨q1,eq1,hq1⟩:=hol'.at eoa
   obtain⟨g1,g2,g3⟩:=hoo q1 (Nj eq1)
   have s13k:=sj.trans sk
   have s1k:=s113.trans s13k
   symm
   exists Y6
   refine⟨_,rfl,_,rfl,_,rfl,_,rfl,_,rfl,p,_,_,_,rfl,rfl,SqL.of (s13k _ _ ep),kaA (v:=.ref oa) (by rw[Ni,eoa];rfl),t,b,h,oa,T,B,hand,q1,rfl,hT.same s1k,tok,hB.same s1k,wf0,s1k _ _ eh,s13k _ _ hq1,hl,g2,g3,g1,fun H' sl=>⟨_,rfl,iteF ⟨sk.trans sl,_,rfl⟩⟩⟩
  ·rintro σ Hk ⟨sk,v9,rfl⟩
   nofun
   exact k _
end
end Vs
namespace Vs
open PySem L2
theorem ln0{C:List Value→Prop}(k:C []):∀us:List Value,us.length=0→C us:=fun us h=>by
 cases us with
 |nil=>exact k
 |cons a us=>cases h
theorem lnS{C:List Value→Prop}{n:Nat}(k:∀(a:Value)(us:List Value),us.length=n→C (a::us)):∀us:List Value,us.length=n+1→C us:=fun us h=>by
 cases us with
 |nil=>cases h
 |cons a us=>exact k a us (Nat.succ.inj h)
noncomputable def nL1{C:List Value→Prop}(k:∀a0:Value,C [a0]):∀us:List Value,us.length=1→C us:=lnS fun a0=>ln0 (k a0)
noncomputable def nL2{C:List Value→Prop}(k:∀a0 a1:Value,C [a0,a1]):∀us:List Value,us.length=2→C us:=lnS fun a0=>lnS fun a1=>ln0 (k a0 a1)
noncomputable def nL3{C:List Value→Prop}(k:∀a0 a1 a2:Value,C [a0,a1,a2]):∀us:List Value,us.length=3→C us:=lnS fun a0=>lnS fun a1=>lnS fun a2=>ln0 (k a0 a1 a2)
noncomputable def nL4{C:List Value→Prop}(k:∀a0 a1 a2 a3:Value,C [a0,a1,a2,a3]):∀us:List Value,us.length=4→C us:=lnS fun a0=>lnS fun a1=>lnS fun a2=>lnS fun a3=>ln0 (k a0 a1 a2 a3)
noncomputable def nL5{C:List Value→Prop}(k:∀a0 a1 a2 a3 a4:Value,C [a0,a1,a2,a3,a4]):∀us:List Value,us.length=5→C us:=lnS fun a0=>lnS fun a1=>lnS fun a2=>lnS fun a3=>lnS fun a4=>ln0 (k a0 a1 a2 a3 a4)
noncomputable def nL6{C:List Value→Prop}(k:∀a0 a1 a2 a3 a4 a5:Value,C [a0,a1,a2,a3,a4,a5]):∀us:List Value,us.length=6→C us:=lnS fun a0=>lnS fun a1=>lnS fun a2=>lnS fun a3=>lnS fun a4=>lnS fun a5=>ln0 (k a0 a1 a2 a3 a4 a5)
noncomputable def nL7{C:List Value→Prop}(k:∀a0 a1 a2 a3 a4 a5 a6:Value,C [a0,a1,a2,a3,a4,a5,a6]):∀us:List Value,us.length=7→C us:=lnS fun a0=>lnS fun a1=>lnS fun a2=>lnS fun a3=>lnS fun a4=>lnS fun a5=>lnS fun a6=>ln0 (k a0 a1 a2 a3 a4 a5 a6)
noncomputable def bd_mk{K:Nc}{fd:FuncData}{ps:List Str}{ds:List Value}{n:Nat}(hn:n+ds.length=ps.length)(k:∀s:Shared,K.In s.heap→∀us:List Value,us.length=n→BindsTo s fd ⟨us,[]⟩ (ps.zip (us++ds))):Binds K fd ps ds:=fun s us KX hl=>k s KX us (by rw[Nr] at hl;omega)
noncomputable def dn_mk{K:Nc}{st:Stmt}{ps:List Str}{f:Addr}{oc:Value}{od an:Option Addr}{osl:Array (Option Value)}{kV doc pm cdv ct:Value}{h:Heap}{mg:Str→Option Value}{x:Str}(X:K.In h)(G:h.Ns mainGlobals mg)(a:NB K mainGlobals x=some (some (.ref f)))(l:K.lookup f=some ⟨oc,od, .func (Nx x x (kaG st) (kaF st) (kah st) .none kV doc pm an cdv ct),osl⟩)(c:NU K cdv x=true)(k:Nz K (.ref f)=true)(b:∀(kV doc pm:Value)(an:Option Addr)(cdv ct:Value),∀us:List Value,us.length=ps.length→bindArgs (Nx x x (kaG st) (kaF st) (kah st) .none kV doc pm an cdv ct) ⟨us,[]⟩=pure (ps.zip us)):Dn K mg x st ps f (Nx x x (kaG st) (kaF st) (kah st) .none kV doc pm an cdv ct):=⟨kbx l c k,Binds.all (b _ _ _ _ _ _),NP X G a⟩
noncomputable def mt_mk{K:Nc}{st:Stmt}{ps:List Str}{f:Addr}{oc:Value}{od an:Option Addr}{osl:Array (Option Value)}{kV doc pm cdv ct:Value}{m qual:Str}{C:Addr}(a:Ng K (.ref C) m=some (some (.ref f)))(i:N9 K (.ref f)=true)(l:K.lookup f=some ⟨oc,od, .func (Nx m qual (kaG st) (kaF st) (kah st) .none kV doc pm an cdv ct),osl⟩)(c:NU K cdv qual=true)(k:Nz K (.ref f)=true)(b:∀(kV doc pm:Value)(an:Option Addr)(cdv ct:Value),∀us:List Value,us.length=ps.length→bindArgs (Nx m qual (kaG st) (kaF st) (kah st) .none kV doc pm an cdv ct) ⟨us,[]⟩=pure (ps.zip us)):MthT K C m qual st ps f (Nx m qual (kaG st) (kaF st) (kah st) .none kV doc pm an cdv ct):=⟨a,i,kbx l c k,Binds.all (b _ _ _ _ _ _)⟩
theorem all_mk{l:PySem.W.OpenLaw}{w:World}{K:Nc}{h:Heap}{mg:Str→Option Value}{fa zfm zey z3i zf9 zge z8e zg9 zfg z37 z2k z5y z3c zv z40 z82 z3s zbi zf0 zda z3p z5m z5c z2f zd9 z7m z5u z5k zd6 z7p z6t z4r z9t z4w z5j z5f z4d z2g z2h z4y z4a z6i z3o z3e z9u z5t z7k z1r z1p z46 z4q z6j zbt zi zz z3k zg zq z1v zk z1q z66 ze zy z3m za zt z1l zc zx z2j zb zs z1k zp z1b z4l zj zw z2m zd z41 z2z zm za0 z4m z6q z4b z3w zl z8r zo z1a z4j zn zh:Addr}{z70 z2d zih zgc zb7 z5s zby z96 z4h z9b zdv z8i zen zbd z5r zb3 z7q z35 z88 za6 z53 zah z8l z31 z83 zci z6h zcr zai z5a zam zc1 z6b zcf z69:Option Addr}{z78 zim zbw zb9 z9c z8y ze7 zdu zbf zbx z7u z84 za5 zag z87 z8n zck zch zar zae zct zcb z68:Array (Option Value)}{z73 z28 z2s z2o zu z21 zis zg7 zgd zgf zeg zg8 zb6 z60 z5q z62 z1x z5p zb2 z92 z47 z42 z3v z1j z4c z8u zek z8a z7w z7j z4k z86 zef zbc z5n z5z z63 z25 z67 zbr z8k z3a z2u z33 z1g z3g z80 za8 z57 z4x z59 z1t z5l zau z8b z2v z30 z3b z19 z2y z8p zd1 z6g z6c z6o z3j z6n zca zab z54 z4u z5h z1u z56 zan zcg z6a z6d z6m z3n z6e zcs z1w:Value}{zc0 z39 z93 zdd zbv z7y zaq z8m zcm za3 z2r zd0 z3q z26 z2t z1z:Nat}{zew zf6 z36 zes zgb z7o zga zf5 z38 z27 z65 z34 z3y z7x z45 zbm zf1 zd4 z48 z58 z5g z20 zd7 z7l z5o z5i zd5 z7s z6l z4p z9x z52 z4v z51 z4f z24 z2i z4o z43 z6k z3u z3h z9w z5v z8c z1n z1m z44 z4z z6r z3x z3d z9y z4n z6f z3t z3z z8d:FuncData}{zf:Array Value}{z22:Str}{z2e z2n:Int}{z2b:Bool}{ts:List Addr}(X:K.In h)(G:h.Ns mainGlobals mg)(hfa:mg "law"=some (.ref fa))
  (zh3:Dn K mg "dealt" khq ["cut","weights"] zfm zew)
  (zh5:Dn K mg "under" kho ["parents","one","other"] zey zf6)
  (z8h:Dn K mg "price_of_piece" kbK ["line","member"] z3i z36)
  (zi0:Dn K mg "about" keD ["voucher","parents","basket","standing"] zf9 zes)
  (zi9:Dn K mg "fits" kjJ ["marks","parents","kind","marked"] zge zgb)
  (zds:Dn K mg "hindrance" kdc ["voucher","parents","basket","standing"] z8e z7o)
  (zi8:Dn K mg "cuts" kjK ["voucher","parents","basket","standing"] zg9 zga)
  (zhk:Dn K mg "after" khr ["voucher","parents","basket","standing"] zfg zf5)
  (z7r:Dn K mg "cuts_of_pieces" kbM ["voucher","parents","basket","standing"] z37 z38)
  (z75:Dn K mg "cut_of_carriage" kbz ["voucher","standing"] z2k z27)
  (zbh:Dn K mg "wanted_cuts" kbk ["voucher","standing","pieces"] z5y z65)
  (z8t:Dn K mg "parted_by_line" kbL ["standing","pieces"] z3c z34)
  (z7n:NB K mainGlobals "falling_groups"=some (some (.ref zv))) (z81:K.lookup zv=some ⟨z73,z70, .func (Nx "falling_groups" "falling_groups" (kaG kaH) (kaF kaH) (kah kaH) .none z28 z2s z2o z2d zu z21),z78⟩) (z8g:NU K zu "falling_groups"=true) (z8q:Nz K (.ref zv)=true)
  (z9j:Dn K mg "marked_behind" kbW ["voucher","standing","piece_cuts"] z40 z3y)
  (zdr:Dn K mg "prices_of" kcD ["standing","pieces"] z82 z7x)
  (z9s:Dn K mg "sum_of_prices" kbV ["standing","pieces"] z3s z45)
  (zg4:Dn K mg "at_most" keC ["most","number"] zbi zbm)
  (zhw:Dn K mg "fault" khp ["till","basket","hand","order"] zf0 zf1)
  (zgx:Dn K mg "way_by" kfS ["till","basket","hand","order"] zda zd4)
  (z9q:Dn K mg "word_of_order" kbU ["till","hand","used","number"] z3p z48)
  (zap:Dn K mg "breaks_never" kci ["rules","used","number"] z5m z58)
  (zb0:Dn K mg "breaks_ahead" kck ["rules","used","number"] z5c z5g)
  (z6y:Dn K mg "without_company" kby ["rules","order"] z2f z20)
  (zgm:Dn K mg "priced" kfT ["till","basket","hand","order"] zd9 zd7)
  (zdz:Dn K mg "line_cuts" kcF ["basket","bill"] z7m z7l)
  (zbs:Dn K mg "line_totals" kcE ["basket","bill"] z5u z5o)
  (zay:Dn K mg "sums_by_line" kch ["basket","amounts"] z5k z5i)
  (zgw:Dn K mg "orders" kfU ["till","basket","hand"] zd6 zd5)
  (zem:Dn K mg "ways_from" kdb ["way"] z7p z7s)
  (zc8:Dn K mg "_law_whole" kcO ["_law_found"] z6t z6l)
  (zav:Dn K mg "_law_cell_at" kcq ["_law_script","_law_k"] z4r z4p)
  (zf8:Dn K mg "_law_mix" kdK ["_law_cell","_law_factor","_law_prime"] z9t z9x)
  (zac:Dn K mg "_law_coin_by" kcp ["_law_cell"] z4w z52)
  (zal:Dn K mg "_law_coin_of" kco ["_law_cell","_law_scale"] z5j z4v)
  (zaf:Dn K mg "_law_line_by" kcm ["_law_cell","_law_kinds","_law_scale","_law_most"] z5f z51)
  (z9g:Dn K mg "_law_marks_by" kbY ["_law_cell","_law_kinds","_law_scale"] z4d z4f)
  (z7e:Dn K mg "_law_voucher_by" kbA ["_law_cell","_law_kinds","_law_scale"] z2g z24)
  (z79:Dn K mg "_law_parents_by" kbB ["_law_cell"] z2h z2i)
  (za2:Dn K mg "_law_hand_by" kcn ["_law_more_held","_law_vouchers","_law_most_held","_law_first"] z4y z4o)
  (z8x:Dn K mg "_law_world_by" kbX ["_law_script","_law_most_vouchers","_law_most_held"] z4a z43)
  (zce:Dn K mg "_law_dealt" kcP ["_law_cut","_law_weights"] z6i z6k)
  (z9l:Dn K mg "_law_is_under" kbZ ["_law_parents","_law_one","_law_other"] z3o z3u)
  (z7v:Dn K mg "_law_pieces_of" kbN ["_law_voucher","_law_till","_law_basket","_law_owners","_law_marked"] z3e z3h)
  (zex:Dn K mg "_law_put" kdJ ["_law_told","_law_pieces","_law_parts"] z9u z9w)
  (zbq:Dn K mg "_law_wanted" ka7 ["_law_voucher","_law_pieces","_law_prices","_law_owners"] z5t z5v)
  (ze8:Dn K mg "_law_step" kdd ["_law_voucher","_law_till","_law_basket","_law_owners","_law_state"] z7k z8c)
  (z5w:Dn K mg "_law_state_behind" ka8 ["_law_state","_law_step_here","_law_voucher","_law_owners"] z1r z1n)
  (z5x:Dn K mg "_law_first_prices" kbo ["_law_basket","_law_owners"] z1p z1m)
  (z99:Dn K mg "_law_by_lines" kb0 ["_law_basket","_law_owners","_law_numbers_here"] z46 z44)
  (zaz:Dn K mg "_law_numbers" kcl ["_law_found","_law_due"] z4q z4z)
  (zc7:Dn K mg "_law_right" kbF ["_law_till","_law_basket","_law_hand","_law_order"] z6j z6r)
  (zht:NB K mainGlobals "law"=some (some (.ref zbt))) (ziu:K.lookup zbt=some ⟨zis,zih, .func (Nx "law" "law" (kaG s_law) (kaF s_law) (kah s_law) .none zg7 zgd zgf zgc zeg zg8),zim⟩) (ziv:NU K zeg "law"=true) (zit:Nz K (.ref zbt)=true)
  (zhl:NB K mainGlobals "Marks"=some (some (.ref zi)))
  (zgt:Nm K zi (.type "object")=some true) (zgs:Nm K zi (.ref zi)=some true) (zgh:NZ K (.ref zi)=some (.type "type"))
  (inX:M5 K (.builtin "object.__class__") "__get__"=some (some (.builtin "getset_descriptor.__get__"))) (itX:E1 K (.builtin "object.__class__")=some true)
  (zgl:NY K zi Str.empty=true) (zh0:N3 K zi=true) (zgj:Ma K zi=true) (zgn:Ng K (.ref zi) "__setattr__"=some (some (.builtin "object.__setattr__"))) (zgy:N4 K zi=true) (zgz:Nz K (.ref zi)=true) (zgg:Ng K (.ref zi) "__class__"=some (some (.builtin "object.__class__")))
  (zcq:Ng K (.ref zi) "kind"=some none)
  (zbn:Ng K (.ref zi) "needs"=some none)
  (zcc:Ng K (.ref zi) "most"=some none)
  (zaj:Ng K (.ref zi) "member"=some none)
  (zc3:Ng K (.ref zi) "once"=some none)
  (zcw:Ng K (.ref zi) "lone"=some none)
  (zcx:Ng K (.ref zi) "__init__"=some (some (.ref zz))) (zcv:N9 K (.ref zz)=true) (zcj:K.lookup zz=some ⟨zb6,zb7, .func (Nx "__init__" "Marks.__init__" (kaG ka4) (kaF ka4) (kah ka4) (.ref z3k) z60 z5q z62 z5s z1x z5p),zbw⟩) (zd3:NU K z1x "Marks.__init__"=true) (zc5:Nz K (.ref zz)=true) (zr:K.lookup z3k=some ⟨zb2,zby, .seq #[.none, .int 0 z39, .none, .bool false, .bool false, .bool false] zc0,zb9⟩)
  (zfy:NB K mainGlobals "Voucher"=some (some (.ref zg)))
  (zf3:Nm K zg (.type "object")=some true) (zet:Nm K zg (.ref zg)=some true) (zfi:NZ K (.ref zg)=some (.type "type"))
  (zer:NY K zg Str.empty=true) (zez:N3 K zg=true) (zff:Ma K zg=true) (zfb:Ng K (.ref zg) "__setattr__"=some (some (.builtin "object.__setattr__"))) (zev:N4 K zg=true) (zf7:Nz K (.ref zg)=true) (zfa:Ng K (.ref zg) "__class__"=some (some (.builtin "object.__class__")))
  (zaa:Ng K (.ref zg) "__init__"=some (some (.ref zq))) (za9:N9 K (.ref zq)=true) (zat:K.lookup zq=some ⟨z92,z96, .func (Nx "__init__" "Voucher.__init__" (kaG kaV) (kaF kaV) (kah kaV) (.ref z1v) z47 z42 z3v z4h z1j z4c),z9c⟩) (zb1:NU K z1j "Voucher.__init__"=true) (zaw:Nz K (.ref zq)=true) (z4s:K.lookup z1v=some ⟨z8u,z9b, .seq #[.none] z93,z8y⟩)
  (zhv:NB K mainGlobals "Off"=some (some (.ref zk)))
  (z7z:Nm K zk (.type "object")=some true) (z7t:Nm K zk (.ref zk)=some true) (z8s:NZ K (.ref zk)=some (.type "type"))
  (zii:NY K zk Str.empty=true) (zin:N3 K zk=true) (zid:Ma K zk=true) (zie:Ng K (.ref zk) "__setattr__"=some (some (.builtin "object.__setattr__"))) (zil:N4 K zk=true) (zib:Nz K (.ref zk)=true) (zia:Ng K (.ref zk) "__class__"=some (some (.builtin "object.__class__")))
  (zc4:Ng K (.ref zk) "amount"=some none)
  (ze1:Ng K (.ref zk) "marks"=some none)
  (zfk:Ng K (.ref zk) "__init__"=some (some (.ref z1q))) (zf2:N9 K (.ref z1q)=true) (zfh:K.lookup z1q=some ⟨zek,zdv, .func (Nx "__init__" "Off.__init__" (kaG kbs) (kaF kbs) (kah kbs) (.ref z66) z8a z7w z7j z8i z4k z86),ze7⟩) (zfj:NU K z4k "Off.__init__"=true) (zfn:Nz K (.ref z1q)=true) (za1:K.lookup z66=some ⟨zef,zen, .seq #[.none] zdd,zdu⟩)
  (zfl:NB K mainGlobals "Share"=some (some (.ref ze)))
  (z4i:Nm K ze (.type "object")=some true) (z4e:Nm K ze (.ref ze)=some true) (z49:NZ K (.ref ze)=some (.type "type"))
  (zgr:NY K ze Str.empty=true) (zgk:N3 K ze=true) (zgv:Ma K ze=true) (zgo:Ng K (.ref ze) "__setattr__"=some (some (.builtin "object.__setattr__"))) (zgq:N4 K ze=true) (zgp:Nz K (.ref ze)=true) (zgu:Ng K (.ref ze) "__class__"=some (some (.builtin "object.__class__")))
  (zb5:Ng K (.ref ze) "share"=some none)
  (z9i:Ng K (.ref ze) "by_line"=some none)
  (zbl:Ng K (.ref ze) "marks"=some none)
  (zd2:Ng K (.ref ze) "__init__"=some (some (.ref zy))) (zcy:N9 K (.ref zy)=true) (zc6:K.lookup zy=some ⟨zbc,zbd, .func (Nx "__init__" "Share.__init__" (kaG ka3) (kaF ka3) (kah ka3) (.ref z3m) z5n z5z z63 z5r z25 z67),zbf⟩) (zcl:NU K z25 "Share.__init__"=true) (zcp:Nz K (.ref zy)=true) (z3l:K.lookup z3m=some ⟨zbr,zb3, .seq #[.bool false, .none] zbv,zbx⟩)
  (z9v:NB K mainGlobals "Cheapest"=some (some (.ref za)))
  (z1d:Nm K za (.type "object")=some true) (z1e:Nm K za (.ref za)=some true) (z1i:NZ K (.ref za)=some (.type "type"))
  (zdj:NY K za Str.empty=true) (zdp:N3 K za=true) (zeq:Ma K za=true) (zdx:Ng K (.ref za) "__setattr__"=some (some (.builtin "object.__setattr__"))) (ze3:N4 K za=true) (zdw:Nz K (.ref za)=true) (zdh:Ng K (.ref za) "__class__"=some (some (.builtin "object.__class__")))
  (z9h:Ng K (.ref za) "many"=some none)
  (z89:Ng K (.ref za) "marks"=some none)
  (z9r:Ng K (.ref za) "__init__"=some (some (.ref zt))) (z9p:N9 K (.ref zt)=true) (z9a:K.lookup zt=some ⟨z8k,z7q, .func (Nx "__init__" "Cheapest.__init__" (kaG kaO) (kaF kaO) (kah kaO) (.ref z1l) z3a z2u z33 z35 z1g z3g),z7u⟩) (z9f:NU K z1g "Cheapest.__init__"=true) (z9d:Nz K (.ref zt)=true) (z3r:K.lookup z1l=some ⟨z80,z88, .seq #[.none] z7y,z84⟩)
  (zd8:NB K mainGlobals "Bundle"=some (some (.ref zc)))
  (z2c:Nm K zc (.type "object")=some true) (z2l:Nm K zc (.ref zc)=some true) (z2p:NZ K (.ref zc)=some (.type "type"))
  (zg0:NY K zc Str.empty=true) (zfr:N3 K zc=true) (zfu:Ma K zc=true) (zfo:Ng K (.ref zc) "__setattr__"=some (some (.builtin "object.__setattr__"))) (zfq:N4 K zc=true) (zfz:Nz K (.ref zc)=true) (zg5:Ng K (.ref zc) "__class__"=some (some (.builtin "object.__class__")))
  (zb4:Ng K (.ref zc) "many"=some none)
  (za4:Ng K (.ref zc) "price"=some none)
  (zao:Ng K (.ref zc) "marks"=some none)
  (zbe:Ng K (.ref zc) "__init__"=some (some (.ref zx))) (zbj:N9 K (.ref zx)=true) (zbg:K.lookup zx=some ⟨za8,za6, .func (Nx "__init__" "Bundle.__init__" (kaG ka0) (kaF ka0) (kah ka0) (.ref z2j) z57 z4x z59 z53 z1t z5l),za5⟩) (zbu:NU K z1t "Bundle.__init__"=true) (zba:Nz K (.ref zx)=true) (z61:K.lookup z2j=some ⟨zau,zah, .seq #[.none] zaq,zag⟩)
  (z9z:NB K mainGlobals "Carriage"=some (some (.ref zb)))
  (z1c:Nm K zb (.type "object")=some true) (z1h:Nm K zb (.ref zb)=some true) (z1f:NZ K (.ref zb)=some (.type "type"))
  (zec:NY K zb Str.empty=true) (zei:N3 K zb=true) (zej:Ma K zb=true) (zee:Ng K (.ref zb) "__setattr__"=some (some (.builtin "object.__setattr__"))) (zeo:N4 K zb=true) (ze5:Nz K (.ref zb)=true) (zdn:Ng K (.ref zb) "__class__"=some (some (.builtin "object.__class__")))
  (z85:Ng K (.ref zb) "marks"=some none)
  (z94:Ng K (.ref zb) "__init__"=some (some (.ref zs))) (z9n:N9 K (.ref zs)=true) (z8v:K.lookup zs=some ⟨z8b,z8l, .func (Nx "__init__" "Carriage.__init__" (kaG kaP) (kaF kaP) (kah kaP) (.ref z1k) z2v z30 z3b z31 z19 z2y),z87⟩) (z9m:NU K z19 "Carriage.__init__"=true) (z98:Nz K (.ref zs)=true) (z4g:K.lookup z1k=some ⟨z8p,z83, .seq #[.none] z8m,z8n⟩)
  (zi4:NB K mainGlobals "Line"=some (some (.ref zp)))
  (zhs:Nm K zp (.type "object")=some true) (zhx:Nm K zp (.ref zp)=some true) (zhz:NZ K (.ref zp)=some (.type "type"))
  (zi1:NY K zp Str.empty=true) (zhg:N3 K zp=true) (zh7:Ma K zp=true) (zhr:Ng K (.ref zp) "__setattr__"=some (some (.builtin "object.__setattr__"))) (zhj:N4 K zp=true) (zh4:Nz K (.ref zp)=true) (zhm:Ng K (.ref zp) "__class__"=some (some (.builtin "object.__class__")))
  (zeh:Ng K (.ref zp) "kind"=some none)
  (zc2:Ng K (.ref zp) "price"=some none)
  (zdt:Ng K (.ref zp) "many"=some none)
  (zad:Ng K (.ref zp) "special"=some none)
  (zea:Ng K (.ref zp) "__init__"=some (some (.ref z1b))) (zdk:N9 K (.ref z1b)=true) (zed:K.lookup z1b=some ⟨zd1,zci, .func (Nx "__init__" "Line.__init__" (kaG kbf) (kaF kbf) (kah kbf) (.ref z4l) z6g z6c z6o z6h z3j z6n),zck⟩) (ze4:NU K z3j "Line.__init__"=true) (zdi:Nz K (.ref z1b)=true) (z8o:K.lookup z4l=some ⟨zca,zcr, .seq #[.none] zcm,zch⟩)
  (zgi:NB K mainGlobals "Basket"=some (some (.ref zj)))
  (zg2:Nm K zj (.type "object")=some true) (zg6:Nm K zj (.ref zj)=some true) (zft:NZ K (.ref zj)=some (.type "type"))
  (zfx:NY K zj Str.empty=true) (zfp:N3 K zj=true) (zfs:Ma K zj=true) (zfw:Ng K (.ref zj) "__setattr__"=some (some (.builtin "object.__setattr__"))) (zg3:N4 K zj=true) (zfv:Nz K (.ref zj)=true) (zg1:Ng K (.ref zj) "__class__"=some (some (.builtin "object.__class__")))
  (za7:Ng K (.ref zj) "lines"=some none)
  (z7d:Ng K (.ref zj) "carriage"=some none)
  (z97:Ng K (.ref zj) "member"=some none)
  (zbo:Ng K (.ref zj) "__init__"=some (some (.ref zw))) (zbb:N9 K (.ref zw)=true) (zbz:K.lookup zw=some ⟨zab,zai, .func (Nx "__init__" "Basket.__init__" (kaG ka1) (kaF ka1) (kah ka1) (.ref z2m) z54 z4u z5h z5a z1u z56),zar⟩) (zbp:NU K z1u "Basket.__init__"=true) (zbk:Nz K (.ref zw)=true) (z1y:K.lookup z2m=some ⟨zan,zam, .seq #[.int 0 z2r, .bool false] za3,zae⟩)
  (zf4:NB K mainGlobals "Standing"=some (some (.ref zd)))
  (zdy:Nm K zd (.type "object")=some true) (zdg:Nm K zd (.ref zd)=some true) (ze0:NZ K (.ref zd)=some (.type "type"))
  (zdm:NY K zd Str.empty=true) (zde:N3 K zd=true) (zdq:Ma K zd=true) (zel:Ng K (.ref zd) "__setattr__"=some (some (.builtin "object.__setattr__"))) (zdb:N4 K zd=true) (zep:Nz K (.ref zd)=true) (zdf:Ng K (.ref zd) "__class__"=some (some (.builtin "object.__class__")))
  (z74:Ng K (.ref zd) "owners"=some none)
  (z6x:Ng K (.ref zd) "prices"=some none)
  (z64:Ng K (.ref zd) "carriage"=some none)
  (z71:Ng K (.ref zd) "marked"=some none)
  (z9e:MthT K zd "__init__" "Standing.__init__" kb4 ["self","basket"] z41 z3x)
  (z7h:MthT K zd "whole" "Standing.whole" kbO ["self"] z2z z3d)
  (ziw:NB K mainGlobals "Way"=some (some (.ref zm)))
  (zio:Nm K zm (.type "object")=some true) (zif:Nm K zm (.ref zm)=some true) (zik:NZ K (.ref zm)=some (.type "type"))
  (zir:NY K zm Str.empty=true) (zig:N3 K zm=true) (zi5:Ma K zm=true) (zic:Ng K (.ref zm) "__setattr__"=some (some (.builtin "object.__setattr__"))) (zi3:N4 K zm=true) (zi6:Nz K (.ref zm)=true) (ziq:Ng K (.ref zm) "__class__"=some (some (.builtin "object.__class__")))
  (zfd:Ng K (.ref zm) "till"=some none)
  (zco:Ng K (.ref zm) "basket"=some none)
  (zfc:Ng K (.ref zm) "hand"=some none)
  (zfe:Ng K (.ref zm) "used"=some none)
  (zas:Ng K (.ref zm) "standing"=some none)
  (zeu:MthT K zm "__init__" "Way.__init__" kdL ["self","till","basket","hand"] za0 z9y)
  (zax:MthT K zm "word_for" "Way.word_for" kcr ["self","number"] z4m z4n)
  (zcu:MthT K zm "behind" "Way.behind" kcQ ["self","number"] z6q z6f)
  (z9k:MthT K zm "followers" "Way.followers" kbv ["self"] z4b z3t)
  (z91:MthT K zm "is_let_by" "Way.is_let_by" kb3 ["self"] z3w z3z)
  (zi7:NB K mainGlobals "Bill"=some (some (.ref zl)))
  (zh2:Nm K zl (.type "object")=some true) (zhu:Nm K zl (.ref zl)=some true) (zhi:NZ K (.ref zl)=some (.type "type"))
  (zha:NY K zl Str.empty=true) (zhh:N3 K zl=true) (zi2:Ma K zl=true) (zh1:Ng K (.ref zl) "__setattr__"=some (some (.builtin "object.__setattr__"))) (zhf:N4 K zl=true) (zh9:Nz K (.ref zl)=true) (zh6:Ng K (.ref zl) "__class__"=some (some (.builtin "object.__class__")))
  (zcd:Ng K (.ref zl) "order"=some none)
  (zc9:Ng K (.ref zl) "steps"=some none)
  (zb8:Ng K (.ref zl) "prices"=some none)
  (z90:Ng K (.ref zl) "carriage"=some none)
  (zcz:Ng K (.ref zl) "total"=some none)
  (ze9:MthT K zl "__init__" "Bill.__init__" kde ["self","order","steps","standing"] z8r z8d)
  (zij:NB K mainGlobals "Till"=some (some (.ref zo)))
  (zhd:Nm K zo (.type "object")=some true) (zhe:Nm K zo (.ref zo)=some true) (zhp:NZ K (.ref zo)=some (.type "type"))
  (zhq:NY K zo Str.empty=true) (zhy:N3 K zo=true) (zhn:Ma K zo=true) (zhb:Ng K (.ref zo) "__setattr__"=some (some (.builtin "object.__setattr__"))) (zh8:N4 K zo=true) (zho:Nz K (.ref zo)=true) (zhc:Ng K (.ref zo) "__class__"=some (some (.builtin "object.__class__")))
  (zak:Ng K (.ref zo) "parents"=some none)
  (z9o:Ng K (.ref zo) "vouchers"=some none)
  (zcn:Ng K (.ref zo) "rules"=some none)
  (zdl:Ng K (.ref zo) "back"=some none)
  (zeb:Ng K (.ref zo) "__init__"=some (some (.ref z1a))) (zdc:N9 K (.ref z1a)=true) (zdo:K.lookup z1a=some ⟨zcg,zc1, .func (Nx "__init__" "Till.__init__" (kaG kbe) (kaF kbe) (kah kbe) (.ref z4j) z6a z6d z6m z6b z3n z6e),zct⟩) (ze6:NU K z3n "Till.__init__"=true) (ze2:Nz K (.ref z1a)=true) (z8f:K.lookup z4j=some ⟨zcs,zcf, .seq #[.str "again" z3q] zd0,zcb⟩)
  (z8w:PySem.W.readsIn K zg (.type "type")=true) (z8z:M5 K (.ref zg) "__getattribute__"=some (some (.builtin "type.__getattribute__"))) (z95:PySem.W.findCls K (.ref zg) (.type "type") "__init__"=some (.val (.ref zq)))
  (z5b:Nm K zk (.ref zb)=some false)
  (z3f:Nm K ze (.ref zb)=some false)
  (z1s:Nm K za (.ref zb)=some false)
  (z29:Nm K zc (.ref zb)=some false)
  (z8j:Nm K ze (.ref zk)=some false)
  (z4t:Nm K za (.ref zk)=some false)
  (z6s:Nm K zc (.ref zk)=some false)
  (z5d:Nm K zb (.ref zk)=some false)
  (z7i:Nm K zk (.ref ze)=some false)
  (z2x:Nm K za (.ref ze)=some false)
  (z5e:Nm K zc (.ref ze)=some false)
  (z32:Nm K zb (.ref ze)=some false)
  (z55:Nm K zk (.ref za)=some false)
  (z2w:Nm K ze (.ref za)=some false)
  (z23:Nm K zc (.ref za)=some false)
  (z1o:Nm K zb (.ref za)=some false)
  (z6p:Nm K zk (.ref zc)=some false)
  (z50:Nm K ze (.ref zc)=some false)
  (z2a:Nm K za (.ref zc)=some false)
  (z2q:Nm K zb (.ref zc)=some false)
  (z76:zu=.ref zn)
  (z6z:K.lookup zn=some ⟨z1w,z69, .fields zf,z68⟩)
  (z7f:z1w=.type "code")
  (z6v:zf[11]?=some (.ref zh))
  (z7b:zf.getD 11 .none=.ref zh)
  (z72:zf.getD 18 .none=.str z22 z26)
  (z77:zf.getD 7 .none=.int z2e z2t)
  (z6w:zf.getD 9 .none=.bool z2b)
  (z7a:zf.getD 10 .none=.int z2n z1z)
  (z6u:zn≠zh)
  (z7g:K.lookup zh=none)
  (z7c:zh∈ts)
  (z1:NB K mainGlobals "range"=some none)
  (z2:NB K mainGlobals "len"=some none)
  (z3:NB K mainGlobals "min"=some none)
  (z4:NB K mainGlobals "max"=some none)
  (z5:NB K mainGlobals "isinstance"=some none)
  (z6:NB K mainGlobals "bool"=some none)
  (z7:NB K mainGlobals "int"=some none)
  (z8:NB K mainGlobals "list"=some none)
  (z9:NB K mainGlobals "sum"=some none)
  (z10:NB K mainGlobals "enumerate"=some none)
  (z11:NB K mainGlobals "any"=some none)
  (z12:NB K mainGlobals "all"=some none)
  (z13:NB K mainGlobals "reversed"=some none)
  (z14:NB K mainGlobals "zip"=some none)
  (z15:NB K mainGlobals "abs"=some none)
  (z16:NB K mainGlobals "sorted"=some none)
  (z17:NB K mainGlobals "tuple"=some none)
  (z18:NB K mainGlobals "str"=some none)
  :∃(fd:FuncData)(tP c0:Addr),tP∈ts∧CodeK K c0 tP∧K.lookup tP=none∧(∀(s:Shared)(v:Value),BindsTo s fd ⟨[v],[]⟩ [("_law_script",v)])∧∀base:Heap,K.In base→base.Ns mainGlobals mg→BltM mg base→FnOk l.prog w K mg base CX0 18 fa fd ["_law_script"] (kgo K tP):=by
 have e:=hfa.symm.trans (NP X G zht)
 have hf:zbt=fa:=by
  injection e with e
  injection e with e
  exact e.symm
 subst hf
 have B:TxtB mg:=⟨NV X G z1,NV X G z2,NV X G z3,NV X G z4,NV X G z5,NV X G z6,NV X G z7,NV X G z8,NV X G z9,NV X G z10,NV X G z11,NV X G z12,NV X G z13,NV X G z14,NV X G z15,NV X G z16,NV X G z17,NV X G z18⟩
 have W:Wld K mg ⟨(zfm),(zew),(zey),(zf6),(z3i),(z36),(zf9),(zes),(zge),(zgb),(z8e),(z7o),(zg9),(zga),(zfg),(zf5),(z37),(z38),(z2k),(z27),(z5y),(z65),(z3c),(z34),(zv),(Nx "falling_groups" "falling_groups" (kaG kaH) (kaF kaH) (kah kaH) .none z28 z2s z2o z2d zu z21),(z40),(z3y),(z82),(z7x),(z3s),(z45),(zbi),(zbm),(zf0),(zf1),(zda),(zd4),(z3p),(z48),(z5m),(z58),(z5c),(z5g),(z2f),(z20),(zd9),(zd7),(z7m),(z7l),(z5u),(z5o),(z5k),(z5i),(zd6),(zd5),(z7p),(z7s),(z6t),(z6l),(z4r),(z4p),(z9t),(z9x),(z4w),(z52),(z5j),(z4v),(z5f),(z51),(z4d),(z4f),(z2g),(z24),(z2h),(z2i),(z4y),(z4o),(z4a),(z43),(z6i),(z6k),(z3o),(z3u),(z3e),(z3h),(z9u),(z9w),(z5t),(z5v),(z7k),(z8c),(z1r),(z1n),(z1p),(z1m),(z46),(z44),(z4q),(z4z),(z6j),(z6r),(zbt),(Nx "law" "law" (kaG s_law) (kaF s_law) (kah s_law) .none zg7 zgd zgf zgc zeg zg8),(zi),(zz),(Nx "__init__" "Marks.__init__" (kaG ka4) (kaF ka4) (kah ka4) (.ref z3k) z60 z5q z62 z5s z1x z5p),(z39),(zg),(zq),(Nx "__init__" "Voucher.__init__" (kaG kaV) (kaF kaV) (kah kaV) (.ref z1v) z47 z42 z3v z4h z1j z4c),(zk),(z1q),(Nx "__init__" "Off.__init__" (kaG kbs) (kaF kbs) (kah kbs) (.ref z66) z8a z7w z7j z8i z4k z86),(ze),(zy),(Nx "__init__" "Share.__init__" (kaG ka3) (kaF ka3) (kah ka3) (.ref z3m) z5n z5z z63 z5r z25 z67),(za),(zt),(Nx "__init__" "Cheapest.__init__" (kaG kaO) (kaF kaO) (kah kaO) (.ref z1l) z3a z2u z33 z35 z1g z3g),(zc),(zx),(Nx "__init__" "Bundle.__init__" (kaG ka0) (kaF ka0) (kah ka0) (.ref z2j) z57 z4x z59 z53 z1t z5l),(zb),(zs),(Nx "__init__" "Carriage.__init__" (kaG kaP) (kaF kaP) (kah kaP) (.ref z1k) z2v z30 z3b z31 z19 z2y),(zp),(z1b),(Nx "__init__" "Line.__init__" (kaG kbf) (kaF kbf) (kah kbf) (.ref z4l) z6g z6c z6o z6h z3j z6n),(zj),(zw),(Nx "__init__" "Basket.__init__" (kaG ka1) (kaF ka1) (kah ka1) (.ref z2m) z54 z4u z5h z5a z1u z56),(z2r),(zd),(z41),(z3x),(z2z),(z3d),(zm),(za0),(z9y),(z4m),(z4n),(z6q),(z6f),(z4b),(z3t),(z3w),(z3z),(zl),(z8r),(z8d),(zo),(z1a),(Nx "__init__" "Till.__init__" (kaG kbe) (kaF kbe) (kah kbe) (.ref z4j) z6a z6d z6m z6b z3n z6e),(z3q),(zn),(zh)⟩:=⟨B,zh3,zh5,z8h,zi0,zi9,zds,zi8,zhk,z7r,z75,zbh,z8t,⟨(kbx z81 z8g z8q),(Binds.all (nL3 fun _ _ _=>rfl)),NP X G z7n⟩,z9j,zdr,z9s,zg4,zhw,zgx,z9q,zap,zb0,z6y,zgm,zdz,zbs,zay,zgw,zem,zc8,zav,zf8,zac,zal,zaf,z9g,z7e,z79,za2,z8x,zce,z9l,z7v,zex,zbq,ze8,z5w,z5x,z99,zaz,zc7,⟨(kbx ziu ziv zit),(Binds.all (nL1 fun _=>rfl)),NP X G zht⟩,⟨⟨zgl,zh0,zgj,zgn⟩,NP X G zhl,⟨zgg,inX,itX,zgt⟩,zgs,zgh,zgy,zgz⟩,zcq,zbn,zcc,zaj,zc3,zcw,⟨zcx,zcv,(kbx zcj zd3 zc5),(bd_mk (n:=7) rfl fun _ KX=>nL7 fun _ _ _ _ _ _ _=>BindsTo.of_defaults rfl (KX _ _ zr) rfl rfl rfl)⟩,(bd_mk (n:=6) rfl fun _ KX=>nL6 fun _ _ _ _ _ _=>BindsTo.of_defaults rfl (KX _ _ zr) rfl rfl rfl),(bd_mk (n:=5) rfl fun _ KX=>nL5 fun _ _ _ _ _=>BindsTo.of_defaults rfl (KX _ _ zr) rfl rfl rfl),(bd_mk (n:=4) rfl fun _ KX=>nL4 fun _ _ _ _=>BindsTo.of_defaults rfl (KX _ _ zr) rfl rfl rfl),(bd_mk (n:=3) rfl fun _ KX=>nL3 fun _ _ _=>BindsTo.of_defaults rfl (KX _ _ zr) rfl rfl rfl),(bd_mk (n:=2) rfl fun _ KX=>nL2 fun _ _=>BindsTo.of_defaults rfl (KX _ _ zr) rfl rfl rfl),(bd_mk (n:=1) rfl fun _ KX=>nL1 fun _=>BindsTo.of_defaults rfl (KX _ _ zr) rfl rfl rfl),⟨⟨zer,zez,zff,zfb⟩,NP X G zfy,⟨zfa,inX,itX,zf3⟩,zet,zfi,zev,zf7⟩,⟨zaa,za9,(kbx zat zb1 zaw),(bd_mk (n:=2) rfl fun _ KX=>nL2 fun _ _=>BindsTo.of_defaults rfl (KX _ _ z4s) rfl rfl rfl)⟩,(bd_mk (n:=1) rfl fun _ KX=>nL1 fun _=>BindsTo.of_defaults rfl (KX _ _ z4s) rfl rfl rfl),NP X G zhv,⟨⟨zii,zin,zid,zie⟩,NP X G zhv,⟨zia,inX,itX,z7z⟩,z7t,z8s,zil,zib⟩,zc4,ze1,⟨zfk,zf2,(kbx zfh zfj zfn),(bd_mk (n:=3) rfl fun _ KX=>nL3 fun _ _ _=>BindsTo.of_defaults rfl (KX _ _ za1) rfl rfl rfl)⟩,(bd_mk (n:=2) rfl fun _ KX=>nL2 fun _ _=>BindsTo.of_defaults rfl (KX _ _ za1) rfl rfl rfl),NP X G zfl,⟨⟨zgr,zgk,zgv,zgo⟩,NP X G zfl,⟨zgu,inX,itX,z4i⟩,z4e,z49,zgq,zgp⟩,zb5,z9i,zbl,⟨zd2,zcy,(kbx zc6 zcl zcp),(bd_mk (n:=4) rfl fun _ KX=>nL4 fun _ _ _ _=>BindsTo.of_defaults rfl (KX _ _ z3l) rfl rfl rfl)⟩,(bd_mk (n:=3) rfl fun _ KX=>nL3 fun _ _ _=>BindsTo.of_defaults rfl (KX _ _ z3l) rfl rfl rfl),(bd_mk (n:=2) rfl fun _ KX=>nL2 fun _ _=>BindsTo.of_defaults rfl (KX _ _ z3l) rfl rfl rfl),NP X G z9v,⟨⟨zdj,zdp,zeq,zdx⟩,NP X G z9v,⟨zdh,inX,itX,z1d⟩,z1e,z1i,ze3,zdw⟩,z9h,z89,⟨z9r,z9p,(kbx z9a z9f z9d),(bd_mk (n:=3) rfl fun _ KX=>nL3 fun _ _ _=>BindsTo.of_defaults rfl (KX _ _ z3r) rfl rfl rfl)⟩,(bd_mk (n:=2) rfl fun _ KX=>nL2 fun _ _=>BindsTo.of_defaults rfl (KX _ _ z3r) rfl rfl rfl),NP X G zd8,⟨⟨zg0,zfr,zfu,zfo⟩,NP X G zd8,⟨zg5,inX,itX,z2c⟩,z2l,z2p,zfq,zfz⟩,zb4,za4,zao,⟨zbe,zbj,(kbx zbg zbu zba),(bd_mk (n:=4) rfl fun _ KX=>nL4 fun _ _ _ _=>BindsTo.of_defaults rfl (KX _ _ z61) rfl rfl rfl)⟩,(bd_mk (n:=3) rfl fun _ KX=>nL3 fun _ _ _=>BindsTo.of_defaults rfl (KX _ _ z61) rfl rfl rfl),NP X G z9z,⟨⟨zec,zei,zej,zee⟩,NP X G z9z,⟨zdn,inX,itX,z1c⟩,z1h,z1f,zeo,ze5⟩,z85,⟨z94,z9n,(kbx z8v z9m z98),(bd_mk (n:=2) rfl fun _ KX=>nL2 fun _ _=>BindsTo.of_defaults rfl (KX _ _ z4g) rfl rfl rfl)⟩,(bd_mk (n:=1) rfl fun _ KX=>nL1 fun _=>BindsTo.of_defaults rfl (KX _ _ z4g) rfl rfl rfl),⟨⟨zi1,zhg,zh7,zhr⟩,NP X G zi4,⟨zhm,inX,itX,zhs⟩,zhx,zhz,zhj,zh4⟩,zeh,zc2,zdt,zad,⟨zea,zdk,(kbx zed ze4 zdi),(bd_mk (n:=5) rfl fun _ KX=>nL5 fun _ _ _ _ _=>BindsTo.of_defaults rfl (KX _ _ z8o) rfl rfl rfl)⟩,(bd_mk (n:=4) rfl fun _ KX=>nL4 fun _ _ _ _=>BindsTo.of_defaults rfl (KX _ _ z8o) rfl rfl rfl),⟨⟨zfx,zfp,zfs,zfw⟩,NP X G zgi,⟨zg1,inX,itX,zg2⟩,zg6,zft,zg3,zfv⟩,za7,z7d,z97,⟨zbo,zbb,(kbx zbz zbp zbk),(bd_mk (n:=4) rfl fun _ KX=>nL4 fun _ _ _ _=>BindsTo.of_defaults rfl (KX _ _ z1y) rfl rfl rfl)⟩,(bd_mk (n:=3) rfl fun _ KX=>nL3 fun _ _ _=>BindsTo.of_defaults rfl (KX _ _ z1y) rfl rfl rfl),(bd_mk (n:=2) rfl fun _ KX=>nL2 fun _ _=>BindsTo.of_defaults rfl (KX _ _ z1y) rfl rfl rfl),⟨⟨zdm,zde,zdq,zel⟩,NP X G zf4,⟨zdf,inX,itX,zdy⟩,zdg,ze0,zdb,zep⟩,z74,z6x,z64,z71,z9e,z7h,⟨⟨zir,zig,zi5,zic⟩,NP X G ziw,⟨ziq,inX,itX,zio⟩,zif,zik,zi3,zi6⟩,zfd,zco,zfc,zfe,zas,zeu,zax,zcu,z9k,z91,⟨⟨zha,zhh,zi2,zh1⟩,NP X G zi7,⟨zh6,inX,itX,zh2⟩,zhu,zhi,zhf,zh9⟩,zcd,zc9,zb8,z90,zcz,ze9,⟨⟨zhq,zhy,zhn,zhb⟩,NP X G zij,⟨zhc,inX,itX,zhd⟩,zhe,zhp,zh8,zho⟩,zak,z9o,zcn,zdl,⟨zeb,zdc,(kbx zdo ze6 ze2),(bd_mk (n:=5) rfl fun _ KX=>nL5 fun _ _ _ _ _=>BindsTo.of_defaults rfl (KX _ _ z8f) rfl rfl rfl)⟩,(bd_mk (n:=4) rfl fun _ KX=>nL4 fun _ _ _ _=>BindsTo.of_defaults rfl (KX _ _ z8f) rfl rfl rfl),⟨z8w,z8z,z95⟩,kaS z5b z1c z1f (kbu z5b z7t),kaS z3f z1c z1f (kbu z3f z4e),kaS z1s z1c z1f (kbu z1s z1e),kaS z29 z1c z1f (kbu z29 z2l),kaS z8j z7z z8s (kbu z8j z4e),kaS z4t z7z z8s (kbu z4t z1e),kaS z6s z7z z8s (kbu z6s z2l),kaS z5d z7z z8s (kbu z5d z1h),kaS z7i z4i z49 (kbu z7i z7t),kaS z2x z4i z49 (kbu z2x z1e),kaS z5e z4i z49 (kbu z5e z2l),kaS z32 z4i z49 (kbu z32 z1h),kaS z55 z1d z1i (kbu z55 z7t),kaS z2w z1d z1i (kbu z2w z4e),kaS z23 z1d z1i (kbu z23 z2l),kaS z1o z1d z1i (kbu z1o z1h),kaS z6p z2c z2p (kbu z6p z7t),kaS z50 z2c z2p (kbu z50 z4e),kaS z2a z2c z2p (kbu z2a z1e),kaS z2q z2c z2p (kbu z2q z1h),z76,⟨_,zf,z22,z26,z2e,z2t,z2b,z2n,z1z,z6z,z7f,rfl,z6v,z7b,z72,z77,z6w,z7a,z6u⟩⟩
 exact⟨_,zh,zn,z7c,W.ck_falling_groups,z7g,fun s v=>.of_eq rfl,fun base hK _ hB=>kmI ⟨W,hB⟩⟩
end Vs
end Lake
open Lake
namespace PySem.W.Fast
def tw5095002088094627392:=Nat
def tw3202351347822300067:=Nat
def tw8145683035891507524:=Nat
def tw9304368357990601188:=Nat
def tw2023157918728382308:=Nat
def tw5963771404661668:=Nat
def tw12857240873080368133:=Nat
def tw13122764686044140709:=Nat
def tw9874058687842689766:=Nat
def tw7022180159229974599:=Nat
def tw16763017602906970183:=Nat
def tw14641566357243276615:=Nat
def tw1905419067211606407:=Nat
def tw13710063531637200455:=Nat
def tw17048821349122687687:=Nat
def tw10342497993749254440:=Nat
def tw12177561827385193960:=Nat
def tw3869235181004537480:=Nat
def tw714514345487566441:=Nat
def tw12161429256180748490:=Nat
def tw1512953599295249034:=Nat
def tw4177431549026594059:=Nat
def tw1605405923589088685:=Nat
def tw11528707617192600687:=Nat
def tw2187450590499753232:=Nat
def tw3803885834022230352:=Nat
def tw5493112438086185489:=Nat
def tw12451700251615373265:=Nat
def tw9663530731093120434:=Nat
def tw7670024797055060818:=Nat
def tw15513281775753503795:=Nat
def tw3438262083703879095:=Nat
def tw6722070223828996599:=Nat
def tw9542347134197572279:=Nat
def tw11284148559744678903:=Nat
def tw12810500239519928890:=Nat
def tw4141202012429164410:=Nat
def tw13884634235320839034:=Nat
def tw17158126944478656956:=Nat
def tw18028169989540989341:=Nat
def tw14913177306024607421:=Nat
def tw17140866379544227805:=Nat
def tw13195982866042958459:=Nat
def tw7571644816103617042:=Nat
def tw14570585236120137642:=Nat
def tw6265682593717855051:=Nat
def tw17434755380346612347:=Nat
def tw15315695720279411815:=Nat
def tw9097755239741793608:=Nat
def tw11689946480410849082:=Nat
def tw1560322355696928064:=Nat
def tw1609997288874894880:=Nat
def tw1132695297857289647:=Nat
def tw10921698265249636031:=Nat
def tw7797543465823184093:=Nat
def tw7909052877231884205:=Nat
def tw2708636535232246506:=Nat
def tw17783705859986782716:=Nat
def tw15456237515073759191:=Nat
def tw11797682495871491254:=Nat
def tw2830860553188081291:=Nat
def tw10845211109044677457:=Nat
def tw16975217641556234764:=Nat
def tw16717956901278042763:=Nat
def tw8138988917373556246:=Nat
def tw9865844322633540100:=Nat
def tw5084578657819835603:=Nat
def tw17539469173599263476:=Nat
def tw417853711298470892:=Nat
def tw6106892184291505604:=Nat
def tw5644684028329423144:=Nat
def tw11358353433595934689:=Nat
def tw16736835485505492023:=Nat
def tw5018784592606796456:=Nat
def tw1565358687324021108:=Nat
def tw4283992684570428768:=Nat
def tw11029746233676762393:=Nat
def tw15946081195607099530:=Nat
def tw7694035100700677219:=Nat
def tw14882899053068307563:=Nat
def tw10968758436571145373:=Nat
def tw15382117659871224695:=Nat
def tw586327883182302914:=Nat
def tw3681568909141902947:=Nat
def tw3799081151233174455:=Nat
def tw15008193047749563032:=Nat
def tw17660760050388538876:=Nat
def tw10788157892988682669:=Nat
def tw5360688782353385914:=Nat
def tw8605766921703722437:=Nat
def tw18047780890407028416:=Nat
def tw11038662000593812739:=Nat
def tw3464425001290636221:=Nat
def tw1984239835731244487:=Nat
def tw12377807777658447514:=Nat
def tw3919044796337366012:=Nat
def tw2158323943089796358:=Nat
def tw4323772565330451349:=Nat
def tw5210492947490001571:=Nat
def tw8069930256376247004:=Nat
def tw5176519678739907277:=Nat
def tw3432782888337603847:=Nat
def tw8409398088486855112:=Nat
def tw3402436253681329462:=Nat
def tw2607983114400237652:=Nat
def tw6036010831971466656:=Nat
def tw6872401370742672182:=Nat
def tw5054184853349027980:=Nat
def tw16542274493451842405:=Nat
def tw15290867976513688815:=Nat
def tw15267561771640872611:=Nat
def tw8109555358597908941:=Nat
def tw15171948623845403654:=Nat
def tw14946994069074352899:=Nat
def tw14744510332127524089:=Nat
def tw13176468723969822743:=Nat
def tw2130117891722963362:=Nat
def tw4438630387411791345:=Nat
def tw578710161148868839:=Nat
def tw13086090509409357094:=Nat
def tw6881366153418677262:=Nat
def tw18352240404306060698:=Nat
def tw5683082450822605421:=Nat
def tw16241107548119545686:=Nat
def tw4305146319169236344:=Nat
def tw12035782704514709159:=Nat
def tw5372283870485947310:=Nat
def tw12147382799633252153:=Nat
def tw1383360225603288353:=Nat
def tw8302442380939342075:=Nat
def tw17170645870159895185:=Nat
def tw6166656426985519503:=Nat
def tw15281447403579143677:=Nat
def tw15619876522903658478:=Nat
def tw2779243846562219934:=Nat
def tw13847311997663071179:=Nat
def tw15035181824411600092:=Nat
def tw4853117733761281981:=Nat
def tw11677072169932246414:=Nat
def tw17060426776227830236:=Nat
def tw10614400082148215905:=Nat
def tw1766792323229481760:=Nat
def tw17901298087965788741:=Nat
def tw13740008601235959410:=Nat
def tw17567417791936698199:=Nat
def tw220356999151029964:=Nat
def tw143960059216633676:=Nat
def tw6564957564729450578:=Nat
def tw14282476805430328988:=Nat
def tw4708751762059247842:=Nat
def tw865030515749019302:=Nat
def tw9337572040914614426:=Nat
def tw2759530869018673905:=Nat
def tw1196672251182223514:=Nat
def tw15634702432902011390:=Nat
def tw18253215812048698768:=Nat
def tw18039124650459279670:=Nat
def tw12014131112887020770:=Nat
def tw3386447418923041879:=Nat
def tw7728536282460451403:=Nat
def tw4132051533469477775:=Nat
def tw10343082601476726851:=Nat
def tw12536414006476022589:=Nat
def tw6235650565671960127:=Nat
def tw7476438371797841990:=Nat
def tw15785156025449298467:=Nat
def tw6450038576682910855:=Nat
def tw11746619642073246704:=Nat
def tw120381020204177107:=Nat
def tw1788874581649229358:=Nat
def tw3579967678152109822:=Nat
def tw3243193283772595261:=Nat
def tw3795741698020212164:=Nat
def tw7568988540802229417:=Nat
def tw2026665976113766091:=Nat
def tw11907497289657986954:=Nat
def tw2800899047364353445:=Nat
def tw4835035437579118649:=Nat
def tw16364749609108915468:=Nat
def tw4166282444970715865:=Nat
def tw7397214285980060829:=Nat
def tw4919033766404741831:=Nat
def tw17741810598280717407:=Nat
def tw7196125230320382246:=Nat
def tw11639432693221202711:=Nat
def tw1664413567399941808:=Nat
def tw17015596298360894368:=Nat
def tw1412595942749219134:=Nat
def tw15699052188678067610:=Nat
def tw54583159651205741:=Nat
def tw12725373287985590921:=Nat
def tw4217401034523534929:=Nat
def tw6545130978423643749:=Nat
def tw9537857391042794064:=Nat
def tw9216979429458829801:=Nat
def tw3093705436675181235:=Nat
def tw2917395094314544634:=Nat
def tw14148430548351211643:=Nat
def tw13527638447063040543:=Nat
def tw8455797163148658403:=Nat
def tw12698541545043292363:=Nat
def tw202856485233926206:=Nat
def tw10671025529525527882:=Nat
def tw1332849880854264143:=Nat
def tw63007082654455297:=Nat
def tw7811467255718584892:=Nat
def tw10911251669479934091:=Nat
def tw18113712097186858982:=Nat
def tw5697225840957239020:=Nat
def tw15379807169020940505:=Nat
def tw8674223918269208438:=Nat
def tw11540086002021867352:=Nat
def tw5226917992021487534:=Nat
def tw5984069905341970366:=Nat
def tw9594129759228495520:=Nat
def tw10597623531535028498:=Nat
def tw11303322350941243147:=Nat
def tw12785831701546917633:=Nat
def tw15513203674873626597:=Nat
def tw11238881331763515214:=Nat
def tw9075616050213600230:=Nat
def tw10368412098159113337:=Nat
def tw323569818154377902:=Nat
def tw14868062168497063276:=Nat
def tw1632172051224262863:=Nat
def tw12164430782953202842:=Nat
def tw3753443498378365583:=Nat
def tw6966713958193887830:=Nat
def tw460650351207888797:=Nat
def tw13728215834844497116:=Nat
def tw10011490595426118920:=Nat
def tw13759046057962263287:=Nat
def tw5194812274128762960:=Nat
def tw16812165897985599695:=Nat
def tw9467786163016401082:=Nat
def tw11375399918813919370:=Nat
def tw17663526565065933229:=Nat
def tw1485846952691671074:=Nat
def tw3520764258986344872:=Nat
def tw7321521727940197208:=Nat
def tw7083952466599908505:=Nat
def tw7834042371102005738:=Nat
def tw15278506565883926261:=Nat
def tw1887214837329103084:=Nat
def tw10600886709170542181:=Nat
def tw16463584023347219600:=Nat
def tw11500943209297672869:=Nat
def tw7059645767374235741:=Nat
def tw12819507109602941176:=Nat
def tw11266753468864047421:=Nat
def tw4096648371763940520:=Nat
def tw18088131542362194643:=Nat
def tw1939885503499608236:=Nat
def tw9813819546892699730:=Nat
def tw15823940173634792958:=Nat
def tw1174349415392786003:=Nat
def tw3039761618927850262:=Nat
def tw6381030557373291889:=Nat
def tw7750338488451298306:=Nat
def tw2524921389904737683:=Nat
def tw18405214087751931803:=Nat
def tw1820209784408254630:=Nat
def tw10050235248400408295:=Nat
def tw6214044991695014258:=Nat
def tw7582468260544027860:=Nat
def tw876349945605261665:=Nat
def tw10318709134059490129:=Nat
def tw11452822779134219976:=Nat
def tw9287572906359104955:=Nat
def tw8799123445283224100:=Nat
def tw16778246804097514109:=Nat
def tw3242046126932383917:=Nat
def tw12572090172643593552:=Nat
def tw14285581471890746803:=Nat
def tw1442225992774879901:=Nat
def tw1316356261119493315:=Nat
def tw3058607864959836786:=Nat
def tw4678152397281006730:=Nat
def tw11996467075325565680:=Nat
def tw15361858227479127887:=Nat
def tw12589455702390606368:=Nat
def tw3102089557682385610:=Nat
def tw15580190324719035181:=Nat
def tw9147205325979358750:=Nat
def tw11352869135123596472:=Nat
def tw9812327626888448295:=Nat
def tw3047534954492793622:=Nat
def tw2104597408330326831:=Nat
def tw7206860560754638095:=Nat
def tw5599226175663610392:=Nat
def tw5381723637641596640:=Nat
def tw14026880589416770225:=Nat
def tw18075269653274632507:=Nat
def tw4499487358634155429:=Nat
def tw18139087959823877686:=Nat
def tw13523633741378227084:=Nat
def tw15340111779910189149:=Nat
def tw13172679169424314403:=Nat
def tw2641997354909542816:=Nat
def tw6835015269549088778:=Nat
def tw4637285368995923859:=Nat
def tw1597969636574813252:=Nat
def tw2367310311265176154:=Nat
def tw4156828168552859105:=Nat
def tw15269727537939364683:=Nat
def tw15232186097635000236:=Nat
def tw15364735462440725445:=Nat
def tw4480101809842681300:=Nat
def tw6216680087689629912:=Nat
def tw8629489736404382584:=Nat
def tw2855965264835492833:=Nat
def tw12815311062579756712:=Nat
def tw9822319287179358523:=Nat
def tw3372059095898373219:=Nat
def tw6710938281172946852:=Nat
def tw13237813650563897834:=Nat
def tw3428647884654467046:=Nat
def tw15735948621913225870:=Nat
def tw16037443661036203815:=Nat
def tw6553160268852468694:=Nat
def tw17831094801512586130:=Nat
def tw5416114483842543892:=Nat
def tw1322603609720895128:=Nat
def tw4865881270700713681:=Nat
def tw4489472731706873318:=Nat
def tw11688229468061526862:=Nat
def tw17393356112118368276:=Nat
def tw6371827376556110916:=Nat
def tw14444108077628472996:=Nat
def tw3097960471058112840:=Nat
def tw5220634413658220231:=Nat
def tw9823427582298014952:=Nat
def tw8919405565547663590:=Nat
def tw14953022311664908944:=Nat
def tw1217092373828140968:=Nat
def tw15082122819193468868:=Nat
def tw37986419644351240:=Nat
def tw8796106675820638323:=Nat
def tw301518243482110180:=Nat
def tw7577294047207410490:=Nat
def tw12837360416127446259:=Nat
def tw13624938738216566874:=Nat
def tw17499695783396869084:=Nat
def tw7626324250186968878:=Nat
def tw2164695007683838733:=Nat
def tw11171242028419367273:=Nat
def tw18050379916539030563:=Nat
def tw9168541589682454191:=Nat
def tw16372689905865329893:=Nat
def tw3415754772783730155:=Nat
def tw8772547859193619206:=Nat
def tw3778953132777753676:=Nat
def tw16184325939861234239:=Nat
def tw2065064066103617685:=Nat
def tw14799030702019744182:=Nat
def tw15267272271827314507:=Nat
def tw12973014998422447298:=Nat
def tw9236965105208320861:=Nat
def tw9154121686959117632:=Nat
def tw14006993436901176338:=Nat
def tw12249864814320761205:=Nat
def tw5717240053032574846:=Nat
def tw12235731089680747747:=Nat
def tw18143630600441954502:=Nat
def tw7084414848435206032:=Nat
def tw16964184024428615558:=Nat
def tw7831714779442201118:=Nat
def tw4441149689387557530:=Nat
def tw11934411795967678849:=Nat
def tw2008497853745023070:=Nat
def tw797039230765223943:=Nat
def tw4282869181621047624:=Nat
def tw5542696945562398955:=Nat
def tw4672108214520468079:=Nat
def tw8809906914812821850:=Nat
def tw2860318293159291951:=Nat
def tw18232955223449989268:=Nat
def tw8277946248031927654:=Nat
def tw3520494940983274431:=Nat
def tw8444757005239902889:=Nat
def tw18232427156495738299:=Nat
def tw16917849596133274933:=Nat
def tw1572289014310381629:=Nat
def tw13576828781618050501:=Nat
def tw16408628478689810518:=Nat
def tw3567064615821725039:=Nat
def tw4794669955989972084:=Nat
def tw10680493017527423693:=Nat
def tw299462735255681465:=Nat
def tw8383266883208618892:=Nat
def tw1785368687885559942:=Nat
def tw4900558972135729909:=Nat
def tw7338683016076703118:=Nat
def tw1070950681778142713:=Nat
def tw2219806984951579926:=Nat
def tw10382511035509360930:=Nat
def tw11671093935587385845:=Nat
def tw4530851473281262784:=Nat
def tw5500585446418643894:=Nat
def tw11566891308178266635:=Nat
def tw41156719442611548:=Nat
def tw7496063631126976693:=Nat
def tw8617285217883954183:=Nat
def tw5484658753585870780:=Nat
def tw18054768602330405201:=Nat
def tw5089425086965131164:=Nat
def tw16201616250987763255:=Nat
def tw6891295558904226089:=Nat
def tw4265103878732982801:=Nat
def tw7751205625969065352:=Nat
def tw17726841710826748236:=Nat
def tw11602790718150929643:=Nat
def tw802636432143460525:=Nat
def tw12384929660792650363:=Nat
def tw8961427898407230712:=Nat
def tw14487186095484350929:=Nat
def tw10534116464809430173:=Nat
def tw16069537042699099709:=Nat
def tw7552527593816452745:=Nat
def tw6883516351926552795:=Nat
def tw8994537319952270463:=Nat
def tw6191091888405665775:=Nat
def tw9430327409755738789:=Nat
def tw1056431853222340123:=Nat
def tw3919280668590763087:=Nat
def tw926889230438770936:=Nat
def tw12929696603898260580:=Nat
def tw8474833055121892176:=Nat
def tw6855680726580982756:=Nat
def tw15443273612770898550:=Nat
def tw11343388361345126013:=Nat
def tw3020592515276829897:=Nat
def tw4305181905294758673:=Nat
def tw10029698872150165979:=Nat
end PySem.W.Fast
open PySem PySem.W PyProof.Rows
set_option maxRecDepth 100000 in
set_option maxHeartbeats 0 in
theorem PySem.Challenge.cw_voucherstack_k51_whole_bill_walked_holds : PySem.Challenge.rw_voucherstack_k51_whole_bill_walked.Holds := by
 w_on;o_law;k_head;(case hw=>w_witness2)
 k_fill
 refine L2.walkT_of (l:=PySem.Challenge.rw_voucherstack_k51_whole_bill_walked) (k:=18) (x:="_law_script") rfl rfl ⟨rfl,by decide,by decide⟩ (fun w h Y=>PySem.W.km_in_of Y) (fun w h Y=>PySem.W.km_tabs_of Y) ?F
 case F=>
  intro w mg fa h KX G hmg
  refine' Vs.all_mk KX G hmg ?J4 ?J5 ?Jj ?J8 ?J9 ?JP ?Na ?J6 ?Jk ?Je ?JH ?Jl ?afalling_groups ?lfalling_groups ?cfalling_groups ?kfalling_groups ?Jr ?JT ?Js ?JX ?J7 ?JY ?Jp ?JA ?Jz ?Jg ?J0 ?JR ?JI ?JD ?JZ ?JS ?JN ?JB ?JU ?JE ?Jy ?JC ?Jn ?Jh ?Jf ?JF ?Jw ?JK ?Jt ?Ji ?JV ?JJ ?JQ ?Jc ?Jd ?Jo ?Jx ?JL ?alaw ?llaw ?claw ?klaw ?aMarks ?imMarks ?isMarks ?iyMarks ?inX ?itX ?pgMarks ?hdMarks ?poMarks ?saMarks ?mkMarks ?kcMarks ?iaMarks ?nMarks_kind ?nMarks_needs ?nMarks_most ?nMarks_member ?nMarks_once ?nMarks_lone ?hMarks_init ?iMarks_init ?lMarks_init ?cMarks_init ?kMarks_init ?tMarks_init ?aVoucher ?imVoucher ?isVoucher ?iyVoucher ?pgVoucher ?hdVoucher ?poVoucher ?saVoucher ?mkVoucher ?kcVoucher ?iaVoucher ?hVoucher_init ?iVoucher_init ?lVoucher_init ?cVoucher_init ?kVoucher_init ?tVoucher_init ?aOff ?imOff ?isOff ?iyOff ?pgOff ?hdOff ?poOff ?saOff ?mkOff ?kcOff ?iaOff ?nOff_amount ?nOff_marks ?hOff_init ?iOff_init ?lOff_init ?cOff_init ?kOff_init ?tOff_init ?aShare ?imShare ?isShare ?iyShare ?pgShare ?hdShare ?poShare ?saShare ?mkShare ?kcShare ?iaShare ?nShare_share ?nShare_by_line ?nShare_marks ?hShare_init ?iShare_init ?lShare_init ?cShare_init ?kShare_init ?tShare_init ?aCheapest ?imCheapest ?isCheapest ?iyCheapest ?pgCheapest ?hdCheapest ?poCheapest ?saCheapest ?mkCheapest ?kcCheapest ?iaCheapest ?nCheapest_many ?nCheapest_marks ?hCheapest_init ?iCheapest_init ?lCheapest_init ?cCheapest_init ?kCheapest_init ?tCheapest_init ?aBundle ?imBundle ?isBundle ?iyBundle ?pgBundle ?hdBundle ?poBundle ?saBundle ?mkBundle ?kcBundle ?iaBundle ?nBundle_many ?nBundle_price ?nBundle_marks ?hBundle_init ?iBundle_init ?lBundle_init ?cBundle_init ?kBundle_init ?tBundle_init ?aCarriage ?imCarriage ?isCarriage ?iyCarriage ?pgCarriage ?hdCarriage ?poCarriage ?saCarriage ?mkCarriage ?kcCarriage ?iaCarriage ?nCarriage_marks ?hCarriage_init ?iCarriage_init ?lCarriage_init ?cCarriage_init ?kCarriage_init ?tCarriage_init ?aLine ?imLine ?isLine ?iyLine ?pgLine ?hdLine ?poLine ?saLine ?mkLine ?kcLine ?iaLine ?nLine_kind ?nLine_price ?nLine_many ?nLine_special ?hLine_init ?iLine_init ?lLine_init ?cLine_init ?kLine_init ?tLine_init ?aBasket ?imBasket ?isBasket ?iyBasket ?pgBasket ?hdBasket ?poBasket ?saBasket ?mkBasket ?kcBasket ?iaBasket ?nBasket_lines ?nBasket_carriage ?nBasket_member ?hBasket_init ?iBasket_init ?lBasket_init ?cBasket_init ?kBasket_init ?tBasket_init ?aStanding ?imStanding ?isStanding ?iyStanding ?pgStanding ?hdStanding ?poStanding ?saStanding ?mkStanding ?kcStanding ?iaStanding ?nStanding_owners ?nStanding_prices ?nStanding_carriage ?nStanding_marked ?Jv ?Jm ?aWay ?imWay ?isWay ?iyWay ?pgWay ?hdWay ?poWay ?saWay ?mkWay ?kcWay ?iaWay ?nWay_till ?nWay_basket ?nWay_hand ?nWay_used ?nWay_standing ?JW ?JG ?JM ?Ju ?Jq ?aBill ?imBill ?isBill ?iyBill ?pgBill ?hdBill ?poBill ?saBill ?mkBill ?kcBill ?iaBill ?nBill_order ?nBill_steps ?nBill_prices ?nBill_carriage ?nBill_total ?JO ?aTill ?imTill ?isTill ?iyTill ?pgTill ?hdTill ?poTill ?saTill ?mkTill ?kcTill ?iaTill ?nTill_parents ?nTill_vouchers ?nTill_rules ?nTill_back ?hTill_init ?iTill_init ?lTill_init ?cTill_init ?kTill_init ?tTill_init ?rdVoucher_init ?gaVoucher_init ?fcVoucher_init ?qOff_Carriage ?qShare_Carriage ?qCheapest_Carriage ?qBundle_Carriage ?qShare_Off ?qCheapest_Off ?qBundle_Off ?qCarriage_Off ?qOff_Share ?qCheapest_Share ?qBundle_Share ?qCarriage_Share ?qOff_Cheapest ?qShare_Cheapest ?qBundle_Cheapest ?qCarriage_Cheapest ?qOff_Bundle ?qShare_Bundle ?qCheapest_Bundle ?qCarriage_Bundle ?qafalling_groups ?qbfalling_groups ?qcfalling_groups ?qdfalling_groups ?qefalling_groups ?qffalling_groups ?qgfalling_groups ?qhfalling_groups ?qifalling_groups ?qjfalling_groups ?qkfalling_groups ?qlfalling_groups ?z1 ?z2 ?z3 ?z4 ?z5 ?z6 ?z7 ?z8 ?z9 ?z10 ?z11 ?z12 ?z13 ?z14 ?z15 ?z16 ?z17 ?z18
  any_goals k_is
  exists J4,Vs.nL2 fun _ _=>rfl,0,0,0
  exists J5,Vs.nL3 fun _ _ _=>rfl,0,0,0
  exists Jj,Vs.nL2 fun _ _=>rfl,0,0,0
  exists J8,Vs.nL4 fun _ _ _ _=>rfl,0,0,0
  exists J9,Vs.nL4 fun _ _ _ _=>rfl,0,0,0
  exists JP,Vs.nL4 fun _ _ _ _=>rfl,0,0,0
  exists Na,Vs.nL4 fun _ _ _ _=>rfl,0,0,0
  exists J6,Vs.nL4 fun _ _ _ _=>rfl,0,0,0
  exists Jk,Vs.nL4 fun _ _ _ _=>rfl,0,0,0
  exists Je,Vs.nL2 fun _ _=>rfl,0,0,0
  exists JH,Vs.nL3 fun _ _ _=>rfl,0,0,0
  exists Jl,Vs.nL2 fun _ _=>rfl,0,0,0
  exists Jr,Vs.nL3 fun _ _ _=>rfl,0,0,0
  exists JT,Vs.nL2 fun _ _=>rfl,0,0,0
  exists Js,Vs.nL2 fun _ _=>rfl,0,0,0
  exists JX,Vs.nL2 fun _ _=>rfl,0,0,0
  exists J7,Vs.nL4 fun _ _ _ _=>rfl,0,0,0
  exists JY,Vs.nL4 fun _ _ _ _=>rfl,0,0,0
  exists Jp,Vs.nL4 fun _ _ _ _=>rfl,0,0,0
  exists JA,Vs.nL3 fun _ _ _=>rfl,0,0,0
  exists Jz,Vs.nL3 fun _ _ _=>rfl,0,0,0
  exists Jg,Vs.nL2 fun _ _=>rfl,0,0,0
  exists J0,Vs.nL4 fun _ _ _ _=>rfl,0,0,0
  exists JR,Vs.nL2 fun _ _=>rfl,0,0,0
  exists JI,Vs.nL2 fun _ _=>rfl,0,0,0
  exists JD,Vs.nL2 fun _ _=>rfl,0,0,0
  exists JZ,Vs.nL3 fun _ _ _=>rfl,0,0,0
  exists JS,Vs.nL1 fun _=>rfl,0,0,0
  exists JN,Vs.nL1 fun _=>rfl,0,0,0
  exists JB,Vs.nL2 fun _ _=>rfl,0,0,0
  exists JU,Vs.nL3 fun _ _ _=>rfl,0,0,0
  exists JE,Vs.nL1 fun _=>rfl,0,0,0
  exists Jy,Vs.nL2 fun _ _=>rfl,0,0,0
  exists JC,Vs.nL4 fun _ _ _ _=>rfl,0,0,0
  exists Jn,Vs.nL3 fun _ _ _=>rfl,0,0,0
  exists Jh,Vs.nL3 fun _ _ _=>rfl,0,0,0
  exists Jf,Vs.nL1 fun _=>rfl,0,0,0
  exists JF,Vs.nL4 fun _ _ _ _=>rfl,0,0,0
  exists Jw,Vs.nL3 fun _ _ _=>rfl,0,0,0
  exists JK,Vs.nL2 fun _ _=>rfl,0,0,0
  exists Jt,Vs.nL3 fun _ _ _=>rfl,0,0,0
  exists Ji,Vs.nL5 fun _ _ _ _ _=>rfl,0,0,0
  exists JV,Vs.nL3 fun _ _ _=>rfl,0,0,0
  exists JJ,Vs.nL4 fun _ _ _ _=>rfl,0,0,0
  exists JQ,Vs.nL5 fun _ _ _ _ _=>rfl,0,0,0
  exists Jc,Vs.nL4 fun _ _ _ _=>rfl,0,0,0
  exists Jd,Vs.nL2 fun _ _=>rfl,0,0,0
  exists Jo,Vs.nL3 fun _ _ _=>rfl,0,0,0
  exists Jx,Vs.nL2 fun _ _=>rfl,0,0,0
  exists JL,Vs.nL4 fun _ _ _ _=>rfl,0,0,0
  exists Jv,Vs.nL2 fun _ _=>rfl,0,0,0,0,0
  exists Jm,Vs.nL1 fun _=>rfl,0,0,0,0,0
  exists JW,Vs.nL4 fun _ _ _ _=>rfl,0,0,0,0,0
  exists JG,Vs.nL2 fun _ _=>rfl,0,0,0,0,0
  exists JM,Vs.nL2 fun _ _=>rfl,0,0,0,0,0
  exists Ju,Vs.nL1 fun _=>rfl,0,0,0,0,0
  exists Jq,Vs.nL1 fun _=>rfl,0,0,0,0,0
  exists JO,Vs.nL4 fun _ _ _ _=>rfl,0,0,0,0,0
  (try case qafalling_groups=>first|rfl|decide|k_is)
  (try case qbfalling_groups=>k_is)
  (try case qcfalling_groups=>first|rfl|decide|k_is)
  (try case qdfalling_groups=>first|rfl|decide|k_is)
  (try case qefalling_groups=>first|rfl|decide|k_is)
  (try case qffalling_groups=>first|rfl|decide|k_is)
  (try case qgfalling_groups=>first|rfl|decide|k_is)
  (try case qhfalling_groups=>first|rfl|decide|k_is)
  (try case qifalling_groups=>first|rfl|decide|k_is)
  (try case qjfalling_groups=>first|rfl|decide|k_is)
  (try case qkfalling_groups=>first|k_is|rfl|decide|decide +kernel)
  (try case qlfalling_groups=>decide)
