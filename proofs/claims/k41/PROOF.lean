import PyProof.Rows.All
import Wide.All
import OpenK.AllK
import Wide.FinOn
import Lean
import PyProof.EqAt
import PyProof.EqKinds
import PyProof.TupleCall
import PySem.Challenge.RW_voucherstack_k41_looks_basket_by_basket
set_option Elab.async false
set_option linter.all false
set_option maxRecDepth 100000
open Array renaming length_toList → Ni, size_zip → N6, getElem?_eq_getElem → Mw
open Bool renaming false_ne_true → U8, false_eq_true → JP, and_eq_true → Nk, eq_iff_iff → NS, false_and → Mm, or_eq_true → Mu
open List renaming length_map → U0, range → U5, replicate → U6, mem_of_getElem? → U9, getElem?_eq_some_iff → Ja, getElem?_map → Jb, map_append → Jc, length_take → Jg, length_append → Jh, map_cons → Ji, size_toArray → Jk, map_map → Jm, getD_eq_getElem?_getD → Jn, mem_cons_of_mem → Jo, mem_map → Jp, mem_cons → Jr, mem_cons_self → Jt, length_cons → Jw, flatten_cons → Jy, lookup_cons → JA, take_length → JB, mem_append → JE, mem_append_right → JF, zipWith → JJ, map_congr_left → JL, mem_filter → JM, find?_cons → JN, range_succ → JO, lookup → JR, nodup_cons → JT, mem_singleton → JU, length_drop → JW, any_cons → JX, getElem?_eq_getElem → JZ, take_add_one → J0, append_nil → J6, take_of_length_le → J7, map_take → J8, mem_flatten → J9, of_mem_zip → Nb, length_replicate → Nc, replicate_succ → Nd, not_mem_nil → Ng, ext_getElem → Nh, map_nil → Nl, append_assoc → Nm, pairwise_iff_getElem → Nq, mem_iff_getElem? → Nr, filter_append → Nt, getElem?_append_right → Nw, length_singleton → Nx, Pairwise → Ny, drop_eq_getElem_cons → NA, drop_length → NB, getElem?_append_left → NF, map_drop → NH, getElem_map → NJ, filter_cons → NK, length_filter_le → NL, Perm → NM, sum_cons → NN, sum_append → NO, filterMap_cons → NP, getElem?_set_self → NQ, getElem?_set_ne → NR, length → NV, reverse_cons → NW, nil_append → NY, drop_of_length_le → NZ, all_eq_true → N3, nodup_nil → N4, cons_append → N7, nodup_append → N8, flatten_append → N9, nodup_range → Ma, getElem_range → Mb, pairwise_cons → Mc, length_zipWith → Md, getElem?_zipWith → Me, getElem?_range → Mf, getLastD_eq_getLast? → Mg, getElem?_eq_none_iff → Mh, mem_range → Mj, mem_append_left → Ml, getElem?_replicate → Ms, count_cons → My, zipIdx_cons → Mz, pairwise_lt_range → MA, getElem?_eq_none → MB, take_append_drop → MC, pairwise_map → MD, mem_of_mem_take → ME, filter_nil → MF, replicate_succ' → MG, sum_nil → MJ, flatMap_nil → MK, getElem?_take_of_lt → MO, take_eq_take_iff → MS, getElem_cons_drop → MY, sublist_append_left → MZ, getLast?_eq_some_getLast → M0
open Nat renaming le_refl → U2, le_trans → U4, le_of_lt → Jf, lt_of_lt_of_le → Jq, ne_of_lt → Js, zero_le → Jv, ne_of_gt → JQ, lt_of_le_of_lt → JY, lt_irrefl → J4, le_succ → Nj, min_eq_left → NG, min_self → NI, le_of_eq → NU, lt_trans → N1, not_lt → N2, lt_succ_self → Mp, lt_succ_iff_lt_or_eq → M3
open Option renaming map_some → Nf, getD_none → Mt, isSome_iff_exists → MN
open PySem.F renaming plainAttrs_list → JV, slot_list_append → Nu, type_list_append → Nv, slot_dict_setdefault → N5, plainAttrs_dict → Mv, slot_list_extend → MH, type_list_extend → MI, slot_tuple_add → MP, entry_tuple_add → MQ, args_tuple_add_2 → MR, entry_dict_setdefault → MT, args_dict_setdefault_3 → MU, slot_dict_values → MV, type_dict_setdefault → M1
open PySem.W renaming Frag → U1, findIn → U3, mroIn → U7, keepIn → Jd, fnOf → Je, nsIn → Jj, kitOne → Jl, mg_of → Ju, codeIn → Jx, mg_none_of → Jz, plainGet → JC, typeIn → JD, hasDictIn → JG, isFn → JH, makesIn → JI, plainOver → JK, kia_one → JS, emptyDict → J5, instObj → Na, kla_obj → Np, tabObj → Nz, specialIn → NC, callWith_K → ND, lookIn → NT, methodObj → Mi, plainGet_of → Mn, takerIn → Mo, takesIn → Mq, methodCall_KW → Mr, kla_fn → Mx, callWith_K0 → ML, cellsFrom_some → MM, kla_callFunE → MW, kla_codeExpr → MX
set_option hygiene false
local macro_rules|`(tactic|exists $a,$b)=>`(tactic|refine FunD.ok $a $b (by intro _ _ _ _ h;cases h;subst_vars;rfl) (fun cdv A outer s H vs Q E hr h=>?_))
local macro_rules|`(tactic|ac_rfl)=>`(tactic|exact⟨rfl,rfl,rfl,by decide +kernel,rfl,by decide +kernel,by decide +kernel⟩)
local macro_rules|`(tactic|exists $a:ident,$b,$c)=>`(tactic|have $a:ident:=$b (P:=P) (w:=w) $c)
local macro_rules|`(tactic|exists $a:ident,$b,$c,$_)=>`(tactic|have $a:ident:Room $b _:=($c).mono (by decide))
local macro_rules|`(tactic|exists $a:ident)=>`(tactic|try refine sN fun _ $a=>?_)
local macro_rules|`(tactic|exists $a,$b,$c:ident,$d:ident,$e:ident,$f)=>`(tactic|(generalize hg9:upd $a $b _=$c;obtain⟨$d:ident,$e:ident⟩:=kaB hg9 $f;clear hg9))
local macro_rules|`(tactic|ac_nf)=>`(tactic|(repeat (first|rw[kab,if_pos rfl]|rw[kab,if_neg (by decide +kernel)])))
local macro_rules|`(tactic|symm)=>`(tactic|try apply Y4)
local macro_rules|`(tactic|nofun)=>`(tactic|try first|apply Y6|apply Y4)
local macro_rules|`(tactic|exists 3)=>`(tactic|try first|apply Y8|apply Y6|apply Y4)
local macro_rules|`(tactic|exists 4)=>`(tactic|try first|apply Y10|apply Y8|apply Y6|apply Y4)
local macro_rules|`(tactic|exists 5)=>`(tactic|try first|apply Y10|apply Y6|apply Y4)
local macro_rules|`(tactic|exists $a:ident,$b,$_,$_,$_)=>`(tactic|(case $a:ident=>refine' Vs.dn_mk KX G ?_ ?_ ?_ ?_ (fun _ _ _ _ _ _=>$b);any_goals k_is))
local macro_rules|`(tactic|exists $a:ident,$b,$_,$_,$_,$_,$_)=>`(tactic|(case $a:ident=>refine' Vs.mt_mk ?_ ?_ ?_ ?_ ?_ (fun _ _ _ _ _ _=>$b);any_goals k_is))
namespace L2
open PySem PySem.Spec PyProof.Rows
noncomputable abbrev Key:=Sum Int Str
noncomputable def keyIs:Key→Value→Bool
 | .inl k,v=>Value.isInt k v
 | .inr x,v=>Value.isStrOf x v
noncomputable def keyH(w:World):Key→Int
 | .inl k=>hashInt k
 | .inr x=>hashStr w x
theorem kaU:∀{k:Key}{v:Value},keyIs k v=true→(∃i t,k=Sum.inl i∧v=Value.int i t)∨(∃x t,k=Sum.inr x∧v=Value.str x t)
 | .inl i,v,h=>by
  obtain⟨t,e⟩:=Value.isInt_shape (k:=i) (v:=v) h
  exact .inl ⟨i,t,rfl,e⟩
 | .inr x,v,h=>by
  obtain⟨t,e⟩:=Value.isStrOf_shape (x:=x) (v:=v) h
  exact .inr ⟨x,t,rfl,e⟩
def kiL(i:Int)(t:Tok):keyIs (.inl i) (.int i t)=true:=by simp[keyIs,Value.isInt]
def kiK(x:Str)(t:Tok):keyIs (.inr x) (.str x t)=true:=by simp[keyIs,Value.isStrOf]
def klU(a b:Int):decide ((Sum.inl a:Key)=Sum.inl b)=(a==b):=by
 by_cases e:a=b
 ·subst e;simp
 ·have h:¬(Sum.inl a:Key)=Sum.inl b:=fun q=>e (Sum.inl.inj q)
  rw[decide_eq_false h]
  exact(beq_eq_false_iff_ne.mpr e).symm
def klR(a b:Str):decide ((Sum.inr a:Key)=Sum.inr b)=decide (a=b):=by
 by_cases e:a=b
 ·subst e;simp
 ·have h:¬(Sum.inr a:Key)=Sum.inr b:=fun q=>e (Sum.inr.inj q)
  rw[decide_eq_false h,decide_eq_false e]
def klT(a:Int)(b:Str):decide ((Sum.inl a:Key)=Sum.inr b)=false:=decide_eq_false (fun q=>nomatch q)
def klS(a:Str)(b:Int):decide ((Sum.inr a:Key)=Sum.inl b)=false:=decide_eq_false (fun q=>nomatch q)
noncomputable def ka8(prog:Program)(w:World):PySem.KeyKind prog w Key where
 is:=keyIs
 hash:=keyH w
 inj:=fun v a b ha hb=>by
  rcases kaU ha with⟨i,t,rfl,rfl⟩|⟨x,t,rfl,rfl⟩
  ·rcases kaU hb with⟨j,u,rfl,e⟩|⟨y,u,rfl,e⟩
   ·injection e with e1 _;rw[e1]
   ·exact nomatch e
  ·rcases kaU hb with⟨j,u,rfl,e⟩|⟨y,u,rfl,e⟩
   ·exact nomatch e
   ·injection e with e1 _;rw[e1]
 byValue:=fun k v h=>by
  rcases kaU h with⟨i,t,rfl,rfl⟩|⟨x,t,rfl,rfl⟩ <;> rfl
 pyHash:=fun hv h=>by
  rcases kaU hv with⟨i,t,rfl,rfl⟩|⟨x,t,rfl,rfl⟩
  ·exact wpAny_pyHash_int h
  ·exact wpAny_pyHash_str h
 eqBool:=fun hu hv h=>by
  rcases kaU hu with⟨i,t,rfl,rfl⟩|⟨x,t,rfl,rfl⟩
  ·rcases kaU hv with⟨j,u,rfl,rfl⟩|⟨y,u,rfl,rfl⟩
   ·rw[klU] at h;exact wpAny_eqBool_int h
   ·rw[klT] at h;exact SeqAt.EqAt.int_str i t y u _ _ _ _ h
  ·rcases kaU hv with⟨j,u,rfl,rfl⟩|⟨y,u,rfl,rfl⟩
   ·rw[klS] at h;exact SeqAt.EqAt.str_int x t j u _ _ _ _ h
   ·rw[klR] at h;exact wpAny_eqBool_str h
 «strs» :=fun k x t v h=>by
  rcases kaU h with⟨i,u,rfl,e⟩|⟨y,u,rfl,e⟩
  ·exact nomatch e
  ·injection e with e1 _
   subst e1
   cases v <;> rfl
def kei(prog:Program)(w:World)(i:Int)(t:Tok):(ka8 prog w).is (.inl i) (.int i t)=true:=kiL i t
def kgt(prog:Program)(w:World)(x:Str)(t:Tok):(ka8 prog w).is (.inr x) (.str x t)=true:=kiK x t
end L2
namespace L2
open PySem PySem.Spec PyProof.Rows
inductive V where
 |non|bl (b:Bool)|int (i:Int)|str (x:Str)|byt (b:Array UInt8)|flt (b:UInt64)|ref (a:Addr)|ty (n:String)
 deriving DecidableEq
noncomputable def RelV:V→Value→Prop
 | .non,u=>u=Value.none
 | .bl b,u=>u=Value.bool b
 | .int i,u=>∃t,u=Value.int i t
 | .str x,u=>∃t,u=Value.str x t
 | .byt b,u=>∃t,u=Value.bytes b t
 | .flt b,u=>∃t,u=Value.float b t
 | .ref a,u=>u=Value.ref a
 | .ty n,u=>u=Value.type n
noncomputable abbrev Vals:List V→List Value→Prop:=Paired RelV
def Vals.length{xs:List V}{us:List Value}(r:Vals xs us):xs.length=us.length:=Paired.length r
theorem Vals.get:∀{xs:List V}{us:List Value}{i:Nat}{x:V},Vals xs us→xs[i]?=some x→∃u,us[i]?=some u∧RelV x u
 |_,_,_,_, .nil,e=>by simp at e
 |_,_,0,_, .cons r _,e=>by simp at e;subst e;exact⟨_,rfl,r⟩
 |_,_,i+1,x, .cons _ t,e=>by
  obtain⟨u,h1,h2⟩:=Vals.get (i:=i) (x:=x) t (by simpa using e)
  exact⟨u,by simpa using h1,h2⟩
theorem Vals.set{x:V}{u:Value}(r:RelV x u):∀{xs:List V}{us:List Value}(i:Nat),Vals xs us→Vals (xs.set i x) (us.set i u)
 |_,_,_, .nil=>.nil
 |_,_,0, .cons _ t=>.cons r t
 |_,_,i+1, .cons q t=>.cons q (Vals.set r i t)
theorem Vals.append:∀{xs ys:List V}{us ws:List Value},Vals xs us→Vals ys ws→Vals (xs++ys) (us++ws)
 |_,_,_,_, .nil,s=>s
 |_,_,_,_, .cons r t,s=>.cons r (Vals.append t s)
theorem Vals.take:∀{xs:List V}{us:List Value}(n:Nat),Vals xs us→Vals (xs.take n) (us.take n)
 |_,_,0,_=>.nil
 |_,_,_+1, .nil=>.nil
 |_,_,n+1, .cons r t=>.cons r (Vals.take n t)
theorem Vals.drop:∀{xs:List V}{us:List Value}(n:Nat),Vals xs us→Vals (xs.drop n) (us.drop n)
 |_,_,0,r=>r
 |_,_,_+1, .nil=>.nil
 |_,_,n+1, .cons _ t=>Vals.drop n t
def Vals.none_of:∀{xs:List V}{us:List Value}{i:Nat},Vals xs us→xs[i]?=none→us[i]?=none:=fun {xs us i} r e=>by
 have h1:=r.length
 have h2:xs.length≤i:=Mh.mp e
 exact Mh.mpr (by omega)
noncomputable def RelO:Option V→Option Value→Prop
 |some v,some u=>RelV v u
 |none,none=>True
 |_,_=>False
noncomputable def KV{κ:Type}:List (κ×V)→List (κ×Value)→Prop:=Paired fun(p: κ×V)(q: κ×Value)=>p.1=q.1∧RelV p.2 q.2
noncomputable def kV:Key→V
 | .inl i=>.int i
 | .inr x=>.str x
inductive HO where
 |lst (xs:List V)
 |tup (xs:List V)
 |dK (kvs:List (Key×V))|dT (kvs:List (List Key×V))
 |set (S:Int→Bool) (n:Nat)
 |ins (C dx:Addr) (fs:List (Str×V))
 |own (x:Addr)
 |xd (fs:List (Str×V))
 |met (f x:Addr)
 |rng (lo hi:Int)
 |frz (o:Obj) (u:HO)
 |tbl (ps:Array Value)
 |ext (φ:Heap→Prop)
noncomputable abbrev Hp:=Addr→Option HO
noncomputable def upd(H:Hp)(a:Addr)(o:HO):Hp:=fun b=>if b=a then some o else H b
def kad{H:Hp}{a:Addr}{o:HO}:upd H a o a=some o:=by unfold upd;rw[if_pos rfl]
def kaj{H:Hp}{a b:Addr}{o:HO}(h:b≠a):upd H a o b=H b:=by unfold upd;rw[if_neg h]
def kkL{H:Hp}{a:Addr}{o u:HO}:upd (upd H a o) a u=upd H a u:=by
 funext b;unfold upd;split <;> rfl
def ne_of{H:Hp}{a b:Addr}{o u:HO}(h:H a=some o)(h':H b=some u)(d:o≠u):a≠b:=by
 intro e;subst e;rw[h] at h';exact d (Option.some.inj h')
def kah{H:Hp}{a b:Addr}{o:HO}(h:H a=some o)(h':H b=none):a≠b:=by
 intro e;subst e;rw[h] at h';cases h'
section
variable (P:Program) (w:World)
noncomputable def ObjOk(H:Hp)(h:Heap)(a:Addr):HO→Prop
 | .lst xs=>xs.length≤sizeLine∧∃(its:List Value)(n:Nat),Vals xs its∧h.get? a=some {cls:=.type "list",data:=.seq its.toArray n}
 | .tup xs=>xs.length≤sizeLine∧∃its:List Value,Vals xs its∧IsTup h a its.toArray
 | .dK kvs=>kvs.length≤sizeLine∧(a==sysModules)=false∧∃vs,KV kvs vs∧h.DictOf (ka8 P w) a vs
 | .dT kvs=>kvs.length≤sizeLine∧(a==sysModules)=false∧∃xs:List (List Key×Addr×Value),
   Paired (fun(p:List Key×V)(q:List Key×Addr×Value)=>p.1=q.1∧H q.2.1=some (.tup (p.1.map kV))∧RelV p.2 q.2.2) kvs xs∧
   ∃o es ep,h.get? a=some o∧o.ExactDict∧o.data=.dict es ep∧es.toList=xs.map (entryOfKey (tupleKind (ka8 P w)))∧(xs.map (·.1)).Nodup
 | .set S n=>h.SetOf (intKind P w) a S n
 | .ins C dx fs=>H dx=some (.own a)∧fs.length≤1000∧dx≠a∧h.get? a=some (Na C dx)∧
   ∃mA,h.Ns1 dx mA∧(∀f,RelO (fs.lookup f) (mA f))∧PySem.Within mA (fs.map (·.1))
 | .own _=>∃o,h.get? a=some o
 | .xd fs=>∃mA,h.Ns1 a mA∧∀f,RelO (fs.lookup f) (mA f)
 | .rng lo hi=>∃t u v,h.get? a=some {cls:=.type "range",data:=.fields #[.int lo t, .int hi u, .int 1 v]}
 | .frz o u=>h.get? a=some o∧ObjOk H h a u
 | .tbl ps=>h.get? a=some {cls:=.none,data:=.fields ps}
 | .met f x=>h.get? a=some (Mi (.ref f) (.ref x))
 | .ext φ=>φ h∧(∃o,h.get? a=some o)∧∀h1 h2:Heap,φ h1→(∀o,h1.get? a=some o→h2.get? a=some o)→φ h2
noncomputable def HOk(H:Hp)(h:Heap):Prop:=∀a o,H a=some o→ObjOk P w H h a o
end
section
variable {P:Program} {w:World} {H H':Hp} {h h':Heap} {a:Addr} {o:HO}
theorem ObjOk.lt(x:ObjOk P w H h a o):a<h.objs.size:=by
 cases o with
 |lst xs=>obtain⟨_,_,_,_,e⟩:=x;exact Heap.lt_size e
 |tup xs=>obtain⟨_,_,_,p⟩:=x;exact p.lt
 |dK kvs=>obtain⟨_,_,_,_,o,_,_,e,_⟩:=x;exact Heap.lt_size e
 |dT kvs=>obtain⟨_,_,_,_,o,_,_,e,_⟩:=x;exact Heap.lt_size e
 |set S n=>obtain⟨o,_,_,_,e,_⟩:=x;exact Heap.lt_size e
 |ins C dx fs=>obtain⟨_,_,_,e,_⟩:=x;exact Heap.lt_size e
 |own y=>obtain⟨_,e⟩:=x;exact Heap.lt_size e
 |xd fs=>obtain⟨_,⟨_,_,_,e,_⟩,_⟩:=x;exact Heap.lt_size e
 |rng lo hi=>obtain⟨_,_,_,e⟩:=x;exact Heap.lt_size e
 |frz ob u=>obtain⟨e,_⟩:=x;exact Heap.lt_size e
 |tbl ps=>exact Heap.lt_size (show h.get? a=some _ from x)
 |met f y=>exact Heap.lt_size (show h.get? a=some _ from x)
 |ext φ=>obtain⟨_,⟨_,e⟩,_⟩:=x;exact Heap.lt_size e
theorem Paired.mapP{α β:Type}{F G: α→β→Prop}:∀{l₁:List α}{l₂:List β},Paired F l₁ l₂→(∀a b,F a b→G a b)→Paired G l₁ l₂
 |_,_, .nil,_=>.nil
 |_,_, .cons r t,f=>.cons (f _ _ r) (Paired.mapP t f)
theorem ObjOk.stay(x:ObjOk P w H h a o)(k:∀b u,(b=a∨H b=some (.own a))→h.get? b=some u→h'.get? b=some u)
  (ho:∀b,H b=some (.own a)→H' b=some (.own a)) (ht:∀b xs,H b=some (.tup xs)→H' b=some (.tup xs)):ObjOk P w H' h' a o:=by
 induction o with
 |lst xs=>obtain⟨z,its,n,r,e⟩:=x;exact⟨z,its,n,r,k _ _ (.inl rfl) e⟩
 |tup xs=>obtain⟨z,its,r,ob,e,c⟩:=x;exact⟨z,its,r,ob,k _ _ (.inl rfl) e,c⟩
 |dK kvs=>obtain⟨z,y,vs,r,ob,es,ep,e,c⟩:=x;exact⟨z,y,vs,r,ob,es,ep,k _ _ (.inl rfl) e,c⟩
 |dT kvs=>
  obtain⟨z,y,xs,r,ob,es,ep,e,c⟩:=x
  exact⟨z,y,xs,Paired.mapP r fun p q z=>⟨z.1,ht _ _ z.2.1,z.2.2⟩,ob,es,ep,k _ _ (.inl rfl) e,c⟩
 |set S n=>obtain⟨ob,es,ep,t,e,c⟩:=x;exact⟨ob,es,ep,t,k _ _ (.inl rfl) e,c⟩
 |ins C dx fs=>
  obtain⟨d,z,ne,e,mA,⟨od,es,ep,e2,c⟩,r⟩:=x
  exact⟨ho _ d,z,ne,k _ _ (.inl rfl) e,mA,⟨od,es,ep,k _ _ (.inr d) e2,c⟩,r⟩
 |own y=>obtain⟨ob,e⟩:=x;exact⟨ob,k _ _ (.inl rfl) e⟩
 |xd fs=>obtain⟨mA,⟨od,es,ep,e,c⟩,r⟩:=x;exact⟨mA,⟨od,es,ep,k _ _ (.inl rfl) e,c⟩,r⟩
 |rng lo hi=>obtain⟨t,u,v,e⟩:=x;exact⟨t,u,v,k _ _ (.inl rfl) e⟩
 |frz ob u ih=>obtain⟨e,q⟩:=x;exact⟨k _ _ (.inl rfl) e,ih q⟩
 |tbl ps=>
  have e:h.get? a=some {cls:=.none,data:=.fields ps}:=x
  show h'.get? a=some {cls:=.none,data:=.fields ps}
  exact k a _ (.inl rfl) e
 |met f y=>
  have e:h.get? a=some (Mi (.ref f) (.ref y)):=x
  show h'.get? a=some (Mi (.ref f) (.ref y))
  exact k a _ (.inl rfl) e
 |ext φ=>obtain⟨p,⟨o,e⟩,st⟩:=x;exact⟨st _ _ p fun o q=>k _ _ (.inl rfl) q,⟨o,k _ _ (.inl rfl) e⟩,st⟩
theorem HOk.lt(x:HOk P w H h)(e:H a=some o):a<h.objs.size:=(x a o e).lt
theorem HOk.fresh(x:HOk P w H h)(e:h.objs.size≤a):H a=none:=by
 cases q:H a with
 |none=>rfl
 |some u=>exact absurd (Jq (x.lt q) e) (J4 _)
theorem HOk.kept(x:HOk P w H h)(k:∀b u,h.get? b=some u→h'.get? b=some u):HOk P w H h':=fun a o e=>
 (x a o e).stay (fun b u _ q=>k b u q) (fun _ q=>q) fun _ _ q=>q
theorem HOk.laid(x:HOk P w H h)(k:∀b u,h.get? b=some u→h'.get? b=some u)(hp:h.objs.size≤a)(new:ObjOk P w (upd H a o) h' a o):HOk P w (upd H a o) h':=fun b u e=>by
 have hn:=x.fresh hp
 by_cases hb:b=a
 ·subst hb;rw[kad] at e;cases e;exact new
 ·rw[kaj hb] at e
  exact(x b u e).stay (fun c v _ q=>k c v q) (fun c q=>by rw[kaj (kah q hn)];exact q) fun c xs q=>by rw[kaj (kah q hn)];exact q
end
noncomputable def Rd(H:Hp)(a:Addr)(u:HO):Prop:=H a=some u∨∃o,H a=some (.frz o u)
def Rd.of{H:Hp}{a:Addr}{u:HO}(h:H a=some u):Rd H a u:=.inl h
def Rd.ok{P:Program}{w:World}{H:Hp}{h:Heap}{a:Addr}{u:HO}(r:Rd H a u)(x:HOk P w H h):ObjOk P w H h a u:=by
 rcases r with r|⟨o,r⟩
 ·exact x a u r
 ·obtain⟨_,q⟩:=x a _ r
  exact q
noncomputable def Mut:Option HO→Prop
 |some (.lst _)=>True
 |some (.dK _)=>True
 |some (.dT _)=>True
 |some (.set _ _)=>True
 |some (.ins _ _ _)=>True
 |some (.ext _)=>True
 |_=>False
section
variable {P:Program} {w:World} {H:Hp} {h h':Heap} {x e:Addr} {o':HO}
theorem HOk.write(ok:HOk P w H h)(mu:Mut (H x))(he:e=x∨H e=some (.own x))(k:∀b u,b≠e→h.get? b=some u→h'.get? b=some u)(heo:∃u,h'.get? e=some u)
  (new:ObjOk P w (upd H x o') h' x o'):HOk P w (upd H x o') h':=fun b u q=>by
 have nown:∀c y,H c=some (.own y)→c≠x:=fun c y r z=>by subst z;rw[r] at mu;exact mu
 have ntup:∀c xs,H c=some (.tup xs)→c≠x:=fun c xs r z=>by subst z;rw[r] at mu;exact mu
 by_cases hb:b=x
 ·subst hb;rw[kad] at q;cases q;exact new
 ·rw[kaj hb] at q
  by_cases hbe:b=e
  ·have q':H b=some (.own x):=by
    rcases he with z|z
    ·exact absurd (hbe.trans z) hb
    ·rw[hbe];exact z
   rw[q] at q';cases q'
   obtain⟨v,hv⟩:=heo
   exact⟨v,by rw[hbe];exact hv⟩
  ·refine(ok b u q).stay (fun c v hc r=>k c v ?_ r) (fun c r=>by rw[kaj (nown c b r)];exact r) fun c xs r=>by rw[kaj (ntup c xs r)];exact r
   rcases hc with rfl|hc
   ·exact hbe
   ·rintro rfl
    rcases he with z|z
    ·exact nown c b hc z
    ·rw[hc] at z;cases z;exact hb rfl
end
structure Un (fs ex:List Addr) (H H':Hp) (h h':Heap):Prop where
 keep:∀b o,h.get? b=some o→H b=none→b∉fs→b∉ex→h'.get? b=some o
 slot:∀b o,h.get? b=some o→H b=none→b∈fs→b∉ex→∃sl,h'.get? b=some {o with slots:=sl}
 free:∀b o,h.get? b=some o→H b=none→b∉ex→H' b=none
 there:∀b o,h.get? b=some o→b∉ex→∃o',h'.get? b=some o'
 tups:∀b xs,H b=some (.tup xs)→H' b=some (.tup xs)
 frzs:∀b o u,H b=some (.frz o u)→H' b=some (.frz o u)
 tbls:∀b ps,H b=some (.tbl ps)→∃more,H' b=some (.tbl (ps++more))
section
variable {fs fs' ex ex':List Addr} {H H1 H2:Hp} {h h1 h2 h':Heap} {a x e:Addr} {o:HO}
theorem Un.any(u:Un fs ex H H1 h h1){b:Addr}{ob:Obj}(q:h.get? b=some ob)(n:H b=none)(hx:b∉ex):∃sl,h1.get? b=some {ob with slots:=sl}:=by
 by_cases hb:b∈fs
 ·exact u.slot b ob q n hb hx
 ·exact⟨ob.slots,u.keep b ob q n hb hx⟩
theorem Un.trans(a:Un fs ex H H1 h h1)(b:Un fs ex H1 H2 h1 h2):Un fs ex H H2 h h2 where
 keep:=fun c ob q n hc hx=>b.keep c ob (a.keep c ob q n hc hx) (a.free c ob q n hx) hc hx
 slot:=fun c ob q n hc hx=>by
  obtain⟨sl,e1⟩:=a.slot c ob q n hc hx
  obtain⟨sl',e2⟩:=b.slot c _ e1 (a.free c ob q n hx) hc hx
  exact⟨sl',e2⟩
 free:=fun c ob q n hx=>by
  obtain⟨o',e1⟩:=a.there c ob q hx
  exact b.free c o' e1 (a.free c ob q n hx) hx
 there:=fun c ob q hx=>by
  obtain⟨o',e1⟩:=a.there c ob q hx
  exact b.there c o' e1 hx
 tups:=fun c xs q=>b.tups c xs (a.tups c xs q)
 frzs:=fun c ob xs q=>b.frzs c ob xs (a.frzs c ob xs q)
 tbls:=fun c ps q=>by
  obtain⟨m1,e1⟩:=a.tbls c ps q
  obtain⟨m2,e2⟩:=b.tbls c _ e1
  exact⟨m1++m2,by rw[e2,Array.append_assoc]⟩
theorem Un.kept(k:∀b u,h.get? b=some u→h'.get? b=some u):Un fs ex H H h h':=
 ⟨fun b ob q _ _ _=>k b ob q,fun b ob q _ _ _=>⟨ob.slots,k b ob q⟩,fun _ _ _ n _=>n,fun b ob q _=>⟨ob,k b ob q⟩,fun _ _ q=>q,fun _ _ _ q=>q,fun _ ps q=>⟨#[],by rw[q];simp⟩⟩
theorem Un.refl:Un fs ex H H h h:=Un.kept fun _ _ q=>q
theorem Un.laid(k:∀b u,h.get? b=some u→h'.get? b=some u)(hp:h.objs.size≤a)(hn:H a=none):Un fs ex H (upd H a o) h h' where
 keep:=fun b u q _ _ _=>k b u q
 slot:=fun b u q _ _ _=>⟨u.slots,k b u q⟩
 free:=fun b u q n _=>by rw[kaj (Js (Jq (Heap.lt_size q) hp))];exact n
 there:=fun b u q _=>⟨u,k b u q⟩
 tups:=fun b xs q=>by rw[kaj (kah q hn)];exact q
 frzs:=fun b u xs q=>by rw[kaj (kah q hn)];exact q
 tbls:=fun b ps q=>⟨#[],by rw[kaj (kah q hn),q];simp⟩
theorem Un.write(mu:Mut (H x))(he:e=x∨H e=some (.own x))(k:∀b u,b≠e→h.get? b=some u→h'.get? b=some u)(heo:∃u,h'.get? e=some u):Un fs ex H (upd H x o) h h':=by
 have hx:∀b,H b=none→b≠x:=fun b n z=>by subst z;rw[n] at mu;exact mu
 have hb:∀b,H b=none→b≠e:=fun b n z=>by
  subst z
  rcases he with r|r
  ·exact hx b n r
  ·rw[n] at r;cases r
 have hm:∀b u,H b=some u→¬Mut (some u)→b≠x:=fun b u q nm z=>by subst z;rw[q] at mu;exact nm mu
 refine⟨fun b u q n _ _=>k b u (hb b n) q,fun b u q n _ _=>⟨u.slots,k b u (hb b n) q⟩,fun b u q n _=>by rw[kaj (hx b n)];exact n,fun b u q _=>?_,
  fun b xs q=>by rw[kaj (hm b _ q fun z=>z)];exact q,fun b u xs q=>by rw[kaj (hm b _ q fun z=>z)];exact q,fun b ps q=>⟨#[],by rw[kaj (hm b _ q fun z=>z),q];simp⟩⟩
 by_cases hbe:b=e
 ·subst hbe;exact heo
 ·exact⟨u,k b u hbe q⟩
theorem Un.mono(u:Un fs ex H H1 h h1)(hs:∀b∈fs,b∈fs')(hx:∀b∈ex,b∈ex'):Un fs' ex' H H1 h h1:=
 ⟨fun b ob q n hb he=>u.keep b ob q n (fun z=>hb (hs b z)) fun z=>he (hx b z),fun _ _ q n _ he=>u.any q n fun z=>he (hx _ z),fun b ob q n he=>u.free b ob q n fun z=>he (hx b z),fun b ob q he=>u.there b ob q fun z=>he (hx b z),u.tups,u.frzs,u.tbls⟩
end
noncomputable def trk(h:Heap)(H:Hp):List Addr:=(U5 h.objs.size).filter fun a=>(H a).isSome
noncomputable def hidT(h:Heap)(H:Hp):Heap:=PySem.W.hideAll h (trk h H)
def kiS(h:Heap)(H:Hp):(hidT h H).objs.size=h.objs.size:=PySem.W.hideAll_size _ _
def kjU{h:Heap}{H:Hp}{b:Addr}{o:Obj}(e:h.get? b=some o)(n:H b=none):(hidT h H).get? b=some o:=
 PySem.W.hideAll_get _ e fun hm=>by
  have q:(H b).isSome=true:=(JM.mp hm).2
  rw[n] at q;simp at q
theorem kk9{h:Heap}{H:Hp}{b:Addr}{o:Obj}(e:(hidT h H).get? b=some o):h.get? b=some o∧H b=none:=by
 have e':h.get? b=some o:=PySem.W.of_hideAll (trk h H) e
 refine⟨e',?_⟩
 cases q:H b with
 |none=>rfl
 |some x=>
  have hm:b∈trk h H:=JM.mpr ⟨Mj.mpr (Heap.lt_size e'),by simp[q]⟩
  have z:(hidT h H).get? b=none:=PySem.W.hideAll_none (trk h H) hm
  rw[z] at e;cases e
noncomputable def klw(g h:Heap)(L:Addr):List (Addr×Obj):=(U5 h.objs.size).filterMap fun a=>if a=L∨(g.get? a).isSome=true then none else(h.get? a).map fun o=>(a,o)
noncomputable def rest(g h:Heap)(L d:Addr):List (Addr×Obj):=(klw g h L).filter fun p=>decide (p.1≠d)
end L2
namespace L2
open PySem PySem.Spec PyProof.Rows
structure Mod (K:U1) (mg:Str→Option Value) (base:Heap):Prop where
 kin:K.In base
 glob:base.Ns mainGlobals mg
 blt:∃mb,base.Ns builtinsNs mb∧∀x:Str,x≠"__name__"→mb x=bootBuiltins x
 nolimit:base.NoLimit
structure Cx where
 prog:Program
 w:World
 K:U1
 mg:Str→Option Value
 base:Heap
 A:Around
 N:List Str
 s₀:Shared
 H₀:Hp
 env:Env
 outer:List Env
 stack:List Env
 ex:List Addr
 fn:Str→Bool
 calm:Bool
 pn:List (Addr×Obj)
 xe:Value→Shared→Prop
noncomputable def frs(l:List Env):List Addr:=l.filterMap (·.frame)
noncomputable abbrev Cx.fs(X:Cx):List Addr:=frs X.outer
noncomputable def Vis(sc:Scope)(x:Str):Prop:=sc.names.lookup x=some .local∨sc.names.lookup x=some .cell∨sc.names.lookup x=some .free
noncomputable def Loc(sc:Scope)(x:Str):Prop:=sc.names.lookup x=some .local∨sc.names.lookup x=some .cell
noncomputable def Look(env:Env)(h:Heap)(m:Str→Option Value)(x:Str)(u:Value):Prop:=
 (env.kindOf x=some .local∧m x=some u)∨((env.kindOf x=some .cell∨env.kindOf x=some .free)∧∃c,env.cells.lookup x=some c∧h.IsCell c (some u))
structure Cx.Ok (X:Cx):Prop where
 mod:Mod X.K X.mg X.base
 kind:X.env.scope.kind=.function
 glob:X.env.globals=mainGlobals
 blt:X.env.builtins=builtinsNs
 above:X.s₀.heap.objs.size≤X.env.locals
 inj:∀x y c,X.env.cells.lookup x=some c→X.env.cells.lookup y=some c→x=y
 has:∀x,(X.env.kindOf x=some .cell∨X.env.kindOf x=some .free)→∃c,X.env.cells.lookup x=some c
 cab:∀x c,X.fn x=true→X.env.cells.lookup x=some c→X.s₀.heap.objs.size≤c
 hd:X.calm=true→X.A.handled=none
 frames:X.A.frames=some X.stack
 stk:X.stack=X.outer∨(X.stack=X.env::X.outer∧X.env.frame=some X.env.locals)
 exf:∀b∈X.ex,b≠X.env.locals∧∀x c,X.env.cells.lookup x=some c→c≠b
 bs:∀b o,X.base.get? b=some o→X.s₀.heap.get? b=some o∧X.H₀ b=none
 bsz:X.base.objs.size≤X.s₀.heap.objs.size
 noex:∀b o,X.base.get? b=some o→b∉X.ex
 exfs:∀b∈X.ex,b∉X.fs
 funs:X.s₀.heap.FunFrames X.base X.outer
 frf:∀b∈X.fs,X.H₀ b=none
structure Inv (X:Cx) (pins:List (Addr×Obj)) (σ:List (Option V)) (H:Hp) (s:Shared):Prop where
 ok:X.Ok
 os:s.os=X.s₀.os
 bare:AllBare s.gens
 base:Un X.fs X.ex X.H₀ H X.s₀.heap s.heap
 loc:∃m,s.heap.Ns X.env.locals m∧∀(i:Nat)(x:Str)(v:V),X.N[i]?=some x→σ[i]?=some (some v)→Vis X.env.scope x→∃u,RelV v u∧Look X.env s.heap m x u
 cell:∀x c,X.env.cells.lookup x=some c→∃v,s.heap.IsCell c v
 free:H X.env.locals=none
 freeC:∀x c,X.env.cells.lookup x=some c→H c=none
 pin:∀p∈X.pn++pins,s.heap.get? p.1=some p.2∧H p.1=none∧p.1≠X.env.locals∧p.1∉X.fs∧∀v,p.2.data≠.cell v
 hok:HOk X.prog X.w H s.heap
 len: σ.length=X.N.length
section
variable {X:Cx} {pins:List (Addr×Obj)} {σ:List (Option V)} {H H':Hp} {s:Shared} {h':Heap}
theorem Cx.Ok.nofr(ok:X.Ok){b:Addr}{o:Obj}(e:X.base.get? b=some o):b∉X.fs:=fun hb=>by
 have:=(ok.funs.mem hb).1
 rw[e] at this;cases this
theorem Inv.bs(I:Inv X pins σ H s):∀b o,X.base.get? b=some o→s.heap.get? b=some o∧H b=none:=fun b o e=>
 ⟨I.base.keep b o (I.ok.bs b o e).1 (I.ok.bs b o e).2 (I.ok.nofr e) (I.ok.noex b o e),I.base.free b o (I.ok.bs b o e).1 (I.ok.bs b o e).2 (I.ok.noex b o e)⟩
theorem Inv.bk(I:Inv X pins σ H s):∀b o,X.base.get? b=some o→s.heap.get? b=some o:=fun b o e=>(I.bs b o e).1
theorem Inv.mod(I:Inv X pins σ H s):Mod X.K X.mg X.base:=I.ok.mod
theorem Inv.kIn(I:Inv X pins σ H s):X.K.In s.heap:=I.ok.mod.kin.keeps I.bk
theorem Inv.nolimit(I:Inv X pins σ H s):s.heap.NoLimit:=I.ok.mod.nolimit.keeps I.bk
theorem Inv.fr(I:Inv X pins σ H s):∃m,Fr X.base X.env.locals s.heap m:=
 let⟨m,hn,_⟩:=I.loc
 ⟨m,hn,I.bk,U4 I.ok.bsz I.ok.above⟩
theorem Inv.lt(I:Inv X pins σ H s):X.env.locals<s.heap.objs.size:=let⟨_,hn,_⟩:=I.loc;hn.lt
theorem Inv.sz(I:Inv X pins σ H s):X.s₀.heap.objs.size≤s.heap.objs.size:=U4 I.ok.above (Jf I.lt)
theorem Inv.nofs(I:Inv X pins σ H s){a:Addr}(h:s.heap.objs.size≤a):a∉X.fs:=fun hb=>by
 obtain⟨_,o,ho,_⟩:=I.ok.funs.mem hb
 exact absurd (Jq (Heap.lt_size ho) (U4 I.sz h)) (J4 _)
theorem Inv.cne(I:Inv X pins σ H s):∀x c,X.env.cells.lookup x=some c→c≠X.env.locals:=fun x c e z=>by
 obtain⟨v,o,ho,hd⟩:=I.cell x c e
 obtain⟨m,⟨o',es,ep,ho',hd',_⟩,_⟩:=I.loc
 rw[z,ho'] at ho;cases ho;rw[hd'] at hd;cases hd
theorem Inv.funs(I:Inv X pins σ H s):s.heap.FunFrames X.base X.outer:=by
 have all:∀(l:List Env),(∀b∈frs l,b∈X.fs)→X.s₀.heap.FunFrames X.base l→s.heap.FunFrames X.base l:=by
  intro l
  induction l with
  |nil=>intro _ _;trivial
  |cons env r ih=>
   intro hs hl
   obtain⟨hk,⟨L,o,hf,hn,ho,hd⟩,hr⟩:=hl
   have hL:L∈X.fs:=hs L (by unfold frs;rw[NP,hf];exact Jt)
   obtain⟨sl,e⟩:=I.base.slot L o ho (I.ok.frf L hL) hL fun z=>I.ok.exfs L z hL
   exact⟨hk,⟨L,_,hf,hn,e,hd⟩,ih (fun b hb=>hs b (by unfold frs;rw[NP,hf];exact Jo _ hb)) hr⟩
 exact all X.outer (fun _ hb=>hb) I.ok.funs
theorem Inv.stack(I:Inv X pins σ H s):s.heap.FunFrames X.base X.stack:=by
 rcases I.ok.stk with e|⟨e,hf⟩
 ·rw[e];exact I.funs
 ·rw[e]
  obtain⟨m,hn,_⟩:=I.loc
  refine .cons (by rw[I.ok.kind];decide) hf hn ?_ I.funs
  exact Heap.get?_none_of_le (U4 I.ok.bsz I.ok.above)
theorem Inv.stkSub(I:Inv X pins σ H s):∀b∈frs X.stack,b∈X.env.locals::X.fs:=fun b hb=>by
 rcases I.ok.stk with e|⟨e,hf⟩
 ·rw[e] at hb;exact Jo _ hb
 ·rw[e] at hb
  unfold frs at hb
  rw[NP,hf] at hb
  exact hb
theorem Inv.stkFree(I:Inv X pins σ H s):∀b∈frs X.stack,H b=none:=fun b hb=>by
 rcases Jr.mp (I.stkSub b hb) with e|hb
 ·rw[e];exact I.free
 ·obtain⟨_,o,ho,_⟩:=I.ok.funs.mem hb
  exact I.base.free b o ho (I.ok.frf b hb) fun z=>I.ok.exfs b z hb
theorem Inv.step{g':Array GenState}{t':Nat}{d':Drawn}{ch:List Addr}(I:Inv X pins σ H s)
  (hch:∀b∈ch,(b∈X.ex∨X.s₀.heap.objs.size≤b)∧b≠X.env.locals∧(∀x c,X.env.cells.lookup x=some c→c≠b)∧∀p∈X.pn++pins,p.1≠b)
  (keep:∀b o,b≠X.env.locals→b∉X.fs→b∉ch→s.heap.get? b=some o→H b=none→h'.get? b=some o)
  (slot:∀b o,b≠X.env.locals→b∈X.fs→b∉ch→s.heap.get? b=some o→H b=none→∃sl,h'.get? b=some {o with slots:=sl}) (free:∀b o,b∉ch→s.heap.get? b=some o→H b=none→H' b=none)
  (there:∀b o,b∉ch→s.heap.get? b=some o→∃o',h'.get? b=some o')
  (tups:∀b xs,H b=some (.tup xs)→H' b=some (.tup xs)) (frzs:∀b o u,H b=some (.frz o u)→H' b=some (.frz o u)) (tbls:∀b ps,H b=some (.tbl ps)→∃more,H' b=some (.tbl (ps++more)))
  (ns:∀m,s.heap.Ns X.env.locals m→h'.Ns X.env.locals m) (hok:HOk X.prog X.w H' h') (hg:AllBare g'):
  Inv X pins σ H' {s with heap:=h',gens:=g',drawn:=d',toks:=t'}:=by
 have neL:∀b o,X.s₀.heap.get? b=some o→b≠X.env.locals:=fun b o e=>Js (Jq (Heap.lt_size e) I.ok.above)
 have neC:∀b o,X.s₀.heap.get? b=some o→b∉X.ex→b∉ch:=fun b o e hx hb=>by
  rcases(hch b hb).1 with z|z
  ·exact hx z
  ·exact absurd (Jq (Heap.lt_size e) z) (J4 _)
 have cellK:∀x c,X.env.cells.lookup x=some c→∀v,s.heap.IsCell c v→h'.IsCell c v:=fun x c e v ⟨o,ho,hd⟩=>by
  have nch:c∉ch:=fun z=>(hch c z).2.2.1 x c e rfl
  by_cases hc:c∈X.fs
  ·obtain⟨sl,q⟩:=slot c o (I.cne x c e) hc nch ho (I.freeC x c e)
   exact⟨_,q,hd⟩
  ·exact⟨o,keep c o (I.cne x c e) hc nch ho (I.freeC x c e),hd⟩
 refine⟨I.ok,I.os,hg,⟨fun b o e n hb hx=>?_,fun b o e n hb hx=>?_,fun b o e n hx=>?_,fun b o e hx=>?_,fun b xs e=>tups b xs (I.base.tups b xs e),fun b o xs e=>frzs b o xs (I.base.frzs b o xs e),fun b ps e=>?_⟩,?_,fun x c e=>?_,?_,fun x c e=>?_,fun p hp=>?_,hok,I.len⟩
 ·exact keep b o (neL b o e) hb (neC b o e hx) (I.base.keep b o e n hb hx) (I.base.free b o e n hx)
 ·obtain⟨sl,e1⟩:=I.base.slot b o e n hb hx
  obtain⟨sl',e2⟩:=slot b _ (neL b o e) hb (neC b o e hx) e1 (I.base.free b o e n hx)
  exact⟨sl',e2⟩
 ·obtain⟨o',e1⟩:=I.base.there b o e hx
  exact free b o' (neC b o e hx) e1 (I.base.free b o e n hx)
 ·obtain⟨o',e1⟩:=I.base.there b o e hx
  exact there b o' (neC b o e hx) e1
 ·obtain⟨m1,e1⟩:=I.base.tbls b ps e
  obtain⟨m2,e2⟩:=tbls b _ e1
  exact⟨m1++m2,by rw[e2,Array.append_assoc]⟩
 ·obtain⟨m,hn,hl⟩:=I.loc
  refine⟨m,ns m hn,fun i x v e1 e2 e3=>?_⟩
  obtain⟨u,r,l⟩:=hl i x v e1 e2 e3
  refine⟨u,r,?_⟩
  rcases l with l|⟨k,c,e,z⟩
  ·exact .inl l
  ·exact .inr ⟨k,c,e,cellK x c e _ z⟩
 ·obtain⟨v,z⟩:=I.cell x c e
  exact⟨v,cellK x c e v z⟩
 ·obtain⟨m,⟨o,_,_,ho,_⟩,_⟩:=I.loc
  exact free _ o (fun z=>(hch _ z).2.1 rfl) ho I.free
 ·obtain⟨v,o,ho,hd⟩:=I.cell x c e
  exact free c o (fun z=>(hch c z).2.2.1 x c e rfl) ho (I.freeC x c e)
 ·obtain⟨e,n,ne,nf,d⟩:=I.pin p hp
  have nch:p.1∉ch:=fun z=>(hch p.1 z).2.2.2 p hp rfl
  exact⟨keep p.1 p.2 ne nf nch e n,free p.1 p.2 nch e n,ne,nf,d⟩
theorem Inv.un{t':Nat}(I:Inv X pins σ H s)(u:Un X.fs [] H H' s.heap h')(hok:HOk X.prog X.w H' h'):Inv X pins σ H' {s with heap:=h',toks:=t'}:=by
 obtain⟨m,⟨o,es,ep,ho,r⟩,_⟩:=id I.loc
 obtain⟨sl,hL⟩:=u.any ho I.free (by simp)
 exact I.step (g':=s.gens) (d':=s.drawn) (ch:=[]) (fun _ z=>nomatch z) (fun b o _ hb _ e n=>u.keep b o e n hb (by simp)) (fun b o _ hb _ e n=>u.slot b o e n hb (by simp)) (fun b o _ e n=>u.free b o e n (by simp)) (fun b o _ e=>u.there b o e (by simp)) u.tups u.frzs u.tbls (fun m' hm=>by
  obtain⟨o',es',ep',ho',r'⟩:=hm
  rw[ho] at ho';cases ho'
  exact⟨_,es',ep',hL,r'⟩) hok I.bare
theorem Inv.call{g':Array GenState}{t':Nat}{d':Drawn}{ch:List Addr}(I:Inv X pins σ H s)(u:Un (frs X.stack) ch H H' s.heap h')(hok:HOk X.prog X.w H' h')(hg:AllBare g')
  (hch:∀b∈ch,(b∈X.ex∨X.s₀.heap.objs.size≤b)∧b≠X.env.locals∧(∀x c,X.env.cells.lookup x=some c→c≠b)∧∀p∈X.pn++pins,p.1≠b):
  Inv X pins σ H' {s with heap:=h',gens:=g',drawn:=d',toks:=t'}:=by
 obtain⟨m,⟨o,es,ep,ho,r⟩,_⟩:=id I.loc
 obtain⟨sl,hL⟩:=u.any ho I.free fun z=>(hch _ z).2.1 rfl
 exact I.step (ch:=ch) hch (fun b o hL hb hc e n=>u.keep b o e n (fun z=>(Jr.mp (I.stkSub b z)).elim hL hb) hc) (fun b o _ _ hc e n=>u.any e n hc) (fun b o hc e n=>u.free b o e n hc) (fun b o hc e=>u.there b o e hc) u.tups u.frzs u.tbls (fun m' hm=>by
  obtain⟨o',es',ep',ho',r'⟩:=hm
  rw[ho] at ho';cases ho'
  exact⟨_,es',ep',hL,r'⟩) hok hg
theorem Inv.turned{t':Nat}{it:Addr}(I:Inv X pins σ H s)(k:∀b o,b≠it→s.heap.get? b=some o→h'.get? b=some o)(hn:H it=none)(hL:it≠X.env.locals)
  (h1:it∈X.ex∨X.s₀.heap.objs.size≤it) (h2:∀x c,X.env.cells.lookup x=some c→c≠it) (h3:∀p∈X.pn++pins,p.1≠it):Inv X pins σ H {s with heap:=h',toks:=t'}:=by
 have nit:∀b u,H b=some u→b≠it:=fun b u e z=>by rw[z,hn] at e;cases e
 refine I.step (g':=s.gens) (d':=s.drawn) (ch:=[it]) (fun b hb=>?_) (fun b o _ _ hc e _=>k b o (fun z=>hc (by simp[z])) e) (fun b o _ _ hc e _=>⟨o.slots,k b o (fun z=>hc (by simp[z])) e⟩) (fun _ _ _ _ n=>n)
  (fun b o hc e=>⟨o,k b o (fun z=>hc (by simp[z])) e⟩) (fun _ _ e=>e) (fun _ _ _ e=>e) (fun b ps e=>⟨#[],by rw[e];simp⟩) (fun m hm=>?_) (fun b u e=>?_) I.bare
 ·have e:b=it:=by simpa using hb
  subst e
  exact⟨h1,hL,h2,h3⟩
 ·obtain⟨o,es,ep,ho,r⟩:=hm
  exact⟨o,es,ep,k _ o (Ne.symm hL) ho,r⟩
 ·refine(I.hok b u e).stay (fun c v hc q=>k c v ?_ q) (fun _ q=>q) fun _ _ q=>q
  rcases hc with z|z
  ·rw[z];exact nit b u e
  ·exact nit c _ z
theorem Inv.tok(I:Inv X pins σ H s)(t:Nat):Inv X pins σ H {s with toks:=t}:=I.un (h':=s.heap) (t':=t) Un.refl I.hok
theorem Inv.kept{t':Nat}(I:Inv X pins σ H s)(k:∀b u,s.heap.get? b=some u→h'.get? b=some u):Inv X pins σ H {s with heap:=h',toks:=t'}:=I.un (Un.kept k) (I.hok.kept k)
theorem Inv.laid{a:Addr}{o:HO}{t':Nat}(I:Inv X pins σ H s)(k:∀b u,s.heap.get? b=some u→h'.get? b=some u)(hp:s.heap.objs.size≤a)(new:ObjOk X.prog X.w (upd H a o) h' a o):
  Inv X pins σ (upd H a o) {s with heap:=h',toks:=t'}:=I.un (Un.laid k hp (I.hok.fresh hp)) (I.hok.laid k hp new)
theorem Inv.write{x e:Addr}{o:HO}{t':Nat}(I:Inv X pins σ H s)(mu:Mut (H x))(he:e=x∨H e=some (.own x))(k:∀b u,b≠e→s.heap.get? b=some u→h'.get? b=some u)(heo:∃u,h'.get? e=some u)
  (new:ObjOk X.prog X.w (upd H x o) h' x o):Inv X pins σ (upd H x o) {s with heap:=h',toks:=t'}:=I.un (Un.write mu he k heo) (I.hok.write mu he k heo new)
theorem Inv.pins_of{pins':List (Addr×Obj)}(I:Inv X pins σ H s)(h:∀p∈pins',s.heap.get? p.1=some p.2∧H p.1=none∧p.1≠X.env.locals∧p.1∉X.fs∧∀v,p.2.data≠.cell v):Inv X pins' σ H s:=
 ⟨I.ok,I.os,I.bare,I.base,I.loc,I.cell,I.free,I.freeC,fun p hp=>(JE.mp hp).elim (fun z=>I.pin p (Ml _ z)) (h p),I.hok,I.len⟩
theorem kg8{N:List Str}(hN:N.Nodup){i j:Nat}{x:Str}(a:N[i]?=some x)(b:N[j]?=some x):i=j:=by
 obtain⟨h1,e1⟩:=Ja.mp a
 obtain⟨h2,e2⟩:=Ja.mp b
 exact(List.getElem_inj hN).mp (e1.trans e2.symm)
theorem khS{M:Model}{A:Around}{E:Value→Shared→Prop}{i:Nat}{x:Str}{v:V}{u:Value}{Q:Unit→Shared→Prop}(I:Inv X pins σ H s)(hN:X.N.Nodup)(hi:X.N[i]?=some x)(hx:Loc X.env.scope x)(r:RelV v u)
  (h:∀s',Inv X pins (σ.set i (some v)) H s'→(∃a,Heap.SameBut a s.heap s'.heap∧(a=X.env.locals∨X.env.cells.lookup x=some a))→Q () s') (hf:X.fn x=true∨X.env.scope.names.lookup x=some .local:=by first|exact .inl rfl|exact .inr rfl|assumption):wpAny M A (storeName X.env x u) Q E s:=by
 obtain⟨m,hn,hl⟩:=id I.loc
 have hcls:(X.env.scope.kind== .class||(X.env.scope.kind== .module&&X.env.locals !=X.env.globals))=false:=by rw[I.ok.kind];rfl
 have hiσ:i< σ.length:=by rw[I.len];exact(Ja.mp hi).1
 have cne:=I.cne
 have tracked:∀{a:Addr}{h':Heap},(∃o,s.heap.get? a=some o∧H a=none)→Heap.SameBut a s.heap h'→HOk X.prog X.w H h':=fun {a h'} ha hs b ob e=>by
  obtain⟨_,_,hfree⟩:=ha
  refine(I.hok b ob e).stay (fun c w' hc q=>(hs.2 c ?_).trans q) (fun _ q=>q) fun _ _ q=>q
  rintro rfl
  rcases hc with rfl|hc
  ·rw[hfree] at e;cases e
  ·rw[hfree] at hc;cases hc
 rcases hx with hk|hk
 ·refine wpAny_storeName_local hk hn (fun h' hn' hs=>?_) hcls
  obtain⟨oL,_,_,hoL,_⟩:=id hn
  refine h _ ⟨I.ok,I.os,I.bare,⟨fun b o e n hb hx=>?_,fun b o e n hb hx=>?_,I.base.free,fun b o e hx=>?_,I.base.tups,I.base.frzs,I.base.tbls⟩,⟨_,hn',fun j y v' e1 e2 e3=>?_⟩,fun y c e=>?_,I.free,I.freeC,fun p hp=>?_,tracked ⟨oL,hoL,I.free⟩ hs,by simpa using I.len⟩ ⟨_,hs, .inl rfl⟩
  ·exact(hs.2 b (Js (Jq (Heap.lt_size e) I.ok.above))).trans (I.base.keep b o e n hb hx)
  ·obtain⟨sl,e1⟩:=I.base.slot b o e n hb hx
   exact⟨sl,(hs.2 b (Js (Jq (Heap.lt_size e) I.ok.above))).trans e1⟩
  ·obtain⟨o',e1⟩:=I.base.there b o e hx
   exact⟨o',(hs.2 b (Js (Jq (Heap.lt_size e) I.ok.above))).trans e1⟩
  ·by_cases hj:j=i
   ·subst hj
    rw[hi] at e1;cases e1
    rw[NQ hiσ] at e2
    cases e2
    exact⟨u,r, .inl ⟨hk,by simp⟩⟩
   ·rw[NR (Ne.symm hj)] at e2
    obtain⟨u',r',q⟩:=hl j y v' e1 e2 e3
    refine⟨u',r',?_⟩
    rcases q with⟨k,e⟩|⟨k,c,e,z⟩
    ·refine .inl ⟨k,?_⟩
     have:y≠x:=fun e=>hj (kg8 hN e1 (e▸hi))
     simp[this,e]
    ·exact .inr ⟨k,c,e,z.sameBut hs (cne y c e)⟩
  ·obtain⟨w',z⟩:=I.cell y c e
   exact⟨w',z.sameBut hs (cne y c e)⟩
  ·obtain⟨e,n,ne,nf,d⟩:=I.pin p hp
   exact⟨(hs.2 p.1 ne).trans e,n,ne,nf,d⟩
 ·have hfn:X.fn x=true:=by
   rcases hf with z|z
   ·exact z
   ·rw[z] at hk;cases hk
  obtain⟨c,hc⟩:=I.ok.has x (.inl hk)
  obtain⟨w',z⟩:=I.cell x c hc
  refine wpAny_storeName_cell I.ok.kind hk hc z (fun h' hc' hs=>?_)
  obtain⟨oc,hoc,hocd⟩:=id z
  refine h {s with heap:=h'} ⟨I.ok,I.os,I.bare,⟨fun b o e n hb hx=>?_,fun b o e n hb hx=>?_,I.base.free,fun b o e hx=>?_,I.base.tups,I.base.frzs,I.base.tbls⟩,⟨m,hn.sameBut hs (Ne.symm (cne x c hc)),fun j y v' e1 e2 e3=>?_⟩,fun y c' e=>?_,I.free,I.freeC,fun p hp=>?_,tracked ⟨oc,hoc,I.freeC x c hc⟩ hs,by simpa using I.len⟩ ⟨c,hs, .inr hc⟩
  ·exact(hs.2 b (Js (Jq (Heap.lt_size e) (I.ok.cab x c hfn hc)))).trans (I.base.keep b o e n hb hx)
  ·obtain⟨sl,e1⟩:=I.base.slot b o e n hb hx
   exact⟨sl,(hs.2 b (Js (Jq (Heap.lt_size e) (I.ok.cab x c hfn hc)))).trans e1⟩
  ·obtain⟨o',e1⟩:=I.base.there b o e hx
   exact⟨o',(hs.2 b (Js (Jq (Heap.lt_size e) (I.ok.cab x c hfn hc)))).trans e1⟩
  ·by_cases hj:j=i
   ·subst hj
    rw[hi] at e1;cases e1
    rw[NQ hiσ] at e2
    cases e2
    exact⟨u,r, .inr ⟨.inl hk,c,hc,hc'⟩⟩
   ·rw[NR (Ne.symm hj)] at e2
    obtain⟨u',r',q⟩:=hl j y v' e1 e2 e3
    refine⟨u',r',?_⟩
    rcases q with q|⟨k,c',e,z'⟩
    ·exact .inl q
    ·refine .inr ⟨k,c',e,z'.sameBut hs ?_⟩
     rintro rfl
     exact hj (kg8 hN e1 (I.ok.inj _ _ _ e hc▸hi))
  ·by_cases hcc:c'=c
   ·subst hcc;exact⟨_,hc'⟩
   ·obtain⟨w2,z2⟩:=I.cell y c' e
    exact⟨w2,z2.sameBut hs hcc⟩
  ·obtain⟨e,n,ne,nf,d⟩:=I.pin p hp
   refine⟨(hs.2 p.1 ?_).trans e,n,ne,nf,d⟩
   intro q
   rw[q,hoc] at e
   have q':oc=p.2:=Option.some.inj e
   exact d w' (by rw[←q'];exact hocd)
theorem keY{M:Model}{A:Around}{E:Value→Shared→Prop}{i:Nat}{x:Str}{v:V}{u:Value}{Q:Unit→Shared→Prop}(I:Inv X pins σ H s)(hN:X.N.Nodup)(hi:X.N[i]?=some x)(hx:Loc X.env.scope x)(r:RelV v u)
  (h:∀s',Inv X pins (σ.set i (some v)) H s'→Q () s') (hf:X.fn x=true∨X.env.scope.names.lookup x=some .local:=by first|exact .inl rfl|exact .inr rfl|assumption):wpAny M A (storeName X.env x u) Q E s:=
 khS I hN hi hx r (fun s' I' _=>h s' I') hf
theorem Inv.call'{s':Shared}{ch:List Addr}(I:Inv X pins σ H s)(ho:s'.os=s.os)(u:Un (frs X.stack) ch H H' s.heap s'.heap)(hok:HOk X.prog X.w H' s'.heap)(hg:AllBare s'.gens)
  (hch:∀b∈ch,(b∈X.ex∨X.s₀.heap.objs.size≤b)∧b≠X.env.locals∧(∀x c,X.env.cells.lookup x=some c→c≠b)∧∀p∈X.pn++pins,p.1≠b):Inv X pins σ H' s':=by
 obtain⟨h',g',d',t',o'⟩:=s'
 have e:o'=s.os:=ho
 subst e
 exact I.call (g':=g') (t':=t') (d':=d') u hok hg hch
end
noncomputable abbrev XK:=Value→Option Addr→Hp→Prop
noncomputable abbrev St:=List (Option V)
noncomputable abbrev VK:=V→Hp→Prop
noncomputable abbrev TE:=St→Hp→VK→Prop
noncomputable abbrev TT:=St→Hp→(Bool→Hp→Prop)→Prop
noncomputable abbrev TA:=St→Hp→(List V→Hp→Prop)→Prop
structure Ends where
 nx:St→Hp→Prop
 rt:VK
 bk:St→Hp→Prop:=fun _ _=>False
 ct:St→Hp→Prop:=fun _ _=>False
noncomputable abbrev TS:=Ends→St→Hp→Prop
noncomputable def EP(X:Cx)(pins:List (Addr×Obj))(σ:St)(Q:VK)(u:Value)(s':Shared):Prop:=∃v H',Inv X pins σ H' s'∧RelV v u∧Q v H'
noncomputable def TP(X:Cx)(pins:List (Addr×Obj))(σ:St)(Q:Bool→Hp→Prop)(b:Bool)(s':Shared):Prop:=∃H',Inv X pins σ H' s'∧Q b H'
noncomputable def AP(X:Cx)(pins:List (Addr×Obj))(σ:St)(Q:List V→Hp→Prop)(us:List Value)(s':Shared):Prop:=∃vs H',Inv X pins σ H' s'∧Vals vs us∧Q vs H'
noncomputable def SP(X:Cx)(pins:List (Addr×Obj))(D:Ends)(f:Flow)(s':Shared):Prop:=
 match f with
 | .next=>∃σ' H',Inv X pins σ' H' s'∧D.nx σ' H'
 | .brk=>∃σ' H',Inv X pins σ' H' s'∧D.bk σ' H'
 | .cont=>∃σ' H',Inv X pins σ' H' s'∧D.ct σ' H'
 | .ret u=>∃v σ' H',Inv X pins σ' H' s'∧RelV v u∧D.rt v H'
noncomputable def PE(X:Cx)(e:Expr)(t:TE):Prop:=
 ∀(pins:List (Addr×Obj))(s:Shared)(σ:St)(H:Hp)(Q:VK),Inv X pins σ H s→t σ H Q→wpAny (model X.prog X.w) X.A (eval e X.env) (EP X pins σ Q) X.xe s
noncomputable def PT(X:Cx)(e:Expr)(t:TT):Prop:=
 ∀(pins:List (Addr×Obj))(s:Shared)(σ:St)(H:Hp)(Q:Bool→Hp→Prop),Inv X pins σ H s→t σ H Q→wpAny (model X.prog X.w) X.A (isTrue e X.env (eval e X.env)) (TP X pins σ Q) X.xe s
noncomputable def PW(X:Cx)(e:Expr)(t:TT):Prop:=
 ∀(whole:Sem Value)(pins:List (Addr×Obj))(s:Shared)(σ:St)(H:Hp)(Q:Bool→Hp→Prop),Inv X pins σ H s→t σ H Q→wpAny (model X.prog X.w) X.A (isTrue e X.env whole) (TP X pins σ Q) X.xe s
def PW.pt{X:Cx}{e:Expr}{t:TT}(h:PW X e t):PT X e t:=h _
noncomputable def PA(X:Cx)(es:List Expr)(t:TA):Prop:=
 ∀(pos:Pos)(pins:List (Addr×Obj))(s:Shared)(σ:St)(H:Hp)(Q:List V→Hp→Prop),Inv X pins σ H s→t σ H Q→wpAny (model X.prog X.w) X.A (spliced (backTo pos (starEach es X.env))) (AP X pins σ Q) X.xe s
noncomputable def PS(X:Cx)(st:Stmt)(t:TS):Prop:=
 ∀(pins:List (Addr×Obj))(s:Shared)(σ:St)(H:Hp)(D:Ends),Inv X pins σ H s→t D σ H→wpAny (model X.prog X.w) X.A (exec st X.env) (SP X pins D) X.xe s
noncomputable def PSs(X:Cx)(st:List Stmt)(t:TS):Prop:=
 ∀(pins:List (Addr×Obj))(s:Shared)(σ:St)(H:Hp)(D:Ends),Inv X pins σ H s→t D σ H→wpAny (model X.prog X.w) X.A (execs st X.env) (SP X pins D) X.xe s
def thn{α:Type}{t:Sem α}{Q Q': α→Shared→Prop}{M:Model}{A:Around}{E:Value→Shared→Prop}{s:Shared}(h:wpAny M A t Q E s)(hQ:∀a s,Q a s→Q' a s):wpAny M A t Q' E s:=wpAny_mono h hQ fun _ _ x=>x
end L2
namespace L2
open PySem PySem.Spec PyProof.Rows
section
variable {X:Cx}
noncomputable def tVar(i:Nat):TE:=fun σ H Q=>∃v,σ[i]?=some (some v)∧Q v H
noncomputable def tC(v:V):TE:=fun _ H Q=>Q v H
theorem klL{i:Nat}{x:Str}{pos:Pos}(hN:X.N[i]?=some x)(hv:Vis X.env.scope x)(hd:(x==("__debug__" :Str))=false:=by decide)(hcd:(x==("__classdict__" :Str))=false:=by decide):PE X (.Name x pos) (tVar i):=by
 intro pins s σ H Q I h
 obtain⟨v,e,h⟩:=h
 obtain⟨m,hn,hl⟩:=I.loc
 obtain⟨u,r,l⟩:=hl i x v hN e hv
 have fin:EP X pins σ Q u s:=⟨v,H,I,r,h⟩
 rcases l with⟨hk,hm⟩|⟨hk,c,hc,hcell⟩
 ·exact wpAny_Name (wpAny_loadName_local I.ok.kind hk hn hm fin) hd
 ·rcases hk with hk|hk
  ·exact wpAny_Name (wpAny_loadName_cell I.ok.kind hk hc hcell fin) hd
  ·exact wpAny_Name (wpAny_loadName_free I.ok.kind hk hc hcell fin hcd) hd
theorem kai{i j pos}:PE X (.Constant (.int i) j pos) (tC (.int i)):=fun _ _ _ H _ I h=>wpAny_Constant_int ⟨.int i,H,I.tok _,⟨_,rfl⟩,h⟩
theorem pe_bl{b j pos}:PE X (.Constant (.bool b) j pos) (tC (.bl b)):=fun _ _ _ H _ I h=>Constant_bool ⟨.bl b,H,I,rfl,h⟩
theorem kaV{j pos}:PE X (.Constant .none j pos) (tC .non):=fun _ _ _ H _ I h=>Constant_none ⟨.non,H,I,rfl,h⟩
theorem kbT{x j pos}:PE X (.Constant (.str x) j pos) (tC (.str x)):=fun _ _ _ H _ I h=>Calls.Constant_str ⟨.str x,H,I.tok _,⟨_,rfl⟩,h⟩
noncomputable def Gl(X:Cx)(x:Str):Prop:=X.env.kindOf x=some .globalImplicit
theorem kem{E:Value→Shared→Prop}{pins:List (Addr×Obj)}{s:Shared}{σ:St}{H:Hp}{x:Str}{u:Value}{pos:Pos}{Q:Value→Shared→Prop}(I:Inv X pins σ H s)(hg:Gl X x)(hm:X.mg x=some u)(h:Q u s)
  (hd:(x==("__debug__" :Str))=false:=by decide):wpAny (model X.prog X.w) X.A (eval (.Name x pos) X.env) Q E s:=
 Calls.Name_function_global I.ok.kind hg (Calls.loadGlobal_global (by rw[I.ok.glob];exact I.mod.glob.keeps I.bk) hm h) hd
theorem kc8{E:Value→Shared→Prop}{pins:List (Addr×Obj)}{s:Shared}{σ:St}{H:Hp}{x:Str}{u:Value}{pos:Pos}{Q:Value→Shared→Prop}(I:Inv X pins σ H s)(hg:Gl X x)(hm:X.mg x=none)(hv:bootBuiltins x=some u)(h:Q u s)
  (hn:x≠"__name__":=by decide) (hd:(x==("__debug__" :Str))=false:=by decide):wpAny (model X.prog X.w) X.A (eval (.Name x pos) X.env) Q E s:=by
 obtain⟨mb,h1,h2⟩:=I.mod.blt
 exact Calls.Name_function_global I.ok.kind hg (Calls.loadGlobal_builtin (by rw[I.ok.glob];exact I.mod.glob.keeps I.bk) hm (by rw[I.ok.blt];exact h1.keeps I.bk) ((h2 x hn).trans hv) h) hd
theorem kcf{x:Str}{v:V}{u:Value}{pos:Pos}(hg:Gl X x)(hm:X.mg x=some u)(r:RelV v u)(hd:(x==("__debug__" :Str))=false:=by decide):PE X (.Name x pos) (tC v):=
 fun _ _ _ H _ I h=>kem I hg hm ⟨v,H,I,r,h⟩ hd
theorem kis{x:Str}{v:V}{u:Value}{pos:Pos}(hg:Gl X x)(hm:X.mg x=none)(hv:bootBuiltins x=some u)(r:RelV v u)(hn:x≠"__name__":=by decide)(hd:(x==("__debug__" :Str))=false:=by decide):PE X (.Name x pos) (tC v):=
 fun _ _ _ H _ I h=>kc8 I hg hm hv ⟨v,H,I,r,h⟩ hn hd
variable {a b:Expr} {ta tb:TE} {pos:Pos}
noncomputable def tB(t:TE):TT:=fun σ H Q=>t σ H fun x H1=>∃c,x=.bl c∧Q c H1
theorem ka0{e:Expr}{t:TE}(h:PE X e t)(he:∀whole,isTrue e X.env whole=(do let v ←whole;standAt e.pos;holding [v] (truthy v)):=by intro _;rfl):PT X e (tB t):=by
 intro pins s σ H Q I hw
 refine isTrue_plain (thn (h pins s σ H _ I hw) fun v s1 ⟨x,H1,I1,r1,q1⟩=>?_) (he _)
 obtain⟨d,rfl,q⟩:=q1
 cases r1
 exact wpAny_truthy_bool ⟨H1,I1,q⟩
variable {tA tB':TT} {rest:List Expr}
noncomputable def tAnd(t u:TT):TT:=fun σ H Q=>t σ H fun c H1=>if c=true then u σ H1 Q else Q false H1
noncomputable def tOr(t u:TT):TT:=fun σ H Q=>t σ H fun c H1=>if c=true then Q true H1 else u σ H1 Q
noncomputable def tNot(t:TT):TT:=fun σ H Q=>t σ H fun c H1=>Q (!c) H1
theorem kb3(ha:PT X a tA):PW X (.BoolOp .And [a] pos) tA:=by
 intro wh pins s σ H Q I h
 refine isTrue_and (thn (ha pins s σ H Q I h) fun c s1 e=>?_)
 cases c with
 |true=>exact isTrue_and_nil e
 |false=>exact e
theorem kg1(ha:PT X a tA):PW X (.BoolOp .Or [a] pos) tA:=by
 intro wh pins s σ H Q I h
 refine isTrue_or (thn (ha pins s σ H Q I h) fun c s1 e=>?_)
 cases c with
 |false=>exact isTrue_or_nil e
 |true=>exact e
theorem kcn(ha:PT X a tA)(hb:PW X (.BoolOp .And (b::rest) pos) tB'):PW X (.BoolOp .And (a::b::rest) pos) (tAnd tA tB'):=by
 intro wh pins s σ H Q I h
 refine isTrue_and (thn (ha pins s σ H _ I h) fun c s1 ⟨H1,I1,q1⟩=>?_)
 cases c with
 |true=>exact hb wh pins s1 σ H1 Q I1 q1
 |false=>exact⟨H1,I1,q1⟩
theorem pw_or(ha:PT X a tA)(hb:PW X (.BoolOp .Or (b::rest) pos) tB'):PW X (.BoolOp .Or (a::b::rest) pos) (tOr tA tB'):=by
 intro wh pins s σ H Q I h
 refine isTrue_or (thn (ha pins s σ H _ I h) fun c s1 ⟨H1,I1,q1⟩=>?_)
 cases c with
 |true=>exact⟨H1,I1,q1⟩
 |false=>exact hb wh pins s1 σ H1 Q I1 q1
theorem kik(ha:PT X a tA):PT X (.UnaryOp .Not a pos) (tNot tA):=by
 intro pins s σ H Q I h
 exact isTrue_not (ha pins s σ H (fun c H1=>Q (!c) H1) I h)
noncomputable def tOrV(ta tb:TE):TE:=fun σ H Q=>ta σ H fun x H1=>∃c,x=.bl c∧if c=true then Q (.bl true) H1 else tb σ H1 Q
theorem klM{op}{t:TE}(h:PE X a t):PE X (.BoolOp op [a] pos) t:=fun pins s σ H Q I hw=>BoolOp_one (h pins s σ H Q I hw)
theorem pe_or(ha:PE X a ta)(hb:PE X (.BoolOp .Or (b::rest) pos) tb):PE X (.BoolOp .Or (a::b::rest) pos) (tOrV ta tb):=by
 intro pins s σ H Q I h
 refine BoolOp_or (thn (ha pins s σ H _ I h) fun v s1 ⟨x,H1,I1,r1,q1⟩=>?_)
 obtain⟨c,rfl,q1⟩:=q1
 cases r1
 refine wpAny_truthy_bool ?_
 cases c with
 |false=>exact hb pins s1 σ H1 Q I1 q1
 |true=>exact⟨.bl true,H1,I1,rfl,q1⟩
noncomputable def tIf(t:TT)(ta tb:TE):TE:=fun σ H Q=>t σ H fun c H1=>if c=true then ta σ H1 Q else tb σ H1 Q
theorem kbp{c:Expr}(hc:PT X c tA)(ha:PE X a ta)(hb:PE X b tb):PE X (.IfExp c a b pos) (tIf tA ta tb):=by
 intro pins s σ H Q I h
 refine wpAny_IfExp (thn (hc pins s σ H _ I h) fun d s1 ⟨H1,I1,q1⟩=>?_)
 cases d with
 |true=>exact ha pins s1 σ H1 Q I1 q1
 |false=>exact hb pins s1 σ H1 Q I1 q1
end
end L2
namespace L2
open PySem PySem.Spec PyProof.Rows
noncomputable def SqL(K:U1)(H:Hp)(a:Addr)(xs:List V):Prop:=
 Rd H a (.lst xs)∨
  ∃(o:Obj)(its:Array Value)(n:Nat),K.lookup a=some o∧o.cls=.type "list"∧o.dict=none∧o.data=.seq its n∧its.size≤sizeLine∧Vals xs its.toList
noncomputable def SqT(K:U1)(H:Hp)(a:Addr)(xs:List V):Prop:=
 Rd H a (.tup xs)∨
  ∃(o:Obj)(its:Array Value)(n:Nat),K.lookup a=some o∧o.cls=.type "tuple"∧o.data=.seq its n∧its.size≤sizeLine∧Vals xs its.toList
noncomputable def absV:Value→Option V
 | .none=>some .non
 | .bool b=>some (.bl b)
 | .int i _=>some (.int i)
 | .str x _=>some (.str x)
 | .bytes b _=>some (.byt b)
 | .float b _=>some (.flt b)
 | .ref a=>some (.ref a)
 | .type n=>some (.ty n)
 |_=>none
theorem RelV.abs{x:V}{u:Value}(r:RelV x u):absV u=some x:=by
 cases x with
 |non=>cases r;rfl
 |bl _=>cases r;rfl
 |int _=>obtain⟨t,rfl⟩:=r;rfl
 |str _=>obtain⟨t,rfl⟩:=r;rfl
 |byt _=>obtain⟨t,rfl⟩:=r;rfl
 |flt _=>obtain⟨t,rfl⟩:=r;rfl
 |ref _=>cases r;rfl
 |ty _=>cases r;rfl
def RelV.inj{x y:V}{u:Value}(r:RelV x u)(q:RelV y u):x=y:=Option.some.inj (r.abs.symm.trans q.abs)
theorem Vals.inj:∀{xs ys:List V}{us:List Value},Vals xs us→Vals ys us→xs=ys
 |_,_,_, .nil, .nil=>rfl
 |_,_,_, .cons r t, .cons r' t'=>by rw[r.inj r',Vals.inj t t']
section
variable {X:Cx} {pins:List (Addr×Obj)} {σ:St} {H:Hp} {s:Shared} {a:Addr} {xs ys:List V}
theorem SqL.of{K:U1}(h:H a=some (.lst xs)):SqL K H a xs:=.inl (.inl h)
theorem SqT.of{K:U1}(h:H a=some (.tup xs)):SqT K H a xs:=.inl (.inl h)
theorem Inv.list(I:Inv X pins σ H s)(h:SqL X.K H a xs):∃its:List Value,Vals xs its∧PlainL s.heap a its.toArray∧xs.length≤sizeLine:=by
 rcases h with h|⟨o,its,n,hk,hc,hd,hs,hz,r⟩
 ·obtain⟨z,its,n,r,e⟩:=h.ok I.hok
  exact⟨its,r,⟨_,n,e,rfl,rfl,rfl⟩,z⟩
 ·refine⟨its.toList,r,⟨o,n,I.kIn a o hk,hc,hd,by simpa using hs⟩,?_⟩
  have e:=r.length
  simp only[Ni] at e
  omega
theorem Inv.tuple(I:Inv X pins σ H s)(h:SqT X.K H a xs):∃its:List Value,Vals xs its∧IsTup s.heap a its.toArray∧xs.length≤sizeLine:=by
 rcases h with h|⟨o,its,n,hk,hc,hs,hz,r⟩
 ·obtain⟨z,its,r,p⟩:=h.ok I.hok
  exact⟨its,r,p,z⟩
 ·refine⟨its.toList,r,⟨o,I.kIn a o hk,hc,n,by simpa using hs⟩,?_⟩
  have e:=r.length
  simp only[Ni] at e
  omega
theorem Inv.list_inj(I:Inv X pins σ H s)(h:SqL X.K H a xs)(h':SqL X.K H a ys):xs=ys:=by
 obtain⟨its,r,⟨o,n,e,_,_,d⟩,_⟩:=I.list h
 obtain⟨its',r',⟨o',n',e',_,_,d'⟩,_⟩:=I.list h'
 rw[e] at e';cases e'
 rw[d] at d'
 injection d' with d1 _
 have:its=its':=by simpa using congrArg Array.toList d1
 subst this
 exact r.inj r'
end
noncomputable abbrev Cx.wish(X:Cx)(E:Value→Shared→Prop):Cx:={X with xe:=E}
noncomputable abbrev Cx.nox(X:Cx):Cx:=X.wish fun _ _=>False
def Cx.Ok.wish{X:Cx}(ok:X.Ok)(E:Value→Shared→Prop):(X.wish E).Ok:=
 ⟨ok.mod,ok.kind,ok.glob,ok.blt,ok.above,ok.inj,ok.has,ok.cab,ok.hd,ok.frames,ok.stk,ok.exf,ok.bs,ok.bsz,ok.noex,ok.exfs,ok.funs,ok.frf⟩
def Cx.Ok.unwish{X:Cx}{E:Value→Shared→Prop}(ok:(X.wish E).Ok):X.Ok:=
 ⟨ok.mod,ok.kind,ok.glob,ok.blt,ok.above,ok.inj,ok.has,ok.cab,ok.hd,ok.frames,ok.stk,ok.exf,ok.bs,ok.bsz,ok.noex,ok.exfs,ok.funs,ok.frf⟩
section
variable {X:Cx} {pins:List (Addr×Obj)} {σ:St} {H:Hp} {s:Shared} {E:Value→Shared→Prop}
theorem Inv.wish(I:Inv X pins σ H s)(E:Value→Shared→Prop):Inv (X.wish E) pins σ H s:=⟨I.ok.wish E,I.os,I.bare,I.base,I.loc,I.cell,I.free,I.freeC,I.pin,I.hok,I.len⟩
theorem Inv.unwish(I:Inv (X.wish E) pins σ H s):Inv X pins σ H s:=⟨I.ok.unwish,I.os,I.bare,I.base,I.loc,I.cell,I.free,I.freeC,I.pin,I.hok,I.len⟩
theorem SP.unwish{D:Ends}{f:Flow}{s':Shared}(h:SP (X.wish E) pins D f s'):SP X pins D f s':=by
 cases f with
 |next=>obtain⟨σ',H',I,q⟩:=h;exact⟨σ',H',I.unwish,q⟩
 |brk=>obtain⟨σ',H',I,q⟩:=h;exact⟨σ',H',I.unwish,q⟩
 |cont=>obtain⟨σ',H',I,q⟩:=h;exact⟨σ',H',I.unwish,q⟩
 |ret u=>obtain⟨v,σ',H',I,r,q⟩:=h;exact⟨v,σ',H',I.unwish,r,q⟩
theorem PE.nox{e:Expr}{t:TE}(h:PE X.nox e t):PE X e t:=fun pins s σ H Q I hw=>
 wpAny_mono (h pins s σ H Q (I.wish _) hw) (fun _ _ ⟨v,H',I',r,q⟩=>⟨v,H',I'.unwish,r,q⟩) fun _ _ z=>False.elim z
theorem PT.nox{e:Expr}{t:TT}(h:PT X.nox e t):PT X e t:=fun pins s σ H Q I hw=>
 wpAny_mono (h pins s σ H Q (I.wish _) hw) (fun _ _ ⟨H',I',q⟩=>⟨H',I'.unwish,q⟩) fun _ _ z=>False.elim z
theorem PSs.nox{st:List Stmt}{t:TS}(h:PSs X.nox st t):PSs X st t:=fun pins s σ H D I hw=>
 wpAny_mono (h pins s σ H D (I.wish _) hw) (fun _ _ q=>q.unwish) fun _ _ z=>False.elim z
end
section
variable {X:Cx} {st:Stmt} {rest:List Stmt} {t u:TS} {e:Expr} {te:TE} {pos:Pos}
noncomputable def tNext:TS:=fun D σ H=>D.nx σ H
noncomputable def tSeq(t u:TS):TS:=fun D σ H=>t {D with nx:=u D} σ H
theorem kas:PSs X [] tNext:=fun _ _ σ H _ I h=>wpAny_execs_nil ⟨σ,H,I,h⟩
theorem kac(h1:PS X st t)(h2:PSs X rest u):PSs X (st::rest) (tSeq t u):=by
 intro pins s σ H D I h
 refine wpAny_execs_cons (thn (h1 pins s σ H {D with nx:=u D} I h) fun f s1 q=>?_)
 cases f with
 |next=>
  obtain⟨σ',H',I',q⟩:=q
  exact h2 pins s1 σ' H' D I' q
 |ret v=>exact q
 |brk=>exact q
 |cont=>exact q
theorem kag(h1:PS X st t):PSs X [st] t:=by
 intro pins s σ H D I h
 refine wpAny_execs_cons (thn (h1 pins s σ H D I h) fun f s1 q=>?_)
 cases f with
 |next=>exact wpAny_execs_nil q
 |ret v=>exact q
 |brk=>exact q
 |cont=>exact q
theorem Inv.quiet{pins:List (Addr×Obj)}{σ:St}{H:Hp}{s:Shared}(I:Inv X pins σ H s):interactive X.env=false:=by simp[interactive,I.ok.kind]
noncomputable def tDrop(te:TE):TS:=fun D σ H=>te σ H fun _ H1=>D.nx σ H1
theorem ka7(he:PE X e te)(hs:swapsWith e none pos.line X.env=pure false:=by rfl):PS X (.Expr e pos) (tDrop te):=by
 intro pins s σ H D I h
 exact wpAny_Expr_any (thn (he pins s σ H _ I h) fun v s1 ⟨x,H1,I1,r1,q1⟩=>⟨σ,H1,I1,q1⟩) I.quiet hs
noncomputable def tRet(te:TE):TS:=fun D σ H=>te σ H D.rt
theorem kan(he:PE X e te):PS X (.Return (some e) pos) (tRet te):=by
 intro pins s σ H D I h
 exact wpAny_Return_some (thn (he pins s σ H _ I h) fun v s1 ⟨x,H1,I1,r1,q1⟩=>⟨x,σ,H1,I1,r1,q1⟩)
noncomputable def tIfS(c:TT)(t u:TS):TS:=fun D σ H=>c σ H fun b H1=>if b=true then t D σ H1 else u D σ H1
theorem ps_if{c:Expr}{a b:List Stmt}{tc:TT}(hc:PT X c tc)(ha:PSs X a t)(hb:PSs X b u):PS X (.If c a b pos) (tIfS tc t u):=by
 intro pins s σ H D I h
 refine wpAny_If (thn (hc pins s σ H _ I h) fun d s1 ⟨H1,I1,q1⟩=>?_)
 cases d with
 |true=>exact ha pins s1 σ H1 D I1 q1
 |false=>exact hb pins s1 σ H1 D I1 q1
end
noncomputable abbrev TG:=V→St→Hp→(St→Hp→Prop)→Prop
noncomputable abbrev TGs:=List V→St→Hp→(St→Hp→Prop)→Prop
noncomputable def PG(X:Cx)(target:Expr)(t:TG):Prop:=
 ∀(pins:List (Addr×Obj))(s:Shared)(σ:St)(H:Hp)(v:V)(u:Value)(Q:St→Hp→Prop),Inv X pins σ H s→RelV v u→t v σ H Q→
  wpAny (model X.prog X.w) X.A (assign target X.env u) (fun _ s'=>∃σ' H',Inv X pins σ' H' s'∧Q σ' H') X.xe s
noncomputable def PGs(X:Cx)(ts:List Expr)(t:TGs):Prop:=
 ∀(pins:List (Addr×Obj))(s:Shared)(σ:St)(H:Hp)(vs:List V)(us:List Value)(Q:St→Hp→Prop),Inv X pins σ H s→Vals vs us→t vs σ H Q→
  wpAny (model X.prog X.w) X.A (assignInOrder ((assignEach ts X.env).map (·.2)) us) (fun _ s'=>∃σ' H',Inv X pins σ' H' s'∧Q σ' H') X.xe s
noncomputable abbrev TSet:=V→V→V→Hp→(Hp→Prop)→Prop
noncomputable def PSet(X:Cx)(t:TSet):Prop:=
 ∀(pins:List (Addr×Obj))(s:Shared)(σ:St)(H:Hp)(o i v:V)(ov iv u:Value)(Q:Hp→Prop),Inv X pins σ H s→RelV o ov→RelV i iv→RelV v u→t o i v H Q→
  wpAny (model X.prog X.w) X.A (setItem ov iv u) (fun _ s'=>∃H',Inv X pins σ H' s'∧Q H') X.xe s
noncomputable abbrev TIp:=V→V→Hp→VK→Prop
noncomputable def PIp(X:Cx)(op:Operator)(t:TIp):Prop:=
 ∀(pins:List (Addr×Obj))(s:Shared)(σ:St)(H:Hp)(x y:V)(v u:Value)(Q:VK),Inv X pins σ H s→RelV x v→RelV y u→t x y H Q→
  wpAny (model X.prog X.w) X.A (inplaceOp op v u) (EP X pins σ Q) X.xe s
section
variable {X:Cx} {pos:Pos}
noncomputable def gName(i:Nat):TG:=fun v σ H Q=>Q (σ.set i (some v)) H
theorem kk4{i:Nat}{x:Str}(hN:X.N.Nodup)(hi:X.N[i]?=some x)(hx:Loc X.env.scope x)(hf:X.fn x=true∨X.env.scope.names.lookup x=some .local:=by first|exact .inl rfl|exact .inr rfl|assumption):PG X (.Name x pos) (gName i):=by
 intro pins s σ H v u Q I r h
 exact wpAny_assign_Name (keY I hN hi hx r (fun s' I'=>⟨_,H,I',h⟩) hf)
noncomputable def gNil:TGs:=fun vs σ H Q=>vs=[]∧Q σ H
noncomputable def gCons(t:TG)(u:TGs):TGs:=fun vs σ H Q=>∃v r,vs=v::r∧t v σ H fun σ' H'=>u r σ' H' Q
theorem kbA:PGs X [] gNil:=by
 intro pins s σ H vs us Q I r h
 obtain⟨e,h⟩:=h
 subst e
 cases r
 exact assignInOrder_nil ⟨σ,H,I,h⟩
theorem kaz{e:Expr}{es:List Expr}{t:TG}{u:TGs}(h1:PG X e t)(h2:PGs X es u)
  (hs:(assignEach (e::es) X.env).map (·.2)=assign e X.env::(assignEach es X.env).map (·.2):=by rfl):PGs X (e::es) (gCons t u):=by
 intro pins s σ H vs us Q I r h
 obtain⟨v,vr,e1,h⟩:=h
 subst e1
 cases r with
 |cons r rr=>
  rw[hs]
  refine assignInOrder_cons (thn (h1 pins s σ H _ _ _ I r h) fun _ s1 ⟨σ1,H1,I1,q1⟩=>?_)
  exact h2 pins s1 σ1 H1 _ _ Q I1 rr q1
noncomputable def gTup(K:U1)(n:Nat)(t:TGs):TG:=fun v σ H Q=>∃a xs,v=.ref a∧SqT K H a xs∧xs.length=n∧t xs σ H Q
theorem klK{es:List Expr}{k:Nat}{t:TGs}{n:Nat}(hc:X.calm=true)(h:PGs X es t)
  (hn:(assignEach es X.env).length=n:=by rfl) (hst:(assignEach es X.env).findIdx? (·.1)=none:=by rfl):PG X (.Tuple es k pos) (gTup X.K n t):=by
 intro pins s σ H v u Q I r hw
 obtain⟨a,xs,e1,hq,hl,hw⟩:=hw
 subst e1
 cases r
 obtain⟨its,rv,ht,hz⟩:=I.tuple hq
 refine assign_Tuple_tuple (I.ok.hd hc) ht (by simp[hn,←hl,rv.length]) hst fun h' hx=>?_
 have I1:Inv X pins σ H {s with heap:=h'}:=I.kept (t':=s.toks) fun b o e=>hx b o (Js (Heap.lt_size e)) e
 exact h pins _ σ H xs _ Q I1 (by simpa using rv) hw
noncomputable def gSub(to ti:TE)(t:TSet):TG:=fun v σ H Q=>to σ H fun o H1=>ti σ H1 fun i H2=>t o i v H2 fun H3=>Q σ H3
theorem kkp{o i:Expr}{to ti:TE}{t:TSet}(ho:PE X o to)(hi:PE X i ti)(hs:PSet X t)
  (ha:∀v,assign (.Subscript o i pos) X.env v=(do
   let ov ←holding [v] (eval o X.env)
   let iv ←holding [v,ov] (eval i X.env)
   standAt pos
   holding [v,ov,iv] (setItem ov iv v)
   release [v,ov,iv] []):=by intro _;rfl):PG X (.Subscript o i pos) (gSub to ti t):=by
 intro pins s σ H v u Q I r h
 rw[ha]
 refine wpAny_bind (wpAny_holding (thn (ho pins s σ H _ I h) fun ov s1 ⟨x,H1,I1,r1,q1⟩=>?_))
 refine wpAny_bind (wpAny_holding (thn (hi pins s1 σ H1 _ I1 q1) fun iv s2 ⟨y,H2,I2,r2,q2⟩=>?_))
 refine wpAny_bind (wpAny_standAt (wpAny_bind (wpAny_holding (thn (hs pins s2 σ H2 x y v ov iv u _ I2 r1 r2 r q2) fun _ s3 ⟨H3,I3,q3⟩=>?_))))
 exact wpAny_release ⟨σ,H3,I3,q3⟩
noncomputable def tAsg(te:TE)(g:TG):TS:=fun D σ H=>te σ H fun x H1=>g x σ H1 D.nx
theorem kkn{tg e:Expr}{te:TE}{g:TG}(he:PE X e te)(hg:PG X tg g)(hs:swapsWithSole [tg] e pos.line X.env=pure false:=by rfl)(hw:swappedStores [tg] e X.env=pure none:=by rfl)
  (h1:(assignEach [tg] X.env).map (·.2)=[assign tg X.env]:=by rfl):PS X (.Assign [tg] e pos) (tAsg te g):=by
 intro pins s σ H D I h
 refine wpAny_Assign_stores (thn (he pins s σ H _ I h) fun v s1 ⟨x,H1,I1,r1,q1⟩=>?_) hs hw
 rw[h1]
 exact thn (hg pins s1 σ H1 x v _ I1 r1 q1) fun _ s2 q=>q
theorem klI{i:Nat}{x:Str}{e:Expr}{te:TE}{pos':Pos}(hN:X.N.Nodup)(hi:X.N[i]?=some x)(hx:Loc X.env.scope x)(he:PE X e te)(hs:swapsWith e (some (.Name x pos')) pos.line X.env=pure false:=by rfl)(hf:X.fn x=true∨X.env.scope.names.lookup x=some .local:=by first|exact .inl rfl|exact .inr rfl|assumption):
  PS X (.Assign [.Name x pos'] e pos) (tAsg te (gName i)):=by
 intro pins s σ H D I h
 refine wpAny_Assign_Name (thn (he pins s σ H _ I h) fun v s1 ⟨y,H1,I1,r1,q1⟩=>?_) hs
 exact keY I1 hN hi hx r1 (fun s2 I2=>⟨_,H1,I2,q1⟩) hf
noncomputable def tAug(i:Nat)(te:TE)(ti:TIp):TS:=fun D σ H=>∃x,σ[i]?=some (some x)∧te σ H fun y H1=>ti x y H1 fun z H2=>D.nx (σ.set i (some z)) H2
theorem klJ{i:Nat}{x:Str}{e:Expr}{te:TE}{op:Operator}{ti:TIp}{pos':Pos}(hN:X.N.Nodup)(hi:X.N[i]?=some x)(hx:Loc X.env.scope x)(he:PE X e te)(ho:PIp X op ti)(hf:X.fn x=true∨X.env.scope.names.lookup x=some .local:=by first|exact .inl rfl|exact .inr rfl|assumption):
  PS X (.AugAssign (.Name x pos') op e pos) (tAug i te ti):=by
 intro pins s σ H D I h
 obtain⟨v,e1,h⟩:=h
 obtain⟨m,hn,hl⟩:=I.loc
 have vis:Vis X.env.scope x:=by rcases hx with k|k;exact .inl k;exact .inr (.inl k)
 obtain⟨u,r,l⟩:=hl i x v hi e1 vis
 refine wpAny_AugAssign_Name ?_
 have go:wpAny (model X.prog X.w) X.A (eval e X.env) (fun w s₂=>wpAny (model X.prog X.w) X.A (inplaceOp op u w) (fun r s₃=>wpAny (model X.prog X.w) X.A (storeName X.env x r) (fun _=>SP X pins D .next) X.xe s₃) X.xe s₂) X.xe s:=by
  refine thn (he pins s σ H _ I h) fun w s1 ⟨y,H1,I1,r1,q1⟩=>?_
  refine thn (ho pins s1 σ H1 v y u w _ I1 r r1 q1) fun z s2 ⟨zv,H2,I2,r2,q2⟩=>?_
  exact keY I2 hN hi hx r2 (fun s3 I3=>⟨_,H2,I3,q2⟩) hf
 rcases l with⟨hk,hm⟩|⟨hk,c,hc,hcell⟩
 ·exact wpAny_loadName_local I.ok.kind hk hn hm go
 ·rcases hk with hk|hk
  ·exact wpAny_loadName_cell I.ok.kind hk hc hcell go
  ·rcases hx with k|k
   ·have:X.env.scope.names.lookup x=some .free:=hk
    rw[k] at this;cases this
   ·have:X.env.scope.names.lookup x=some .free:=hk
    rw[k] at this;cases this
noncomputable def ipI(f:Int→Int→Int):TIp:=fun x y H Q=>∃i j,x=.int i∧y=.int j∧Q (.int (f i j)) H
theorem klX:PIp X .Add (ipI fun i j=>i+j):=by
 intro pins s σ H x y v u Q I r1 r2 h
 obtain⟨i,j,e1,e2,q⟩:=h
 subst e1;subst e2
 obtain⟨t,rfl⟩:=r1
 obtain⟨t',rfl⟩:=r2
 exact iadd_int ⟨.int _,H,I.tok _,⟨_,rfl⟩,q⟩
end
section
variable {X:Cx} {pos:Pos}
noncomputable def kkc(c:TT)(tb:TS):TS:=fun D σ H=>∃W:Nat→St→Hp→Prop,(∃m,W m σ H)∧∀m σ H,W m σ H→
 c σ H fun b H1=>if b=true then ∃N:St→Hp→Prop,(∀σ' H',N σ' H'→∃m',m'<m∧W m' σ' H')∧tb {D with nx:=N,ct:=N,bk:=D.nx} σ H1 else D.nx σ H1
theorem kjv{c:Expr}{body:List Stmt}{tc:TT}{tb:TS}(hp:PassesOwn (model X.prog X.w) X.A X.env X.xe)(hc:PT X c tc)(hb:PSs X body tb):PS X (.While c body [] pos) (kkc tc tb):=by
 intro pins s σ H D I h
 obtain⟨W,⟨m0,w0⟩,turn⟩:=h
 refine wpAny_While (codeAny_whileLoop (fun n s'=>∃σ' H',Inv X pins σ' H' s'∧W n σ' H') ?_ m0 ⟨σ,H,I,w0⟩)
 rintro n s1 ⟨σ1,H1,I1,w1⟩
 refine wpAny_passesOwn hp (thn (hc pins s1 σ1 H1 _ I1 (turn n σ1 H1 w1)) fun b s2 ⟨H2,I2,q2⟩=>?_)
 cases b with
 | true=>
  obtain⟨N,hN,q2⟩:=q2
  rw[if_pos rfl]
  refine wpAny_passesOwn hp (thn (hb pins s2 σ1 H2 _ I2 q2) fun f s3 q3=>?_)
  cases f with
  |next=>
   obtain⟨σ3,H3,I3,n3⟩:=q3
   obtain⟨m',hm,w3⟩:=hN σ3 H3 n3
   exact⟨m',hm,σ3,H3,I3,w3⟩
  |cont=>
   obtain⟨σ3,H3,I3,n3⟩:=q3
   obtain⟨m',hm,w3⟩:=hN σ3 H3 n3
   exact⟨m',hm,σ3,H3,I3,w3⟩
  |brk=>exact q3
  |ret v=>exact q3
 |false=>
  rw[if_neg U8]
  exact wpAny_execs_nil ⟨σ1,H2,I2,q2⟩
end
structure It where
 go:Nat→Hp→Prop
 yld:Nat→Hp→V→Hp→Prop
 stop:Nat→Hp→Prop
noncomputable def FpOk(X:Cx)(pins:List (Addr×Obj))(H:Hp)(b:Addr):Prop:=
 H b=none∧b≠X.env.locals∧b∉X.fs∧(b∈X.ex∨X.s₀.heap.objs.size≤b)∧(∀x c,X.env.cells.lookup x=some c→c≠b)∧∀p∈X.pn++pins,p.1≠b
def Inv.fpOk{X:Cx}{pins:List (Addr×Obj)}{σ:St}{H H':Hp}{s:Shared}{b:Addr}(I:Inv X pins σ H s)(hb:s.heap.objs.size≤b)(hn:H' b=none):FpOk X pins H' b:=by
 refine⟨hn,JQ (Jq I.lt hb),I.nofs hb, .inr (U4 I.sz hb),fun x c e z=>?_,fun p hp z=>?_⟩
 ·obtain⟨v,q⟩:=I.cell x c e
  exact absurd (Jq q.lt (by rw[z];exact hb)) (J4 _)
 ·exact absurd (Jq (Heap.lt_size (I.pin p hp).1) (by rw[z];exact hb)) (J4 _)
structure Turn (P:Program) (w:World) (K:U1) (tg:Expr) (J:It) (fp:List Addr) (it:Addr) (tn:Nat→Heap→Prop):Prop where
 mem:it∈fp
 obj:∀i h,tn i h→∀b∈fp,∃o,h.get? b=some o∧∀v,o.data≠.cell v
 keep:∀i h h',tn i h→(∀b∈fp,∀o,h.get? b=some o→h'.get? b=some o)→tn i h'
 item:∀(X:Cx),X.prog=P→X.w=w→X.K=K→X.calm=true→∀(i:Nat)(pins:List (Addr×Obj))(s:Shared)(σ:St)(H:Hp)(E:Value→Shared→Prop),Inv X pins σ H s→(∀b∈fp,FpOk X pins H b)→tn i s.heap→J.go i H→
  wpAny (model P w) X.A (pyNext (.ref it)) (fun r s1=>∃u,r=some u∧
   wpAny (model P w) X.A (letOwnedTupleGo tg (.ref it) u) (fun _ s2=>∃x H',Inv X pins σ H' s2∧RelV x u∧J.yld i H x H'∧tn (i+1) s2.heap∧∀b∈fp,H' b=none) E s1) E s
 done:∀(X:Cx),X.prog=P→X.w=w→X.K=K→X.calm=true→∀(i:Nat)(pins:List (Addr×Obj))(s:Shared)(σ:St)(H:Hp)(E:Value→Shared→Prop),Inv X pins σ H s→(∀b∈fp,FpOk X pins H b)→tn i s.heap→J.stop i H→
  wpAny (model P w) X.A (pyNext (.ref it)) (fun r s1=>r=none∧Inv X pins σ H s1) E s
 self:∀(A:Around)(i:Nat)(s:Shared)(Q:Value→Shared→Prop)(E:Value→Shared→Prop),tn i s.heap→Q (.ref it) s→wpAny (model P w) A (pyIter (.ref it)) Q E s
noncomputable abbrev TI:=St→Hp→(It→Hp→Prop)→Prop
noncomputable def PIE(X:Cx)(pins:List (Addr×Obj))(σ:St)(tg:Expr)(R:It→Hp→Prop)(itv:Value)(s2:Shared):Prop:=
 ∃(it:Addr)(fp:List Addr)(tn:Nat→Heap→Prop)(J:It)(H':Hp),itv=.ref it∧Inv X pins σ H' s2∧Turn X.prog X.w X.K tg J fp it tn∧tn 0 s2.heap∧(∀b∈fp,FpOk X pins H' b)∧R J H'
noncomputable def PI(X:Cx)(tg iter:Expr)(wi:TI):Prop:=
 ∀(pins:List (Addr×Obj))(s:Shared)(σ:St)(H:Hp)(R:It→Hp→Prop),Inv X pins σ H s→wi σ H R→
  wpAny (model X.prog X.w) X.A (eval iter X.env) (fun v s1=>wpAny (model X.prog X.w) X.A (pyIter v) (PIE X pins σ tg R) X.xe s1) X.xe s
theorem go_of{M:Model}{A:Around}{E:Value→Shared→Prop}{s:Shared}{tg:Expr}{it:Addr}{u:Value}{o:Obj}{n:String}{vs:Array Value}{Q:Unit→Shared→Prop}(ho:s.heap.get? it=some o)(hc:o.cls=.type n)(hd:o.data=.fields vs)
    (hn:["enumerate","zip","dict_itemiterator","dict_reverseitemiterator","odict_iterator","itertools.zip_longest","itertools.pairwise"].contains n=false) (hQ:Q () s):wpAny M A (letOwnedTupleGo tg (.ref it) u) Q E s:=by
  unfold letOwnedTupleGo
  cases tg <;> first
    |exact wpAny_pure hQ
    |(cases u <;> first
        |exact wpAny_pure hQ
        | (refine wpAny_bind (wpAny_load ho ?_)
           rw[hc,hd]
           show wpAny M A (if(["enumerate","zip","dict_itemiterator","dict_reverseitemiterator","odict_iterator","itertools.zip_longest","itertools.pairwise"].contains n&&vs[0]? ==some (rawInt _))=true then _ else _) Q E s
           rw[if_neg (by intro h;rw[hn,Mm] at h;cases h)]
           exact wpAny_pure hQ))
noncomputable def Itl(K:U1)(a:Addr):It:=
 ⟨fun i H=>∃xs x,SqL K H a xs∧xs[i]?=some x,fun i H x H'=>H'=H∧∀xs,SqL K H a xs→xs[i]?=some x,fun i H=>∃xs,SqL K H a xs∧xs.length≤i⟩
noncomputable def Itr(lo:Int)(n:Nat):It:=⟨fun i _=>i<n,fun i H x H'=>H'=H∧x=.int (lo+i),fun i _=>n≤i⟩
theorem khO{P:Program}{w:World}{K:U1}{tg:Expr}(a it:Addr):Turn P w K tg (Itl K a) [it] it (fun i h=>h.IsListIter it a i) where
 mem:=by simp
 obj:=fun i h st b hb=>by
  have e:b=it:=by simpa using hb
  subst e
  obtain⟨o,e,c,d⟩:=st
  exact⟨o,e,fun v z=>by rw[d] at z;cases z⟩
 keep:=fun i h h' st k=>st.at fun o e=>k it (by simp) o e
 item:=by
  intro X hP hw hK hc i pins s σ H E I hf st hg
  subst hP hw hK
  obtain⟨xs,x,hq,hx⟩:=hg
  obtain⟨its,rv,p,hz⟩:=I.list hq
  obtain⟨u,hu,ru⟩:=rv.get hx
  obtain⟨f0,f1,f2,f3,f4,f5⟩:=hf it (by simp)
  refine wpAny_pyNext_list_item st p.isList (x:=u) (by simpa using hu) fun h' st' sb=>?_
  have I1:Inv X pins σ H {s with heap:=h'}:=I.turned (t':=s.toks) (fun b o hb e=>(sb.2 b hb).trans e) f0 f1 f3 f4 f5
  obtain⟨o,e,c,d⟩:=id st'
  exact⟨u,rfl,go_of (s:={s with heap:=h'}) e c d (by decide) ⟨x,H,I1,ru,⟨rfl,fun ys hy=>by rw[I.list_inj hy hq];exact hx⟩,st',fun b hb=>(hf b hb).1⟩⟩
 done:=by
  intro X hP hw hK hc i pins s σ H E I hf st hg
  subst hP hw hK
  obtain⟨xs,hq,hx⟩:=hg
  obtain⟨its,rv,p,hz⟩:=I.list hq
  obtain⟨f0,f1,f2,f3,f4,f5⟩:=hf it (by simp)
  have hl:=rv.length
  exact wpAny_pyNext_list_end (I.ok.hd hc) st p.isList (by simp;omega) fun h' eb=>⟨rfl,I.turned (t':=s.toks) (fun b o hb e=>eb b o hb e) f0 f1 f3 f4 f5⟩
 self:=fun _ _ _ _ _ st h=>wpAny_pyIter_listiter st h
theorem khq{P:Program}{w:World}{K:U1}{tg:Expr}(it:Addr)(lo:Int)(n:Nat):Turn P w K tg (Itr lo n) [it] it (fun i h=>IsRangeIter h it (lo+(i:Nat)*1) ((n:Int)-(i:Nat)) 1) where
 mem:=by simp
 obj:=fun i h st b hb=>by
  have e:b=it:=by simpa using hb
  subst e
  exact⟨_,st,fun v z=>by
   have z':Data.fields _=Data.cell v:=z
   cases z'⟩
 keep:=fun i h h' st k=>k it (by simp) _ st
 item:=by
  intro X hP hw hK hc i pins s σ H E I hf st hg
  subst hP hw hK
  obtain⟨f0,f1,f2,f3,f4,f5⟩:=hf it (by simp)
  have W:=Walks.range (prog:=X.prog) (w:=X.w) (I.ok.hd hc) it lo 1 n
  refine W.item i s _ _ hg st fun v h' tk hv st' kk=>?_
  obtain⟨t,rfl⟩:=hv
  have I1:Inv X pins σ H {s with heap:=h',toks:=tk}:=I.turned (fun b o hb e=>kk b o (by simpa using hb) e) f0 f1 f3 f4 f5
  refine⟨_,rfl,go_of (s:={s with heap:=h',toks:=tk}) (n:="range_iterator") st' rfl rfl (by decide) ⟨.int (lo+i),H,I1,⟨t,?_⟩,⟨rfl,rfl⟩,st',fun b hb=>(hf b hb).1⟩⟩
  rw[Int.mul_one]
 done:=by
  intro X hP hw hK hc i pins s σ H E I hf st hg
  subst hP hw hK
  obtain⟨f0,f1,f2,f3,f4,f5⟩:=hf it (by simp)
  exact wpAny_pyNext_range_end (I.ok.hd hc) st (by have:n≤i:=hg;omega) fun h' eb=>⟨rfl,I.turned (t':=s.toks) (fun b o hb e=>eb b o hb e) f0 f1 f3 f4 f5⟩
 self:=fun _ _ _ _ _ st h=>wpAny_pyIter_rangeiter st h
end L2
namespace L2
open PySem PySem.Spec PyProof.Rows
section
variable {X:Cx} {tg:Expr}
noncomputable def iList(K:U1)(tl:TE):TI:=fun σ H R=>tl σ H fun x H1=>∃a,x=.ref a∧(∃xs,SqL K H1 a xs)∧R (Itl K a) H1
theorem kk3{l:Expr}{tl:TE}(hl:PE X l tl):PI X tg l (iList X.K tl):=by
 intro pins s σ H R I h
 refine thn (hl pins s σ H _ I h) fun v s1 ⟨x,H1,I1,r1,q1⟩=>?_
 obtain⟨a,e,⟨xs,hq⟩,q⟩:=q1
 subst e
 cases r1
 obtain⟨its,rv,p,hz⟩:=I1.list hq
 refine wpAny_pyIter_list p.isList ?_
 refine⟨s1.heap.objs.size,[s1.heap.objs.size],_,_,H1,rfl,I1.kept (t':=s1.toks) fun b o e=>Heap.get?_push_of_some _ e,khO a _,⟨_,Heap.get?_push_size _ rfl,rfl,rfl⟩,fun b hb=>?_,q⟩
 have e:b=s1.heap.objs.size:=by simpa using hb
 subst e
 exact I1.fpOk (U2 _) (I1.hok.fresh (U2 _))
theorem kju{pins:List (Addr×Obj)}{σ:St}{H:Hp}{s:Shared}{R:It→Hp→Prop}{E:Value→Shared→Prop}{lo hi:Int}{t u v:Tok}{tk:Nat}(I:Inv X pins σ H s)(h1: -(2 ^ 62)≤lo)(h2:lo<2 ^ 62)(h3: -(2 ^ 62)≤hi)(h4:hi<2 ^ 62)
  (q:R (Itr lo (hi-lo).toNat) H):wpAny (model X.prog X.w) X.A (pyIter (.ref s.heap.objs.size)) (PIE X pins σ tg R) E {s with heap:=s.heap.push {cls:=.type "range",data:=.fields #[.int lo t, .int hi u, .int 1 v]},toks:=tk}:=by
 refine wpAny_pyIter_range (IsRange.new ..) (small_one h1 h2 h3 h4) ?_
 have I1:Inv X pins σ H {s with heap:=s.heap.push {cls:=.type "range",data:=.fields #[.int lo t, .int hi u, .int 1 v]},toks:=tk}:=I.kept fun b o e=>Heap.get?_push_of_some _ e
 refine⟨(s.heap.push {cls:=.type "range",data:=.fields #[.int lo t, .int hi u, .int 1 v]}).objs.size,[(s.heap.push {cls:=.type "range",data:=.fields #[.int lo t, .int hi u, .int 1 v]}).objs.size],_,_,H,rfl,
  I1.kept (t':=tk) fun b o e=>Heap.get?_push_of_some _ e,khq _ lo (hi-lo).toNat,?_,fun b hb=>?_,q⟩
 ·have e1:lo+((0:Nat):Int)*1=lo:=by simp
  have e2:(((hi-lo).toNat:Nat):Int)-((0:Nat):Int)=Builtin.Range.rangeSize lo hi 1:=by rw[rangeSize_one];split <;> omega
  show IsRangeIter _ _ (lo+((0:Nat):Int)*1) ((((hi-lo).toNat:Nat):Int)-((0:Nat):Int)) 1
  rw[e1,e2]
  exact Heap.get?_push_size _ rfl
 ·have e:b=(s.heap.push {cls:=.type "range",data:=.fields #[.int lo t, .int hi u, .int 1 v]}).objs.size:=by simpa using hb
  subst e
  exact I1.fpOk (U2 _) (I1.hok.fresh (U2 _))
noncomputable def iRng1(ta:TA):TI:=fun σ H R=>ta σ H fun vs H1=>∃j:Int,vs=[.int j]∧-(2 ^ 62)≤j∧j<2 ^ 62∧R (Itr 0 j.toNat) H1
theorem kb7{a:Expr}{ta:TA}{p pos:Pos}(hg:Gl X "range")(hm:X.mg "range"=none)(ha:PA X [a] ta)(hs:starEach [a] X.env=[(false,eval a X.env)]:=by rfl):PI X tg (.Call (.Name "range" p) [a] [] pos) (iRng1 ta):=by
 intro pins s σ H R I h
 refine Call_ (kc8 I hg hm boot_range (PyProof.Rows.callWith_type1 (thn (ha pos pins s σ H _ I h) fun us s1 ⟨vs,H1,I1,r1,q1⟩=>?_) hs rfl))
 obtain⟨j,e,q1,q2,q⟩:=q1
 subst e
 cases r1 with
 |cons r rr=>
  cases rr
  obtain⟨t,rfl⟩:=r
  exact call_range_1 (kju I1 (by omega) (by omega) q1 q2 (by simpa using q))
noncomputable def tFor(wi:TI)(g:TG)(tb:TS):TS:=fun D σ H=>wi σ H fun J H1=>∃W:Nat→Nat→St→Hp→Prop,(∃m,W 0 m σ H1)∧∀i m σ H,W i m σ H→
 (J.stop i H∧D.nx σ H)∨(J.go i H∧∃N:St→Hp→Prop,(∀σ' H',N σ' H'→∃m',m'<m∧W (i+1) m' σ' H')∧∀x H',J.yld i H x H'→g x σ H' fun σ2 H2=>tb {D with nx:=N,ct:=N,bk:=D.nx} σ2 H2)
noncomputable def kg3(fp:List Addr)(h:Heap):List (Addr×Obj):=fp.filterMap fun b=>(h.get? b).map fun o=>(b,o)
theorem kcD{fp:List Addr}{h:Heap}{b:Addr}{o:Obj}(hb:b∈fp)(e:h.get? b=some o):(b,o)∈kg3 fp h:=List.mem_filterMap.mpr ⟨b,hb,by rw[e];rfl⟩
theorem kiB{fp:List Addr}{h:Heap}{p:Addr×Obj}(hp:p∈kg3 fp h):p.1∈fp∧h.get? p.1=some p.2:=by
 obtain⟨b,hb,e⟩:=List.mem_filterMap.mp hp
 cases q:h.get? b with
 |none=>rw[q] at e;cases e
 |some o=>
  rw[q] at e
  have e':(b,o)=p:=Option.some.inj e
  subst e'
  exact⟨hb,q⟩
theorem Inv.pinned{pins:List (Addr×Obj)}{σ:St}{H:Hp}{s:Shared}{fp:List Addr}(I:Inv X pins σ H s)(hf:∀b∈fp,FpOk X pins H b)(ho:∀b∈fp,∃o,s.heap.get? b=some o∧∀v,o.data≠.cell v):Inv X (pins++kg3 fp s.heap) σ H s:=
 I.pins_of fun p hp=>(JE.mp hp).elim (fun z=>I.pin p (JF _ z)) fun z=>by
  obtain⟨hb,e⟩:=kiB z
  obtain⟨f0,f1,f2,_⟩:=hf p.1 hb
  obtain⟨o,e',d⟩:=ho p.1 hb
  rw[e] at e';cases e'
  exact⟨e,f0,f1,f2,d⟩
theorem Inv.unpinned{pins pl:List (Addr×Obj)}{σ:St}{H:Hp}{s:Shared}(I:Inv X (pins++pl) σ H s):Inv X pins σ H s:=I.pins_of fun p hp=>I.pin p (JF _ (Ml _ hp))
theorem ka4{iter:Expr}{body:List Stmt}{wi:TI}{g:TG}{tb:TS}{pos:Pos}(hp:PassesOwn (model X.prog X.w) X.A X.env X.xe)(hc:X.calm=true)(hi:PI X tg iter wi)(hg:PG X tg g)(hb:PSs X body tb)
  (hs:∀x,foldedSetIterable iter X.env x=pure x:=by intro _;rfl):PS X (.For tg iter body [] pos) (tFor wi g tb):=by
 intro pins s σ H D I h
 refine wpAny_For (thn (hi pins s σ H _ I h) fun v s1 h1=>thn h1 fun itv s2 h2=>?_) hs
 obtain⟨it,fp,tn,J,H2,e,I2,T,st2,f2,W,⟨m0,w0⟩,turn⟩:=h2
 subst e
 have stat:∀{H':Hp},(∀b∈fp,H' b=none)→∀b∈fp,FpOk X pins H' b:=fun hn b hb=>⟨hn b hb,(f2 b hb).2⟩
 refine codeAny_forLoop_any (fun n s'=>∃i σ' H',Inv X pins σ' H' s'∧tn i s'.heap∧(∀b∈fp,H' b=none)∧W i n σ' H') ?_ m0 ⟨0,σ,H2,I2,st2,fun b hb=>(f2 b hb).1,w0⟩
 rintro n s3 ⟨i,σ3,H3,I3,st3,fr3,w3⟩
 rcases turn i n σ3 H3 w3 with⟨stop,qn⟩|⟨go,N,hN,step⟩
 ·refine wpAny_passesOwn hp (thn (T.done X rfl rfl rfl hc i pins s3 σ3 H3 X.xe I3 (stat fr3) st3 stop) fun r s4 ⟨hr,I4⟩=>?_)
  subst hr
  exact wpAny_execs_nil ⟨σ3,H3,I4,qn⟩
 ·refine wpAny_passesOwn hp (thn (T.item X rfl rfl rfl hc i pins s3 σ3 H3 X.xe I3 (stat fr3) st3 go) fun r s4 ⟨u,hr,h4⟩=>?_)
  subst hr
  refine wpAny_passesOwn hp (thn h4 fun _ s5 ⟨x,H5,I5,r5,y5,st5,fr5⟩=>?_)
  have I5':=I5.pinned (stat fr5) (T.obj _ _ st5)
  refine wpAny_passesOwn hp (thn (hg _ s5 σ3 H5 x u _ I5' r5 (step x H5 y5)) fun _ s6 ⟨σ6,H6,I6,q6⟩=>?_)
  refine wpAny_passesOwn hp (thn (hb _ s6 σ6 H6 _ I6 q6) fun f s7 q7=>?_)
  have again:∀{σ7:St}{H7:Hp},Inv X (pins++kg3 fp s5.heap) σ7 H7 s7→N σ7 H7→∃m,m<n∧∃i σ' H',Inv X pins σ' H' s7∧tn i s7.heap∧(∀b∈fp,H' b=none)∧W i m σ' H':=fun {σ7 H7} I7 n7=>by
   obtain⟨m',hm,w7⟩:=hN σ7 H7 n7
   refine⟨m',hm,i+1,σ7,H7,I7.unpinned,T.keep _ _ _ st5 fun b hb o e=>(I7.pin (b,o) (JF _ (JF _ (kcD hb e)))).1,fun b hb=>?_,w7⟩
   obtain⟨o,e,d⟩:=T.obj _ _ st5 b hb
   exact(I7.pin (b,o) (JF _ (JF _ (kcD hb e)))).2.1
  cases f with
  |next=>obtain⟨σ7,H7,I7,n7⟩:=q7;exact again I7 n7
  |cont=>obtain⟨σ7,H7,I7,n7⟩:=q7;exact again I7 n7
  |brk=>obtain⟨σ7,H7,I7,q7⟩:=q7;exact⟨σ7,H7,I7.unpinned,q7⟩
  |ret v=>obtain⟨x7,σ7,H7,I7,r7,q7⟩:=q7;exact⟨x7,σ7,H7,I7.unpinned,r7,q7⟩
end
theorem kbi{K:U1}{a:Addr}{xs:List V}{g:TG}{tb:TS}{D:Ends}{σ:St}{H:Hp}(Pv:Nat→St→Hp→Prop)(h0:Pv 0 σ H)(hl:∀i σ H,i≤xs.length→Pv i σ H→SqL K H a xs)
  (hs:∀i x σ H,xs[i]?=some x→Pv i σ H→g x σ H fun σ2 H2=>tb {D with nx:=Pv (i+1),ct:=Pv (i+1),bk:=D.nx} σ2 H2) (hd:∀σ H,Pv xs.length σ H→D.nx σ H):
  ∃W:Nat→Nat→St→Hp→Prop,(∃m,W 0 m σ H)∧∀i m σ H,W i m σ H→
   ((Itl K a).stop i H∧D.nx σ H)∨((Itl K a).go i H∧∃N:St→Hp→Prop,(∀σ' H',N σ' H'→∃m',m'<m∧W (i+1) m' σ' H')∧∀x H',(Itl K a).yld i H x H'→g x σ H' fun σ2 H2=>tb {D with nx:=N,ct:=N,bk:=D.nx} σ2 H2):=by
 refine⟨fun i m σ H=>m=xs.length-i∧i≤xs.length∧Pv i σ H,⟨xs.length,by simp,Jv _,h0⟩,?_⟩
 rintro i m σ H ⟨rfl,hi,p⟩
 have q:=hl i σ H hi p
 by_cases hlt:i<xs.length
 ·refine .inr ⟨⟨xs,xs[i],q,by simp[hlt]⟩,Pv (i+1),fun σ' H' p'=>⟨xs.length-(i+1),by omega,rfl,hlt,p'⟩,fun x H' y=>?_⟩
  obtain⟨e,y⟩:=y
  subst e
  exact hs i x σ _ (y xs q) p
 ·have e:i=xs.length:=by omega
  subst e
  exact .inl ⟨⟨xs,q,U2 _⟩,hd σ H p⟩
theorem kcA{lo:Int}{n:Nat}{g:TG}{tb:TS}{D:Ends}{σ:St}{H:Hp}(Pv:Nat→St→Hp→Prop)(h0:Pv 0 σ H)
  (hs:∀i σ H,i<n→Pv i σ H→g (.int (lo+i)) σ H fun σ2 H2=>tb {D with nx:=Pv (i+1),ct:=Pv (i+1),bk:=D.nx} σ2 H2) (hd:∀σ H,Pv n σ H→D.nx σ H):
  ∃W:Nat→Nat→St→Hp→Prop,(∃m,W 0 m σ H)∧∀i m σ H,W i m σ H→
   ((Itr lo n).stop i H∧D.nx σ H)∨((Itr lo n).go i H∧∃N:St→Hp→Prop,(∀σ' H',N σ' H'→∃m',m'<m∧W (i+1) m' σ' H')∧∀x H',(Itr lo n).yld i H x H'→g x σ H' fun σ2 H2=>tb {D with nx:=N,ct:=N,bk:=D.nx} σ2 H2):=by
 refine⟨fun i m σ H=>m=n-i∧i≤n∧Pv i σ H,⟨n,by simp,Jv _,h0⟩,?_⟩
 rintro i m σ H ⟨rfl,hi,p⟩
 by_cases hlt:i<n
 ·refine .inr ⟨hlt,Pv (i+1),fun σ' H' p'=>⟨n-(i+1),by omega,rfl,hlt,p'⟩,fun x H' y=>?_⟩
  obtain⟨e,y⟩:=y
  subst e y
  exact hs i σ _ hlt p
 ·have e:i=n:=by omega
  subst e
  exact .inl ⟨U2 _,hd σ H p⟩
theorem kjm{c:TT}{tb:TS}{D:Ends}{σ:St}{H:Hp}(Pv:St→Hp→Prop)(μ:St→Hp→Nat)(h0:Pv σ H)
  (hs:∀σ H,Pv σ H→c σ H fun b H1=>if b=true then tb {D with nx:=fun σ' H'=>Pv σ' H'∧μ σ' H'< μ σ H,ct:=fun σ' H'=>Pv σ' H'∧μ σ' H'< μ σ H,bk:=D.nx} σ H1 else D.nx σ H1)
  (mono:∀σ H Q Q',(∀b H1,Q b H1→Q' b H1)→c σ H Q→c σ H Q'):kkc c tb D σ H:=by
 refine⟨fun m σ H=>m= μ σ H∧Pv σ H,⟨_,rfl,h0⟩,?_⟩
 rintro m σ H ⟨rfl,p⟩
 refine mono σ H _ _ (fun b H1 q=>?_) (hs σ H p)
 cases b with
 |true=>exact⟨_,fun σ' H' ⟨p',l⟩=>⟨_,l,rfl,p'⟩,q⟩
 |false=>exact q
end L2
namespace L2
open PySem PySem.Spec PyProof.Rows
noncomputable abbrev R2:=V→V→Hp→VK→Prop
noncomputable def OpR(X:Cx)(f:Value→Value→Sem Value)(r:R2):Prop:=
 ∀(pins:List (Addr×Obj))(s:Shared)(σ:St)(H:Hp)(x y:V)(v u:Value)(Q:VK),Inv X pins σ H s→RelV x v→RelV y u→r x y H Q→
  wpAny (model X.prog X.w) X.A (f v u) (EP X pins σ Q) X.xe s
noncomputable def UnR(X:Cx)(f:Value→Sem Value)(r:V→Hp→VK→Prop):Prop:=
 ∀(pins:List (Addr×Obj))(s:Shared)(σ:St)(H:Hp)(x:V)(v:Value)(Q:VK),Inv X pins σ H s→RelV x v→r x H Q→
  wpAny (model X.prog X.w) X.A (f v) (EP X pins σ Q) X.xe s
noncomputable def CallR(X:Cx)(f:Value)(r:List V→Hp→VK→Prop):Prop:=
 ∀(pins:List (Addr×Obj))(s:Shared)(σ:St)(H:Hp)(xs:List V)(us:List Value)(Q:VK),Inv X pins σ H s→Vals xs us→r xs H Q→
  wpAny (model X.prog X.w) X.A (call f us) (EP X pins σ Q) X.xe s
noncomputable def tOp(r:R2)(ta tb:TE):TE:=fun σ H Q=>ta σ H fun x H1=>tb σ H1 fun y H2=>r x y H2 Q
noncomputable def tUn(r:V→Hp→VK→Prop)(ta:TE):TE:=fun σ H Q=>ta σ H fun x H1=>r x H1 Q
noncomputable def rI(C:Int→Int→Prop)(g:Int→Int→V):R2:=fun x y H Q=>∃i j,x=.int i∧y=.int j∧C i j∧Q (g i j) H
noncomputable def rI0(g:Int→Int→V):R2:=fun x y H Q=>∃i j,x=.int i∧y=.int j∧Q (g i j) H
noncomputable def rU(g:Int→V):V→Hp→VK→Prop:=fun x H Q=>∃i,x=.int i∧Q (g i) H
section
variable {X:Cx} {a b c:Expr} {ta tb tc:TE} {pos:Pos}
theorem binT(ha:PE X a ta)(hb:PE X b tb){pins:List (Addr×Obj)}{s:Shared}{σ:St}{H:Hp}{R:V→V→Hp→Prop}(I:Inv X pins σ H s)
  (h:ta σ H fun x H1=>tb σ H1 fun y H2=>R x y H2) {Q:Value→Shared→Prop} {f:Value→Value→Sem Value}
  (hf:∀v u s2 x y H2,Inv X pins σ H2 s2→RelV x v→RelV y u→R x y H2→wpAny (model X.prog X.w) X.A (f v u) Q X.xe s2):
  wpAny (model X.prog X.w) X.A (eval a X.env) (fun v s₁=>wpAny (model X.prog X.w) X.A (eval b X.env) (fun u s₂=>wpAny (model X.prog X.w) X.A (f v u) Q X.xe s₂) X.xe s₁) X.xe s:=by
 refine thn (ha pins s σ H _ I h) fun v s1 ⟨x,H1,I1,r1,q1⟩=>?_
 refine thn (hb pins s1 σ H1 _ I1 q1) fun u s2 ⟨y,H2,I2,r2,q2⟩=>?_
 exact hf v u s2 x y H2 I2 r1 r2 q2
theorem pe_op{op:Operator}{r:R2}(ho:OpR X (binaryOp op) r)(ha:PE X a ta)(hb:PE X b tb):PE X (.BinOp a op b pos) (tOp r ta tb):=by
 intro pins s σ H Q I h
 exact wpAny_BinOp (binT ha hb I h fun v u s2 x y H2 I2 rx ry q=>ho pins s2 σ H2 x y v u Q I2 rx ry q)
theorem pe_un{op:UnaryOp}{r:V→Hp→VK→Prop}(ho:UnR X (unaryOp op) r)(ha:PE X a ta):PE X (.UnaryOp op a pos) (tUn r ta):=by
 intro pins s σ H Q I h
 exact UnaryOp_ (thn (ha pins s σ H _ I h) fun v s1 ⟨x,H1,I1,r1,q1⟩=>ho pins s1 σ H1 x v Q I1 r1 q1)
theorem opI{f:Value→Value→Sem Value}{C:Int→Int→Prop}{g:Int→Int→Int}
  (rule:∀(i j:Int)(t u:Tok)(s:Shared)(Q:Value→Shared→Prop)(E:Value→Shared→Prop),C i j→Q (.int (g i j) s.toks) {s with toks:=s.toks+1}→wpAny (model X.prog X.w) X.A (f (.int i t) (.int j u)) Q E s):
  OpR X f (rI C fun i j=>.int (g i j)):=by
 intro pins s σ H x y v u Q I rx ry h
 obtain⟨i,j,rfl,rfl,hc,q⟩:=h
 obtain⟨t,rfl⟩:=rx
 obtain⟨t',rfl⟩:=ry
 exact rule i j t t' s _ _ hc ⟨.int (g i j),H,I.tok _,⟨_,rfl⟩,q⟩
theorem opI0{f:Value→Value→Sem Value}{g:Int→Int→Int}
  (rule:∀(i j:Int)(t u:Tok)(s:Shared)(Q:Value→Shared→Prop)(E:Value→Shared→Prop),Q (.int (g i j) s.toks) {s with toks:=s.toks+1}→wpAny (model X.prog X.w) X.A (f (.int i t) (.int j u)) Q E s):
  OpR X f (rI0 fun i j=>.int (g i j)):=by
 intro pins s σ H x y v u Q I rx ry h
 obtain⟨i,j,rfl,rfl,q⟩:=h
 obtain⟨t,rfl⟩:=rx
 obtain⟨t',rfl⟩:=ry
 exact rule i j t t' s _ _ ⟨.int (g i j),H,I.tok _,⟨_,rfl⟩,q⟩
theorem opB0{f:Value→Value→Sem Value}{g:Int→Int→Bool}
  (rule:∀(i j:Int)(t u:Tok)(s:Shared)(Q:Value→Shared→Prop)(E:Value→Shared→Prop),Q (.bool (g i j)) s→wpAny (model X.prog X.w) X.A (f (.int i t) (.int j u)) Q E s):
  OpR X f (rI0 fun i j=>.bl (g i j)):=by
 intro pins s σ H x y v u Q I rx ry h
 obtain⟨i,j,rfl,rfl,q⟩:=h
 obtain⟨t,rfl⟩:=rx
 obtain⟨t',rfl⟩:=ry
 exact rule i j t t' s _ _ ⟨.bl (g i j),H,I,rfl,q⟩
noncomputable def CDiv(i j:Int):Prop:=0<j∧j<1073741824
noncomputable def CMul(i j:Int):Prop:=(-(2 ^ 64)<i∧i<2 ^ 64)∨(-(2 ^ 64)<j∧j<2 ^ 64)
theorem CMul.ok{i j:Int}(h:CMul i j):IntMulOk i j:=by
 rcases h with⟨h1,h2⟩|⟨h1,h2⟩
 ·exact .of_left (intBits_le_64 h1 h2)
 ·exact .of_right (intBits_le_64 h1 h2)
theorem kbh:OpR X (binaryOp .Add) (rI0 fun i j=>.int (i+j)):=opI0 fun _ _ _ _ _ _ _ q=>add_int q
theorem kfH:OpR X (binaryOp .Sub) (rI0 fun i j=>.int (i-j)):=opI0 fun _ _ _ _ _ _ _ q=>sub_int q
theorem kd9:OpR X (binaryOp .Mult) (rI CMul fun i j=>.int (i*j)):=opI fun _ _ _ _ _ _ _ hc q=>mul_int q hc.ok
theorem kaC:OpR X (binaryOp .FloorDiv) (rI CDiv fun i j=>.int (i/j)):=opI fun i j _ _ _ _ _ hc q=>by
 have h1:(0:Int)<j:=hc.1
 have h2:j<1073741824:=hc.2
 exact floordiv_int (by omega) (by rw[Int.fdiv_eq_ediv_of_nonneg i (by omega)];exact q) (.inl (PyProof.noPylong_small (by omega)))
theorem kaA:OpR X (binaryOp .Mod) (rI (fun _ j=>0<j) fun i j=>.int (i%j)):=opI fun i j _ _ _ _ _ hc q=>by
 have h1:(0:Int)<j:=hc
 exact mod_int' (by omega) (by rw[Int.fmod_eq_emod_of_nonneg i (by omega)];exact q)
theorem unI{f:Value→Sem Value}{g:Int→Int}
  (rule:∀(i:Int)(t:Tok)(s:Shared)(Q:Value→Shared→Prop)(E:Value→Shared→Prop),Q (.int (g i) s.toks) {s with toks:=s.toks+1}→wpAny (model X.prog X.w) X.A (f (.int i t)) Q E s):
  UnR X f (rU fun i=>.int (g i)):=by
 intro pins s σ H x v Q I rx h
 obtain⟨i,rfl,q⟩:=h
 obtain⟨t,rfl⟩:=rx
 exact rule i t s _ _ ⟨.int (g i),H,I.tok _,⟨_,rfl⟩,q⟩
theorem kft:UnR X (unaryOp .USub) (rU fun i=>.int (-i)):=unI fun _ _ _ _ _ q=>neg_int q
end
noncomputable def scal:V→V→Bool
 | .non, .non=>true| .non, .int _=>true| .int _, .non=>true| .non, .bl _=>true| .bl _, .non=>true| .non, .str _=>true| .str _, .non=>true
 | .int _, .int _=>true| .bl _, .bl _=>true| .str _, .str _=>true| .byt _, .byt _=>true
 | .int _, .str _=>true| .str _, .int _=>true| .bl _, .str _=>true| .str _, .bl _=>true
 |_,_=>false
noncomputable def rEq:R2:=fun x y H Q=>scal x y=true∧Q (.bl (decide (x=y))) H
noncomputable def rNe:R2:=fun x y H Q=>scal x y=true∧Q (.bl (!decide (x=y))) H
def kgC{i j:Int}:decide (V.int i=V.int j)=(i==j):=by
 rw[NS]
 simp
def kkE{i j:Bool}:decide (V.bl i=V.bl j)=(i==j):=by
 rw[NS]
 simp
def ki4{i j:Str}:decide (V.str i=V.str j)=(i==j):=by
 rw[NS]
 simp
def ki5{i j:Array UInt8}:decide (V.byt i=V.byt j)=(i.toList==j.toList):=by
 rw[NS]
 cases i
 cases j
 simp
section
variable {X:Cx} {a b c:Expr} {ta tb tc:TE} {pos:Pos}
theorem kaM{pins:List (Addr×Obj)}{σ:St}{H:Hp}{s:Shared}{Q:VK}{k k':Bool}(I:Inv X pins σ H s)(q:Q (.bl k) H)(e:k=k'):EP X pins σ Q (.bool k') s:=by
 subst e
 exact⟨.bl k,H,I,rfl,q⟩
theorem op_eq:OpR X (compareOp .Eq) rEq:=by
 intro pins s σ H x y v u Q I rx ry h
 obtain⟨hs,q⟩:=h
 cases x with
 |non=>
  cases rx
  cases y with
  |non=>cases ry;exact PySem.EqNone.eq_none_none (kaM I q (by simp))
  |bl j=>cases ry;exact PySem.EqNone.eq_none_bool (kaM I q (by simp))
  |int j=>obtain⟨t',rfl⟩:=ry;exact PySem.EqNone.eq_none_int (kaM I q (by simp))
  |str j=>obtain⟨t',rfl⟩:=ry;exact PySem.EqNone.eq_none_str (kaM I q (by simp))
  |_=>exact absurd (show false=true from hs) U8
 |bl i=>
  cases rx
  cases y with
  |non=>cases ry;exact PySem.EqNone.eq_bool_none (kaM I q (by simp))
  |bl j=>cases ry;exact eq_bool (kaM I q kkE)
  |str j=>obtain⟨t',rfl⟩:=ry;exact PySem.EqMixed.eq_bool_str (kaM I q (by simp))
  |_=>exact absurd (show false=true from hs) U8
 |int i=>
  obtain⟨t,rfl⟩:=rx
  cases y with
  |non=>cases ry;exact PySem.EqNone.eq_int_none (kaM I q (by simp))
  |int j=>obtain⟨t',rfl⟩:=ry;exact eq_int (kaM I q kgC)
  |str j=>obtain⟨t',rfl⟩:=ry;exact PySem.EqMixed.eq_int_str (kaM I q (by simp))
  |_=>exact absurd (show false=true from hs) U8
 |str i=>
  obtain⟨t,rfl⟩:=rx
  cases y with
  |non=>cases ry;exact PySem.EqNone.eq_str_none (kaM I q (by simp))
  |bl j=>cases ry;exact PySem.EqMixed.eq_str_bool (kaM I q (by simp))
  |int j=>obtain⟨t',rfl⟩:=ry;exact PySem.EqMixed.eq_str_int (kaM I q (by simp))
  |str j=>obtain⟨t',rfl⟩:=ry;exact eq_str (kaM I q ki4)
  |_=>exact absurd (show false=true from hs) U8
 |byt i=>
  obtain⟨t,rfl⟩:=rx
  cases y with
  |byt j=>obtain⟨t',rfl⟩:=ry;exact PySem.W.eq_bytes (kaM I q ki5)
  |_=>exact absurd (show false=true from hs) U8
 |_=>cases y <;> exact absurd (show false=true from hs) U8
theorem op_ne:OpR X (compareOp .NotEq) rNe:=by
 intro pins s σ H x y v u Q I rx ry h
 obtain⟨hs,q⟩:=h
 cases x with
 |non=>
  cases rx
  cases y with
  |non=>cases ry;exact PySem.EqNone.ne_none_none (kaM I q (by simp))
  |bl j=>cases ry;exact PySem.EqNone.ne_none_bool (kaM I q (by simp))
  |int j=>obtain⟨t',rfl⟩:=ry;exact PySem.EqNone.ne_none_int (kaM I q (by simp))
  |str j=>obtain⟨t',rfl⟩:=ry;exact PySem.EqNone.ne_none_str (kaM I q (by simp))
  |_=>exact absurd (show false=true from hs) U8
 |bl i=>
  cases rx
  cases y with
  |non=>cases ry;exact PySem.EqNone.ne_bool_none (kaM I q (by simp))
  |bl j=>cases ry;exact ne_bool (kaM I q (congrArg not kkE))
  |str j=>obtain⟨t',rfl⟩:=ry;exact PySem.EqMixed.ne_bool_str (kaM I q (by simp))
  |_=>exact absurd (show false=true from hs) U8
 |int i=>
  obtain⟨t,rfl⟩:=rx
  cases y with
  |non=>cases ry;exact PySem.EqNone.ne_int_none (kaM I q (by simp))
  |int j=>obtain⟨t',rfl⟩:=ry;exact ne_int (kaM I q (congrArg not kgC))
  |str j=>obtain⟨t',rfl⟩:=ry;exact PySem.EqMixed.ne_int_str (kaM I q (by simp))
  |_=>exact absurd (show false=true from hs) U8
 |str i=>
  obtain⟨t,rfl⟩:=rx
  cases y with
  |non=>cases ry;exact PySem.EqNone.ne_str_none (kaM I q (by simp))
  |bl j=>cases ry;exact PySem.EqMixed.ne_str_bool (kaM I q (by simp))
  |int j=>obtain⟨t',rfl⟩:=ry;exact PySem.EqMixed.ne_str_int (kaM I q (by simp))
  |str j=>obtain⟨t',rfl⟩:=ry;exact ne_str (kaM I q (congrArg not ki4))
  |_=>exact absurd (show false=true from hs) U8
 |byt i=>
  obtain⟨t,rfl⟩:=rx
  cases y with
  |byt j=>obtain⟨t',rfl⟩:=ry;exact PySem.W.ne_bytes (kaM I q (congrArg not ki5))
  |_=>exact absurd (show false=true from hs) U8
 |_=>cases y <;> exact absurd (show false=true from hs) U8
theorem op_lt:OpR X (compareOp .Lt) (rI0 fun i j=>.bl (decide (i<j))):=opB0 fun _ _ _ _ _ _ _ q=>lt_int q
theorem op_gt:OpR X (compareOp .Gt) (rI0 fun i j=>.bl (decide (j<i))):=opB0 fun _ _ _ _ _ _ _ q=>gt_int q
theorem kfJ:OpR X (compareOp .Is) (fun x y H Q=>y=.non∧Q (.bl (decide (x=.non))) H):=by
 intro pins s σ H x y v u Q I rx ry h
 obtain⟨rfl,q⟩:=h
 cases ry
 refine is_none_gen (kaM I q ?_)
 cases x <;> first
  |(cases rx;rfl)
  |(obtain⟨t,rfl⟩:=rx;rfl)
theorem kcS:OpR X (compareOp .IsNot) (fun x y H Q=>y=.non∧Q (.bl (!decide (x=.non))) H):=by
 intro pins s σ H x y v u Q I rx ry h
 obtain⟨rfl,q⟩:=h
 cases ry
 refine isnot_none_gen (kaM I q ?_)
 cases x <;> first
  |(cases rx;rfl)
  |(obtain⟨t,rfl⟩:=rx;rfl)
theorem OpR.or{f:Value→Value→Sem Value}{r r':R2}(h:OpR X f r)(h':OpR X f r'):OpR X f (fun x y H Q=>r x y H Q∨r' x y H Q):=by
 intro pins s σ H x y v u Q I rx ry q
 rcases q with q|q
 ·exact h pins s σ H x y v u Q I rx ry q
 ·exact h' pins s σ H x y v u Q I rx ry q
theorem kav(b:Expr){op:CmpOp}(h:op≠.In:=by decide)(h2:op≠.NotIn:=by decide):behindInMarks op b=false:=by
 have e1:(op==CmpOp.In)=false:=by cases op <;> first|rfl|exact absurd rfl h
 have e2:(op==CmpOp.NotIn)=false:=by cases op <;> first|rfl|exact absurd rfl h2
 cases b <;> simp[behindInMarks,e1,e2]
theorem kcg{op:CmpOp}{r:R2}(ho:OpR X (compareOp op) r)(ha:PE X a ta)(hb:PE X b tb)(hm:behindInMarks op b=false):PE X (.Compare a [op] [b] pos) (tOp r ta tb):=by
 intro pins s σ H Q I h
 exact wpAny_Compare1 (binT ha hb I h fun v u s2 x y H2 I2 rx ry q=>ho pins s2 σ H2 x y v u Q I2 rx ry q) hm
noncomputable def tTest(t:TE):TT:=fun σ H Q=>t σ H fun x H'=>∃k,x=.bl k∧Q k H'
theorem kaq{op:CmpOp}{r:R2}(ho:OpR X (compareOp op) r)(ha:PE X a ta)(hb:PE X b tb)(hm:behindInMarks op b=false):PT X (.Compare a [op] [b] pos) (tTest (tOp r ta tb)):=by
 intro pins s σ H Q I h
 refine wpAny_isTrue_Compare1 (thn (ha pins s σ H _ I h) fun v s1 ⟨x,H1,I1,r1,q1⟩=>thn (hb pins s1 σ H1 _ I1 q1) fun u s2 ⟨y,H2,I2,r2,q2⟩=>
  thn (ho pins s2 σ H2 x y v u _ I2 r1 r2 q2) fun c s3 ⟨z,H3,I3,r3,k,e,q3⟩=>?_) hm
 subst e
 cases r3
 exact wpAny_truthy_bool ⟨H3,I3,q3⟩
theorem kha:(sizeLine:Nat)<2 ^ 63:=by rw[sizeLine_eq];decide
theorem vals1{x:V}{us:List Value}(r:Vals [x] us):∃u,us=[u]∧RelV x u:=by
 cases r with
 |cons r1 r2=>cases r2;exact⟨_,rfl,r1⟩
theorem vals2{x y:V}{us:List Value}(r:Vals [x,y] us):∃u w',us=[u,w']∧RelV x u∧RelV y w':=by
 cases r with
 |cons r1 r2=>
  cases r2 with
  |cons r3 r4=>cases r4;exact⟨_,_,rfl,r1,r3⟩
theorem kje(hc:X.calm=true):CallR X (.builtin "max") (fun xs H Q=>∃i j,xs=[.int i, .int j]∧Q (.int (if j > i then j else i)) H):=by
 intro pins s σ H xs us Q I r h
 obtain⟨i,j,rfl,q⟩:=h
 obtain⟨u,w',rfl,⟨t,rfl⟩,⟨t',rfl⟩⟩:=vals2 r
 refine max_two_ints (I.ok.hd hc) fun h' tk k=>⟨_,H,I.kept k,?_,q⟩
 by_cases hj:j > i
 ·rw[if_pos hj,if_pos hj];exact⟨_,rfl⟩
 ·rw[if_neg hj,if_neg hj];exact⟨_,rfl⟩
theorem kf1(hc:X.calm=true):CallR X (.builtin "min") (fun xs H Q=>∃i j,xs=[.int i, .int j]∧Q (.int (if j<i then j else i)) H):=by
 intro pins s σ H xs us Q I r h
 obtain⟨i,j,rfl,q⟩:=h
 obtain⟨u,w',rfl,⟨t,rfl⟩,⟨t',rfl⟩⟩:=vals2 r
 refine min_two_ints (I.ok.hd hc) fun h' tk k=>⟨_,H,I.kept k,?_,q⟩
 by_cases hj:j<i
 ·rw[if_pos hj,if_pos hj];exact⟨_,rfl⟩
 ·rw[if_neg hj,if_neg hj];exact⟨_,rfl⟩
end
end L2
namespace L2
open PySem PySem.Spec PyProof.Rows
structure ObjM (h:Heap) (x dx C:Addr) (mA:Str→Option Value):Prop where
 obj:h.get? x=some (Na C dx)
 ns:h.Ns1 dx mA
 ne:dx≠x
def kiF{h:Heap}{dx:Addr}{mA:Str→Option Value}(n:h.Ns1 dx mA):∃od,h.get? dx=some od∧∀name,NT name od=some (mA name):=by
 obtain⟨o,es,ep,ho,hd,hk,_,hm⟩:=n
 refine⟨o,ho,fun name=>?_⟩
 have e:=hm name
 unfold nsFind findBy at e
 rw[←Array.find?_toList] at e
 unfold NT
 rw[hd]
 dsimp only
 split
 ·rename_i y q
  rw[q] at e
  exact congrArg some e
 ·rename_i q
  rw[q] at e
  have a:es.toList.any (·.refKey)=false:=by
   rw[List.any_eq_false]
   intro y hy
   obtain⟨z,t,hkey⟩:=hk y (Array.mem_toList_iff.mp hy)
   simp[DictEntry.refKey,hkey]
  have a':¬es.toList.any (·.refKey)=true:=by rw[a];exact U8
  rw[if_neg a']
  exact congrArg some e
def ObjM.look{h:Heap}{x dx C:Addr}{mA:Str→Option Value}(I:ObjM h x dx C mA):∃od,PySem.W.InstAt h x (Na C dx) C (some od)∧∀name,NT name od=some (mA name):=
 let⟨od,ho,hl⟩:=kiF I.ns
 ⟨od,⟨I.obj,rfl,rfl,ho⟩,hl⟩
section
variable {prog:Program} {w:World} {A:Around} {E:Value→Shared→Prop} {s:Shared} {K:U1} {x dx C f:Addr} {mA:Str→Option Value} {name:Str} {v:Value}
theorem get_map{expr:Bool}{Q:Value→Shared→Prop}(X:K.In s.heap)(I:ObjM s.heap x dx C mA)(hg:JC K C name=true)(hh:JG K C=true)
  (ha:U3 K (.ref C) name=some none) (hv:mA name=some v) (hv':PySem.W.handedIn v=true) (h:Q v {s with toks:=s.toks+1}):
  wpAny (model prog w) A (getAttr (.ref x) name expr) Q E s:=by
 obtain⟨od,J,hl⟩:=I.look
 exact PySem.W.get_value X J (Mn hg).1 (PySem.W.findObj_own hh ha rfl (by rw[hl,hv])) hv' h
theorem kjX{pl:Sem Bool}{Q:Value×List Value→Shared→Prop}(X:K.In s.heap)(I:ObjM s.heap x dx C mA)(hg:JC K C name=true)
  (hf:U3 K (.ref C) name=some (some (.ref f))) (ht:JH K (.ref f)=true) (hv:mA name=none) (h:Q (.ref f,[.ref x]) s):
  wpAny (model prog w) A (getMethod (.ref x) name pl) Q E s:=by
 obtain⟨od,J,hl⟩:=I.look
 exact PySem.W.method_fn X J (Mn hg).1 (Mn hg).2 hf (beq_iff_eq.mp ht) (by show(NT name od).map (·.isSome)=some false;rw[hl,hv];rfl) h
theorem kkR{ns:List Str}{Q:Unit→Shared→Prop}(X:K.In s.heap)(I:ObjM s.heap x dx C mA)
  (hs:U3 K (.ref C) "__setattr__"=some (some (.builtin "object.__setattr__"))) (hp:JK K C=true) (ht:Mo K C name=some none) (hh:JG K C=true)
  (hw:PySem.Within mA ns) (hsz:ns.length≤sizeLine)
  (h:∀h',ObjM h' x dx C (fun y=>if y=name then some v else mA y)→Heap.SameBut dx s.heap h'→Q () {s with heap:=h',toks:=s.toks+2}):
  wpAny (model prog w) A (setAttr (.ref x) name v) Q E s:=by
 obtain⟨od,J,hl⟩:=I.look
 refine PySem.W.set_plain X J hs (PySem.W.osa_open (s:={s with toks:=s.toks+1}) (r:=none) X J hp ht fun b=>?_)
 obtain⟨cd,hc,hd'⟩:=PySem.W.any_some hh
 have hx:s.heap.get? x=some ⟨.ref C,some dx, .plain,#[]⟩:=I.obj
 refine wpAny_bind (wpAny_pure (wpAny_bind (wpAny_bind (wpAny_loadPart hx (wpAny_bind (PySem.W.Looks.here (s:={s with toks:=s.toks+1}) (PySem.W.looks_clsIn X hc) ?_))))))
 rw[hd']
 refine wpAny_pure (a:=some dx) (wpAny_bind (wpAny_pure (wpAny_bind ?_)))
 refine wpAny_nsSet1 (s:={s with toks:=s.toks+1}) I.ns fun h' hn2 hs2=>?_
 obtain⟨oD,esD,epD,hoD,hdD,hcD⟩:=hn2.count (PySem.Within.cons name v hw)
 refine wpAny_bind (wpAny_lookBehind hoD (by rw[hdD];exact pastItsLine_dict (U4 hcD (by rw[Jw];omega))) ?_)
 exact wpAny_pure (h _ ⟨(hs2.2 _ (Ne.symm I.ne)).trans I.obj,hn2,I.ne⟩ hs2)
theorem kjO{R:Result→Shared→Prop}{vs:List Value}{kw:List (Str×Value)}(X:K.In s.heap)(hm:JI K C=true)
  (hi:U3 K (.ref C) "__init__"=some (some (.ref f))) (hf:JD K (.ref f)=some (.type "function"))
  (h:codeAny (model prog w) (A.under (.builtin "type.__call__" ⟨.ref C::vs,kw⟩)) (.call (.ref f) ⟨.ref (s.heap.objs.size+1)::vs,kw⟩) (PySem.W.InitBack (s.heap.objs.size+1) R)
   {s with heap:=(s.heap.push J5).push (Na C s.heap.objs.size)}):
  codeAny (model prog w) A (.call (.ref C) ⟨vs,kw⟩) R s:=by
 obtain⟨hh,g,d,t,os⟩:=s
 exact PySem.W.make_core (PySem.W.makes_of X hm) (PySem.W.looks_findIn X hi) (fun self=>PySem.W.bind_fn X self hf) (.inl rfl) h
end
noncomputable def putF(f:Str)(v:V):List (Str×V)→List (Str×V)
 |[]=>[(f,v)]
 |(g,x)::r=>if g=f then(g,v)::r else(g,x)::putF f v r
theorem kab(f g:Str)(v:V):∀fs:List (Str×V),(putF f v fs).lookup g=if g=f then some v else fs.lookup g
 | []=>by
  show JR g [(f,v)]=_
  by_cases h:g=f
  ·have hb:(g==f)=true:=beq_iff_eq.mpr h
   simp only[JR,hb,if_pos h]
  ·have hb:(g==f)=false:=beq_eq_false_iff_ne.mpr h
   simp only[JR,hb,if_neg h]
 | (k,x)::r=>by
  have ih:=kab f g v r
  rw[show putF f v ((k,x)::r)=(if k=f then(k,v)::r else(k,x)::putF f v r) from rfl]
  by_cases hk:k=f
  ·rw[if_pos hk]
   by_cases h:g=k
   ·have hb:(g==k)=true:=beq_iff_eq.mpr h
    simp only[JR,hb,if_pos (h.trans hk)]
   ·have hb:(g==k)=false:=beq_eq_false_iff_ne.mpr h
    simp only[JR,hb,if_neg (fun e:g=f=>h (e.trans hk.symm))]
  ·rw[if_neg hk]
   by_cases h:g=k
   ·have hb:(g==k)=true:=beq_iff_eq.mpr h
    simp only[JR,hb,if_neg (fun e:g=f=>hk (h.symm.trans e))]
   ·have hb:(g==k)=false:=beq_eq_false_iff_ne.mpr h
    simp only[JR,hb]
    exact ih
theorem ken(f:Str)(v:V):∀fs:List (Str×V),f∈(putF f v fs).map (·.1)∧∀g,g∈fs.map (·.1)→g∈(putF f v fs).map (·.1)
 |[]=>⟨by simp[putF],fun g h=>by simp at h⟩
 | (k,x)::r=>by
  obtain⟨i1,i2⟩:=ken f v r
  rw[show putF f v ((k,x)::r)=(if k=f then(k,v)::r else(k,x)::putF f v r) from rfl]
  by_cases hk:k=f
  ·rw[if_pos hk]
   subst hk
   exact⟨by simp,fun g h=>by simpa using h⟩
  ·rw[if_neg hk]
   refine⟨?_,fun g h=>?_⟩
   ·rw[Ji]
    exact Jo _ i1
   ·rw[Ji] at h⊢
    rcases Jr.mp h with e|e
    ·exact Jr.mpr (.inl e)
    ·exact Jo _ (i2 g e)
theorem kel(f:Str)(v:V):∀fs:List (Str×V),(putF f v fs).length≤fs.length+1
 |[]=>by simp[putF]
 |(k,x)::r=>by
  have ih:=kel f v r
  rw[show putF f v ((k,x)::r)=(if k=f then(k,v)::r else(k,x)::putF f v r) from rfl]
  by_cases hk:k=f
  ·rw[if_pos hk,Jw,Jw];omega
  ·rw[if_neg hk,Jw,Jw];omega
theorem RelO.some_of{v:V}{o:Option Value}(r:RelO (some v) o):∃u,o=some u∧RelV v u:=by
 cases o with
 |none=>exact(show False from r).elim
 |some u=>exact⟨u,rfl,r⟩
theorem RelO.none_of{o:Option Value}(r:RelO none o):o=none:=by
 cases o with
 |none=>rfl
 |some u=>exact(show False from r).elim
theorem kiT{v:V}{u:Value}(r:RelV v u):PySem.W.handedIn u=true:=by
 cases v with
 |non=>cases(show u=Value.none from r);rfl
 |bl b=>cases(show u=Value.bool b from r);rfl
 |int i=>obtain⟨t,e⟩:=(show ∃t,u=Value.int i t from r);cases e;rfl
 |str x=>obtain⟨t,e⟩:=(show ∃t,u=Value.str x t from r);cases e;rfl
 |byt b=>obtain⟨t,e⟩:=(show ∃t,u=Value.bytes b t from r);cases e;rfl
 |flt b=>obtain⟨t,e⟩:=(show ∃t,u=Value.float b t from r);cases e;rfl
 |ref a=>cases(show u=Value.ref a from r);rfl
 |ty n=>cases(show u=Value.type n from r);rfl
section
variable {P:Program} {w:World} {H H':Hp} {h h':Heap} {a C dx:Addr} {fs fs':List (Str×V)}
theorem kfj(hok:HOk P w H h)(e:H a=some (.ins C dx fs)):∃mA,ObjM h a dx C mA∧(∀f,RelO (fs.lookup f) (mA f))∧PySem.Within mA (fs.map (·.1))∧fs.length≤1000∧H dx=some (.own a):=by
 obtain⟨d,z,ne,ob,mA,n,r,q⟩:=(show ObjOk P w H h a (.ins C dx fs) from hok a _ e)
 exact⟨mA,⟨ob,n,ne⟩,r,q,z,d⟩
end
structure Cls (K:U1) (C:Addr):Prop where
 pg:JC K C Str.empty=true
 hd:JG K C=true
 po:JK K C=true
 sa:U3 K (.ref C) "__setattr__"=some (some (.builtin "object.__setattr__"))
def Cls.get{K:U1}{C:Addr}(c:Cls K C)(f:Str):JC K C f=true:=c.pg
noncomputable def NoAttr(K:U1)(C:Addr)(f:Str):Prop:=U3 K (.ref C) f=some none
def NoAttr.taker{K:U1}{C:Addr}{f:Str}(n:NoAttr K C f):Mo K C f=some none:=by
 unfold Mo
 rw[show U3 K (.ref C) f=some none from n]
 rfl
structure Meth (K:U1) (C:Addr) (m:Str) (f:Addr):Prop where
 at_:U3 K (.ref C) m=some (some (.ref f))
 fn:JH K (.ref f)=true
 kp:Jd K (.ref f)=true
section
variable {X:Cx} {pins:List (Addr×Obj)} {σ:St} {H:Hp} {s:Shared} {a C dx:Addr} {fs:List (Str×V)} {f:Str} {v:V} {A:Around} {E:Value→Shared→Prop}
theorem khF{b:Bool}{Q:Value→Shared→Prop}(I:Inv X pins σ H s)(e:H a=some (.ins C dx fs))(c:Cls X.K C)(n:NoAttr X.K C f)(l:fs.lookup f=some v)
  (h:∀u s',Inv X pins σ H s'→RelV v u→Q u s'):wpAny (model X.prog X.w) A (getAttr (.ref a) f b) Q E s:=by
 obtain⟨mA,O,r,_,_,_⟩:=kfj I.hok e
 obtain⟨u,hu,ru⟩:=RelO.some_of (v:=v) (o:=mA f) (by rw[←l];exact r f)
 exact get_map I.kIn O (c.get f) c.hd n hu (kiT ru) (h u _ (I.tok _) ru)
theorem keR{m:Str}{g:Addr}{pl:Sem Bool}{Q:Value×List Value→Shared→Prop}(I:Inv X pins σ H s)(e:H a=some (.ins C dx fs))(c:Cls X.K C)(k:Meth X.K C m g)(l:fs.lookup m=none)
  (h:Q (.ref g,[.ref a]) s):wpAny (model X.prog X.w) A (getMethod (.ref a) m pl) Q E s:=by
 obtain⟨mA,O,r,_,_,_⟩:=kfj I.hok e
 have hn:mA m=none:=RelO.none_of (by rw[←l];exact r m)
 exact kjX I.kIn O (c.get m) k.at_ k.fn hn h
theorem khs{y:V}{u:Value}{Q:Unit→Shared→Prop}(I:Inv X pins σ H s)(e:H a=some (.ins C dx fs))(c:Cls X.K C)(n:NoAttr X.K C f)(hl:fs.length<1000)(ry:RelV y u)
  (h:∀s',Inv X pins σ (upd H a (.ins C dx (putF f y fs))) s'→Q () s'):wpAny (model X.prog X.w) A (setAttr (.ref a) f u) Q E s:=by
 obtain⟨mA,O,r,wi,_,ho⟩:=kfj I.hok e
 have hz:(fs.map (·.1)).length≤sizeLine:=by rw[U0,sizeLine_eq];omega
 refine kkR I.kIn O c.sa c.po n.taker c.hd wi hz fun h' O' sb=>h _ ?_
 have hd:∃o,h'.get? dx=some o:=let⟨o,_,_,e',_⟩:=O'.ns;⟨o,e'⟩
 refine I.write (x:=a) (e:=dx) (by rw[e];exact True.intro) (.inr ho) (fun b q hb z=>(sb.2 b hb).trans z) hd ?_
 refine⟨by rw[kaj O.ne];exact ho,?_,O.ne,O'.obj,_,O'.ns,fun g=>?_,fun g hg=>?_⟩
 ·have:=kel f y fs;omega
 ·show RelO ((putF f y fs).lookup g) (if g=f then some u else mA g)
  rw[kab]
  by_cases q:g=f
  ·rw[if_pos q,if_pos q];exact ry
  ·rw[if_neg q,if_neg q];exact r g
 ·by_cases q:g=f
  ·rw[q];exact(ken f y fs).1
  ·refine(ken f y fs).2 g (wi g fun z=>hg ?_)
   show(if g=f then some u else mA g)=none
   rw[if_neg q];exact z
theorem Inv.made(I:Inv X pins σ H s):Inv X pins σ (upd (upd H s.heap.objs.size (.own (s.heap.objs.size+1))) (s.heap.objs.size+1) (.ins C s.heap.objs.size []))
  {s with heap:=(s.heap.push J5).push (Na C s.heap.objs.size)}:=by
 have e1:(s.heap.push J5).get? s.heap.objs.size=some J5:=Heap.get?_push_size s.heap rfl
 have e2:((s.heap.push J5).push (Na C s.heap.objs.size)).get? (s.heap.objs.size+1)=some (Na C s.heap.objs.size):=by
  have:=Heap.get?_push_size (s.heap.push J5) (o:=Na C s.heap.objs.size) rfl
  rwa [Heap.size_push] at this
 have e3:(s.heap.push J5).Ns s.heap.objs.size (fun _=>none):=⟨J5,#[],_,e1,rfl,(fun e he=>absurd he (by simp)),fun _=>rfl⟩
 have I1:=I.laid (a:=s.heap.objs.size) (o:=.own (s.heap.objs.size+1)) (h':=s.heap.push J5) (t':=s.toks) (fun b u q=>Heap.get?_push_of_some _ q) (U2 _) ⟨_,e1⟩
 refine I1.laid (a:=s.heap.objs.size+1) (o:=.ins C s.heap.objs.size []) (t':=s.toks) (fun b u q=>Heap.get?_push_of_some _ q) (NU (Heap.size_push _ _)) ?_
 have ne:s.heap.objs.size≠s.heap.objs.size+1:=Js (Mp _)
 refine⟨by rw[kaj ne,kad],Jv _,ne,e2,fun _=>none,(Heap.Ns1.of_empty e3).at fun o q=>Heap.get?_push_of_some _ q,fun _=>True.intro,fun y hy=>absurd rfl hy⟩
theorem klu{prog:Program}{w:World}{env:Env}{e:Expr}{f:Str}{pos:Pos}{s:Shared}{Q:Value→Shared→Prop}(hb:attributeBase e f env (eval e env)=eval e env)
  (h:wpAny (model prog w) A (eval e env) (fun o s₁=>wpAny (model prog w) A (getAttr o f true) Q E s₁) E s):wpAny (model prog w) A (eval (.Attribute e f pos) env) Q E s:=
 Attribute_any_ h (by rw[arm_eval_Attribute,hb])
end
noncomputable def tFld(K:U1)(ta:TE)(f:Str):TE:=fun σ H Q=>ta σ H fun x H1=>∃a C dx fs v,x=.ref a∧H1 a=some (.ins C dx fs)∧Cls K C∧NoAttr K C f∧fs.lookup f=some v∧Q v H1
noncomputable def sFld(K:U1)(ta tv:TE)(f:Str):TS:=fun D σ H=>tv σ H fun y H1=>ta σ H1 fun x H2=>∃a C dx fs,x=.ref a∧H2 a=some (.ins C dx fs)∧Cls K C∧NoAttr K C f∧fs.length<1000∧
 D.nx σ (upd H2 a (.ins C dx (putF f y fs)))
section
variable {X:Cx} {o e value:Expr} {f:Str} {pos pos' tpos:Pos} {ta tv:TE}
theorem klO(he:PE X e ta)(hb:attributeBase e f X.env (eval e X.env)=eval e X.env):PE X (.Attribute e f pos) (tFld X.K ta f):=by
 intro pins s σ H Q I h
 refine klu hb (thn (he pins s σ H _ I h) fun u s1 ⟨x,H1,I1,rx,a,C,dx,fs,v,ex,ea,c,n,l,q⟩=>?_)
 subst ex
 obtain rfl:u=Value.ref a:=rx
 exact khF I1 ea c n l fun u' s2 I2 ru=>⟨v,H1,I2,ru,q⟩
theorem kaD(ha:PE X o ta)(hv:PE X value tv)(hs:swapsWith value (some (.Attribute o f pos')) pos.line X.env=pure false):PS X (.Assign [.Attribute o f pos'] value pos) (sFld X.K ta tv f):=by
 intro pins s σ H D I h
 refine plainObj_wpAny_Assign_Attribute (thn (hv pins s σ H _ I h) fun u s1 ⟨y,H1,I1,ry,q⟩=>thn (ha pins s1 σ H1 _ I1 q) fun ov s2 ⟨x,H2,I2,rx,a,C,dx,fs,ex,ea,c,n,l,q2⟩=>?_) hs
 subst ex
 obtain rfl:ov=Value.ref a:=rx
 exact khs I2 ea c n l ry fun s3 I3=>⟨σ,_,I3,q2⟩
end
section
variable {X:Cx} {pins:List (Addr×Obj)} {σ:St} {H:Hp} {s:Shared} {A:Around} {E:Value→Shared→Prop} {Q:Value→Shared→Prop} {c:Value} {b:Bool}
inductive TyOf (K:U1) (H:Hp):V→Value→Prop where
 |non:TyOf K H .non (.type "NoneType")
 |bl (x:Bool):TyOf K H (.bl x) (.type "bool")
 |int (i:Int):TyOf K H (.int i) (.type "int")
 |str (x:Str):TyOf K H (.str x) (.type "str")
 |flt (x:UInt64):TyOf K H (.flt x) (.type "float")
 |lst {a:Addr} {xs:List V} (e:H a=some (.lst xs)):TyOf K H (.ref a) (.type "list")
 |frz {a:Addr} {o:Obj} {xs:List V} (e:H a=some (.frz o (.lst xs))):TyOf K H (.ref a) (.type "list")
 |tup {a:Addr} {xs:List V} (e:H a=some (.tup xs)):TyOf K H (.ref a) (.type "tuple")
 |dK {a:Addr} {kvs:List (Key×V)} (e:H a=some (.dK kvs)):TyOf K H (.ref a) (.type "dict")
 |dT {a:Addr} {kvs:List (List Key×V)} (e:H a=some (.dT kvs)):TyOf K H (.ref a) (.type "dict")
 | ins {a C dx:Addr} {fs:List (Str×V)} (e:H a=some (.ins C dx fs)) (cl:Cls K C) (ha:U3 K (.ref C) "__class__"=some (some (.builtin "object.__class__")))
   (hn:NC K (.builtin "object.__class__") "__get__"=some (some (.builtin "getset_descriptor.__get__"))) (htk:Mq K (.builtin "object.__class__")=some true)
   (hm:U7 K C (.type "object")=some true):TyOf K H (.ref a) (.ref C)
theorem kiO{x:V}{u t:Value}(I:Inv X pins σ H s)(rx:RelV x u)(ty:TyOf X.K H x t)(e:Jl X.K t c=some b)(h:∀tk,Q (.bool b) {s with toks:=tk}):
  wpAny (model X.prog X.w) A (call (.builtin "isinstance") [u,c]) Q E s:=by
 cases ty with
 |non=>cases(show u=Value.none from rx);exact JS PySem.W.kitx_none I.kIn True.intro e (fun z=>nomatch z) h
 |bl y=>cases(show u=Value.bool y from rx);exact JS PySem.W.kitx_bool I.kIn True.intro e (fun z=>nomatch z) h
 |int i=>obtain⟨t,q⟩:=(show ∃t,u=Value.int i t from rx);cases q;exact JS PySem.W.kitx_int I.kIn True.intro e (fun z=>nomatch z) h
 |str y=>obtain⟨t,q⟩:=(show ∃t,u=Value.str y t from rx);cases q;exact JS PySem.W.kitx_str I.kIn True.intro e (fun z=>nomatch z) h
 |flt y=>obtain⟨t,q⟩:=(show ∃t,u=Value.float y t from rx);cases q;exact JS PySem.W.kitx_float I.kIn True.intro e (fun z=>nomatch z) h
 | @lst a xs ea=>
  cases(show u=Value.ref a from rx)
  obtain⟨_,_,n,_,h1⟩:=(show ObjOk X.prog X.w H s.heap a (.lst xs) from I.hok a _ ea)
  exact JS PySem.W.kitx_list I.kIn ⟨_,h1,rfl⟩ e (fun z=>nomatch z) h
 | @frz a ob xs ea=>
  cases(show u=Value.ref a from rx)
  obtain⟨_,_,_,n,_,h1⟩:=(show ObjOk X.prog X.w H s.heap a (.frz ob (.lst xs)) from I.hok a _ ea)
  exact JS PySem.W.kitx_list I.kIn ⟨_,h1,rfl⟩ e (fun z=>nomatch z) h
 | @tup a xs ea=>
  cases(show u=Value.ref a from rx)
  obtain⟨_,_,_,p⟩:=(show ObjOk X.prog X.w H s.heap a (.tup xs) from I.hok a _ ea)
  obtain⟨o,h1,h2,_⟩:=p
  exact JS PySem.W.kitx_tuple I.kIn ⟨o,h1,h2⟩ e (fun z=>nomatch z) h
 | @dK a kvs ea=>
  cases(show u=Value.ref a from rx)
  obtain⟨_,_,vs,_,p⟩:=(show ObjOk X.prog X.w H s.heap a (.dK kvs) from I.hok a _ ea)
  obtain⟨o,es,ep,h1,h2,_⟩:=p
  exact JS PySem.W.kitx_dict I.kIn ⟨o,h1,h2.1⟩ e (fun z=>nomatch z) h
 | @dT a kvs ea=>
  cases(show u=Value.ref a from rx)
  obtain⟨_,_,xs,_,o,es,ep,h1,h2,_⟩:=(show ObjOk X.prog X.w H s.heap a (.dT kvs) from I.hok a _ ea)
  exact JS PySem.W.kitx_dict I.kIn ⟨o,h1,h2.1⟩ e (fun z=>nomatch z) h
 | @ins a C dx fs ea cl ha hn htk hm=>
  cases(show u=Value.ref a from rx)
  obtain⟨mA,O,_⟩:=kfj I.hok ea
  obtain⟨od,J,_⟩:=O.look
  exact JS (PySem.W.kitx_own (cl.get _) cl.hd ha hn htk hm) I.kIn J e (fun z=>nomatch z) h
end
end L2
namespace L2
open PySem PySem.Spec PyProof.Rows
structure Room (k:Nat) (A:Around):Prop where
 hd:A.handled=none
 dp:A.depth+3*k+5<recursionLimit
 un:A.units+16*k+200<cLine
def Room.mono{j k:Nat}{A:Around}(r:Room k A)(h:j≤k):Room j A:=⟨r.hd,by have:=r.dp;omega,by have:=r.un;omega⟩
def Room.deeper{k:Nat}{A:Around}(r:Room (k+1) A)(env:Env):Room k (A.deeper env):=
 ⟨r.hd,by have:=r.dp;show A.depth+1+3*k+5<_;omega,by have:=r.un;show A.units+3+16*k+200<_;omega⟩
def Room.in1{k:Nat}{A:Around}(r:Room (k+1) A):Room k A.in1:=
 ⟨r.hd,by have:=r.dp;show A.depth+3*k+5<_;omega,by have:=r.un;show A.units+1+16*k+200<_;omega⟩
def khC{A:Around}{C:Addr}{us:List Value}{kw:List (Str×Value)}:(A.under (.builtin "type.__call__" ⟨.ref C::us,kw⟩)).depth=A.depth+1:=by
 first|rfl|simp[Around.under,Code.weight,Code.isCreation,Code.isGuard,Code.isCaller,Code.frames,Code.isFrame,guardIds]
def khB{A:Around}{C:Addr}{us:List Value}{kw:List (Str×Value)}:(A.under (.builtin "type.__call__" ⟨.ref C::us,kw⟩)).units=A.units+1:=by
 first|rfl|simp[Around.under,Code.cUnits,Code.frames,Code.isFrame]
def Room.make{k:Nat}{A:Around}(r:Room (k+1) A)(C:Addr)(us:List Value)(kw:List (Str×Value)):Room k (A.under (.builtin "type.__call__" ⟨.ref C::us,kw⟩)):=
 ⟨r.hd,by have:=r.dp;rw[khC];omega,by have:=r.un;rw[khB];omega⟩
def Room.depth{k:Nat}{A:Around}(r:Room k A):A.depth<recursionLimit:=by have:=r.dp;omega
def Room.units{k:Nat}{A:Around}(r:Room k A):A.units+64<cLine:=by have:=r.un;omega
noncomputable def tNil:TA:=fun _ H Q=>Q [] H
noncomputable def tCons(ta:TE)(tr:TA):TA:=fun σ H Q=>ta σ H fun x H1=>tr σ H1 fun xs H2=>Q (x::xs) H2
section
variable {X:Cx} {e:Expr} {es:List Expr} {te:TE} {t:TA} {pos:Pos}
theorem kaf:PA X [] tNil:=fun _ _ _ _ H Q I h=>Calls.spliced_nil ⟨[],H,I, .nil,h⟩
theorem kaa(ha:PE X e te)(hr:PA X es t)(hs:starEach (e::es) X.env=(false,eval e X.env)::starEach es X.env:=by rfl):PA X (e::es) (tCons te t):=by
 intro pos pins s σ H Q I h
 rw[hs]
 show wpAny _ _ (spliced ((false,eval e X.env)::backTo pos (starEach es X.env))) _ _ s
 refine Calls.spliced_cons (thn (ha pins s σ H _ I h) fun u s1 ⟨x,H1,I1,r1,q1⟩=>?_)
 exact thn (hr pos pins s1 σ H1 _ I1 q1) fun us s2 ⟨xs,H2,I2,r2,q2⟩=>⟨x::xs,H2,I2, .cons r1 r2,q2⟩
noncomputable def tTup(t:TA):TE:=fun σ H Q=>t σ H fun xs H1=>xs.length≤sizeLine∧∀p,H1 p=none→Q (.ref p) (upd H1 p (.tup xs))
noncomputable def tLst(t:TA):TE:=fun σ H Q=>t σ H fun xs H1=>xs.length≤sizeLine∧∀p,H1 p=none→Q (.ref p) (upd H1 p (.lst xs))
theorem kcI{x1}(h:PA X es t):PE X (.Tuple es x1 pos) (tTup t):=by
 intro pins s σ H Q I hq
 refine wpAny_Tuple_spliced (thn (h pos pins s σ H _ I hq) fun us s1 ⟨xs,H1,I1,r,z,q⟩=>⟨by rw[←r.length];exact z,?_⟩)
 have hf:H1 s1.heap.objs.size=none:=I1.hok.fresh (U2 _)
 refine⟨.ref s1.heap.objs.size,upd H1 s1.heap.objs.size (.tup xs),I1.laid (t':=s1.toks) (fun b u e=>Heap.get?_push_of_some _ e) (U2 _) ?_,rfl,q _ hf⟩
 exact⟨z,us,r,⟨_,Heap.get?_push_size _ rfl,rfl,_,rfl⟩⟩
theorem kaP(h:PA X es t):PE X (.List es pos) (tLst t):=by
 intro pins s σ H Q I hq
 refine wpAny_List_spliced (thn (h pos pins s σ H _ I hq) fun us s1 ⟨xs,H1,I1,r,z,q⟩=>⟨by rw[←r.length];exact z,?_⟩)
 have hf:H1 s1.heap.objs.size=none:=I1.hok.fresh (U2 _)
 refine⟨.ref s1.heap.objs.size,upd H1 s1.heap.objs.size (.lst xs),I1.laid (t':=s1.toks) (fun b u e=>Heap.get?_push_of_some _ e) (U2 _) ?_,rfl,q _ hf⟩
 exact⟨z,us,0,r,Heap.get?_push_size _ rfl⟩
end
noncomputable abbrev Sp:=List V→Hp→VK→XK→Prop
noncomputable abbrev CXT:=List Env→Hp→Shared→XK→Value→Shared→Prop
structure Env0 (P:Program) (w:World) (K:U1) (mg:Str→Option Value) (base:Heap) (A:Around) (outer:List Env) (s:Shared) (H:Hp):Prop where
 frames:A.frames=some outer
 mod:Mod K mg base
 bs:∀b o,base.get? b=some o→s.heap.get? b=some o∧H b=none
 bsz:base.objs.size≤s.heap.objs.size
 funs:s.heap.FunFrames base outer
 frf:∀b∈frs outer,H b=none
 hok:HOk P w H s.heap
 bare:AllBare s.gens
noncomputable def CE(outer:List Env)(P:Program)(w:World)(H:Hp)(s:Shared)(Q:VK)(u:Value)(s':Shared):Prop:=
 ∃v H',s'.os=s.os∧AllBare s'.gens∧Un (frs outer) [] H H' s.heap s'.heap∧HOk P w H' s'.heap∧RelV v u∧Q v H'
noncomputable def CR(CX:CXT)(outer:List Env)(P:Program)(w:World)(H:Hp)(s:Shared)(Q:VK)(E:XK)(r:Result)(s':Shared):Prop:=
 match r with
 | .ok (.ret u)=>CE outer P w H s Q u s'
 | .ok _=>False
 | .error e=>CX outer H s E e s'
structure FnOk (P:Program) (w:World) (K:U1) (mg:Str→Option Value) (base:Heap) (CX:CXT) (k:Nat) (f:Addr) (fd:FuncData) (ps:List Str) (sp:Sp):Prop where
 len:∀vs H Q E,sp vs H Q E→vs.length=ps.length
 run:∀(A:Around)(outer:List Env)(s:Shared)(H:Hp)(args:Args)(us:List Value)(vs:List V)(Q:VK)(E:XK),Room k A→Env0 P w K mg base A outer s H→BindsTo s fd args (ps.zip us)→Vals vs us→sp vs H Q E→
  codeAny (model P w) A (.call (.ref f) args) (CR CX outer P w H s Q E) s
theorem FnOk.mono{P:Program}{w:World}{K:U1}{mg:Str→Option Value}{base:Heap}{CX:CXT}{j k:Nat}{f:Addr}{fd:FuncData}{ps:List Str}{sp:Sp}(F:FnOk P w K mg base CX j f fd ps sp)(h:j≤k):
  FnOk P w K mg base CX k f fd ps sp:=⟨F.len,fun A outer s H args us vs Q E hr=>F.run A outer s H args us vs Q E (hr.mono h)⟩
theorem FnOk.imp{P:Program}{w:World}{K:U1}{mg:Str→Option Value}{base:Heap}{CX:CXT}{k:Nat}{f:Addr}{fd:FuncData}{ps:List Str}{sp sp':Sp}(F:FnOk P w K mg base CX k f fd ps sp)
  (h:∀vs H Q E,sp' vs H Q E→sp vs H Q E):FnOk P w K mg base CX k f fd ps sp':=
 ⟨fun vs H Q E q=>F.len vs H Q E (h _ _ _ _ q),fun A outer s H args us vs Q E hr he hb hv hs=>F.run A outer s H args us vs Q E hr he hb hv (h _ _ _ _ hs)⟩
theorem Env0.make{P:Program}{w:World}{K:U1}{mg:Str→Option Value}{base:Heap}{A:Around}{outer:List Env}{s:Shared}{H:Hp}(e:Env0 P w K mg base A outer s H)(C:Addr)(us:List Value)(kw:List (Str×Value)):
  Env0 P w K mg base (A.under (.builtin "type.__call__" ⟨.ref C::us,kw⟩)) outer s H:=⟨by first|exact e.frames|(simpa[Around.under,Code.envs,Code.isFrame,pushEnvs] using e.frames),e.mod,e.bs,e.bsz,e.funs,e.frf,e.hok,e.bare⟩
theorem Env0.in1{P:Program}{w:World}{K:U1}{mg:Str→Option Value}{base:Heap}{A:Around}{outer:List Env}{s:Shared}{H:Hp}(e:Env0 P w K mg base A outer s H):
  Env0 P w K mg base A.in1 outer s H:=⟨e.frames,e.mod,e.bs,e.bsz,e.funs,e.frf,e.hok,e.bare⟩
section
variable {X:Cx} {pins:List (Addr×Obj)} {σ:St} {H:Hp} {s s':Shared}
theorem Inv.env0(I:Inv X pins σ H s):Env0 X.prog X.w X.K X.mg X.base X.A X.stack s H:=
 ⟨I.ok.frames,I.ok.mod,I.bs,U4 I.ok.bsz I.sz,I.stack,I.stkFree,I.hok,I.bare⟩
theorem Inv.after{Q:VK}{u:Value}(I:Inv X pins σ H s)(h:CE X.stack X.prog X.w H s Q u s'):EP X pins σ Q u s':=by
 obtain⟨v,H',os,bare,un,hok,r,q⟩:=h
 obtain⟨hh,g,d,t,os'⟩:=s'
 obtain rfl:os'=s.os:=os
 exact⟨v,H',I.call (h':=hh) (g':=g) (d':=d) (t':=t) (ch:=[]) un hok bare (fun b z=>absurd z (by simp)),r,q⟩
end
noncomputable def tCall(sp:Sp)(dvs:List V)(E:XK)(t:TA):TE:=fun σ H Q=>t σ H fun vs H1=>sp (vs++dvs) H1 Q E
noncomputable def tMeth(C:Addr)(m:Str)(sp:Sp)(dvs:List V)(E:XK)(ta:TE)(t:TA):TE:=fun σ H Q=>ta σ H fun x H1=>∃a dx fs,x=.ref a∧H1 a=some (.ins C dx fs)∧fs.lookup m=none∧
 t σ H1 fun vs H2=>sp (x::(vs++dvs)) H2 Q E
noncomputable def tMake(C:Addr)(sp:Sp)(dvs:List V)(E:XK)(t:TA):TE:=fun σ H Q=>t σ H fun vs H1=>∀x dx,H1 x=none→H1 dx=none→dx≠x→
 sp (.ref x::(vs++dvs)) (upd (upd H1 dx (.own x)) x (.ins C dx [])) (fun v H2=>v=.non∧Q (.ref x) H2) E
noncomputable def Binds(K:U1)(fd:FuncData)(ps:List Str)(ds:List Value):Prop:=
 ∀(s:Shared)(us:List Value),K.In s.heap→(us++ds).length=ps.length→BindsTo s fd ⟨us,[]⟩ (ps.zip (us++ds))
def Binds.all{K:U1}{fd:FuncData}{ps:List Str}(h:∀us:List Value,us.length=ps.length→bindArgs fd ⟨us,[]⟩=pure (ps.zip us)):Binds K fd ps []:=fun s us _ hl=>by
 rw[J6] at hl⊢
 exact .of_eq (h us hl)
noncomputable def kdd(CX:CXT)(X:Cx)(E:XK):Prop:=∀(pins:List (Addr×Obj))(σ:St)(H:Hp)(s:Shared)(e:Value)(s':Shared),Inv X pins σ H s→CX X.stack H s E e s'→X.xe e s'
section
variable {X:Cx} {CX:CXT} {k:Nat} {f C:Addr} {fd:FuncData} {ps:List Str} {sp:Sp} {dvs:List V} {ds:List Value} {E:XK} {x m:Str} {p pos apos:Pos} {e o:Expr} {es:List Expr} {ta:TE} {t:TA}
theorem kfF{pins:List (Addr×Obj)}{σ:St}{H:Hp}{s:Shared}{Q:VK}{us:List Value}{vs:List V}(F:FnOk X.prog X.w X.K X.mg X.base CX k f fd ps sp)(hr:Room k X.A)(hb:Binds X.K fd ps ds)(hd:Vals dvs ds)(hx:kdd CX X E)
  (I:Inv X pins σ H s) (r:Vals vs us) (h:sp (vs++dvs) H Q E):wpAny (model X.prog X.w) X.A (call (.ref f) us) (EP X pins σ Q) X.xe s:=by
 have r2:Vals (vs++dvs) (us++ds):=r.append hd
 have hl:(us++ds).length=ps.length:=by rw[←r2.length];exact F.len _ _ _ _ h
 refine wpAny_call (codeAny_mono (F.run X.A X.stack s H ⟨us,[]⟩ (us++ds) (vs++dvs) Q E hr I.env0 (hb s us I.kIn hl) r2 h) fun r s' hq=>?_)
 cases r with
 |error e=>exact hx pins σ H s e s' I hq
 |ok fl=>
  cases fl with
  |ret u=>exact I.after hq
  |next=>exact False.elim hq
  |brk=>exact False.elim hq
  |cont=>exact False.elim hq
theorem kir(F:FnOk X.prog X.w X.K X.mg X.base CX k f fd ps sp)(hr:Room k X.A)(hg:Gl X x)(hm:X.mg x=some (.ref f))(hk:Jd X.K (.ref f)=true)(hb:Binds X.K fd ps ds)(hd:Vals dvs ds)(hx:kdd CX X E)
  (ha:PA X (e::es) t) (hdb:(x==("__debug__" :Str))=false:=by decide) (he:starEach (e::es) X.env=(false,eval e X.env)::starEach es X.env:=by rfl) (hpl:(backTo pos (starEach es X.env)).any (·.1)=false:=by rfl):
  PE X (.Call (.Name x p) (e::es) [] pos) (tCall sp dvs E t):=by
 intro pins s σ H Q I h
 refine wpAny_Call_Name_kw (kem I hg hm ?_ hdb)
 refine ND (h₀:=X.base) I.ok.mod.kin hk (thn (ha pos pins s σ H _ I h) fun us s1 ⟨vs,H1,I1,r,q⟩=>⟨I1.kIn,?_⟩) he hpl
 exact kfF F hr hb hd hx I1 r q
theorem kgp{pl:Sem Bool}(he:PE X o ta)(c:Cls X.K C)(hm:Meth X.K C m f)(F:FnOk X.prog X.w X.K X.mg X.base CX k f fd ps sp)(hr:Room k X.A)(hb:Binds X.K fd ps ds)(hd:Vals dvs ds)(hx:kdd CX X E)(ha:PA X (e::es) t)
  (hst:starEach (e::es) X.env=(false,eval e X.env)::starEach es X.env:=by rfl) (hpl:(backTo pos (starEach es X.env)).any (·.1)=false:=by rfl)
  (ht:eval (.Call (.Attribute o m apos) (e::es) [] pos) X.env=(do
   let ov ←eval o X.env
   standAt apos.atName
   let(f,first) ←holding [ov] (getMethod ov m pl)
   callWith pos f first (backTo pos (starEach (e::es) X.env)) (backToKw pos (keywordEach [] X.env))):=by rfl):
  PE X (.Call (.Attribute o m apos) (e::es) [] pos) (tMeth C m sp dvs E ta t):=by
 intro pins s σ H Q I h
 refine Mr (pl:=pl) (thn (he pins s σ H _ I h) fun u s1 ⟨x,H1,I1,rx,a,dx,fs,ex,ea,l,q⟩=>?_) ht
 subst ex
 obtain rfl:u=Value.ref a:=rx
 refine keR I1 ea c hm l ?_
 refine ND (first:=[.ref a]) (h₀:=X.base) I.ok.mod.kin hm.kp (thn (ha pos pins s1 σ H1 _ I1 q) fun us s2 ⟨vs,H2,I2,r,q2⟩=>⟨I2.kIn,?_⟩) hst hpl
 exact kfF (us:=.ref a::us) (vs:=.ref a::vs) F hr hb hd hx I2 (.cons rfl r) q2
theorem kdT{pl:Sem Bool}(he:PE X o ta)(c:Cls X.K C)(hm:Meth X.K C m f)(F:FnOk X.prog X.w X.K X.mg X.base CX k f fd ps sp)(hr:Room k X.A)(hb:Binds X.K fd ps ds)(hd:Vals dvs ds)(hx:kdd CX X E)
  (ht:eval (.Call (.Attribute o m apos) [] [] pos) X.env=(do
   let ov ←eval o X.env
   standAt apos.atName
   let(f,first) ←holding [ov] (getMethod ov m pl)
   callWith pos f first (backTo pos (starEach [] X.env)) (backToKw pos (keywordEach [] X.env))):=by rfl):
  PE X (.Call (.Attribute o m apos) [] [] pos) (tMeth C m sp dvs E ta tNil):=by
 intro pins s σ H Q I h
 refine Mr (pl:=pl) (thn (he pins s σ H _ I h) fun u s1 ⟨x,H1,I1,rx,a,dx,fs,ex,ea,l,q⟩=>?_) ht
 subst ex
 obtain rfl:u=Value.ref a:=rx
 refine keR I1 ea c hm l ?_
 exact ML (first:=[.ref a]) I1.kIn hm.kp (kfF (us:=[.ref a]) (vs:=[.ref a]) F hr hb hd hx I1 (.cons rfl .nil) q)
structure Mk (K:U1) (C f:Addr):Prop where
 makes:JI K C=true
 init:U3 K (.ref C) "__init__"=some (some (.ref f))
 fn:JH K (.ref f)=true
 kp:Jd K (.ref C)=true
theorem kgZ{pins:List (Addr×Obj)}{σ:St}{H:Hp}{s:Shared}{Q:VK}{us:List Value}{vs:List V}(M:Mk X.K C f)(F:FnOk X.prog X.w X.K X.mg X.base CX k f fd ps sp)(hr:Room (k+1) X.A)(hb:Binds X.K fd ps ds)(hd:Vals dvs ds)
  (hx:kdd CX X E) (I:Inv X pins σ H s) (r:Vals vs us)
  (h:∀x dx,H x=none→H dx=none→dx≠x→sp (.ref x::(vs++dvs)) (upd (upd H dx (.own x)) x (.ins C dx [])) (fun v H2=>v=.non∧Q (.ref x) H2) E):
  wpAny (model X.prog X.w) X.A (call (.ref C) us) (EP X pins σ Q) X.xe s:=by
 have hq:=h (s.heap.objs.size+1) s.heap.objs.size (I.hok.fresh (Nj _)) (I.hok.fresh (U2 _)) (Js (Mp _))
 have I2:=Inv.made (C:=C) I
 have r2:Vals (V.ref (s.heap.objs.size+1)::(vs++dvs)) (Value.ref (s.heap.objs.size+1)::(us++ds)):=.cons rfl (r.append hd)
 have hl:(Value.ref (s.heap.objs.size+1)::us++ds).length=ps.length:=by
  have e:=r2.length
  rw[F.len _ _ _ _ hq] at e
  exact e.symm
 refine wpAny_call (kjO (f:=f) I.kIn M.makes M.init (beq_iff_eq.mp M.fn) (codeAny_mono (F.run _ X.stack _ _ ⟨Value.ref (s.heap.objs.size+1)::us,[]⟩ (Value.ref (s.heap.objs.size+1)::(us++ds)) _ _ E (hr.make C us [])
  (I2.env0.make C us []) (hb _ (Value.ref (s.heap.objs.size+1)::us) I2.kIn hl) r2 hq) fun r s' hq'=>?_))
 cases r with
 |error e=>exact hx pins σ _ _ e s' I2 hq'
 | ok fl=>
  cases fl with
  |ret u=>
   obtain⟨v,H',I3,rv,ev,q3⟩:=I2.after hq'
   subst ev
   exact⟨rv,⟨V.ref (s.heap.objs.size+1),H',I3,rfl,q3⟩⟩
  |next=>exact False.elim hq'
  |brk=>exact False.elim hq'
  |cont=>exact False.elim hq'
theorem kbg(M:Mk X.K C f)(F:FnOk X.prog X.w X.K X.mg X.base CX k f fd ps sp)(hr:Room (k+1) X.A)(hg:Gl X x)(hm:X.mg x=some (.ref C))(hb:Binds X.K fd ps ds)(hd:Vals dvs ds)(hx:kdd CX X E)
  (ha:PA X (e::es) t) (hdb:(x==("__debug__" :Str))=false:=by decide) (he:starEach (e::es) X.env=(false,eval e X.env)::starEach es X.env:=by rfl) (hpl:(backTo pos (starEach es X.env)).any (·.1)=false:=by rfl):
  PE X (.Call (.Name x p) (e::es) [] pos) (tMake C sp dvs E t):=by
 intro pins s σ H Q I h
 refine wpAny_Call_Name_kw (kem I hg hm ?_ hdb)
 refine ND (h₀:=X.base) I.ok.mod.kin M.kp (thn (ha pos pins s σ H _ I h) fun us s1 ⟨vs,H1,I1,r,q⟩=>⟨I1.kIn,?_⟩) he hpl
 exact kgZ M F hr hb hd hx I1 r q
theorem kjz(M:Mk X.K C f)(F:FnOk X.prog X.w X.K X.mg X.base CX k f fd ps sp)(hr:Room (k+1) X.A)(hg:Gl X x)(hm:X.mg x=some (.ref C))(hb:Binds X.K fd ps ds)(hd:Vals dvs ds)(hx:kdd CX X E)
  (hdb:(x==("__debug__" :Str))=false:=by decide):PE X (.Call (.Name x p) [] [] pos) (tMake C sp dvs E tNil):=by
 intro pins s σ H Q I h
 refine wpAny_Call_Name_kw (kem I hg hm ?_ hdb)
 exact ML I.kIn M.kp (kgZ (us:=[]) M F hr hb hd hx I .nil h)
end
section
variable {X:Cx} {CX:CXT} {k:Nat} {f C:Addr} {fd:FuncData} {ps ks:List Str} {sp:Sp} {E:XK} {x m:Str} {p pos apos kpos:Pos} {e o:Expr} {es:List Expr} {kws:List Keyword} {te ta:TE} {t tk:TA} {nm:Option Str}
variable {g:List Value→List Value→List Value} {gV:List V→List V→List V}
end
structure kao (N P:List Str) (sc:Scope):Prop where
 kind:sc.kind=.function
 co:sc.isCoroutine=false
 gen:sc.isGenerator=false
 nd:N.Nodup
 pre:N.take P.length=P
 par:∀x∈P,sc.names.lookup x=some .local∨sc.names.lookup x=some .cell
 nofree:∀y∈sc.names,y.2≠.free
theorem kf3{kindOf:Str→Option NameKind}{x:Str}:∀{binds:List (Str×Value)}{m:Str→Option Value},(∀v,(x,v)∉binds)→bindL kindOf binds m x=m x
 |[],_,_=>rfl
 | (n,v)::r,m,h=>by
  unfold bindL
  rw[kf3 fun w hw=>h w (Jo _ hw)]
  split
  ·have:x≠n:=by rintro rfl;exact h v Jt
   simp[this]
  ·rfl
theorem kf5{kindOf:Str→Option NameKind}{x:Str}:∀{binds:List (Str×Value)}{m:Str→Option Value},(∀v,(x,v)∉binds)→bindC kindOf binds m x=m x
 |[],_,_=>rfl
 | (n,v)::r,m,h=>by
  unfold bindC
  rw[kf5 fun w hw=>h w (Jo _ hw)]
  split
  ·rfl
  ·have:x≠n:=by rintro rfl;exact h v Jt
   simp[this]
theorem kf4{kindOf:Str→Option NameKind}{x:Str}{v:Value}:∀{P:List Str}{vs:List Value}{i:Nat}{m:Str→Option Value},P.Nodup→P[i]?=some x→vs[i]?=some v→kindOf x=some .local→
  bindL kindOf (P.zip vs) m x=some v
 |[],_,_,_,_,h,_,_=>by simp at h
 |_::_,[],_,_,_,_,h,_=>by simp at h
 |p::P,w::vs,0,m,nd,h1,h2,hk=>by
  simp at h1 h2;subst h1;subst h2
  show bindL kindOf ((p,w)::P.zip vs) m p=_
  unfold bindL
  rw[kf3 fun v hv=>(JT.mp nd).1 (Nb hv).1,if_pos hk]
  simp
 |p::P,w::vs,i+1,m,nd,h1,h2,hk=>by
  show bindL kindOf ((p,w)::P.zip vs) m x=_
  unfold bindL
  exact kf4 (i:=i) (JT.mp nd).2 (by simpa using h1) (by simpa using h2) hk
theorem kf6{kindOf:Str→Option NameKind}{x:Str}{v:Value}:∀{P:List Str}{vs:List Value}{i:Nat}{m:Str→Option Value},P.Nodup→P[i]?=some x→vs[i]?=some v→kindOf x≠some .local→
  bindC kindOf (P.zip vs) m x=some v
 |[],_,_,_,_,h,_,_=>by simp at h
 |_::_,[],_,_,_,_,h,_=>by simp at h
 |p::P,w::vs,0,m,nd,h1,h2,hk=>by
  simp at h1 h2;subst h1;subst h2
  show bindC kindOf ((p,w)::P.zip vs) m p=_
  unfold bindC
  rw[kf5 fun v hv=>(JT.mp nd).1 (Nb hv).1,if_neg hk]
  simp
 |p::P,w::vs,i+1,m,nd,h1,h2,hk=>by
  show bindC kindOf ((p,w)::P.zip vs) m x=_
  unfold bindC
  exact kf6 (i:=i) (JT.mp nd).2 (by simpa using h1) (by simpa using h2) hk
noncomputable def start(N:List Str)(vs:List V):St:=vs.map some++U6 (N.length-vs.length) none
noncomputable def cxOf(CX:CXT)(P:Program)(w:World)(K:U1)(mg:Str→Option Value)(base:Heap)(N:List Str)(qual:Str)(scope:Scope)(f:Addr)(cd:Value)(A:Around)(outer:List Env)(s:Shared)(H:Hp)(E:XK):Cx where
 prog:=P
 w:=w
 K:=K
 mg:=mg
 base:=base
 A:=A.deeper (envOfC qual scope s.heap.objs.size f cd)
 N:=N
 s₀:=s
 H₀:=H
 env:=envOfC qual scope s.heap.objs.size f cd
 outer:=outer
 stack:=envOfC qual scope s.heap.objs.size f cd::outer
 ex:=[]
 calm:=true
 fn:=fun _=>true
 pn:=[]
 xe:=fun e s'=>wpAny (model P w) (A.deeper (envOfC qual scope s.heap.objs.size f cd)) (leaving (envOfC qual scope s.heap.objs.size f cd) e) (fun _ s''=>CX outer H s E e s'') (fun e' s''=>CX outer H s E e' s'') s'
def kdV{sc:Scope}{n:Nat}{x:Str}(h:sc.names.lookup x=some .cell):∃c,(cellsFrom n sc.names []).lookup x=some c:=by
 have q:=MM sc.names n [] (.inl h)
 exact MN.mp q
theorem kiQ{CX:CXT}{P:Program}{w:World}{K:U1}{mg:Str→Option Value}{base:Heap}{N ps:List Str}{qual:Str}{scope:Scope}{f:Addr}{cd:Value}{A:Around}{outer:List Env}{s s1:Shared}{H:Hp}{E:XK}{us:List Value}{vs:List V}
  (S:kao N ps scope) (hd:A.handled=none) (e0:Env0 P w K mg base A outer s H) (hl:vs.length=ps.length) (r:Vals vs us)
  (x:InCallC s s.heap.objs.size (bindL (envOfC qual scope s.heap.objs.size f cd).kindOf (ps.zip us) fun _=>none) (cellsFrom (s.heap.objs.size+1) scope.names []) (bindC (envOfC qual scope s.heap.objs.size f cd).kindOf (ps.zip us) fun _=>none) s1):
  Inv (cxOf CX P w K mg base N qual scope f cd A outer s H E) [] (start N vs) H s1:=by
 have hpl:ps.length≤N.length:=by have:=congrArg NV S.pre;rw[Jg] at this;omega
 obtain⟨h1,tk,rfl,hk⟩:=x.done
 have noA:∀b:Addr,b∉(cxOf CX P w K mg base N qual scope f cd A outer s H E).ex:=fun b z=>absurd (show b∈([]:List Addr) from z) (by simp)
 refine⟨⟨e0.mod,S.kind,rfl,rfl,U2 _,fun y z c h1 h2=>?_,fun y hy=>?_,fun y c _ h=>?_,fun _=>hd,Around.frames_deeper e0.frames, .inr ⟨rfl,rfl⟩,fun b z=>absurd z (noA b),e0.bs,e0.bsz,fun b _ _=>noA b,fun b z=>absurd z (noA b),e0.funs,e0.frf⟩,
  rfl,e0.bare,Un.kept hk,⟨_,x.toInCall.ns,fun i y v h1 h2 h3=>?_⟩,fun y c h=>⟨_,x.cell y c h⟩,e0.hok.fresh (U2 _),fun y c h=>?_,fun p hp=>absurd (show p∈([]:List (Addr×Obj)) from hp) (by simp),e0.hok.kept hk,?_⟩
 ·exact name_of_addr x.apart (PySem.mem_of_lookup h1) (PySem.mem_of_lookup h2)
 ·have hy:scope.names.lookup y=some .cell∨scope.names.lookup y=some .free:=hy
  rcases hy with hy|hy
  ·exact kdV hy
  ·exact absurd rfl (S.nofree _ (PySem.mem_of_lookup hy))
 ·exact Jf (x.above y c (PySem.mem_of_lookup h))
 ·have hi:i<vs.length:=by
   unfold start at h2
   by_cases hi:i<vs.length
   ·exact hi
   ·rw[Nw (by simpa using hi)] at h2
    rw[Ms] at h2
    split at h2 <;> cases h2
  have ha:vs[i]?=some v:=by
   unfold start at h2
   rw[NF (by simpa using hi),Jb] at h2
   cases e:vs[i]? with
   |none=>rw[e] at h2;cases h2
   |some a=>rw[e] at h2;cases h2;rfl
  obtain⟨u,hu,rv⟩:=r.get ha
  have hp:ps[i]?=some y:=by
   rw[←S.pre,MO (by omega)];exact h1
  have ndP:ps.Nodup:=by rw[←S.pre];exact S.nd.sublist (List.take_sublist _ _)
  refine⟨u,rv,?_⟩
  rcases S.par y (U9 hp) with k|k
  ·exact .inl ⟨k,kf4 ndP hp hu k⟩
  ·obtain⟨c,e⟩:=kdV (n:=s.heap.objs.size+1) k
   refine .inr ⟨.inl k,c,e,?_⟩
   have q:=x.cell y c e
   rw[kf6 ndP hp hu (by show scope.names.lookup y≠_;rw[k];decide)] at q
   exact q
 ·exact e0.hok.fresh (Jf (x.above y c (PySem.mem_of_lookup h)))
 ·unfold start
  show _=N.length
  rw[Jh,U0,Nc]
  omega
theorem fn_of{CX:CXT}{P:Program}{w:World}{K:U1}{mg:Str→Option Value}{base:Heap}{k:Nat}{f:Addr}{name qual:Str}{params:Arguments}{body:List Stmt}{scope:Scope}{dV kV doc pm cdv ct oc:Value}{an od:Option Addr}
  {osl:Array (Option Value)} {N ps:List Str} {sp:Sp} (lk:K.lookup f=some ⟨oc,od, .func (Je name qual params body scope dV kV doc pm an cdv ct),osl⟩) (hcd:Jx K cdv qual=true) (S:kao N ps scope)
  (len:∀vs H Q E,sp vs H Q E→vs.length=ps.length)
  (hbody:∀(A:Around)(outer:List Env)(s:Shared)(H:Hp)(vs:List V)(Q:VK)(E:XK),Room k (A.deeper (envOfC qual scope s.heap.objs.size f cdv))→sp vs H Q E→
   ∃t,PSs (cxOf CX P w K mg base N qual scope f cdv A outer s H E) body t∧t {nx:=fun _ H'=>Q .non H',rt:=Q} (start N vs) H):
  FnOk P w K mg base CX (k+1) f (Je name qual params body scope dV kV doc pm an cdv ct) ps sp:=by
 refine⟨len,fun A outer s H args us vs Q E hr e0 hb r hsp=>?_⟩
 have hl:=len _ _ _ _ hsp
 have KX:K.In s.heap:=e0.mod.kin.keeps fun b o e=>(e0.bs b o e).1
 have lim:s.heap.NoLimit:=e0.mod.nolimit.keeps fun b o e=>(e0.bs b o e).1
 have hkind:∀y∈ps.zip us,scope.names.lookup y.1=some .local∨(scope.names.lookup y.1=some .cell∧((cellsFrom (s.heap.objs.size+1) scope.names []).lookup y.1).isSome=true):=fun⟨n,v⟩ hy=>by
  rcases S.par n (Nb hy).1 with q|q
  ·exact .inl q
  ·exact .inr ⟨q,MM _ _ _ (.inl q)⟩
 refine codeAny_call_function hr.depth (KX _ _ lk) rfl S.co S.gen rfl (PySem.W.codeRec_of KX hcd) (hb _ _ _ _ ?_)
 refine wpAny_newFunctionEnv_cells S.kind hkind fun env he s1 x=>?_
 subst he
 refine⟨lim.keeps x.toInCall.keep,codeAny_func ?_⟩
 obtain⟨t,ht,hq⟩:=hbody A outer s H vs Q E (hr.deeper _) hsp
 have I:Inv (cxOf CX P w K mg base N qual scope f cdv A outer s H E) [] (start N vs) H s1:=kiQ S hr.hd e0 hl r x
 refine wpAny_mono (ht [] s1 (start N vs) H _ I hq) (fun fl s' hs=>?_) fun e s' hs=>hs
 have fin:∀{σ':St}{H':Hp}{v:V}{u:Value},Inv (cxOf CX P w K mg base N qual scope f cdv A outer s H E) [] σ' H' s'→RelV v u→Q v H'→CE outer P w H s Q u s':=
  fun {σ' H' v u} J rv q=>⟨v,H',J.os,J.bare,J.base,J.hok,rv,q⟩
 cases fl with
 |ret u=>
  obtain⟨v,σ',H',J,rv,q⟩:=hs
  exact fin J rv q
 |next=>
  obtain⟨σ',H',J,q⟩:=hs
  exact fin (v:=V.non) (u:=Value.none) J rfl q
 |brk=>
  obtain⟨_,_,_,q⟩:=hs
  exact False.elim q
 |cont=>
  obtain⟨_,_,_,q⟩:=hs
  exact False.elim q
end L2
namespace L2
open PySem PySem.Spec PyProof.Rows
section
variable {X:Cx} {x:Str} {p pos:Pos} {e:Expr} {es:List Expr} {t:TA} {id T:String} {r:List V→Hp→VK→Prop}
noncomputable def tCB(r:List V→Hp→VK→Prop)(t:TA):TE:=fun σ H Q=>t σ H fun vs H1=>r vs H1 Q
theorem kaw(hc:CallR X (.builtin id) r)(hg:Gl X x)(hm:X.mg x=none)(hv:bootBuiltins x=some (.builtin id))(ha:PA X (e::es) t)(hn:x≠"__name__":=by decide)(hdb:(x==("__debug__" :Str))=false:=by decide)
  (he:starEach (e::es) X.env=(false,eval e X.env)::starEach es X.env:=by rfl) (hpl:(backTo pos (starEach es X.env)).any (·.1)=false:=by rfl):PE X (.Call (.Name x p) (e::es) [] pos) (tCB r t):=by
 intro pins s σ H Q I h
 refine wpAny_Call_Name_kw (kc8 I hg hm hv ?_ hn hdb)
 exact PyProof.Rows.callWith_builtin1 (thn (ha pos pins s σ H _ I h) fun us s1 ⟨vs,H1,I1,r1,q1⟩=>hc pins s1 σ H1 vs us Q I1 r1 q1) he hpl
theorem kaQ(hc:CallR X (.type T) r)(hg:Gl X x)(hm:X.mg x=none)(hv:bootBuiltins x=some (.type T))(ha:PA X (e::es) t)(hn:x≠"__name__":=by decide)(hdb:(x==("__debug__" :Str))=false:=by decide)
  (he:starEach (e::es) X.env=(false,eval e X.env)::starEach es X.env:=by rfl) (hpl:(backTo pos (starEach es X.env)).any (·.1)=false:=by rfl):PE X (.Call (.Name x p) (e::es) [] pos) (tCB r t):=by
 intro pins s σ H Q I h
 refine wpAny_Call_Name_kw (kc8 I hg hm hv ?_ hn hdb)
 exact PyProof.Rows.callWith_type1 (thn (ha pos pins s σ H _ I h) fun us s1 ⟨vs,H1,I1,r1,q1⟩=>hc pins s1 σ H1 vs us Q I1 r1 q1) he hpl
end
end L2
namespace HT
open PySem PyProof.Rows
section
open PySem.SeqAt
open PySem.AutoSeq1 (wpAny_loadPart')
open PySem.MeetsSeq PySem.MeetsSeq2 PySem.MeetsSeq3
end
section
variable {prog:Program} {w:World} {A:Around} {E:Value→Shared→Prop} {s:Shared}
theorem cat_tup{t b:Addr}{vs ws:List Value}{Q:Value→Shared→Prop}(ht:IsTup s.heap t vs.toArray)(hb:IsTup s.heap b ws.toArray)(hv:vs≠[])
  (h1:ws=[]→Q (.ref t) s) (h2:ws≠[]→Q (.ref s.heap.objs.size) {s with heap:=s.heap.push {cls:=.type "tuple",data:=.seq (vs++ws).toArray}})
  (hsz:vs.length+ws.length≤sizeLine):wpAny (model prog w) A (binaryOp .Add (.ref t) (.ref b)) Q E s:=by
 obtain⟨⟨cls,dd,data,sl⟩,ho,hc,n,hd⟩:=id ht
 obtain⟨⟨cls2,dd2,data2,sl2⟩,ho2,hc2,n2,hd2⟩:=id hb
 simp only at hc hd hc2 hd2
 subst hc hd hc2 hd2
 have e:vs.toArray++ws.toArray=(vs++ws).toArray:=by simp
 by_cases hw:ws=[]
 ·exact concat_meets ⟨_,ho,rfl⟩ ⟨_,ho2,rfl⟩ noFill_tuple_add seq_tuple_add MP MQ (MR _ _)
   (tuple_addW1 t b vs.toArray ws.toArray n n2 dd dd2 sl sl2 (by simpa using hv) (by simp[hw])) ⟨ho,ho2,h1 hw⟩
 ·refine concat_meets ⟨_,ho,rfl⟩ ⟨_,ho2,rfl⟩ noFill_tuple_add seq_tuple_add MP MQ (MR _ _)
   (tuple_addW2 t b vs.toArray ws.toArray n n2 dd dd2 sl sl2 (by simpa using hv) (by simpa using hw) (by rw[Jk,Jk];exact hsz)) ⟨ho,ho2,?_⟩
  rw[e]
  exact h2 hw
noncomputable def sIx(n d:Nat):Option Int→Nat
 |none=>d
 |some v=>if v<0 then(v+(n:Int)).toNat else min v.toNat n
theorem sIx_none(n d:Nat):sIx n d none=d:=rfl
theorem sIx_nat(n d k:Nat):sIx n d (some (k:Int))=min k n:=by
 show(if(k:Int)<0 then((k:Int)+(n:Int)).toNat else min (k:Int).toNat n)=min k n
 rw[if_neg (by omega),Int.toNat_natCast]
theorem klE(n d:Nat)(hd:d≤n)(o:Option Int):sIx n d o≤n:=by
 cases o with
 |none=>exact hd
 |some v=>
  show(if v<0 then(v+(n:Int)).toNat else min v.toNat n)≤n
  by_cases hv:v<0
  ·rw[if_pos hv];omega
  ·rw[if_neg hv];exact Nat.min_le_right _ _
theorem kjb(v:Int)(n d:Nat):(if v<0 then max (v+(n:Int)) 0 else min v (n:Int))=((sIx n d (some v):Nat):Int):=by
 show(if v<0 then max (v+(n:Int)) 0 else min v (n:Int))=(((if v<0 then(v+(n:Int)).toNat else min v.toNat n):Nat):Int)
 by_cases hv:v<0
 ·simp only[if_pos hv];omega
 ·simp only[if_neg hv];omega
theorem khJ(lo hi:Option Int)(n:Nat):Builtin.Slice.sliceAdjust lo hi 1 (n:Int)=(((sIx n 0 lo:Nat):Int),((sIx n n hi:Nat):Int)):=by
 have h1:¬((1:Int)<0):=by omega
 unfold Builtin.Slice.sliceAdjust
 simp only[h1,if_false]
 refine Prod.ext ?_ ?_
 ·cases lo with
  |none=>rfl
  |some v=>exact kjb v n 0
 ·cases hi with
  |none=>rfl
  |some v=>exact kjb v n n
theorem khv(i j:Nat):Builtin.Slice.slicePlaces (i:Int) (j:Int) 1=j-i:=by
 unfold Builtin.Slice.slicePlaces
 have h1:(1:Int) > 0:=by omega
 simp only[h1,if_true,Int.ediv_one]
 split <;> omega
theorem keJ{v:Value}{o:Option Int}{Q:Option Int→Shared→Prop}(p:IsPart v o)(h:Q o s):wpAny (model prog w) A (Builtin.Slice.slicePartIndex v) Q E s:=by
 cases p with
 |none=>exact slicePart_none h
 |int i t=>exact slicePart_int h
theorem kdC{sl:Addr}{vl vu:Value}{lo hi:Option Int}{n:Nat}{Q:Int×Int×Nat→Shared→Prop}(hs:s.heap.IsSliceOf sl vl vu .none)(pl:IsPart vl lo)(pu:IsPart vu hi)
  (h:Q (((sIx n 0 lo:Nat):Int),1,sIx n n hi-sIx n 0 lo) s):wpAny (model prog w) A (Builtin.Slice.sliceApplied (.ref sl) (pure (n:Int))) Q E s:=by
 obtain⟨os,hos,hcs,hds⟩:=id hs
 unfold Builtin.Slice.sliceApplied Builtin.Slice.sliceFields
 refine wpAny_bind (wpAny_bind (wpAny_field hos hds (x:=vl) rfl (wpAny_bind (wpAny_field hos hds (x:=vu) rfl (wpAny_bind (wpAny_field hos hds (x:=.none) rfl (wpAny_pure ?_)))))))
 refine wpAny_bind (slicePart_none ?_)
 show wpAny _ _ (if((1:Int)==0)=true then _ else _) _ _ s
 rw[if_neg (by decide)]
 refine wpAny_bind (keJ pl (wpAny_bind (keJ pu (wpAny_bind (wpAny_pure ?_)))))
 show wpAny _ _ (match Builtin.Slice.sliceAdjust lo hi 1 (n:Int) with|(lo,hi)=>pure (lo,(1:Int),Builtin.Slice.slicePlaces lo hi 1)) _ _ s
 rw[khJ lo hi n]
 show wpAny _ _ (pure (((sIx n 0 lo:Nat):Int),(1:Int),Builtin.Slice.slicePlaces ((sIx n 0 lo:Nat):Int) ((sIx n n hi:Nat):Int) 1)) _ _ s
 rw[khv]
 exact wpAny_pure h
theorem kjy(xs:Array Value)(i k:Nat):((U5 k).filterMap fun(m:Nat)=>xs[((i:Int)+(m:Int)*1).toNat]?).toArray=((xs.toList.drop i).take k).toArray:=by
 have e:(fun(m:Nat)=>xs[((i:Int)+(m:Int)*1).toNat]?)=fun m=>xs[i+m]?:=by
  funext m
  have:((i:Int)+(m:Int)*1).toNat=i+m:=by omega
  rw[this]
 rw[e]
 have:=pick_run xs i k
 rw[List.filterMap_map] at this
 have e2:((fun x=>xs[x]?)∘fun x=>i+x)=fun m=>xs[i+m]?:=rfl
 rw[e2] at this
 rw[this]
theorem getItem_tuple_cut{t sl:Addr}{items:Array Value}{vl vu:Value}{lo hi:Option Int}{Q:Value→Shared→Prop}(ht:IsTup s.heap t items)(hs:s.heap.IsSliceOf sl vl vu .none)(pl:IsPart vl lo)(pu:IsPart vu hi)
  (hw:¬(sIx items.size 0 lo=0∧sIx items.size items.size hi=items.size))
  (h:Q (.ref s.heap.objs.size) {s with heap:=s.heap.push {cls:=.type "tuple",data:=.seq ((items.toList.drop (sIx items.size 0 lo)).take (sIx items.size items.size hi-sIx items.size 0 lo)).toArray}})
  (hsz:items.size≤sizeLine):wpAny (model prog w) A (getItem (.ref t) (.ref sl)) Q E s:=by
 have htake:sizeOk (.seq ((items.toList.drop (sIx items.size 0 lo)).take (sIx items.size items.size hi-sIx items.size 0 lo)).toArray):=by
  show((items.toList.drop (sIx items.size 0 lo)).take (sIx items.size items.size hi-sIx items.size 0 lo)).toArray.size≤sizeLine
  rw[Jk,Jg,JW,Ni]
  omega
 have hj:sIx items.size items.size hi≤items.size:=klE _ _ (U2 _) hi
 obtain⟨os,hos,hcs,hds⟩:=id hs
 have hTs:s.TypeIs (.ref sl) "slice":=⟨os,hos,hcs⟩
 unfold getItem
 try with_reducible refine wpAny_holding ?_
 first|refine wpAny_bind (wpAny_pure ?_)|skip
 refine wpAny_bind (wpAny_sequenceKey ht.typeIs (by decide) ?_)
 refine wpAny_bind (wpAny_callSpecial?_slot (name:=Str.ofString "__getitem__") ht.typeIs PyProof.Rows.slot_tuple_getitem
  (wpAny_call_entry PyProof.Rows.slot_tuple_getitem ht.typeIs entry_tuple_getitem ?_ (args_tuple_getitem _ _)))
 show wpAny _ _ (Builtin.Tuple.tupleItemsOf (.ref t) >>= _) _ _ s
 refine wpAny_bind (tupleItemsOf_ ht ?_)
 refine wpAny_bind (wpAny_typeOf hTs ?_)
 rw[if_pos (by decide)]
 refine wpAny_bind (kdC hs pl pu ?_)
 have hno:¬((((sIx items.size 0 lo:Nat):Int)==0&&(1:Int)==1&&(sIx items.size items.size hi-sIx items.size 0 lo)==items.size)=true):=by
  intro q
  rw[Nk,Nk] at q
  have q1:((sIx items.size 0 lo:Nat):Int)=0:=eq_of_beq q.1.1
  have q2:sIx items.size items.size hi-sIx items.size 0 lo=items.size:=eq_of_beq q.2
  exact hw ⟨by omega,by omega⟩
 show wpAny _ _ (if(((sIx items.size 0 lo:Nat):Int)==0&&(1:Int)==1&&(sIx items.size items.size hi-sIx items.size 0 lo)==items.size)=true then _ else _) _ _ s
 rw[if_neg hno,kjy]
 first
  |exact wpAny_bind (m:=Builtin.Tuple.tupleExact _) (wpAny_newObj_type (wpAny_pure ⟨_,rfl,wpAny_pure h⟩) htake)
  |exact wpAny_bind (m:=Builtin.Tuple.tupleExact _) (wpAny_newObj_type (wpAny_bind (wpAny_pure (wpAny_pure ⟨_,rfl,wpAny_pure h⟩))) htake)
  |exact wpAny_bind (wpAny_bind (m:=Builtin.Tuple.tupleExact _) (wpAny_newObj_type (wpAny_pure (wpAny_pure ⟨_,rfl,wpAny_pure h⟩)) htake))
  |exact wpAny_bind (wpAny_bind (m:=Builtin.Tuple.tupleExact _) (wpAny_newObj_type (wpAny_pure ⟨_,rfl,wpAny_pure h⟩) htake))
end
end HT
namespace L2
open PySem PySem.Spec PyProof.Rows
noncomputable abbrev TO:=St→Hp→(Option Int→Hp→Prop)→Prop
noncomputable def PO(X:Cx)(e:Option Expr)(t:TO):Prop:=
 ∀(pins:List (Addr×Obj))(s:Shared)(σ:St)(H:Hp)(Q:Option Int→Hp→Prop),Inv X pins σ H s→t σ H Q→
  wpAny (model X.prog X.w) X.A (evalPart e X.env) (fun u s'=>∃o H',Inv X pins σ H' s'∧IsPart u o∧Q o H') X.xe s
noncomputable def kkO:TO:=fun _ H Q=>Q none H
noncomputable def tPart(t:TE):TO:=fun σ H Q=>t σ H fun x H1=>∃i,x=.int i∧Q (some i) H1
theorem intsAre_of{ns:List Int}:∀{us:List Value},Vals (ns.map V.int) us→IntsAre us ns:=by
 induction ns with
 |nil=>intro us r;rw[Nl] at r;cases r;exact .nil
 | cons n ns ih=>
  intro us r
  rw[Ji] at r
  cases r with
  |cons r1 r2=>
   obtain⟨t,e⟩:=r1
   subst e
   exact .cons n t (ih r2)
section
variable {X:Cx} {e:Expr} {te:TE} {lo hi:Option Expr} {tl th:TO} {pos p2:Pos}
theorem kcw:PO X none kkO:=by
 intro pins s σ H Q I h
 rw[evalPart_none]
 exact wpAny_pure ⟨none,H,I, .none,h⟩
theorem kbz(h:PE X e te):PO X (some e) (tPart te):=by
 intro pins s σ H Q I hw
 rw[evalPart_some]
 refine thn (h pins s σ H _ I hw) fun u s1 ⟨x,H1,I1,r1,q1⟩=>?_
 obtain⟨i,rfl,q⟩:=q1
 obtain⟨t,rfl⟩:=r1
 exact⟨some i,H1,I1, .int i t,q⟩
noncomputable def SlR(X:Cx)(r:V→Option Int→Option Int→Hp→VK→Prop):Prop:=
 ∀(pins:List (Addr×Obj))(s:Shared)(σ:St)(H:Hp)(x:V)(v vl vu:Value)(lo hi:Option Int)(sl:Addr)(Q:VK),Inv X pins σ H s→RelV x v→s.heap.IsSliceOf sl vl vu .none→IsPart vl lo→IsPart vu hi→r x lo hi H Q→
  ∃T id,typeLookup (.type T) "__getitem__"=pure (some (.builtin id))∧s.TypeIs v T∧wpAny (model X.prog X.w) X.A (getItem v (.ref sl)) (EP X pins σ Q) X.xe s
theorem SlR.or{r r':V→Option Int→Option Int→Hp→VK→Prop}(h:SlR X r)(h':SlR X r'):SlR X (fun x lo hi H Q=>r x lo hi H Q∨r' x lo hi H Q):=by
 intro pins s σ H x v vl vu lo hi sl Q I rx hs pl pu q
 rcases q with q|q
 ·exact h pins s σ H x v vl vu lo hi sl Q I rx hs pl pu q
 ·exact h' pins s σ H x v vl vu lo hi sl Q I rx hs pl pu q
noncomputable def tSl(r:V→Option Int→Option Int→Hp→VK→Prop)(te:TE)(tl th:TO):TE:=fun σ H Q=>te σ H fun x H1=>tl σ H1 fun l H2=>th σ H2 fun u H3=>r x l u H3 Q
theorem kbo{r:V→Option Int→Option Int→Hp→VK→Prop}(hr:SlR X r)(he:PE X e te)(hl:PO X lo tl)(hu:PO X hi th):PE X (.Subscript e (.Slice lo hi none p2) pos) (tSl r te tl th):=by
 intro pins s σ H Q I h
 refine Subscript_ (thn (he pins s σ H _ I h) fun v s1 ⟨x,H1,I1,r1,q1⟩=>?_)
 refine wpAny_Slice (thn (hl pins s1 σ H1 _ I1 q1) fun vl s2 ⟨l,H2,I2,pl,q2⟩=>thn (hu pins s2 σ H2 _ I2 q2) fun vu s3 ⟨u,H3,I3,pu,q3⟩=>?_)
 rw[evalPart_none]
 refine wpAny_pure ?_
 have I4:Inv X pins σ H3 {s3 with heap:=s3.heap.push {cls:=.type "slice",data:=.fields #[vl,vu, .none]}}:=I3.kept (t':=s3.toks) fun b ob q=>Heap.get?_push_of_some _ q
 obtain⟨T,id,hT,ht,hg⟩:=hr pins {s3 with heap:=s3.heap.push {cls:=.type "slice",data:=.fields #[vl,vu, .none]}} σ H3 x v vl vu l u s3.heap.objs.size Q I4 r1 (Heap.IsSliceOf.new ..) pl pu q3
 show wpAny (model X.prog X.w) X.A (subscriptTail e (.Slice lo hi none p2) v (.ref s3.heap.objs.size)) (EP X pins σ Q) X.xe {s3 with heap:=s3.heap.push {cls:=.type "slice",data:=.fields #[vl,vu, .none]}}
 exact tail_any (ops:=[.ref s3.heap.objs.size,v]) ht hT hg (by with_unfolding_all rfl)
noncomputable def cutV(xs:List V)(lo hi:Option Int):List V:=(xs.drop (HT.sIx xs.length 0 lo)).take (HT.sIx xs.length xs.length hi-HT.sIx xs.length 0 lo)
theorem ker(xs:List V)(lo hi:Option Int):(cutV xs lo hi).length≤xs.length:=by
 unfold cutV
 rw[Jg,JW]
 omega
noncomputable def rSlT(K:U1):V→Option Int→Option Int→Hp→VK→Prop:=fun x lo hi H Q=>∃a xs,x=.ref a∧SqT K H a xs∧
 ¬(HT.sIx xs.length 0 lo=0∧HT.sIx xs.length xs.length hi=xs.length)∧∀p,H p=none→Q (.ref p) (upd H p (.tup (cutV xs lo hi)))
theorem klD:SlR X (rSlT X.K):=by
 intro pins s σ H x v vl vu lo hi sl Q I rx hs pl pu h
 obtain⟨a,xs,rfl,hx,hw,q⟩:=h
 cases rx
 obtain⟨its,r,ht,hz⟩:=I.tuple hx
 have hlen:its.toArray.size=xs.length:=by rw[Jk];exact r.length.symm
 refine⟨"tuple",_,PyProof.Rows.slot_tuple_getitem.lookup,ht.typeIs,?_⟩
 refine HT.getItem_tuple_cut ht hs pl pu (by rw[hlen];exact hw) ?_ (by rw[hlen];exact hz)
 rw[hlen]
 refine⟨.ref s.heap.objs.size,_,I.laid (t':=s.toks) (o:=.tup (cutV xs lo hi)) (fun b ob q=>Heap.get?_push_of_some _ q) (U2 _) ?_,rfl,q _ (I.hok.fresh (U2 _))⟩
 exact⟨U4 (ker xs lo hi) hz,_,(r.drop (HT.sIx xs.length 0 lo)).take (HT.sIx xs.length xs.length hi-HT.sIx xs.length 0 lo),IsTup.new _ _⟩
noncomputable def rCatT(K:U1):R2:=fun x y H Q=>∃a b xs ys,x=.ref a∧y=.ref b∧SqT K H a xs∧SqT K H b ys∧xs≠[]∧xs.length+ys.length≤sizeLine∧
 (ys=[]→Q (.ref a) H)∧(ys≠[]→∀p,H p=none→Q (.ref p) (upd H p (.tup (xs++ys))))
theorem Vals.nil_iff{xs:List V}{us:List Value}(r:Vals xs us):us=[]↔xs=[]:=by
 cases r with
 |nil=>simp
 |cons _ _=>simp
theorem kix:OpR X (binaryOp .Add) (rCatT X.K):=by
 intro pins s σ H x y v u Q I rx ry h
 obtain⟨a,b,xs,ys,rfl,rfl,ha,hb,hx,hz,q1,q2⟩:=h
 cases rx
 cases ry
 obtain⟨its,r1,p1,_⟩:=I.tuple ha
 obtain⟨its2,r2,p2,_⟩:=I.tuple hb
 refine HT.cat_tup p1 p2 (fun z=>hx (r1.nil_iff.mp z)) (fun z=>⟨.ref a,H,I,rfl,q1 (r2.nil_iff.mp z)⟩) (fun z=>?_) (by rw[←r1.length,←r2.length];exact hz)
 refine⟨.ref s.heap.objs.size,_,I.laid (t':=s.toks) (o:=.tup (xs++ys)) (fun b ob q=>Heap.get?_push_of_some _ q) (U2 _) ?_,rfl,q2 (fun w=>z (r2.nil_iff.mpr w)) _ (I.hok.fresh (U2 _))⟩
 exact⟨by rw[Jh];exact hz,_,r1.append r2,IsTup.new _ _⟩
end
end L2
namespace L2
open PySem PySem.Spec PyProof.Rows
noncomputable def ixN(n:Nat)(i:Int):Option Nat:=if 0≤i then(if i<n then some i.toNat else none) else if -(n:Int)≤i then some (i+n).toNat else none
noncomputable def atI{α:Type}(xs:List α)(i:Int):Option α:=(ixN xs.length i).bind fun j=>xs[j]?
def kiM{n:Nat}{i:Int}{j:Nat}(h:ixN n i=some j):seqIndex? i n=some j∧j<n∧-(n:Int)≤i∧i<n:=by
 unfold ixN at h
 by_cases h0:0≤i
 ·rw[if_pos h0] at h
  by_cases h1:i<n
  ·rw[if_pos h1] at h
   have e:i.toNat=j:=Option.some.inj h
   exact⟨by rw[seqIndex_of h0 h1,e],by omega,by omega,h1⟩
  ·rw[if_neg h1] at h;cases h
 ·rw[if_neg h0] at h
  by_cases h1: -(n:Int)≤i
  ·rw[if_pos h1] at h
   have e:(i+n).toNat=j:=Option.some.inj h
   exact⟨by rw[seqIndex_neg (by omega) h1,e],by omega,h1,by omega⟩
  ·rw[if_neg h1] at h;cases h
theorem kji{α:Type}{xs:List α}{i:Int}{v: α}(h:atI xs i=some v):∃j,seqIndex? i xs.length=some j∧xs[j]?=some v∧j<xs.length∧-(xs.length:Int)≤i∧i<xs.length:=by
 unfold atI at h
 cases e:ixN xs.length i with
 |none=>rw[e] at h;cases h
 |some j=>
  rw[e] at h
  obtain⟨h1,h2,h3,h4⟩:=kiM e
  exact⟨j,h1,h,h2,h3,h4⟩
def kaW{α:Type}{xs:List α}{j:Nat}{v: α}(h:xs[j]?=some v):atI xs (j:Int)=some v:=by
 have hj:j<xs.length:=(Ja.mp h).1
 have e:ixN xs.length (j:Int)=some j:=by
  unfold ixN
  rw[if_pos (by omega),if_pos (by omega)];simp
 unfold atI;rw[e];exact h
noncomputable def klx(b:Expr):Prop:=∀o i,subscripted b false o i=operate [o,i] (getItem o i)
noncomputable def IxR(X:Cx)(r:R2):Prop:=
 ∀(value slice:Expr)(pins:List (Addr×Obj))(s:Shared)(σ:St)(H:Hp)(x y:V)(v u:Value)(Q:VK),Inv X pins σ H s→RelV x v→RelV y u→r x y H Q→
  subscripted slice false v u=operate [v,u] (getItem v u)→wpAny (model X.prog X.w) X.A (subscriptTail value slice v u) (EP X pins σ Q) X.xe s
noncomputable def MtR(X:Cx)(id:String)(r:V→List V→Hp→VK→Prop):Prop:=
 ∀(pins:List (Addr×Obj))(s:Shared)(σ:St)(H:Hp)(x:V)(xs:List V)(v:Value)(us:List Value)(Q:VK),Inv X pins σ H s→RelV x v→Vals xs us→r x xs H Q→
  wpAny (model X.prog X.w) X.A (call (.builtin id) (v::us)) (EP X pins σ Q) X.xe s
section
variable {X:Cx} {a b:Expr} {ta tb:TE} {pos:Pos}
theorem IxR.or{r r':R2}(h:IxR X r)(h':IxR X r'):IxR X (fun x y H Q=>r x y H Q∨r' x y H Q):=by
 intro value slice pins s σ H x y v u Q I rx ry q hs
 rcases q with q|q
 ·exact h value slice pins s σ H x y v u Q I rx ry q hs
 ·exact h' value slice pins s σ H x y v u Q I rx ry q hs
theorem MtR.or{id:String}{r r':V→List V→Hp→VK→Prop}(h:MtR X id r)(h':MtR X id r'):MtR X id (fun x xs H Q=>r x xs H Q∨r' x xs H Q):=by
 intro pins s σ H x xs v us Q I rx rs q
 rcases q with q|q
 ·exact h pins s σ H x xs v us Q I rx rs q
 ·exact h' pins s σ H x xs v us Q I rx rs q
theorem pe_ix{r:R2}(hr:IxR X r)(ha:PE X a ta)(hb:PE X b tb)(hs:klx b):PE X (.Subscript a b pos) (tOp r ta tb):=by
 intro pins s σ H Q I h
 exact Subscript_ (binT ha hb I h fun v u s2 x y H2 I2 rx ry q=>hr a b pins s2 σ H2 x y v u Q I2 rx ry q (hs _ _))
noncomputable def rIxL(K:U1):R2:=fun x y H Q=>∃p xs i v,x=.ref p∧y=.int i∧SqL K H p xs∧atI xs i=some v∧Q v H
noncomputable def rIxT(K:U1):R2:=fun x y H Q=>∃p xs i v,x=.ref p∧y=.int i∧SqT K H p xs∧atI xs i=some v∧Q v H
theorem kaK:IxR X (rIxL X.K):=by
 intro value slice pins s σ H x y v u Q I rx ry h hs
 obtain⟨p,xs,i,z,rfl,rfl,hq,he,q⟩:=h
 cases rx
 obtain⟨t,rfl⟩:=ry
 obtain⟨its,r,pl,hz⟩:=I.list hq
 obtain⟨j,h1,h2,h3,h4,h5⟩:=kji he
 obtain⟨w,ew,rw'⟩:=r.get h2
 have hl:=r.length
 have hn:=kha
 have fin:EP X pins σ Q w s:=⟨z,H,I,rw',q⟩
 by_cases h0:0≤i
 ·have hj:i.toNat=j:=by
   rw[seqIndex_of h0 h5] at h1
   exact Option.some.inj h1
  exact item_listR pl.isList h0 (by omega) (by rw[hj];simpa using ew) fin hs
 ·have hj:(i+(its.toArray.size:Int)).toNat=j:=by
   rw[seqIndex_neg (by omega) h4] at h1
   rw[Jk,←hl]
   exact Option.some.inj h1
  exact subscriptTail_builtinR (x:=w) pl.isList.typeIs slot_list_getitem.lookup
   (wpAny_getItem_list_neg (Q:=fun r s'=>r=w∧EP X pins σ Q r s') pl.isList (by omega) (by rw[Jk] <;> omega) (by omega) (by rw[hj];simpa using ew) ⟨rfl,fin⟩) hs
theorem klW:IxR X (rIxT X.K):=by
 intro value slice pins s σ H x y v u Q I rx ry h hs
 obtain⟨p,xs,i,z,rfl,rfl,hq,he,q⟩:=h
 cases rx
 obtain⟨t,rfl⟩:=ry
 obtain⟨its,r,pl,hz⟩:=I.tuple hq
 obtain⟨j,h1,h2,h3,h4,h5⟩:=kji he
 obtain⟨w,ew,rw'⟩:=r.get h2
 have hl:=r.length
 have hn:=kha
 have fin:EP X pins σ Q w s:=⟨z,H,I,rw',q⟩
 exact subscriptTail_builtinR (x:=w) pl.typeIs slot_tuple_getitem.lookup
  (getItem_tuple (j:=j) (Q:=fun r s'=>r=w∧EP X pins σ Q r s') pl (by omega) (by omega) (by rw[Jk,←hl];exact h1) (by simpa using ew) ⟨rfl,fin⟩) hs
theorem khA(its:List Value)(n j:Nat)(u:Value):Obj.mapSeq (·.setIfInBounds j u) {cls:=.type "list",data:=.seq its.toArray n}= {cls:=.type "list",data:=.seq (its.set j u).toArray n}:=by
 simp[Obj.mapSeq]
theorem Inv.lst{pins:List (Addr×Obj)}{σ:St}{H:Hp}{s:Shared}{p:Addr}{xs:List V}(I:Inv X pins σ H s)(h:H p=some (.lst xs)):
  ∃(its:List Value)(n:Nat),Vals xs its∧s.heap.get? p=some {cls:=.type "list",data:=.seq its.toArray n}∧xs.length≤sizeLine:=by
 obtain⟨z,its,n,r,e⟩:=I.hok p _ h
 exact⟨its,n,r,e,z⟩
theorem Inv.lstUpd{pins:List (Addr×Obj)}{σ:St}{H:Hp}{s:Shared}{p:Addr}{xs ys:List V}{its its':List Value}{n n':Nat}{f:Obj→Obj}(I:Inv X pins σ H s)(h:H p=some (.lst xs))
  (ho:s.heap.get? p=some {cls:=.type "list",data:=.seq its.toArray n}) (hf:f {cls:=.type "list",data:=.seq its.toArray n}= {cls:=.type "list",data:=.seq its'.toArray n'}) (r:Vals ys its') (hz:ys.length≤sizeLine) (t:Nat):
  Inv X pins σ (upd H p (.lst ys)) {s with heap:=s.heap.update p f,toks:=t}:=by
 have e:(s.heap.update p f).get? p=some {cls:=.type "list",data:=.seq its'.toArray n'}:=by
  rw[Heap.get?_update_self f ho (by rw[hf] <;> rfl),hf]
 refine I.write (x:=p) (e:=p) (by rw[h];trivial) (.inl rfl) (fun b u hb q=>(Heap.get?_update_other _ _ (Ne.symm hb)).trans q) ⟨_,e⟩ ?_
 exact⟨hz,its',n',r,e⟩
noncomputable def rSetL:V→V→V→Hp→(Hp→Prop)→Prop:=fun o i v H Q=>∃p xs k j,o=.ref p∧i=.int k∧H p=some (.lst xs)∧ixN xs.length k=some j∧Q (upd H p (.lst (xs.set j v)))
theorem set_list:PSet X rSetL:=by
 intro pins s σ H o i v ov iv u Q I ro ri rv h
 obtain⟨p,xs,k,j,rfl,rfl,hp,hj,q⟩:=h
 cases ro
 obtain⟨t,rfl⟩:=ri
 obtain⟨its,n,r,ho,hz⟩:=I.lst hp
 obtain⟨h1,h2,h3,h4⟩:=kiM hj
 have hl:=r.length
 have hn:=kha
 have I':Inv X pins σ (upd H p (.lst (xs.set j v))) {s with heap:=s.heap.update p (Obj.mapSeq (·.setIfInBounds j u))}:=
  I.lstUpd hp ho (khA its n j u) (r.set rv j) (by rw[List.length_set];exact hz) s.toks
 by_cases h0:0≤k
 ·have hk:k.toNat=j:=by
   rw[seqIndex_of h0 h4] at h1
   exact Option.some.inj h1
  exact PySem.W.ki_setAt ho h0 (by omega) (by rw[Jk,←hl];exact h4) (by rw[hk];exact⟨_,I',q⟩)
 ·have hk:(k+(its.toArray.size:Int)).toNat=j:=by
   rw[seqIndex_neg (by omega) h3] at h1
   rw[Jk,←hl]
   exact Option.some.inj h1
  exact PySem.W.ki_setBack ho (by omega) (by rw[Jk,←hl];exact h3) (by omega) (by rw[hk];exact⟨_,I',q⟩)
theorem kfz(lo hi:Option Int)(n:Nat):(sliceBounds lo hi none n).1=((HT.sIx n 0 lo:Nat):Int)∧(sliceBounds lo hi none n).2.1=((HT.sIx n n hi:Nat):Int)∧(sliceBounds lo hi none n).2.2=1:=by
 refine⟨?_,?_,rfl⟩
 ·cases lo with
  |none=>simp[sliceBounds,HT.sIx]
  |some i=>
   simp only[sliceBounds,HT.sIx,Mt,show(1:Int) > 0 by decide,if_true]
   by_cases h:i<0
   ·simp only[h,if_true] <;> omega
   ·simp only[h,if_false] <;> omega
 ·cases hi with
  |none=>simp[sliceBounds,HT.sIx]
  |some i=>
   simp only[sliceBounds,HT.sIx,Mt,show(1:Int) > 0 by decide,if_true]
   by_cases h:i<0
   ·simp only[h,if_true] <;> omega
   ·simp only[h,if_false] <;> omega
theorem keZ(its:List Value)(lo hi:Option Int):slicePick its.toArray lo hi none=((its.drop (HT.sIx its.length 0 lo)).take (HT.sIx its.length its.length hi-HT.sIx its.length 0 lo)).toArray:=by
 obtain⟨h1,h2,h3⟩:=kfz lo hi its.toArray.size
 unfold slicePick
 rw[h1,h2,h3]
 simp only[sliceRange_one,pick_run,Jk] <;> rfl
noncomputable def rSlL(K:U1):V→Option Int→Option Int→Hp→VK→Prop:=fun x lo hi H Q=>∃a xs,x=.ref a∧SqL K H a xs∧∀p,H p=none→Q (.ref p) (upd H p (.lst (cutV xs lo hi)))
theorem kcb:SlR X (rSlL X.K):=by
 intro pins s σ H x v vl vu lo hi sl Q I rx hs pl pu h
 obtain⟨a,xs,rfl,hx,q⟩:=h
 cases rx
 obtain⟨its,r,ht,hz⟩:=I.list hx
 have hlen:=r.length
 refine⟨"list",_,slot_list_getitem.lookup,ht.isList.typeIs,?_⟩
 refine wpAny_getItem_list_slice ht.isList hs pl pu .none (by simp) ?_ (by rw[Jk] <;> omega)
 rw[keZ,←hlen]
 refine⟨.ref s.heap.objs.size,_,I.laid (t':=s.toks) (o:=.lst (cutV xs lo hi)) (fun b ob q=>Heap.get?_push_of_some _ q) (U2 _) ?_,rfl,q _ (I.hok.fresh (U2 _))⟩
 exact⟨U4 (ker xs lo hi) hz,_,0,(r.drop (HT.sIx xs.length 0 lo)).take (HT.sIx xs.length xs.length hi-HT.sIx xs.length 0 lo),Heap.get?_push_size _ rfl⟩
noncomputable def flatV:V→Bool
 | .non=>true
 | .bl _=>true
 | .int _=>true
 | .str _=>true
 |_=>false
noncomputable def eqV:V→V→Bool
 | .non, .non=>true
 | .bl a, .bl b=>a==b
 | .bl a, .int b=>(if a then 1 else 0)==b
 | .int a, .bl b=>a==(if b then 1 else 0)
 | .int a, .int b=>a==b
 | .str a, .str b=>a==b
 |_,_=>false
theorem kkC{A:Around}{s:Shared}{y x:V}{u v:Value}(ry:RelV y u)(rx:RelV x v)(fy:flatV y=true)(fx:flatV x=true):SeqAt.EqAt A s u v (eqV y x):=by
 cases y with
 |non=>
  cases ry
  cases x with
  |non=>cases rx;exact SeqAt.EqAt.same _
  |bl b=>cases rx;exact SeqAt.EqAt.none_bool b
  |int b=>obtain⟨t,rfl⟩:=rx;exact SeqAt.EqAt.none_int b t
  |str b=>obtain⟨t,rfl⟩:=rx;exact SeqAt.EqAt.none_str b t
  |_=>exact absurd (show false=true from fx) U8
 |bl a=>
  cases ry
  cases x with
  |non=>cases rx;exact SeqAt.EqAt.bool_none a
  |bl b=>cases rx;exact SeqAt.EqAt.bool_bool a b
  |int b=>obtain⟨t,rfl⟩:=rx;exact SeqAt.EqAt.bool_int a b t
  |str b=>obtain⟨t,rfl⟩:=rx;exact SeqAt.EqAt.bool_str a b t
  |_=>exact absurd (show false=true from fx) U8
 |int a=>
  obtain⟨t',rfl⟩:=ry
  cases x with
  |non=>cases rx;exact SeqAt.EqAt.int_none a t'
  |bl b=>cases rx;exact SeqAt.EqAt.int_bool a t' b
  |int b=>obtain⟨t,rfl⟩:=rx;exact SeqAt.EqAt.int_int a t' b t
  |str b=>obtain⟨t,rfl⟩:=rx;exact SeqAt.EqAt.int_str a t' b t
  |_=>exact absurd (show false=true from fx) U8
 |str a=>
  obtain⟨t',rfl⟩:=ry
  cases x with
  |non=>cases rx;exact SeqAt.EqAt.str_none a t'
  |bl b=>cases rx;exact SeqAt.EqAt.str_bool a t' b
  |int b=>obtain⟨t,rfl⟩:=rx;exact SeqAt.EqAt.str_int a t' b t
  |str b=>obtain⟨t,rfl⟩:=rx;exact SeqAt.EqAt.str_str a t' b t
  |_=>exact absurd (show false=true from fx) U8
 |_=>exact absurd (show false=true from fy) U8
noncomputable def eqU(x:V)(u:Value):Bool:=match u with
 | .none=>eqV .non x
 | .bool b=>eqV (.bl b) x
 | .int i _=>eqV (.int i) x
 | .str z _=>eqV (.str z) x
 |_=>false
theorem kkB{x y:V}{u:Value}(r:RelV y u)(f:flatV y=true):eqU x u=eqV y x:=by
 cases y with
 |non=>cases r;rfl
 |bl b=>cases r;rfl
 |int i=>obtain⟨t,rfl⟩:=r;rfl
 |str z=>obtain⟨t,rfl⟩:=r;rfl
 |_=>exact absurd (show false=true from f) U8
theorem kev{x:V}:∀{xs:List V}{us:List Value},Vals xs us→xs.all flatV=true→us.any (eqU x)=xs.any fun y=>eqV y x
 |_,_, .nil,_=>rfl
 |y::xs,u::us, .cons r t,f=>by
  rw[List.all_cons,Nk] at f
  rw[JX,JX,kkB r f.1,kev t f.2]
theorem kc6{A:Around}{s:Shared}{x:V}{v:Value}(rx:RelV x v)(fx:flatV x=true):∀{xs:List V}{us:List Value},Vals xs us→xs.all flatV=true→∀u∈us,SeqAt.EqAt A s u v (eqU x u)
 |_,_, .nil,_=>fun u hu=>by cases hu
 |y::xs,u::us, .cons r t,f=>fun u' hu=>by
  rw[List.all_cons,Nk] at f
  rcases Jr.mp hu with rfl|hu
  ·rw[kkB r f.1];exact kkC r rx f.1 fx
  ·exact kc6 rx fx t f.2 u' hu
noncomputable def inV(x:V)(xs:List V):Bool:=xs.any fun y=>eqV y x
noncomputable def rIn(K:U1)(neg:Bool):R2:=fun x y H Q=>∃p xs,y=.ref p∧(SqL K H p xs∨SqT K H p xs)∧flatV x=true∧xs.all flatV=true∧Q (.bl (if neg then !inV x xs else inV x xs)) H
theorem kb8:OpR X (compareOp .In) (rIn X.K false):=by
 intro pins s σ H x y v u Q I rx ry h
 obtain⟨p,xs,rfl,hq,fx,fs,q⟩:=h
 cases ry
 rcases hq with hq|hq
 ·obtain⟨its,r,pl,hz⟩:=I.list hq
  refine SeqAt.in_listAt (eqU x) pl.isList (fun w hw=>kc6 rx fx r fs w (by simpa using hw)) ⟨.bl _,H,I,rfl,?_⟩
  rw[show its.toArray.any (eqU x)=its.any (eqU x) by simp,kev r fs]
  exact q
 ·obtain⟨its,r,pl,hz⟩:=I.tuple hq
  refine SeqAt.in_tupleAt (eqU x) pl (fun w hw=>kc6 rx fx r fs w (by simpa using hw)) ⟨.bl _,H,I,rfl,?_⟩
  rw[show its.toArray.any (eqU x)=its.any (eqU x) by simp,kev r fs]
  exact q
theorem kfI:OpR X (compareOp .NotIn) (rIn X.K true):=by
 intro pins s σ H x y v u Q I rx ry h
 obtain⟨p,xs,rfl,hq,fx,fs,q⟩:=h
 cases ry
 rcases hq with hq|hq
 ·obtain⟨its,r,pl,hz⟩:=I.list hq
  refine SeqAt.notIn_listAt (eqU x) pl.isList (fun w hw=>kc6 rx fx r fs w (by simpa using hw)) ⟨.bl _,H,I,rfl,?_⟩
  rw[show its.toArray.any (eqU x)=its.any (eqU x) by simp,kev r fs]
  exact q
 ·obtain⟨its,r,pl,hz⟩:=I.tuple hq
  refine SeqAt.notIn_tupleAt (eqU x) pl (fun w hw=>kc6 rx fx r fs w (by simpa using hw)) ⟨.bl _,H,I,rfl,?_⟩
  rw[show its.toArray.any (eqU x)=its.any (eqU x) by simp,kev r fs]
  exact q
theorem kaI:CallR X (.builtin "len") (fun xs H Q=>∃p ys,xs=[.ref p]∧(SqL X.K H p ys∨SqT X.K H p ys)∧Q (.int ys.length) H):=by
 intro pins s σ H xs us Q I r h
 obtain⟨p,ys,rfl,hq,q⟩:=h
 obtain⟨u,rfl,rx⟩:=vals1 r
 cases rx
 have hn:=kha
 rcases hq with hq|hq
 ·obtain⟨its,r',pl,hz⟩:=I.list hq
  have hlen:=r'.length
  exact Calls.call_len_list pl.isList (by simp only[Jk] <;> omega) ⟨.int ys.length,H,I.tok _,⟨s.toks+1,by rw[Jk,hlen]⟩,q⟩
 ·obtain⟨its,r',pl,hz⟩:=I.tuple hq
  have hlen:=r'.length
  exact len_tuple pl (by simp only[Jk] <;> omega) ⟨.int ys.length,H,I.tok _,⟨s.toks+1,by rw[Jk,hlen]⟩,q⟩
theorem CallR.or{f:Value}{r r':List V→Hp→VK→Prop}(h:CallR X f r)(h':CallR X f r'):CallR X f (fun xs H Q=>r xs H Q∨r' xs H Q):=by
 intro pins s σ H xs us Q I rs q
 rcases q with q|q
 ·exact h pins s σ H xs us Q I rs q
 ·exact h' pins s σ H xs us Q I rs q
theorem kaE:CallR X (.type "list") (fun xs H Q=>∃p ys,xs=[.ref p]∧(SqL X.K H p ys∨SqT X.K H p ys)∧∀l,H l=none→Q (.ref l) (upd H l (.lst ys))):=by
 intro pins s σ H xs us Q I r h
 obtain⟨p,ys,rfl,hq,q⟩:=h
 obtain⟨u,rfl,rx⟩:=vals1 r
 cases rx
 have fin:∀(its:List Value),Vals ys its→ys.length≤sizeLine→∀(h':Heap)(c':Nat),(∀b o',s.heap.get? b=some o'→h'.get? b=some o')→
   h'.get? s.heap.objs.size=some {cls:=.type "list",dict:=none,data:=.seq its.toArray c',slots:=#[]}→EP X pins σ Q (.ref s.heap.objs.size) {s with heap:=h'}:=fun its r' hz h' c' kp e=>
  ⟨.ref s.heap.objs.size,_,I.laid (t':=s.toks) kp (U2 _) (show ObjOk X.prog X.w _ h' _ (.lst ys) from⟨hz,its,c',r',e⟩),rfl,q _ (I.hok.fresh (U2 _))⟩
 rcases hq with hq|hq
 ·obtain⟨its,r',pl,hz⟩:=I.list hq
  have hlen:=r'.length
  obtain⟨o,ho,hc,n,hd⟩:=pl.isList
  exact call_list_seq p (.inl rfl) ho hc hd (fun h' c' kp e=>fin its r' hz h' c' kp e) (by simp only[Jk] <;> omega)
 ·obtain⟨its,r',pl,hz⟩:=I.tuple hq
  have hlen:=r'.length
  obtain⟨o,ho,hc,n,hd⟩:=pl
  exact call_list_seq p (.inr rfl) ho hc hd (fun h' c' kp e=>fin its r' hz h' c' kp e) (by simp only[Jk] <;> omega)
theorem kfo:CallR X (.type "tuple") (fun xs H Q=>∃p ys,xs=[.ref p]∧((SqL X.K H p ys∧∀l,H l=none→Q (.ref l) (upd H l (.tup ys)))∨(SqT X.K H p ys∧Q (.ref p) H))):=by
 intro pins s σ H xs us Q I r h
 obtain⟨p,ys,rfl,h⟩:=h
 obtain⟨u,rfl,rx⟩:=vals1 r
 cases rx
 rcases h with⟨hq,q⟩|⟨hq,q⟩
 ·obtain⟨its,r',pl,hz⟩:=I.list hq
  have hlen:=r'.length
  refine call_tuple_list pl.isList (fun h' kp=>?_) (by simp only[Jk] <;> omega)
  have I1:Inv X pins σ H {s with heap:=h'}:=I.kept (t':=s.toks) kp
  have I2:Inv X pins σ (upd H h'.objs.size (.tup ys)) {s with heap:=h'.push {cls:=.type "tuple",data:=.seq its.toArray}}:=
   I1.laid (t':=s.toks) (fun b o e=>Heap.get?_push_of_some _ e) (U2 _) (show ObjOk X.prog X.w _ _ _ (.tup ys) from⟨hz,its,r',IsTup.new _ _⟩)
  exact⟨.ref h'.objs.size,_,I2,rfl,q _ (I1.hok.fresh (U2 _))⟩
 ·obtain⟨its,r',pl,hz⟩:=I.tuple hq
  exact call_tuple_same pl ⟨.ref p,H,I,rfl,q⟩
noncomputable def tyV(K:U1)(T:String)(x:V)(H:Hp):Prop:=match x with
 | .str _=>T="str"
 | .int _=>T="int"
 | .ref p=>(T="list"∧∃xs,SqL K H p xs)∨(T="tuple"∧∃o,K.lookup p=some o∧o.cls=.type "tuple"∧o.dict=none)∨
   (T="dict"∧((∃kvs,H p=some (.dK kvs))∨∃kvs,H p=some (.dT kvs)))∨(T="set"∧∃S n,H p=some (.set S n))
 |_=>False
theorem kka{pins:List (Addr×Obj)}{σ:St}{H:Hp}{s:Shared}{T:String}{x:V}{v:Value}(I:Inv X pins σ H s)(r:RelV x v)(ty:tyV X.K T x H):
  s.TypeIs v T∧∀a,v=.ref a→∃ob,s.heap.get? a=some ob∧ob.dict=none:=by
 cases x with
 |str z=>
  obtain⟨t,rfl⟩:=r
  cases(show T="str" from ty)
  exact⟨typeIs_str s z t,fun _ e=>nomatch e⟩
 |int i=>
  obtain⟨t,rfl⟩:=r
  cases(show T="int" from ty)
  exact⟨typeIs_int s i t,fun _ e=>nomatch e⟩
 | ref p=>
  cases r
  rcases ty with⟨rfl,xs,hq⟩|⟨rfl,o,hk,hc,hd⟩|⟨rfl,hk⟩|⟨rfl,S,n,hk⟩
  ·obtain⟨its,_,pl,_⟩:=I.list hq
   refine⟨pl.isList.typeIs,fun a e=>?_⟩
   cases e
   obtain⟨o,n,e,c,hd,_⟩:=pl
   exact⟨o,e,hd⟩
  ·refine⟨⟨o,I.kIn p o hk,hc⟩,fun a e=>?_⟩
   cases e
   exact⟨o,I.kIn _ o hk,hd⟩
  ·have z:∃o,s.heap.get? p=some o∧o.ExactDict:=by
    rcases hk with⟨kvs,hk⟩|⟨kvs,hk⟩
    ·obtain⟨_,_,_,_,o,_,_,e,ex,_⟩:=I.hok p _ hk
     exact⟨o,e,ex⟩
    ·obtain⟨_,_,_,_,o,_,_,e,ex,_⟩:=I.hok p _ hk
     exact⟨o,e,ex⟩
   obtain⟨o,e,ex⟩:=z
   refine⟨⟨o,e,ex.1⟩,fun a e2=>?_⟩
   cases e2
   exact⟨o,e,ex.2.1⟩
  ·obtain⟨o,_,_,_,e,ex,_⟩:=I.hok p _ hk
   refine⟨⟨o,e,ex.1⟩,fun a e2=>?_⟩
   cases e2
   exact⟨o,e,ex.2.1⟩
 |_=>exact False.elim ty
noncomputable def tBM(K:U1)(T:String)(r:V→List V→Hp→VK→Prop)(to:TE)(t:TA):TE:=fun σ H Q=>to σ H fun x H1=>tyV K T x H1∧t σ H1 fun xs H2=>r x xs H2 Q
variable {o e:Expr} {es:List Expr} {to:TE} {t:TA} {name:Str} {apos cpos:Pos} {T id:String} {r:V→List V→Hp→VK→Prop}
theorem pe_bm(pa:PlainAttrs T)(slot:Slot T name id)(hty:typeOf (.builtin id)=pure (.type "method_descriptor"))(hm:MtR X id r)(ho:PE X o to)(ha:PA X (e::es) t)
  (hbase:attributeBase o name X.env (eval o X.env)=eval o X.env:=by rfl)
  (hfew:((backTo cpos (starEach (e::es) X.env)).all (fun x=>!x.1)&&(backToKw cpos (keywordEach [] X.env)).all (fun x=>x.1.isSome)
   &&decide ((e::es).length+([]:List Keyword).length+(if([]:List Keyword).isEmpty then 0 else 1)<30))=true:=by rfl)
  (hline:(apos.endLine==cpos.line)=true:=by rfl) (hs:starEach (e::es) X.env=(false,eval e X.env)::starEach es X.env:=by rfl) (hplain:(backTo cpos (starEach es X.env)).any (·.1)=false:=by rfl):
  PE X (.Call (.Attribute o name apos) (e::es) [] cpos) (tBM X.K T r to t):=by
 intro pins s σ H Q I h
 refine wpAny_Call_method_late hbase hfew hline rfl (thn (ho pins s σ H _ I h) fun v s1 ⟨x,H1,I1,r1,ty,q1⟩=>?_)
 obtain⟨h1,h2⟩:=kka I1 r1 ty
 refine⟨T,id,pa,slot,hty,h1,h2,?_⟩
 have hA:=ha cpos pins s1 σ H1 _ I1 q1
 rw[hs] at hA⊢
 refine Calls.callWith_builtin (by show(false||(backTo cpos (starEach es X.env)).any (·.1))=false;rw[hplain] <;> rfl) (Calls.evalArgs_plain ?_)
 exact thn hA fun us s2 ⟨vs,H2,I2,r2,q2⟩=>hm pins s2 σ H2 x vs v us Q I2 r1 r2 q2
end
end L2
namespace L2
open PySem PySem.Spec PyProof.Rows
noncomputable def MtM(X:Cx)(id:String)(r:V→List V→Hp→VK→Prop):Prop:=
 ∀(pins:List (Addr×Obj))(s:Shared)(σ:St)(H:Hp)(x:V)(xs:List V)(v:Value)(us:List Value)(Q:VK),Inv X pins σ H s→RelV x v→Vals xs us→r x xs H Q→
  wpAny (model X.prog X.w) X.A (call (.builtin id) (v::us)) (EP X pins σ Q) X.xe s
theorem Vals.one:∀{x:V}{us:List Value},Vals [x] us→∃u,us=[u]∧RelV x u
 |_,_, .cons r .nil=>⟨_,rfl,r⟩
theorem Vals.two:∀{x y:V}{us:List Value},Vals [x,y] us→∃u v,us=[u,v]∧RelV x u∧RelV y v
 |_,_,_, .cons r (.cons q .nil)=>⟨_,_,rfl,r,q⟩
theorem Vals.zero:∀{us:List Value},Vals [] us→us=[]
 |_, .nil=>rfl
theorem Vals.dropLast{xs:List V}{us:List Value}(h:Vals xs us):Vals xs.dropLast us.dropLast:=by
 induction h with
 |nil=>exact .nil
 |cons r t ih=>
  cases t with
  |nil=>exact .nil
  |cons q t'=>exact .cons r ih
theorem Vals.reverse{xs:List V}{us:List Value}(h:Vals xs us):Vals xs.reverse us.reverse:=by
 induction h with
 |nil=>exact .nil
 |cons r t ih=>rw[NW,NW];exact Vals.append ih (.cons r .nil)
theorem Vals.rep{xs:List V}{us:List Value}(h:Vals xs us):∀k:Nat,Vals (U6 k xs).flatten (U6 k us).flatten
 |0=>.nil
 |k+1=>by
  rw[Nd,Nd,Jy,Jy]
  exact Vals.append h (Vals.rep h k)
theorem foldl_rep(its:List Value):∀(k:Nat)(acc:List Value),
  List.foldl (fun x1 x2=>x1++x2) acc.toArray (U6 k its.toArray)=(acc++(U6 k its).flatten).toArray
 |0,acc=>by simp
 | k+1,acc=>by
  have e:acc.toArray++its.toArray=(acc++its).toArray:=by simp
  have e2:(acc++its)++(U6 k its).flatten=acc++(U6 (k+1) its).flatten:=by
   rw[Nd,Jy,Nm]
  rw[←e2,←foldl_rep its k (acc++its),←e,Nd,List.foldl_cons]
section
variable {X:Cx} {pins:List (Addr×Obj)} {σ:St} {H:Hp} {s:Shared} {l b:Addr} {xs ys zs:List V}
theorem Inv.lset{its its':List Value}{n:Nat}{f:Array Value→Array Value}{t':Nat}(I:Inv X pins σ H s)(hH:H l=some (.lst xs))
  (e:s.heap.get? l=some {cls:=.type "list",data:=.seq its.toArray n}) (hf:f its.toArray=its'.toArray) (hv:Vals ys its') (hz:ys.length≤sizeLine):
  Inv X pins σ (upd H l (.lst ys)) {s with heap:=s.heap.update l (Obj.mapSeq f),toks:=t'}:=by
 have q:=PySem.IsL.update e f
 rw[hf] at q
 refine I.write (x:=l) (e:=l) (by rw[hH];exact trivial) (.inl rfl) (fun b' u hb hu=>(Heap.get?_update_other s.heap (Obj.mapSeq f) (Ne.symm hb)).trans hu) ⟨_,q⟩ ?_
 exact⟨hz,its',_,hv,q⟩
theorem Inv.lnew{its:List Value}{t':Nat}(I:Inv X pins σ H s)(hv:Vals ys its)(hz:ys.length≤sizeLine):
  Inv X pins σ (upd H s.heap.objs.size (.lst ys)) {s with heap:=s.heap.push {cls:=.type "list",data:=.seq its.toArray},toks:=t'}:=
 I.laid (fun _ _ q=>Heap.get?_push_of_some _ q) (U2 _) ⟨hz,its,0,hv,Heap.get?_push_size _ rfl⟩
theorem Inv.fresh(I:Inv X pins σ H s):H s.heap.objs.size=none:=I.hok.fresh (U2 _)
theorem Inv.lstM(I:Inv X pins σ H s)(hH:H l=some (.lst xs)):xs.length≤sizeLine∧∃(its:List Value)(n:Nat),Vals xs its∧xs.length=its.length∧s.heap.get? l=some {cls:=.type "list",data:=.seq its.toArray n}:=by
 obtain⟨z,its,n,r,e⟩:=I.hok l _ hH
 exact⟨z,its,n,r,r.length,e⟩
theorem kg7{n:Nat}(h:n≤sizeLine):Builtin.List.listTooLong n=false:=by
 unfold Builtin.List.listTooLong
 exact decide_eq_false (by omega)
end
section
variable {X:Cx}
noncomputable def kkZ:V→List V→Hp→VK→Prop:=fun x vs H Q=>∃l xs y,x=.ref l∧vs=[y]∧H l=some (.lst xs)∧xs.length<sizeLine∧Q .non (upd H l (.lst (xs++[y])))
theorem kbN:MtM X "list.append" kkZ:=by
 intro pins s σ H x vs v us Q I rx rv h
 obtain⟨l,xs,y,rfl,rfl,hH,hz,q⟩:=h
 cases rx
 obtain⟨u,rfl,ru⟩:=rv.one
 obtain⟨z,its,n,r,hl,e⟩:=I.lstM hH
 refine call_meets F.slot_list_append ⟨_,e,rfl⟩ F.entry_list_append (F.args_list_append_2 _ _) (PySem.list_append l its.toArray n u (by rw[Jk];omega)) ⟨e,?_⟩
 refine⟨.non,_,I.lset (its':=its++[u]) hH e (by simp) (r.append (.cons ru .nil)) ?_,rfl,q⟩
 rw[Jh,Nx]
 omega
noncomputable def kkY:V→List V→Hp→VK→Prop:=fun x vs H Q=>∃l b xs zs,x=.ref l∧vs=[.ref b]∧H l=some (.lst xs)∧H b=some (.lst zs)∧xs.length+zs.length≤sizeLine∧Q .non (upd H l (.lst (xs++zs)))
theorem keh:MtM X "list.extend" kkY:=by
 intro pins s σ H x vs v us Q I rx rv h
 obtain⟨l,b,xs,zs,rfl,rfl,hH,hB,hz,q⟩:=h
 cases rx
 obtain⟨u,rfl,ru⟩:=rv.one
 cases ru
 obtain⟨z,its,n,r,hl,e⟩:=I.lstM hH
 obtain⟨z2,its2,n2,r2,hl2,e2⟩:=I.lstM hB
 have hsz:its.toArray.size+its2.toArray.size≤sizeLine:=by rw[Jk,Jk];omega
 have hlong:¬(!its.toArray.isEmpty&&Builtin.List.listTooLong (its.toArray.size+its2.toArray.size))=true:=by
  rw[kg7 hsz,Bool.and_false]
  exact U8
 refine call_meets F.slot_list_extend ⟨_,e,rfl⟩ F.entry_list_extend (F.args_list_extend_2 _ _)
  (AutoSeq1.list_extend_list_list_0 l its.toArray n b its2.toArray n2 hlong (by rw[Jk];omega) (by omega)) ⟨e,e2,?_⟩
 refine⟨.non,_,I.lset (its':=its++its2) hH e (by simp) (r.append r2) ?_,rfl,q⟩
 rw[Jh]
 omega
noncomputable def rCat:R2:=fun x y H Q=>∃l b xs zs,x=.ref l∧y=.ref b∧H l=some (.lst xs)∧H b=some (.lst zs)∧xs.length+zs.length≤sizeLine∧∀p,H p=none→Q (.ref p) (upd H p (.lst (xs++zs)))
theorem kiy:OpR X (binaryOp .Add) rCat:=by
 intro pins s σ H x y v u Q I rx ry h
 obtain⟨l,b,xs,zs,rfl,rfl,hH,hB,hz,q⟩:=h
 cases rx
 cases ry
 obtain⟨z,its,n,r,hl,e⟩:=I.lstM hH
 obtain⟨z2,its2,n2,r2,hl2,e2⟩:=I.lstM hB
 refine PySem.P.add_list e e2 ?_ (by rw[Jk,Jk];omega)
 have ea:its.toArray++its2.toArray=(its++its2).toArray:=by simp
 rw[ea]
 exact⟨.ref _,_,I.lnew (t':=s.toks) (r.append r2) (by rw[Jh];omega),rfl,q _ I.fresh⟩
noncomputable def rRep:R2:=fun x y H Q=>∃l k xs,x=.ref l∧y=.int k∧H l=some (.lst xs)∧-(2 ^ 63)≤k∧k<2 ^ 63∧xs.length*k.toNat≤sizeLine∧
 ∀p,H p=none→Q (.ref p) (upd H p (.lst (U6 k.toNat xs).flatten))
theorem len_rep{α:Type}(xs:List α)(k:Nat):(U6 k xs).flatten.length=k*xs.length:=by
 induction k with
 |zero=>simp
 |succ k ih=>rw[Nd,Jy,Jh,ih,Nat.succ_mul,Nat.add_comm]
theorem kkr:OpR X (binaryOp .Mult) rRep:=by
 intro pins s σ H x y v u Q I rx ry h
 obtain⟨l,k,xs,rfl,rfl,hH,h1,h2,hz,q⟩:=h
 cases rx
 obtain⟨t,rfl⟩:=ry
 obtain⟨z,its,n,r,hl,e⟩:=I.lstM hH
 have hlen:its.toArray.size*k.toNat≤sizeLine:=by rw[Jk,←hl];exact hz
 have hcap:¬its.toArray.size*k.toNat > (2 ^ 63-1)/8:=by
  have:(sizeLine:Nat)≤(2 ^ 63-1)/8:=by decide
  omega
 have hfit:¬(!Builtin.List.listFitsIndex k)=true:=by
  rw[fitsIndex_both h1 h2]
  exact U8
 have hlong:¬Builtin.List.listTooLong (its.toArray.size*k.toNat)=true:=by
  rw[kg7 hlen]
  exact U8
 have hnew:List.foldl (fun x1 x2=>x1++x2) #[] (U6 (if its.toArray.isEmpty=true then 0 else k.toNat) its.toArray)=(U6 k.toNat its).flatten.toArray:=by
  have f0:∀m:Nat,List.foldl (fun x1 x2=>x1++x2) #[] (U6 m its.toArray)=(U6 m its).flatten.toArray:=fun m=>by
   have:=foldl_rep its m []
   rw[NY] at this
   exact this
  rw[f0]
  cases its with
  |nil=>simp
  |cons a r'=>rw[if_neg (by simp)]
 refine wpAny_binaryOp_repeat_ref (T:="list") (U:="int") (by decide) ⟨_,e,rfl⟩ (fun s'=>typeIs_int s' k t) noFill_list_mul F.fills_int_mul F.slot_int_rmul repeat_list F.slot_int_index.lookup
  (call_meets F.slot_int_rmul (typeIs_int s k t) F.entry_int_rmul (F.args_int_rmul_2 _ _) (int___rmul___int_list k t l its.toArray n)
   ⟨e,rfl,⟨_,e,rfl⟩,call_meets F.slot_list_mul ⟨_,e,rfl⟩ F.entry_list_mul (F.args_list_mul_2 _ _) (AutoListH.list___mul___list_int_3 l its.toArray n k t hfit hcap hlong) ⟨e,?_⟩⟩)
 rw[hnew]
 exact⟨.ref _,_,I.lnew (t':=s.toks) (r.rep k.toNat) (by rw[len_rep,Nat.mul_comm];exact hz),rfl,q _ I.fresh⟩
end
section
variable {prog:Program} {w:World} {A:Around} {E:Value→Shared→Prop} {s:Shared}
set_option maxRecDepth 100000 in
end
section
variable {X:Cx}
end
end L2
namespace Att
open PySem PySem.W PySem.Calls PyProof.Rows
theorem keo{P:Params}{h:Heap}:∀(ns:List Int)(vs:List Value),WellAll P h vs (ns.map WData.int)→IntsAre vs ns:=by
 intro ns
 induction ns with
 |nil=>
  intro vs w
  rw[Nl] at w
  cases w
  exact .nil
 | cons n ns ih=>
  intro vs w
  rw[Ji] at w
  cases w with
  |cons a b=>
   cases a
   exact .cons _ _ (ih _ b)
theorem kic{l:OpenLaw}{n:Nat}(hn:l.most=some n){P:Params}{h:Heap}{args:List WData}{vals:List Value}
  (hpre:l.row.toRowW.claim.pre args=true) (hwl:WellAll P h vals args):
  ∃a vs ns,vals=[Value.ref a]∧args=[WData.list (ns.map WData.int)]∧h.get? a=some {cls:=.type "list",data:=.seq vs.toArray}∧IntsAre vs ns∧ns.length≤n:=by
 have hsh:WShape.hasAll [] args [.list .int]=true:=(pre_splitW hpre).1
 have hc:l.pre.holds [] {args:=args}=true:=(pre_splitW hpre).2
 obtain⟨d,r,rfl,h1,h2⟩:=hasAllW_cons hsh
 obtain rfl:=hasAllW_nil h2
 obtain⟨xs,rfl,h3⟩:=hasW_list h1
 obtain⟨ns,rfl⟩:=items_int h3
 have hlen:ns.length≤n:=by
  unfold OpenLaw.pre at hc
  have h4:(WTm.not (.lt (.lit (.int (n:Int))) (.len (.arg 0)))).holds [] {args:=[.list (ns.map .int)]}=true:=by
   have h4:=(holds_andW hc).1
   rw[hn] at h4
   exact h4
  have h5:=condW_of h4 (w_not (w_lt w_lit (w_len_list (w_arg rfl))))
  rw[U0] at h5
  refine Nat.le_of_not_lt fun q=>?_
  have q':(n:Int)<((ns.length:Nat):Int):=by omega
  first
   |(rw[decide_eq_true q'] at h5;exact absurd h5 (by decide))
   |(simp at h5;omega)
 cases hwl with
 |cons w1 w2=>
  cases w2
  cases w1 with
  |list ho hall=>exact⟨_,_,ns,rfl,rfl,ho,keo ns _ hall,hlen⟩
def kio(l:OpenLaw)(args:List WData):l.row.toRowW.claim.post args (.bool true) args=true:=
 postW_of (r:=l.row.toRowW) (X:=(true==true))
  (show WShape.has [] (.bool true) .bool=true by first|rfl|decide|simp[WShape.has,WShape.arms,WShape.armsAll])
  (show(WTm.eq .res (.lit (.bool true))).value [] {args:=args,res:=some (.bool true),after:=args}=some (.bool (true==true)) from w_eq_bool (w_res rfl) w_lit) rfl
theorem attach_call{l:OpenLaw}{n:Nat}{q:Program}{loose:List Str}{XP:(Str→Option Value)→Heap→Prop}{YP:World→Heap→Prop}{d:DefRec}
  (hn:l.most=some n) (hdf:d.params.defaults=[])
  (call:∀(w:World)(s₀ s₁:Shared)(mg mb:Str→Option Value)(fa:Addr)(o:Obj)(pm cd doc:Value)(a:Addr)(vs:List Value)(ns:List Int),
   Ground q loose [] XP w s₀ mg mb s₁.heap→YP w s₁.heap→
   s₁.heap.get? fa=some o→o.data=.func (docDef d.name d.params d.body d.scope pm cd doc)→s₁.heap.CodeRec cd d.name→mg d.name=some (.ref fa)→
   s₁.heap.get? a=some {cls:=.type "list",data:=.seq vs.toArray}→IntsAre vs ns→ns.length≤n→s₁.gens= #[]→
   codeAny (model l.prog w) callerA (.call (.ref fa) ⟨[.ref a],[]⟩) (fun r s'=>r=.ok (.ret (.bool true))∧OldK s₁.heap s'.heap∧s'.os=s₁.os∧AllBare s'.gens) s₁):
  WalkO q loose XP YP l.row.toRowW d [] (fun f vs=>PySem.call f vs):=by
 intro w s₀ s₁ mg mb G Y fa o pm cd doc dV kV ho hd hcd hD hmg hg args vals as hpre hlay hrd hwl hlo
 obtain rfl:dV=.none:=Dflts.none hD hdf
 obtain rfl:kV=.none:=Dflts.noKw hD
 obtain⟨a,vs,ns,rfl,rfl,hobj,hints,hlen⟩:=kic hn hpre hwl
 refine enter_call (codeAny_mono (call w s₀ s₁ mg mb fa o pm cd doc a vs ns G Y ho (fd_plain hd) hcd hmg hobj hints hlen hg) fun r s' hq=>?_)
 obtain⟨rfl,h2,h3,h4⟩:=hq
 exact⟨.inl ⟨.bool true, .bool true,[],rfl,fun _=>rfl, .bool true,kio l _,fun _=>⟨Ny.nil,fun _ hm=>(nomatch hm)⟩⟩,h2,h3,h4⟩
section
variable {prog:Program} {w:World} {A:Around} {E:Value→Shared→Prop} {s:Shared} {K:Frag}
end
end Att
namespace L2
open PySem PySem.Spec PyProof.Rows
theorem kfr:∀{vs:List Value}{ns:List Int},IntsAre vs ns→Vals (ns.map V.int) vs
 |_,_, .nil=>.nil
 |_,_, .cons n t h=>.cons ⟨t,rfl⟩ (kfr h)
end L2
namespace L2
open PySem PySem.Spec PyProof.Rows
end L2
namespace L2
open PySem PySem.Spec PyProof.Rows
noncomputable def inClass(s:Stmt)(j:Nat):Stmt:=match s with
 | .ClassDef _ _ _ body _ _ _ _ _ _ _=>body.getD j (.Pass ⟨0,0,0,0⟩)
 |_=>.Pass ⟨0,0,0,0⟩
noncomputable def kax(s:Stmt):Arguments:=match s with
 | .FunctionDef _ a _ _ _ _ _ _ _ _=>a
 |_=>{posonlyargs:=[],args:=[],vararg:=none,kwonlyargs:=[],kw_defaults:=[],kwarg:=none,defaults:=[]}
noncomputable def kau(s:Stmt):List Stmt:=match s with
 | .FunctionDef _ _ b _ _ _ _ _ _ _=>b
 |_=>[]
noncomputable def kae(s:Stmt):Scope:=match s with
 | .FunctionDef _ _ _ _ _ _ sc _ _ _=>sc
 |_=>{kind:=.function,names:=[],isGenerator:=false,isCoroutine:=false}
noncomputable abbrev CX0:CXT:=fun _ _ _ _ _ _=>False
noncomputable abbrev E0:XK:=fun _ _ _=>False
def pass0{X:Cx}:kdd CX0 X E0:=fun _ _ _ _ _ _ _ h=>h.elim
structure Fun (K:U1) (x qual:Str) (st:Stmt) (f:Addr) (fd:FuncData):Prop where
 ex:∃(oc:Value)(od:Option Addr)(kV doc pm:Value)(an:Option Addr)(cdv ct:Value)(osl:Array (Option Value)),
  fd=Je x qual (kax st) (kau st) (kae st) .none kV doc pm an cdv ct∧K.lookup f=some ⟨oc,od, .func fd,osl⟩∧Jx K cdv qual=true
 kp:Jd K (.ref f)=true
section
variable {P:Program} {w:World} {K:U1} {mg:Str→Option Value} {base:Heap}
theorem Fun.ok{x qual:Str}{st:Stmt}{f:Addr}{fd:FuncData}{N ps:List Str}{k:Nat}{sp:Sp}(F:Fun K x qual st f fd)(S:kao N ps (kae st))(len:∀vs H Q E,sp vs H Q E→vs.length=ps.length)
  (hbody:∀(cdv:Value)(A:Around)(outer:List Env)(s:Shared)(H:Hp)(vs:List V)(Q:VK)(E:XK),Room k (A.deeper (envOfC qual (kae st) s.heap.objs.size f cdv))→sp vs H Q E→
   ∃t,PSs (cxOf CX0 P w K mg base N qual (kae st) f cdv A outer s H E).nox (kau st) t∧t {nx:=fun _ H'=>Q .non H',rt:=Q} (start N vs) H):FnOk P w K mg base CX0 (k+1) f fd ps sp:=by
 obtain⟨oc,od,kV,doc,pm,an,cdv,ct,osl,rfl,lk,hcd⟩:=F.ex
 refine fn_of lk hcd S len fun A outer s H vs Q E hr hsp=>?_
 obtain⟨t,h,q⟩:=hbody cdv A outer s H vs Q E hr hsp
 exact⟨t,h.nox,q⟩
theorem Fun.binds{x qual:Str}{st:Stmt}{f:Addr}{fd:FuncData}{ps:List Str}(F:Fun K x qual st f fd)
  (h:∀(kV doc pm:Value)(an:Option Addr)(cdv ct:Value)(us:List Value),us.length=ps.length→bindArgs (Je x qual (kax st) (kau st) (kae st) .none kV doc pm an cdv ct) ⟨us,[]⟩=pure (ps.zip us)):Binds K fd ps []:=by
 obtain⟨oc,od,kV,doc,pm,an,cdv,ct,osl,rfl,lk,hcd⟩:=F.ex
 exact .all (h kV doc pm an cdv ct)
end
def hu_of{A:Around}{k:Nat}(hr:Room k A):A.units+1<cLine:=JY (Nat.add_le_add_left (by decide:1≤64) _) hr.units
def kap{n:Nat}(h:n≤1000):n<sizeLine:=JY h (by decide)
section
variable {X:Cx}
theorem pv(i:Nat){x:Str}{pos:Pos}(hN:X.N[i]?=some x:=by rfl)(hv:Vis X.env.scope x:=by first|exact Or.inl rfl|exact Or.inr (Or.inl rfl)|exact Or.inr (Or.inr rfl))(hd:(x==("__debug__" :Str))=false:=by decide)
  (hcd:(x==("__classdict__" :Str))=false:=by decide):PE X (.Name x pos) (tVar i):=klL hN hv hd hcd
end
def iteF{A B:Prop}(h:B):if false=true then A else B:=by
 rw[if_neg U8]
 exact h
def iteT{A B:Prop}(h:A):if true=true then A else B:=by
 rw[if_pos rfl]
 exact h
def ite2{c A B:Prop} [Decidable c] (h1:c→A) (h2:¬c→B):if c then A else B:=by
 by_cases h:c
 ·rw[if_pos h]
  exact h1 h
 ·rw[if_neg h]
  exact h2 h
end L2
set_option maxHeartbeats 4000000
namespace L3
end L3
namespace L2
open PySem PySem.Spec PyProof.Rows
section
variable {X:Cx}
theorem log2_small{n:Nat}(h:n<2 ^ 200):n.log2<9000:=by
 by_cases h0:n=0
 ·subst h0
  decide
 ·have h1:n.log2<200:=(Nat.log2_lt h0).mpr h
  omega
noncomputable def CDivB(_ j:Int):Prop:=0<j∧j<2 ^ 199
theorem kjG:OpR X (binaryOp .FloorDiv) (rI CDivB fun i j=>.int (i/j)):=opI fun i j _ _ _ _ _ hc q=>by
 have h1:(0:Int)<j:=hc.1
 have h2:j<2 ^ 199:=hc.2
 have h3:j.natAbs<2 ^ 200:=by omega
 exact floordiv_int (by omega) (by rw[Int.fdiv_eq_ediv_of_nonneg i (by omega)];exact q) (.inl (PyProof.noPylong_of_log2 (log2_small h3)))
theorem kcm(hc:X.calm=true):CallR X (.builtin "sum") (fun xs H Q=>∃(p:Addr)(ns:List Int),xs=[.ref p]∧SqL X.K H p (ns.map V.int)∧Q (.int ns.sum) H):=by
 intro pins s σ H xs us Q I r h
 obtain⟨p,ns,rfl,hq,q⟩:=h
 obtain⟨u,rfl,rx⟩:=vals1 r
 cases rx
 obtain⟨its,r',pl,hz⟩:=I.list hq
 have hi:IntsAre its ns:=intsAre_of r'
 have ha:=hi.allInts
 obtain⟨zs,hx⟩:=ha.items
 have hl:=pl.isList
 rw[hx] at hl
 refine sum_intListG (I.ok.hd hc) hl fun h' tk t' hk=>⟨.int ns.sum,H,I.kept hk,⟨t',?_⟩,q⟩
 have e2:preSum (numAt zs) zs.size=(numsOf (intItems zs).toList).sum:=by
  rw[nums_intItems,preSum_eq,J7 (by simp)]
 have e3:numsOf its.toArray.toList=ns:=hi.numsOf
 rw[e2,←hx,e3]
theorem kj0:∀{x:V},flatV x=true→eqV x x=true
 | .non,_=>rfl
 | .bl b,_=>by simp[eqV]
 | .int i,_=>by simp[eqV]
 | .str z,_=>by simp[eqV]
noncomputable def cV:V→Value
 | .ty n=>.type n
 | .ref a=>.ref a
 |_=>.none
theorem ka2:CallR X (.builtin "isinstance") (fun xs H Q=>∃x c t b,xs=[x,c]∧((∃n,c=.ty n)∨∃a,c=.ref a)∧TyOf X.K H x t∧Jl X.K t (cV c)=some b∧Q (.bl b) H):=by
 intro pins s σ H xs us Q I r h
 obtain⟨x,c,t,b,rfl,hc,ty,e,q⟩:=h
 obtain⟨u,w',rfl,r1,r2⟩:=vals2 r
 have ew:w'=cV c:=by
  rcases hc with⟨n,rfl⟩|⟨a,rfl⟩
  ·exact r2
  ·exact r2
 subst ew
 exact kiO I r1 ty e fun tk=>⟨.bl b,H,I.tok tk,rfl,q⟩
theorem b_isi:bootBuiltins "isinstance"=some (.builtin "isinstance"):=by decide +kernel
theorem kca:bootBuiltins "list"=some (.type "list"):=by decide +kernel
theorem b_sum:bootBuiltins "sum"=some (.builtin "sum"):=by decide +kernel
theorem b_min:bootBuiltins "min"=some (.builtin "min"):=by decide +kernel
theorem b_max:bootBuiltins "max"=some (.builtin "max"):=by decide +kernel
theorem b_len:bootBuiltins "len"=some (.builtin "len"):=by decide +kernel
theorem kcE(K:U1)(t:Value):Jl K t t=some true:=by
 unfold Jl
 rw[if_pos (by simp)]
noncomputable def tCut(t:TS):TS:=fun D σ H=>∃P:St→Hp→Prop,t {D with nx:=P} σ H∧∀σ' H',P σ' H'→D.nx σ' H'
theorem kkm{st:Stmt}{t:TS}(h:PS X st t):PS X st (tCut t):=by
 intro pins s σ H D I hw
 obtain⟨P,h1,h2⟩:=hw
 refine thn (h pins s σ H {D with nx:=P} I h1) fun f s' q=>?_
 cases f with
 |next=>
  obtain⟨σ',H',I',q'⟩:=q
  exact⟨σ',H',I',h2 σ' H' q'⟩
 |brk=>exact q
 |cont=>exact q
 |ret u=>exact q
noncomputable def tCutE(t:TE):TE:=fun σ H Q=>∃P:V→Hp→Prop,t σ H P∧∀v H',P v H'→Q v H'
theorem kcY{e:Expr}{t:TE}(h:PE X e t):PE X e (tCutE t):=by
 intro pins s σ H Q I hw
 obtain⟨P,h1,h2⟩:=hw
 exact thn (h pins s σ H P I h1) fun u s' ⟨v,H',I',r,q⟩=>⟨v,H',I',r,h2 v H' q⟩
noncomputable def Its(lo st:Int)(n:Nat):It:=⟨fun i _=>i<n,fun i H x H'=>H'=H∧x=.int (lo+i*st),fun i _=>n≤i⟩
theorem khN{P:Program}{w:World}{K:U1}{tg:Expr}(it:Addr)(lo st:Int)(n:Nat):Turn P w K tg (Its lo st n) [it] it (fun i h=>IsRangeIter h it (lo+(i:Nat)*st) ((n:Int)-(i:Nat)) st) where
 mem:=by simp
 obj:=fun i h st b hb=>by
  have e:b=it:=by simpa using hb
  subst e
  exact⟨_,st,fun v z=>by
   have z':Data.fields _=Data.cell v:=z
   cases z'⟩
 keep:=fun i h h' st k=>k it (by simp) _ st
 item:=by
  intro X hP hw hK hc i pins s σ H E I hf st' hg
  subst hP hw hK
  obtain⟨f0,f1,f2,f3,f4,f5⟩:=hf it (by simp)
  have W:=Walks.range (prog:=X.prog) (w:=X.w) (I.ok.hd hc) it lo st n
  refine W.item i s _ _ hg st' fun v h' tk hv st'' kk=>?_
  obtain⟨t,rfl⟩:=hv
  have I1:Inv X pins σ H {s with heap:=h',toks:=tk}:=I.turned (fun b o hb e=>kk b o (by simpa using hb) e) f0 f1 f3 f4 f5
  exact⟨_,rfl,go_of (s:={s with heap:=h',toks:=tk}) (n:="range_iterator") st'' rfl rfl (by decide) ⟨.int (lo+i*st),H,I1,⟨t,rfl⟩,⟨rfl,rfl⟩,st'',fun b hb=>(hf b hb).1⟩⟩
 done:=by
  intro X hP hw hK hc i pins s σ H E I hf st hg
  subst hP hw hK
  obtain⟨f0,f1,f2,f3,f4,f5⟩:=hf it (by simp)
  exact wpAny_pyNext_range_end (I.ok.hd hc) st (by have:n≤i:=hg;omega) fun h' eb=>⟨rfl,I.turned (t':=s.toks) (fun b o hb e=>eb b o hb e) f0 f1 f3 f4 f5⟩
 self:=fun _ _ _ _ _ st h=>wpAny_pyIter_rangeiter st h
theorem kfA{a b c:Int}(hc:0<c)(ha: -(2 ^ 31)≤a∧a<2 ^ 31)(hb: -(2 ^ 31)≤b∧b<2 ^ 31):0≤Builtin.Range.rangeSize a b c∧Builtin.Range.rangeSize a b c<2 ^ 33:=by
 unfold Builtin.Range.rangeSize
 rw[if_pos hc]
 split
 ·have h1:0≤(b-a-1)/c:=Int.ediv_nonneg (by omega) (by omega)
  have h2:(b-a-1)/c≤b-a-1:=Int.ediv_le_self _ (by omega)
  omega
 ·omega
theorem khr{a b c:Int}(hc:0<c)(hc2:c<2 ^ 30)(ha: -(2 ^ 31)≤a∧a<2 ^ 31)(hb: -(2 ^ 31)≤b∧b<2 ^ 31):Builtin.Range.small a b c=true:=by
 have h:=kfA hc ha hb
 unfold Builtin.Range.small
 generalize Builtin.Range.rangeSize a b c=n at h
 simp only[Builtin.Range.rangeFitsLong,Nk,Mu,decide_eq_true_eq,beq_iff_eq,show c > 0 from hc,if_true]
 omega
end
theorem kjY{lo st:Int}{n:Nat}{g:TG}{tb:TS}{D:Ends}{σ:St}{H:Hp}(Pv:Nat→St→Hp→Prop)(h0:Pv 0 σ H)
  (hs:∀i σ H,i<n→Pv i σ H→g (.int (lo+i*st)) σ H fun σ2 H2=>tb {D with nx:=Pv (i+1),ct:=Pv (i+1),bk:=D.nx} σ2 H2) (hd:∀σ H,Pv n σ H→D.nx σ H):
  ∃W:Nat→Nat→St→Hp→Prop,(∃m,W 0 m σ H)∧∀i m σ H,W i m σ H→
   ((Its lo st n).stop i H∧D.nx σ H)∨((Its lo st n).go i H∧∃N:St→Hp→Prop,(∀σ' H',N σ' H'→∃m',m'<m∧W (i+1) m' σ' H')∧∀x H',(Its lo st n).yld i H x H'→g x σ H' fun σ2 H2=>tb {D with nx:=N,ct:=N,bk:=D.nx} σ2 H2):=by
 refine⟨fun i m σ H=>m=n-i∧i≤n∧Pv i σ H,⟨n,by simp,Jv _,h0⟩,?_⟩
 rintro i m σ H ⟨rfl,hi,p⟩
 by_cases hlt:i<n
 ·refine .inr ⟨hlt,Pv (i+1),fun σ' H' p'=>⟨n-(i+1),by omega,rfl,hlt,p'⟩,fun x H' y=>?_⟩
  obtain⟨e,y⟩:=y
  subst e y
  exact hs i σ _ hlt p
 ·have e:i=n:=by omega
  subst e
  exact .inl ⟨U2 _,hd σ H p⟩
def khj(xs:List V)(k:Nat):cutV xs none (some (k:Int))=xs.take k:=by
 unfold cutV
 rw[HT.sIx_none,HT.sIx_nat,List.drop_zero,Nat.sub_zero,MS]
 omega
def khk(xs:List V)(k:Nat):cutV xs (some (k:Int)) none=xs.drop k:=by
 unfold cutV
 rw[HT.sIx_none,HT.sIx_nat]
 by_cases h:k≤xs.length
 ·rw[NG h,J7 (by simp)]
 ·rw[Nat.min_eq_right (by omega),NZ (U2 _),NZ (by omega)]
  simp
def kj4(ns:List Int)(lo hi:Option Int):∃ms:List Int,cutV (ns.map V.int) lo hi=ms.map V.int∧ms.length≤ns.length:=by
 refine⟨(ns.drop (HT.sIx ns.length 0 lo)).take (HT.sIx ns.length ns.length hi-HT.sIx ns.length 0 lo),?_,?_⟩
 ·unfold cutV
  rw[U0,←NH,←J8]
 ·rw[Jg,JW]
  omega
end L2
namespace L2
open PySem PySem.Spec PyProof.Rows
def Inv.adopt{X:Cx}{pins:List (Addr×Obj)}{σ:St}{H:Hp}{s:Shared}{a:Addr}{o:HO}(I:Inv X pins σ H s)(f:FpOk X pins H a)(h0:X.s₀.heap.objs.size≤a)(new:ObjOk X.prog X.w (upd H a o) s.heap a o):Inv X pins σ (upd H a o) s:=by
 obtain⟨hn,hL,_,_,hC,hp⟩:=f
 have nt:∀b u,H b=some u→b≠a:=fun b u e=>kah e hn
 refine⟨I.ok,I.os,I.bare,⟨I.base.keep,I.base.slot,fun b ob e n hx=>?_,I.base.there,fun b xs e=>?_,fun b ob u e=>?_,fun b ps e=>?_⟩,I.loc,I.cell,?_,fun x c e=>?_,fun p hp'=>?_,fun b u e=>?_,I.len⟩
 ·rw[kaj (Js (Jq (Heap.lt_size e) h0))]
  exact I.base.free b ob e n hx
 ·have q:=I.base.tups b xs e
  rw[kaj (nt _ _ q)]
  exact q
 ·have q:=I.base.frzs b ob u e
  rw[kaj (nt _ _ q)]
  exact q
 ·obtain⟨m,q⟩:=I.base.tbls b ps e
  exact⟨m,by rw[kaj (nt _ _ q)];exact q⟩
 ·rw[kaj (Ne.symm hL)]
  exact I.free
 ·rw[kaj (hC x c e)]
  exact I.freeC x c e
 ·obtain⟨e,n,r⟩:=I.pin p hp'
  exact⟨e,by rw[kaj (hp p hp')];exact n,r⟩
 ·by_cases hb:b=a
  ·subst hb
   rw[kad] at e
   cases e
   exact new
  ·rw[kaj hb] at e
   exact(I.hok b u e).stay (fun c v _ q=>q) (fun c q=>by rw[kaj (nt _ _ q)];exact q) fun c xs q=>by rw[kaj (nt _ _ q)];exact q
noncomputable def capσ(cap:List (Option Nat))(σ:St):St:=cap.map fun o=>match o with
 |some i=>(σ[i]?).getD none
 |none=>none
noncomputable def closL(cells:List (Str×Addr))(names:List (Str×NameKind)):List (Str×Addr)→List (Str×Addr):=fun acc=>names.foldl (fun acc p=>if p.2== .free then(p.1,(cells.lookup p.1).getD 0)::acc else acc) acc
theorem kep{α β:Type}{f: α→β→Sem (ForInStep β)}{g: β→α→β}:∀(l:List α)(b: β),(∀x∈l,∀b,f x b=pure (.yield (g b x)))→forIn l b f=pure (l.foldl g b)
 |[],b,_=>by rw[List.forIn_nil];rfl
 |x::l,b,h=>by
  rw[List.forIn_cons,h x Jt]
  show forIn l (g b x) f=_
  rw[kep l (g b x) fun y hy=>h y (Jo _ hy)]
  rfl
def kfm{scope:Scope}{env:Env}(h:∀x∈scope.names,x.2=.free→∃c,env.cells.lookup x.1=some c):closureFor scope env=pure (closL env.cells scope.names []):=by
 unfold closureFor
 dsimp only
 rw[kep (g:=fun acc p=>if p.2== .free then(p.1,(env.cells.lookup p.1).getD 0)::acc else acc) scope.names [] fun x hx b=>?_]
 ·rfl
 ·obtain⟨n,k⟩:=x
  by_cases hk:k=.free
  ·subst hk
   obtain⟨c,ec⟩:=h _ hx rfl
   have ec':env.cells.lookup n=some c:=ec
   have e1:cellOf env n=pure c:=by unfold cellOf;rw[ec']
   simp only[beq_self_eq_true,if_true,e1,ec',Option.getD_some]
   rfl
  ·have:(k==NameKind.free)=false:=by simpa using hk
   simp only[this,JP,if_false]
def keT(cells:List (Str×Addr))(p:Str×NameKind)(r:List (Str×NameKind))(acc:List (Str×Addr)):closL cells (p::r) acc=closL cells r (if p.2== .free then(p.1,(cells.lookup p.1).getD 0)::acc else acc):=rfl
theorem kdc{cells:List (Str×Addr)}{x:Str}{c:Addr}:∀(names:List (Str×NameKind))(acc:List (Str×Addr)),(closL cells names acc).lookup x=some c→(((x,NameKind.free)∈names∧c=(cells.lookup x).getD 0)∨acc.lookup x=some c)
 |[],acc,h=>.inr h
 | (n,k)::r,acc,h=>by
  rw[keT] at h
  rcases kdc r _ h with⟨h1,h2⟩|h1
  ·exact .inl ⟨Jo _ h1,h2⟩
  ·by_cases hk:k=.free
   ·subst hk
    simp only[beq_self_eq_true,if_true] at h1
    rw[JA] at h1
    by_cases hx:x=n
    ·subst hx
     simp only[beq_self_eq_true] at h1
     exact .inl ⟨Jt,(Option.some.inj h1).symm⟩
    ·have hb:(x==n)=false:=beq_eq_false_iff_ne.mpr hx
     rw[hb] at h1
     exact .inr h1
   ·have:(k==NameKind.free)=false:=by simpa using hk
    simp only[this,JP,if_false] at h1
    exact .inr h1
theorem kb9{cells:List (Str×Addr)}{x:Str}:∀(names:List (Str×NameKind))(acc:List (Str×Addr)),((x,NameKind.free)∈names∨∃c,acc.lookup x=some c)→∃c,(closL cells names acc).lookup x=some c
 |[],acc,h=>by
  rcases h with h|h
  ·cases h
  ·exact h
 | (n,k)::r,acc,h=>by
  rw[keT]
  refine kb9 r _ ?_
  by_cases hm:(x,NameKind.free)∈r
  ·exact .inl hm
  ·refine .inr ?_
   rcases h with h|⟨c,h⟩
   ·rcases Jr.mp h with e|h
    ·cases e
     simp[JA]
    ·exact absurd h hm
   ·split
    ·rw[JA]
     by_cases hx:x=n
     ·subst hx
      simp
     ·have hb:(x==n)=false:=beq_eq_false_iff_ne.mpr hx
      rw[hb]
      exact⟨c,h⟩
    ·exact⟨c,h⟩
theorem kcl:∀(names:List (Str×NameKind))(n:Nat)(acc acc':List (Str×Addr)),cellsFrom n names (acc++acc')=cellsFrom n names acc++acc'
 |[],_,_,_=>rfl
 |(m,k)::r,n,acc,acc'=>by
  unfold cellsFrom
  split
  ·exact kcl r (n+1) ((m,n)::acc) acc'
  ·exact kcl r n acc acc'
def kbP(names:List (Str×NameKind))(n:Nat)(acc:List (Str×Addr))(x:Str):(cellsFrom n names acc).lookup x=((cellsFrom n names []).lookup x).or (acc.lookup x):=by
 rw[←List.lookup_append,←kcl,NY]
theorem kck{x:Str}:∀(names:List (Str×NameKind))(n:Nat)(acc:List (Str×Addr)),(x,NameKind.cell)∉names→(cellsFrom n names acc).lookup x=acc.lookup x
 |[],_,_,_=>rfl
 | (m,k)::r,n,acc,h=>by
  unfold cellsFrom
  by_cases hk:k=.cell
  ·subst hk
   simp only[beq_self_eq_true,if_true]
   rw[kck r _ _ fun z=>h (Jo _ z),JA]
   have hx:x≠m:=fun e=>h (by rw[e];exact Jt)
   have hb:(x==m)=false:=beq_eq_false_iff_ne.mpr hx
   rw[hb]
  ·have:(k==NameKind.cell)=false:=by simpa using hk
   simp only[this,JP,if_false]
   exact kck r _ _ fun z=>h (Jo _ z)
noncomputable def relN(names ns:List (Str×NameKind)):List (Str×NameKind):=names.map fun(n,k)=>if(k== .free&&ns.lookup n==some .cell) then(n, .cell) else(n,k)
def kcX{scope:Scope}{env:Env}(hk:env.scope.kind=.function):(relabel scope env).names=relN scope.names env.scope.names:=by
 unfold relabel relN
 have e:(ScopeKind.function==ScopeKind.function)=true:=by decide
 simp only[hk,e,Bool.and_true]
 rfl
theorem kcR{ns:List (Str×NameKind)}{x:Str}:∀(names:List (Str×NameKind)),(relN names ns).lookup x=(names.lookup x).map fun k=>if(k== .free&&ns.lookup x==some .cell) then .cell else k
 |[]=>rfl
 | (n,k)::r=>by
  have ih:=kcR (ns:=ns) (x:=x) r
  show JR x ((if(k== .free&&ns.lookup n==some .cell)=true then(n,NameKind.cell) else(n,k))::relN r ns)=_
  by_cases hx:x=n
  ·subst hx
   by_cases hc:(k== .free&&ns.lookup x==some .cell)=true
   ·rw[if_pos hc]
    simp only[JA,beq_self_eq_true,Nf]
    rw[if_pos hc]
   ·rw[if_neg hc]
    simp only[JA,beq_self_eq_true,Nf]
    rw[if_neg hc]
  ·have hb:(x==n)=false:=beq_eq_false_iff_ne.mpr hx
   by_cases hc:(k== .free&&ns.lookup n==some .cell)=true
   ·rw[if_pos hc]
    simp only[JA,hb]
    exact ih
   ·rw[if_neg hc]
    simp only[JA,hb]
    exact ih
theorem kkX{names ns:List (Str×NameKind)}{x:Str}(h:(relN names ns).lookup x=some .cell∨(relN names ns).lookup x=some .free):names.lookup x=some .cell∨names.lookup x=some .free:=by
 rw[kcR] at h
 cases e:names.lookup x with
 |none=>rw[e] at h;simp at h
 |some k=>
  rw[e] at h
  cases k <;> simp_all
def kih{names ns:List (Str×NameKind)}{x:Str}(h:names.lookup x=some .free):(relN names ns).lookup x=some .cell∨(relN names ns).lookup x=some .free:=by
 rw[kcR,h]
 by_cases hc:ns.lookup x==some .cell
 ·left;simp[hc]
 ·right;simp[hc]
structure CompScope (X:Cx) (scope:Scope) (N:List Str) (cap:List (Option Nat)):Prop where
 kind:scope.kind=.function
 names:∀x∈scope.names,x.2=.local→scope.names.lookup x.1=some .local
 free:∀x∈scope.names,x.2=.free→X.env.scope.names.lookup x.1=some .cell∨X.env.scope.names.lookup x.1=some .free
 nd:N.Nodup
 len:cap.length=N.length
 cap:∀(j i:Nat)(x:Str),cap[j]?=some (some i)→N[j]?=some x→X.N[i]?=some x∧scope.names.lookup x=some .free∧(x,NameKind.cell)∉scope.names
noncomputable def kdB(X:Cx)(scope:Scope)(C:Addr):List (Str×Addr):=cellsFrom (C+1) scope.names (closL X.env.cells scope.names [])
noncomputable def cxC(X:Cx)(scope:Scope)(N:List Str)(fp:List Addr)(s:Shared)(H:Hp)(C:Addr):Cx:=
 {X with N:=N,s₀:=s,H₀:=H,env:=compEnvC scope (kdB X scope C) C X.env,outer:=X.stack,ex:=fp,fn:=fun x=>scope.names.lookup x==some .cell,pn:=[],xe:=fun _ _=>False}
theorem kff{M:Model}{A:Around}{E:Value→Shared→Prop}{s:Shared}{scope:Scope}{globals:Addr}{cl:List (Str×Addr)}{qual:Str}{func:Option Addr}{code:Value}{outer:Env}{builtins:Addr}{Q:Env→Shared→Prop}
  (hQ:Q (newEnv scope s.heap.objs.size globals (cellsFrom (s.heap.objs.size+1) scope.names cl) qual func code (some outer) builtins) {s with heap:=pushCells (s.heap.push {cls:=.type "dict",data:=.dict #[]}) scope.names}):
  wpAny M A (newFunctionEnv scope globals cl [] qual func code (some outer) builtins) Q E s:=by
 simp only[newFunctionEnv,Option.isSome_some,if_true]
 refine wpAny_bind (wpAny_alloc ?_)
 refine wpAny_bind (wpAny_layCells _ (fun name kind cells=>by cases hkc:kind==NameKind.cell <;> simp[hkc]) _ _ _ _ ?_)
 rw[show({s with heap:=s.heap.push {cls:=.type "dict",data:=.dict #[]}}:Shared).heap.objs.size=s.heap.objs.size+1 from Heap.size_push ..]
 exact wpAny_bind (wpAny_pure (wpAny_pure hQ))
section
variable {X:Cx} {scope:Scope} {N:List Str} {cap:List (Option Nat)} {pins:List (Addr×Obj)} {σ:St} {H:Hp} {s:Shared}
theorem khT(I:Inv X pins σ H s){b:Addr}(hb:b∈frs X.stack):b<s.heap.objs.size:=by
 obtain⟨_,o,ho,_⟩:=I.stack.mem hb
 exact Heap.lt_size ho
theorem kcC(S:CompScope X scope N cap)(I:Inv X pins σ H s):closureFor scope X.env=pure (closL X.env.cells scope.names []):=
 kfm fun x hx hf=>I.ok.has x.1 (S.free x hx hf)
theorem kbQ{C:Addr}{x:Str}{c:Addr}(S:CompScope X scope N cap)(I:Inv X pins σ H s)(h:(kdB X scope C).lookup x=some c):(cellsFrom (C+1) scope.names []).lookup x=some c∨X.env.cells.lookup x=some c:=by
 unfold kdB at h
 rw[kbP] at h
 cases e:(cellsFrom (C+1) scope.names []).lookup x with
 |some c'=>
  rw[e] at h
  exact .inl h
 | none=>
  rw[e] at h
  have h':(closL X.env.cells scope.names []).lookup x=some c:=h
  rcases kdc _ _ h' with⟨h1,h2⟩|h1
  ·obtain⟨c',ec⟩:=I.ok.has x (S.free _ h1 rfl)
   rw[ec] at h2
   rw[h2]
   exact .inr ec
  ·cases h1
theorem kjT{fp:List Addr}{C D:Addr}{o:Obj}{s4:Shared}{m:Str→Option Value}(S:CompScope X scope N cap)(I:Inv X pins σ H s)(f:∀b∈fp,FpOk X pins H b)(hfp:∀b∈fp,b<s.heap.objs.size)
  (hk:∀b u,s.heap.get? b=some u→s4.heap.get? b=some u) (hns:s4.heap.Ns C m) (hC:s.heap.objs.size≤C) (hD:s.heap.objs.size≤D) (hDC:D≠C) (eD:s4.heap.get? D=some o) (hcell:∀v,o.data≠.cell v)
  (hnew:CellsOk s4.heap (C+1) (cellsFrom (C+1) scope.names [])) (hos:s4.os=s.os) (hg:s4.gens=s.gens):Inv (cxC X scope N fp s H C) [(D,o)] (capσ cap σ) H s4:=by
 have stkne:∀b∈fp,b∉frs X.stack:=fun b hb hz=>by
  obtain⟨_,h1,h2,_⟩:=f b hb
  rcases Jr.mp (I.stkSub b hz) with e|e
  ·exact h1 e
  ·exact h2 e
 have nw:∀{x:Str}{c:Addr},(cellsFrom (C+1) scope.names []).lookup x=some c→s4.heap.IsCell c none∧Nat.lt C c:=fun {x c} h=>hnew.empty x c (PySem.mem_of_lookup h)
 have od:∀{x:Str}{c:Addr},X.env.cells.lookup x=some c→c<s.heap.objs.size:=fun {x c} h=>let⟨_,q⟩:=I.cell x c h;q.lt
 refine⟨⟨I.ok.mod,S.kind,I.ok.glob,I.ok.blt,hC,fun x y c h1 h2=>?_,fun x h=>?_,fun x c h1 h2=>?_,I.ok.hd,I.ok.frames, .inl rfl,fun b hb=>⟨?_,fun x c e=>?_⟩,I.bs,U4 I.ok.bsz I.sz,fun b ob e hb=>?_,stkne,I.stack,I.stkFree⟩,
  hos,by rw[hg];exact I.bare,Un.kept hk,⟨m,hns,fun j x v e1 e2 e3=>?_⟩,fun x c e=>?_,I.hok.fresh hC,fun x c e=>?_,fun p hp=>?_,I.hok.kept hk,?_⟩
 ·rcases kbQ S I h1 with q1|q1 <;> rcases kbQ S I h2 with q2|q2
  ·exact name_of_addr hnew.apart (PySem.mem_of_lookup q1) (PySem.mem_of_lookup q2)
  ·exact absurd (JY hC (nw q1).2) (Nat.not_lt_of_lt (od q2))
  ·exact absurd (JY hC (nw q2).2) (Nat.not_lt_of_lt (od q1))
  ·exact I.ok.inj x y c q1 q2
 ·have h':(relabel scope X.env).names.lookup x=some .cell∨(relabel scope X.env).names.lookup x=some .free:=h
  rw[kcX I.ok.kind] at h'
  show ∃c,(cellsFrom (C+1) scope.names (closL X.env.cells scope.names [])).lookup x=some c
  rw[kbP]
  rcases kkX h' with q|q
  ·obtain⟨c,e⟩:=kdV (n:=C+1) q
   exact⟨c,by rw[e];rfl⟩
  ·obtain⟨c,e⟩:=kb9 (cells:=X.env.cells) scope.names [] (.inl (PySem.mem_of_lookup q))
   cases e2:(cellsFrom (C+1) scope.names []).lookup x with
   |some c'=>exact⟨c',rfl⟩
   |none=>exact⟨c,e⟩
 ·have h1':(scope.names.lookup x==some .cell)=true:=h1
  have q:scope.names.lookup x=some .cell:=by simpa using h1'
  obtain⟨c',e⟩:=kdV (n:=C+1) q
  have h2':(cellsFrom (C+1) scope.names (closL X.env.cells scope.names [])).lookup x=some c:=h2
  rw[kbP,e] at h2'
  have h3:c'=c:=Option.some.inj h2'
  rw[←h3]
  exact Jf (JY hC (nw e).2)
 ·exact Js (Jq (hfp b hb) hC)
 ·rcases kbQ S I e with q|q
  ·exact JQ (N1 (Jq (hfp b hb) hC) (nw q).2)
  ·exact(f b hb).2.2.2.2.1 x c q
 ·obtain⟨_,_,_,h4,_⟩:=f b hb
  rcases h4 with h4|h4
  ·exact I.ok.noex b ob e h4
  ·exact absurd (Jq (Heap.lt_size e) (U4 I.ok.bsz h4)) (J4 _)
 ·
  have e2':(cap.map fun o=>match o with|some i=>(σ[i]?).getD none|none=>none)[j]?=some (some v):=e2
  rw[Jb] at e2'
  cases ec:cap[j]? with
  |none=>rw[ec] at e2';cases e2'
  | some oi=>
   rw[ec] at e2'
   cases oi with
   |none=>cases e2'
   | some i=>
    have e4:(σ[i]?).getD none=some v:=Option.some.inj e2'
    have e5: σ[i]?=some (some v):=by
     cases q: σ[i]? with
     |none=>rw[q] at e4;cases e4
     |some w=>rw[q] at e4;exact congrArg some e4
    obtain⟨h1,hf,hnc⟩:=S.cap j i x ec e1
    have hm:=PySem.mem_of_lookup hf
    have h2:=S.free _ hm rfl
    obtain⟨mo,_,hl⟩:=I.loc
    obtain⟨u,ru,lk⟩:=hl i x v h1 e5 (.inr h2)
    have h3:(relabel scope X.env).names.lookup x=some .cell∨(relabel scope X.env).names.lookup x=some .free:=by
     rw[kcX I.ok.kind]
     exact kih hf
    refine⟨u,ru, .inr ⟨h3,?_⟩⟩
    rcases lk with⟨k1,_⟩|⟨_,c,ec',z⟩
    ·have k1':X.env.scope.names.lookup x=some .local:=k1
     rcases h2 with h2|h2 <;> rw[h2] at k1' <;> cases k1'
    ·obtain⟨c',ec2⟩:=kb9 (cells:=X.env.cells) scope.names [] (.inl hm)
     have ec3:(kdB X scope C).lookup x=some c':=by
      unfold kdB
      rw[kck _ _ _ hnc]
      exact ec2
     rcases kdc _ _ ec2 with⟨_,q2⟩|q2
     ·rw[ec'] at q2
      have q3:c'=c:=q2
      subst q3
      obtain⟨oc,ho,hd⟩:=z
      exact⟨c',ec3,oc,hk _ _ ho,hd⟩
     ·cases q2
 ·rcases kbQ S I e with q|q
  ·exact⟨none,(nw q).1⟩
  ·obtain⟨v,oc,ho,hd⟩:=I.cell x c q
   exact⟨v,oc,hk _ _ ho,hd⟩
 ·rcases kbQ S I e with q|q
  ·exact I.hok.fresh (U4 hC (Jf (nw q).2))
  ·exact I.freeC x c q
 ·have e:p=(D,o):=by simpa[cxC] using hp
  subst e
  exact⟨eD,I.hok.fresh hD,hDC,fun hz=>absurd (khT I hz) (N2.mpr hD),hcell⟩
 ·show(cap.map _).length=N.length
  rw[U0,S.len]
theorem comp_back{fp:List Addr}{C:Addr}{σ':St}{H':Hp}{s':Shared}(I:Inv X pins σ H s)(f:∀b∈fp,FpOk X pins H b)(J:Inv (cxC X scope N fp s H C) [] σ' H' s'):Inv X pins σ H' s':=
 I.call' (ch:=fp) J.os J.base J.hok J.bare fun b hb=>let⟨_,h1,_,h3,h4,h5⟩:=f b hb;⟨h3,h1,h4,h5⟩
end
noncomputable def PIf(X:Cx)(ifs:List Expr)(t:TT):Prop:=∀(pins:List (Addr×Obj))(s:Shared)(σ:St)(H:Hp)(Q:Bool→Hp→Prop),Inv X pins σ H s→t σ H Q→
 wpAny (model X.prog X.w) X.A (forIn ifs true fun c r=>if r=true then do let ok ←isTrue c X.env (eval c X.env);pure (ForInStep.yield ok) else pure (ForInStep.yield r)) (TP X pins σ Q) X.xe s
noncomputable def tYes:TT:=fun _ H Q=>Q true H
def kiq{X:Cx}:PIf X [] tYes:=fun _ _ _ H _ I h=>wpAny_tests_nil ⟨H,I,h⟩
def kip{X:Cx}{c:Expr}{t:TT}(h:PT X c t):PIf X [c] t:=fun pins s σ H Q I hw=>wpAny_tests_one (h pins s σ H Q I hw)
theorem kfZ{prog:Program}{w:World}{A:Around}{R:Result→Shared→Prop}{s:Shared}{elt target iter:Expr}{ifs:List Expr}{scope:Scope}{pos:Pos}{it acc:Value}{env:Env}(I:Nat→Shared→Prop)
  (turn:∀n s,I n s→wpAny (model prog w) A (pyNext it) (fun r s₁=>match r with
   |none=>R (.ok .next) s₁
   | some v=>wpAny (model prog w) A (letOwnedTupleGo target it v) (fun _ s₁'=>wpAny (model prog w) A (assign target env v) (fun _ s₂=>
     wpAny (model prog w) A (forIn ifs true fun c r=>if r=true then do let ok ←isTrue c env (eval c env);pure (ForInStep.yield ok) else pure (ForInStep.yield r)) (fun ok s₂'=>
      if ok=true then wpAny (model prog w) A (eval elt env) (fun x s₃=>
       wpAny (model prog w) A (call (.builtin "list.append") [acc,x]) (fun _ s₄=>∃m,m<n∧I m s₄) (fun _ _=>False) s₃) (fun _ _=>False) s₂'
      else ∃m,m<n∧I m s₂') (fun _ _=>False) s₂) (fun _ _=>False) s₁') (fun _ _=>False) s₁) (fun _ _=>False) s)
  (n:Nat) (h:I n s):codeAny (model prog w) A (.compLoop (.ListComp elt [⟨target,iter,ifs,0⟩] scope pos) 0 it acc env) R s:=by
 refine codeAny_loop rfl I (fun n s hI=>?_) n h
 show wpAny _ _ ((compTurn (.ListComp elt [⟨target,iter,ifs,0⟩] scope pos) 0 it acc env).onRaise (fun x=>do noteFrame x env;theTreesLotGoes x)) _ _ s
 refine wpAny_noted ?_
 rw[compTurn_list]
 refine wpAny_bind (wpAny_standAt (wpAny_bind (wpAny_mono (turn n s hI) (fun r s₁ h₁=>?_) fun _ _ h'=>h'.elim)))
 cases r with
 |none=>exact wpAny_pure h₁
 | some v=>
  refine wpAny_bind (wpAny_mono h₁ (fun _ s₁' h₁'=>?_) fun _ _ h'=>h'.elim)
  refine wpAny_bind (wpAny_mono h₁' (fun _ s₂ h₂=>wpAny_bind (wpAny_mono h₂ (fun ok s₂' h₂'=>?_) fun _ _ h'=>h'.elim)) fun _ _ h'=>h'.elim)
  cases ok with
  |false=>exact wpAny_pure ⟨rfl,h₂'⟩
  |true=>
   exact wpAny_bind (wpAny_bind (wpAny_mono h₂' (fun x s₃ h₃=>wpAny_bind (wpAny_mono h₃ (fun _ s₄ h₄=>wpAny_pure (wpAny_pure ⟨rfl,h₄⟩)) fun _ _ h'=>h'.elim)) fun _ _ h'=>h'.elim))
noncomputable def klA(wi:TI)(cap:List (Option Nat))(g:TG)(tt:TT)(te:TE):TE:=fun σ H Q=>wi σ H fun J H1=>∃W:Nat→Nat→St→List V→Hp→Prop,(∃m,W 0 m (capσ cap σ) [] H1)∧∀i m σ' ys H',W i m σ' ys H'→
 (J.stop i H'∧∀D,H' D=none→Q (.ref D) (upd H' D (.lst ys)))∨(J.go i H'∧ys.length<sizeLine∧∃(N:St→V→Hp→Prop)(N0:St→Hp→Prop),(∀σ2 y H4,N σ2 y H4→∃m',m'<m∧W (i+1) m' σ2 (ys++[y]) H4)∧(∀σ2 H4,N0 σ2 H4→∃m',m'<m∧W (i+1) m' σ2 ys H4)∧
  ∀x H2,J.yld i H' x H2→g x σ' H2 fun σ2 H3=>tt σ2 H3 fun b H4=>if b=true then te σ2 H4 (N σ2) else N0 σ2 H4)
noncomputable def tComp(wi:TI)(cap:List (Option Nat))(g:TG)(te:TE):TE:=fun σ H Q=>wi σ H fun J H1=>∃W:Nat→Nat→St→List V→Hp→Prop,(∃m,W 0 m (capσ cap σ) [] H1)∧∀i m σ' ys H',W i m σ' ys H'→
 (J.stop i H'∧∀D,H' D=none→Q (.ref D) (upd H' D (.lst ys)))∨(J.go i H'∧ys.length<sizeLine∧∃N:St→V→Hp→Prop,(∀σ2 y H4,N σ2 y H4→∃m',m'<m∧W (i+1) m' σ2 (ys++[y]) H4)∧
  ∀x H2,J.yld i H' x H2→g x σ' H2 fun σ2 H3=>te σ2 H3 (N σ2))
section
variable {X:Cx} {scope:Scope} {N:List Str} {cap:List (Option Nat)} {pins:List (Addr×Obj)} {σ:St} {H2:Hp} {s2:Shared} {tg elt iter:Expr} {ifs:List Expr} {pos:Pos} {g:TG} {tt:TT} {te:TE}
theorem kdu{fp:List Addr}{it:Addr}{tn:Nat→Heap→Prop}{J:It}{Q:VK}{RR:Value→Addr→Result→Shared→Prop}{E:Value→Shared→Prop}(S:CompScope X scope N cap)(hc:X.calm=true)
  (hg:∀fp s H C,PG (cxC X scope N fp s H C) tg g) (ht:∀fp s H C,PIf (cxC X scope N fp s H C) ifs tt) (he:∀fp s H C,PE (cxC X scope N fp s H C) elt te)
  (I2:Inv X pins σ H2 s2) (T:Turn X.prog X.w X.K tg J fp it tn) (st2:tn 0 s2.heap) (f2:∀b∈fp,FpOk X pins H2 b)
  (W:Nat→Nat→St→List V→Hp→Prop) {m0:Nat} (w0:W 0 m0 (capσ cap σ) [] H2)
  (turn:∀i m σ' ys H',W i m σ' ys H'→(J.stop i H'∧∀D,H' D=none→Q (.ref D) (upd H' D (.lst ys)))∨(J.go i H'∧ys.length<sizeLine∧∃(N:St→V→Hp→Prop)(N0:St→Hp→Prop),(∀σ2 y H4,N σ2 y H4→∃m',m'<m∧W (i+1) m' σ2 (ys++[y]) H4)∧(∀σ2 H4,N0 σ2 H4→∃m',m'<m∧W (i+1) m' σ2 ys H4)∧
   ∀x H2,J.yld i H' x H2→g x σ' H2 fun σ2 H3=>tt σ2 H3 fun b H4=>if b=true then te σ2 H4 (N σ2) else N0 σ2 H4))
  (hRR:∀(D C:Addr)(H':Hp)(s':Shared)(m:Str→Option Value),Inv X pins σ H' s'→FpOk X pins H' C→C≠D→s'.heap.Ns C m→Q (.ref D) H'→RR (.ref D) C (.ok .next) s'):
  wpAny (model X.prog X.w) X.A (newList []) (fun acc s₃=>wpAny (model X.prog X.w) X.A (newFunctionEnv scope X.env.globals (closL X.env.cells scope.names []) [] X.env.qual none .none (some X.env)) (fun cenv s₄=>
   codeAny (model X.prog X.w) X.A (.compStart (.ListComp elt [⟨tg,iter,ifs,0⟩] scope pos) 0 (.ref it) acc {cenv with scope:=relabel scope X.env}) (RR acc cenv.locals) s₄) E s₃) E s2:=by
 refine wpAny_newObj_type (kff ?_)
 dsimp only
 generalize hP:s2.heap.push {cls:=.type "list",dict:=none,data:=.seq ([]:List Value).toArray}=P
 have hnew:CellsOk (pushCells (P.push {cls:=.type "dict",data:=.dict #[]}) scope.names) (P.objs.size+1) (cellsFrom (P.objs.size+1) scope.names []):=by
  have q:=cellsFrom_ok scope.names (P.push {cls:=.type "dict",data:=.dict #[]}) (P.objs.size+1) [] ⟨fun _ _ hm=>(nomatch hm),Ny.nil⟩ (by rw[Heap.size_push];exact U2 _)
  rwa [Heap.size_push] at q
 have hns₁:(pushCells (P.push {cls:=.type "dict",data:=.dict #[]}) scope.names).Ns P.objs.size (fun _=>none):=(Heap.Ns.new P (.type "dict")).keeps (pushCells_keeps _ _)
 have keep₁:∀b o,P.get? b=some o→(pushCells (P.push {cls:=.type "dict",data:=.dict #[]}) scope.names).get? b=some o:=fun b o e=>pushCells_keeps _ _ b o (Heap.get?_push_of_some _ e)
 generalize pushCells (P.push {cls:=.type "dict",data:=.dict #[]}) scope.names=h₁ at hnew hns₁ keep₁⊢
 have hC:P.objs.size=s2.heap.objs.size+1:=by rw[←hP,Heap.size_push]
 have hDC:s2.heap.objs.size≠P.objs.size:=by rw[hC];exact Js (Mp _)
 have hCle:s2.heap.objs.size≤P.objs.size:=by rw[hC];exact Nj _
 have hDle:s2.heap.objs.size≤s2.heap.objs.size:=U2 _
 have old:∀b o,s2.heap.get? b=some o→h₁.get? b=some o:=fun b o e=>keep₁ b o (hP▸Heap.get?_push_of_some _ e)
 have hacc:h₁.get? s2.heap.objs.size=some {cls:=.type "list",data:=.seq ([]:List Value).toArray}:=keep₁ _ _ (hP▸Heap.get?_push_size _ rfl)
 have hfp:∀b∈fp,b<s2.heap.objs.size:=fun b hb=>let⟨_,e,_⟩:=T.obj 0 _ st2 b hb;Heap.lt_size e
 generalize hDd:s2.heap.objs.size=D at hacc hDC hDle⊢
 rw[hDd] at hCle hC
 generalize P.objs.size=C at hnew hns₁ hC hDC hCle⊢
 have dne:∀b∈fp,D≠b:=fun b hb=>JQ (hDd▸hfp b hb)
 have cne:∀b∈fp,b≠C:=fun b hb=>Js (Jq (hDd▸hfp b hb) hCle)
 have stkne:∀b∈fp,b∉frs X.stack:=fun b hb hz=>by
  obtain⟨_,h1,h2,_⟩:=f2 b hb
  rcases Jr.mp (I2.stkSub b hz) with e|e
  ·exact h1 e
  ·exact h2 e
 have dfs:D∉frs X.stack:=fun hz=>absurd (khT I2 hz) (by rw[hDd];exact J4 _)
 have dcell:∀x c,(kdB X scope C).lookup x=some c→c≠D:=fun x c e z=>by
  rcases kbQ S I2 e with e|e
  ·have q:Nat.lt C c:=(hnew.empty x c (PySem.mem_of_lookup e)).2
   rw[z] at q
   exact absurd (JY hCle q) (J4 _)
  ·obtain⟨v,q⟩:=I2.cell x c e
   have:=q.lt
   rw[z,hDd] at this
   exact absurd this (J4 _)
 have bcell:∀b∈fp,∀x c,(kdB X scope C).lookup x=some c→c≠b:=fun b hb x c e=>by
  rcases kbQ S I2 e with e|e
  ·have q:Nat.lt C c:=(hnew.empty x c (PySem.mem_of_lookup e)).2
   exact JQ (N1 (Jq (hDd▸hfp b hb) hCle) q)
  ·exact(f2 b hb).2.2.2.2.1 x c e
 have stat:∀{o:Obj}{H':Hp},(∀b∈fp,H' b=none)→∀b∈fp,FpOk (cxC X scope N fp s2 H2 C) [(D,o)] H' b:=fun {o H'} hn b hb=>
  ⟨hn b hb,cne b hb,stkne b hb, .inl hb,bcell b hb,fun p hp=>by
   have e:p=(D,o):=by simpa[cxC] using hp
   subst e
   exact dne b hb⟩
 have loop:∀s₃:Shared,s₃= {s2 with heap:=h₁}→
   codeAny (model X.prog X.w) X.A (.compLoop (.ListComp elt [⟨tg,iter,ifs,0⟩] scope pos) 0 (.ref it) (.ref D) (compEnvC scope (kdB X scope C) C X.env)) (RR (.ref D) C) s₃:=by
  rintro s₃ rfl
  have I3:Inv (cxC X scope N fp s2 H2 C) [(D,_)] (capσ cap σ) H2 {s2 with heap:=h₁}:=
   kjT S I2 f2 hfp old hns₁ (by rw[hDd];exact hCle) (by rw[hDd];exact U2 _) hDC hacc (fun v z=>by cases z) hnew rfl rfl
  refine kfZ (fun n s'=>∃i σ' ys H' its k,Inv (cxC X scope N fp s2 H2 C) [] σ' H' s'∧tn i s'.heap∧(∀b∈fp,H' b=none)∧H' D=none∧s'.heap.get? D=some {cls:=.type "list",data:=.seq (its:List Value).toArray k}∧Vals ys its∧ys.length≤sizeLine∧W i n σ' ys H') ?_ m0
   ⟨0,_,[],H2,[],_,I3.pins_of (fun p hp=>nomatch hp),T.keep _ _ _ st2 (fun b hb o e=>old b o e),fun b hb=>(f2 b hb).1,I2.hok.fresh (by rw[hDd];exact U2 _),hacc, .nil,Jv _,w0⟩
  rintro n s3 ⟨i,σ3,ys,H3,its,k,J3,st3,fr3,hD3,e3,r3,z3,w3⟩
  have J3':Inv (cxC X scope N fp s2 H2 C) [(D,{cls:=.type "list",data:=.seq its.toArray k})] σ3 H3 s3:=J3.pins_of fun p hp=>by
   have e:p=(D,{cls:=.type "list",data:=.seq its.toArray k}):=by simpa using hp
   subst e
   exact⟨e3,hD3,hDC,dfs,fun v z=>by cases z⟩
  rcases turn i n σ3 ys H3 w3 with⟨stop,qn⟩|⟨go,hlt,N',N0',hN,hN0,step⟩
  ·refine thn (T.done (cxC X scope N fp s2 H2 C) rfl rfl rfl hc i _ s3 σ3 H3 (fun _ _=>False) J3' (stat fr3) st3 stop) fun r s4 ⟨hr,I4⟩=>?_
   subst hr
   have e4:=(I4.pin (D,{cls:=.type "list",data:=.seq its.toArray k}) (by simp[cxC])).1
   have B:Inv X pins σ H3 s4:=comp_back I2 f2 (I4.pins_of fun p hp=>nomatch hp)
   obtain⟨m,hm,_⟩:=I4.loc
   have fD:FpOk X pins H3 D:=I2.fpOk (by rw[hDd];exact U2 _) hD3
   have B':Inv X pins σ (upd H3 D (.lst ys)) s4:=B.adopt fD (by rw[←hDd];exact I2.sz) ⟨z3,its,k,r3,e4⟩
   refine hRR D C _ s4 m B' (I2.fpOk (by rw[hDd];exact hCle) ?_) hDC.symm hm (qn D hD3)
   rw[kaj hDC.symm]
   exact I4.free
  ·refine thn (T.item (cxC X scope N fp s2 H2 C) rfl rfl rfl hc i _ s3 σ3 H3 (fun _ _=>False) J3' (stat fr3) st3 go) fun r s4 ⟨u,hr,h4⟩=>?_
   subst hr
   refine thn h4 fun _ s5 ⟨x,H5,I5,r5,y5,st5,fr5⟩=>?_
   have I5':=I5.pinned (stat fr5) (T.obj _ _ st5)
   refine thn (hg fp s2 H2 C _ s5 σ3 H5 x u _ I5' r5 (step x H5 y5)) fun _ s6 ⟨σ6,H6,I6,q6⟩=>?_
   refine thn (ht fp s2 H2 C _ s6 σ6 H6 _ I6 q6) fun ok s6' ⟨H6',I6',q6'⟩=>?_
   cases ok with
   | false=>
    have q6':N0' σ6 H6':=by simpa using q6'
    obtain⟨m',hm',w7⟩:=hN0 σ6 H6' q6'
    have p7:=I6'.pin (D,{cls:=.type "list",data:=.seq its.toArray k}) (by simp[cxC])
    have e7:s6'.heap.get? D=some {cls:=.type "list",data:=.seq its.toArray k}:=p7.1
    have pf:∀b∈fp,∀o,s5.heap.get? b=some o→s6'.heap.get? b=some o∧H6' b=none:=fun b hb o e=>
     let z:=I6'.pin (b,o) (JF _ (JF _ (kcD hb e)))
     ⟨z.1,z.2.1⟩
    refine⟨m',hm',i+1,σ6,ys,H6',its,_,I6'.pins_of (fun p hp=>nomatch hp),T.keep _ _ _ st5 (fun b hb o e=>(pf b hb o e).1),fun b hb=>?_,p7.2.1,e7,r3,z3,w7⟩
    obtain⟨o,e,_⟩:=T.obj _ _ st5 b hb
    exact(pf b hb o e).2
   |true=>
   have q6':te σ6 H6' (N' σ6):=by simpa using q6'
   refine thn (he fp s2 H2 C _ s6' σ6 H6' _ I6' q6') fun v s7 ⟨y,H7,I7,r7,q7⟩=>?_
   obtain⟨m',hm',w7⟩:=hN σ6 y H7 q7
   have p7:=I7.pin (D,{cls:=.type "list",data:=.seq its.toArray k}) (by simp[cxC])
   have e7:s7.heap.get? D=some {cls:=.type "list",data:=.seq its.toArray k}:=p7.1
   have hl7:=r3.length
   refine call_meets F.slot_list_append ⟨_,e7,rfl⟩ F.entry_list_append (F.args_list_append_2 _ _) (PySem.list_append D its.toArray k v (by rw[Jk];omega)) ⟨e7,?_⟩
   have q8:=PySem.IsL.update e7 (·.push v)
   have ex8:its.toArray.push v=(its++[v]).toArray:=by simp
   rw[ex8] at q8
   have pf:∀b∈fp,∀o,s5.heap.get? b=some o→s7.heap.get? b=some o∧H7 b=none:=fun b hb o e=>
    let z:=I7.pin (b,o) (JF _ (JF _ (kcD hb e)))
    ⟨z.1,z.2.1⟩
   have I7':Inv (cxC X scope N fp s2 H2 C) [] σ6 H7 s7:=I7.pins_of fun p hp=>nomatch hp
   refine⟨m',hm',i+1,σ6,ys++[y],H7,its++[v],_,I7'.turned (it:=D) (fun b o hb e=>(Heap.get?_update_other _ _ (Ne.symm hb)).trans e) p7.2.1 hDC (.inr (by show s2.heap.objs.size≤D;rw[hDd];exact U2 _)) dcell (fun p hp=>nomatch hp),
    T.keep _ _ _ st5 (fun b hb o e=>(Heap.get?_update_other _ _ (dne b hb)).trans (pf b hb o e).1),fun b hb=>?_,p7.2.1,q8,r3.append (.cons r7 .nil),by rw[Jh,Nx];omega,w7⟩
   obtain⟨o,e,_⟩:=T.obj _ _ st5 b hb
   exact(pf b hb o e).2
 have st1:tn 0 h₁:=T.keep _ _ _ st2 (fun b hb o e=>old b o e)
 exact codeAny_compStart_list (loop _ rfl) (T.self X.A 0 _ _ _ st1 (loop _ rfl))
theorem kg4{wi:TI}(S:CompScope X scope N cap)(hc:X.calm=true)(hi:PI X tg iter wi)(hg:∀fp s H C,PG (cxC X scope N fp s H C) tg g)(ht:∀fp s H C,PIf (cxC X scope N fp s H C) ifs tt)(he:∀fp s H C,PE (cxC X scope N fp s H C) elt te)
  (hs:∀x,foldedSetIterable iter X.env x=pure x:=by intro _;rfl):PE X (.ListComp elt [⟨tg,iter,ifs,0⟩] scope pos) (klA wi cap g tt te):=by
 intro pins s σ H Q I h
 rw[eval_ListComp]
 refine wpAny_comprehension_free (use:=none) rfl hs (kcC S I) S.kind S.names (thn (hi pins s σ H _ I h) fun v s1 h1=>thn h1 fun itv s2 h2=>?_)
 obtain⟨it,fp,tn,J,H2,e,I2,T,st2,f2,W,⟨m0,w0⟩,turn⟩:=h2
 subst e
 refine kdu (RR:=fun acc C=>compPost (model X.prog X.w) X.A X.xe none (EP X pins σ Q) acc C) S hc hg ht he I2 T st2 f2 W w0 turn fun D C H' s' m B fC hCD hm q=>?_
 obtain⟨c0,c1,c2,c3,c4,c5⟩:=fC
 exact⟨m,hm,fun h' hs'=>⟨.ref D,H',B.turned (t':=s'.toks) (fun b o hb e=>(hs'.2 b hb).trans e) c0 c1 c3 c4 c5,rfl,q⟩⟩
theorem kfY{J:It}{Q:VK}{W:Nat→Nat→St→List V→Hp→Prop}(h:∀i m σ' ys H',W i m σ' ys H'→(J.stop i H'∧∀D,H' D=none→Q (.ref D) (upd H' D (.lst ys)))∨(J.go i H'∧ys.length<sizeLine∧∃N:St→V→Hp→Prop,(∀σ2 y H4,N σ2 y H4→∃m',m'<m∧W (i+1) m' σ2 (ys++[y]) H4)∧
   ∀x H2,J.yld i H' x H2→g x σ' H2 fun σ2 H3=>te σ2 H3 (N σ2))):∀i m σ' ys H',W i m σ' ys H'→(J.stop i H'∧∀D,H' D=none→Q (.ref D) (upd H' D (.lst ys)))∨(J.go i H'∧ys.length<sizeLine∧∃(N:St→V→Hp→Prop)(N0:St→Hp→Prop),(∀σ2 y H4,N σ2 y H4→∃m',m'<m∧W (i+1) m' σ2 (ys++[y]) H4)∧(∀σ2 H4,N0 σ2 H4→∃m',m'<m∧W (i+1) m' σ2 ys H4)∧
   ∀x H2,J.yld i H' x H2→g x σ' H2 fun σ2 H3=>tYes σ2 H3 fun b H4=>if b=true then te σ2 H4 (N σ2) else N0 σ2 H4):=by
 intro i m σ' ys H' w
 rcases h i m σ' ys H' w with h|⟨go,hl,N,hN,st⟩
 ·exact .inl h
 ·refine .inr ⟨go,hl,N,fun _ _=>False,hN,(fun _ _ z=>z.elim),fun x H2 y=>?_⟩
  have e:(fun(σ2:St)(H3:Hp)=>tYes σ2 H3 fun b H4=>if b=true then te σ2 H4 (N σ2) else False)=fun σ2 H3=>te σ2 H3 (N σ2):=by
   funext σ2 H3
   show(if true=true then te σ2 H3 (N σ2) else False)=te σ2 H3 (N σ2)
   rw[if_pos rfl]
  rw[e]
  exact st x H2 y
theorem kb4{wi:TI}(S:CompScope X scope N cap)(hc:X.calm=true)(hi:PI X tg iter wi)(hg:∀fp s H C,PG (cxC X scope N fp s H C) tg g)(he:∀fp s H C,PE (cxC X scope N fp s H C) elt te)
  (hs:∀x,foldedSetIterable iter X.env x=pure x:=by intro _;rfl):PE X (.ListComp elt [⟨tg,iter,[],0⟩] scope pos) (tComp wi cap g te):=by
 intro pins s σ H Q I h
 rw[eval_ListComp]
 refine wpAny_comprehension_free (use:=none) rfl hs (kcC S I) S.kind S.names (thn (hi pins s σ H _ I h) fun v s1 h1=>thn h1 fun itv s2 h2=>?_)
 obtain⟨it,fp,tn,J,H2,e,I2,T,st2,f2,W,⟨m0,w0⟩,turn⟩:=h2
 subst e
 refine kdu (RR:=fun acc C=>compPost (model X.prog X.w) X.A X.xe none (EP X pins σ Q) acc C) S hc hg (fun _ _ _ _=>kiq) he I2 T st2 f2 W w0 (kfY turn) fun D C H' s' m B fC hCD hm q=>?_
 obtain⟨c0,c1,c2,c3,c4,c5⟩:=fC
 exact⟨m,hm,fun h' hs'=>⟨.ref D,H',B.turned (t':=s'.toks) (fun b o hb e=>(hs'.2 b hb).trans e) c0 c1 c3 c4 c5,rfl,q⟩⟩
theorem kgo{wi:TI}{i:Nat}{y:Str}{py spos:Pos}(S:CompScope X scope N cap)(hc:X.calm=true)(hi:PI X tg iter wi)(hg:∀fp s H C,PG (cxC X scope N fp s H C) tg g)(he:∀fp s H C,PE (cxC X scope N fp s H C) elt te)
  (hA:PG X (.Name y py) (gName i)) (hsw:swapsWith (.ListComp elt [⟨tg,iter,[],0⟩] scope pos) (some (.Name y py)) spos.line X.env=pure true:=by rfl)
  (hs:∀x,foldedSetIterable iter X.env x=pure x:=by intro _;rfl):PS X (.Assign [.Name y py] (.ListComp elt [⟨tg,iter,[],0⟩] scope pos) spos) (tAsg (tComp wi cap g te) (gName i)):=by
 intro pins s σ H D I h
 rw[exec_Assign_Name_used _ _ _ _ hsw]
 refine wpAny_bind (wpAny_standAt (wpAny_bind ?_))
 show wpAny _ X.A (do let _ ←comprehension (.ListComp elt [⟨tg,iter,[],0⟩] scope pos) scope X.env _ (newList []) false (eval iter X.env) (some (assign (.Name y py) X.env))) _ _ s
 refine wpAny_bind (wpAny_mono (wpAny_comprehension_free (use:=some (assign (.Name y py) X.env)) (Q:=fun _ s'=>SP X pins D .next s') rfl hs (kcC S I) S.kind S.names
  (thn (hi pins s σ H _ I h) fun v s1 h1=>thn h1 fun itv s2 h2=>?_)) (fun _ s' hq=>wpAny_pure (wpAny_pure hq)) fun _ _ e=>e)
 obtain⟨it,fp,tn,J,H2,e,I2,T,st2,f2,W,⟨m0,w0⟩,turn⟩:=h2
 subst e
 refine kdu (Q:=fun v H'=>gName i v σ H' D.nx) (RR:=fun acc C=>compPost (model X.prog X.w) X.A X.xe (some (assign (.Name y py) X.env)) (fun _ s'=>SP X pins D .next s') acc C) S hc hg (fun _ _ _ _=>kiq) he I2 T st2 f2 W w0 (kfY (Q:=fun v H'=>gName i v σ H' D.nx) turn) fun D' C H' s' m B fC hCD hm q=>?_
 obtain⟨c0,c1,c2,c3,c4,c5⟩:=fC
 obtain⟨oC,es,ep,eC,dC,kC⟩:=hm
 have B':Inv X (pins++[(C,oC)]) σ H' s':=B.pins_of fun p hp=>by
  rcases JE.mp hp with hp|hp
  ·exact B.pin p (JF _ hp)
  ·have e:p=(C,oC):=by simpa using hp
   subst e
   exact⟨eC,c0,c1,c2,fun v z=>by rw[dC] at z;cases z⟩
 refine thn (hA _ s' σ H' (.ref D') (.ref D') _ B' rfl q) fun _ s'' ⟨σ2,H3,I3,q3⟩=>?_
 obtain⟨e3,n3,_⟩:=I3.pin (C,oC) (JF _ (JF _ (by simp)))
 exact⟨m,⟨oC,es,ep,e3,dC,kC⟩,fun h' hs'=>⟨σ2,H3,I3.unpinned.turned (t':=s''.toks) (fun b o hb e=>(hs'.2 b hb).trans e) n3 c1 c3 c4 c5,q3⟩⟩
end
section
variable {g:TG} {te:TE} {σ:St} {H:Hp} {R:List V→Hp→Addr→Prop}
theorem ka5{K:U1}{a:Addr}{xs:List V}(Pv:Nat→St→List V→Hp→Prop)(h0:Pv 0 σ [] H)(hz:xs.length≤sizeLine)(hl:∀i σ ys H,i≤xs.length→Pv i σ ys H→SqL K H a xs∧ys.length=i)
  (hs:∀i x σ ys H,xs[i]?=some x→Pv i σ ys H→g x σ H fun σ2 H2=>te σ2 H2 fun y H3=>Pv (i+1) σ2 (ys++[y]) H3) (hd:∀σ ys H,Pv xs.length σ ys H→∀D,H D=none→R ys H D):
  ∃ W:Nat→Nat→St→List V→Hp→Prop,(∃m,W 0 m σ [] H)∧∀i m σ' ys H',W i m σ' ys H'→
   ((Itl K a).stop i H'∧∀D,H' D=none→R ys H' D)∨((Itl K a).go i H'∧ys.length<sizeLine∧∃N:St→V→Hp→Prop,(∀σ2 y H4,N σ2 y H4→∃m',m'<m∧W (i+1) m' σ2 (ys++[y]) H4)∧
    ∀x H2,(Itl K a).yld i H' x H2→g x σ' H2 fun σ2 H3=>te σ2 H3 (N σ2)):=by
 refine⟨fun i m σ ys H=>m=xs.length-i∧i≤xs.length∧Pv i σ ys H,⟨xs.length,by simp,Jv _,h0⟩,?_⟩
 rintro i m σ ys H ⟨rfl,hi,p⟩
 obtain⟨q,el⟩:=hl i σ ys H hi p
 by_cases hlt:i<xs.length
 ·refine .inr ⟨⟨xs,xs[i],q,by simp[hlt]⟩,by omega,fun σ2 y H3=>Pv (i+1) σ2 (ys++[y]) H3,fun σ' y H' p'=>⟨xs.length-(i+1),by omega,rfl,hlt,p'⟩,fun x H' yl=>?_⟩
  obtain⟨e,yl⟩:=yl
  subst e
  exact hs i x σ ys _ (yl xs q) p
 ·have e:i=xs.length:=by omega
  subst e
  exact .inl ⟨⟨xs,q,U2 _⟩,hd σ ys H p⟩
end
theorem CompScope.plain{X:Cx}{scope:Scope}{N:List Str}(kind:scope.kind=.function)(names:∀x∈scope.names,x.2=.local→scope.names.lookup x.1=some .local)(_:∀x∈scope.names,x.2≠.cell)(nf:∀x∈scope.names,x.2≠.free)(nd:N.Nodup):
  CompScope X scope N (U6 N.length none):=by
 refine⟨kind,names,fun x hx hf=>absurd hf (nf x hx),nd,by simp,fun j i x e _=>?_⟩
 rw[Ms] at e
 split at e
 ·cases e
 ·cases e
noncomputable def kkG(scope:Scope)(ns:List (Str×NameKind))(XN N:List Str)(cap:List (Option Nat)):Bool:=
 scope.kind== .function&&scope.names.all (fun x=>!(x.2== .local)||scope.names.lookup x.1==some .local)&&scope.names.all (fun x=>!(x.2== .free)||(ns.lookup x.1==some .cell||ns.lookup x.1==some .free))&&decide N.Nodup&&decide (cap.length=N.length) &&
  (cap.zip N).all fun p=>match p.1 with
   |none=>true
   |some i=>XN[i]? ==some p.2&&scope.names.lookup p.2==some .free&&scope.names.all fun y=>!(y.1==p.2&&y.2== .cell)
def CompScope.of{X:Cx}{scope:Scope}{N:List Str}{cap:List (Option Nat)}(ns:List (Str×NameKind))(XN:List Str)(hn:X.env.scope.names=ns)(hN:X.N=XN)(h:kkG scope ns XN N cap=true):CompScope X scope N cap:=by
 unfold kkG at h
 simp only[Nk,decide_eq_true_eq,N3,Mu,Bool.not_eq_true',beq_iff_eq,beq_eq_false_iff_ne] at h
 obtain⟨⟨⟨⟨⟨h1,h2⟩,h3⟩,h4⟩,h5⟩,h6⟩:=h
 refine⟨h1,fun x hx hl=>?_,fun x hx hf=>?_,h4,h5,fun j i x e1 e2=>?_⟩
 ·rcases h2 x hx with q|q
  ·exact absurd hl q
  ·exact q
 ·rw[hn]
  rcases h3 x hx with q|q
  ·exact absurd hf q
  ·exact q
 ·have hz:(cap.zip N)[j]?=some (some i,x):=by
   rw[List.getElem?_zip_eq_some]
   exact⟨e1,e2⟩
  have q:=h6 _ (U9 hz)
  simp only[Nk,beq_iff_eq,N3,Bool.not_eq_true',Bool.and_eq_false_iff,beq_eq_false_iff_ne] at q
  obtain⟨⟨q1,q2⟩,q3⟩:=q
  refine⟨by rw[hN];exact q1,q2,fun z=>?_⟩
  rcases q3 _ z with q|q
  ·exact q rfl
  ·exact q rfl
end L2
namespace L2
open PySem PySem.Spec PyProof.Rows
theorem Inv.turnedL{X:Cx}{pins:List (Addr×Obj)}{σ:St}{H:Hp}{s:Shared}{h':Heap}{t':Nat}{ch:List Addr}(I:Inv X pins σ H s)(k:∀b o,b∉ch→s.heap.get? b=some o→h'.get? b=some o)(hf:∀b∈ch,FpOk X pins H b):
  Inv X pins σ H {s with heap:=h',toks:=t'}:=by
 have nch:∀b u,H b=some u→b∉ch:=fun b u e z=>by
  have:=(hf b z).1
  rw[this] at e
  cases e
 refine I.step (g':=s.gens) (d':=s.drawn) (ch:=ch) (fun b hb=>let⟨_,h1,_,h3,h4,h5⟩:=hf b hb;⟨h3,h1,h4,h5⟩) (fun b o _ _ hc e _=>k b o hc e) (fun b o _ _ hc e _=>⟨o.slots,k b o hc e⟩) (fun _ _ _ _ n=>n)
  (fun b o hc e=>⟨o,k b o hc e⟩) (fun _ _ e=>e) (fun _ _ _ e=>e) (fun b ps e=>⟨#[],by rw[e];simp⟩) (fun m hm=>?_) (fun b u e=>?_) I.bare
 ·obtain⟨o,es,ep,ho,r⟩:=hm
  exact⟨o,es,ep,k _ o (fun z=>(hf _ z).2.1 rfl) ho,r⟩
 ·refine(I.hok b u e).stay (fun c v hc q=>k c v ?_ q) (fun _ q=>q) fun _ _ q=>q
  rcases hc with z|z
  ·rw[z];exact nch b u e
  ·exact nch c _ z
noncomputable def Ite(a:Addr):It:=⟨fun i H=>∃xs x,H a=some (.lst xs)∧xs[i]?=some x,fun i H x H'=>∃t y,H t=none∧x=.ref t∧H'=upd H t (.tup [.int i,y])∧∀xs,H a=some (.lst xs)→xs[i]?=some y,fun i H=>∃xs,H a=some (.lst xs)∧xs.length≤i⟩
theorem khP{P:Program}{w:World}{K:U1}{es:List Expr}{k:Nat}{pos:Pos}(a e it:Addr)(hne:e≠it):Turn P w K (.Tuple es k pos) (Ite a) [e,it] e (fun i h=>(∃old,IsEnum h e it ((i:Nat):Int) old)∧h.IsListIter it a i) where
 mem:=by simp
 obj:=fun i h st b hb=>by
  obtain⟨⟨old,he⟩,o,eo,c,d⟩:=st
  have hb':b=e∨b=it:=by simpa using hb
  rcases hb' with rfl|rfl
  ·exact⟨_,he,fun v z=>by
    have z':Data.fields _=Data.cell v:=z
    cases z'⟩
  ·exact⟨o,eo,fun v z=>by rw[d] at z;cases z⟩
 keep:=fun i h h' st k=>⟨let⟨old,he⟩:=st.1;⟨old,k e (by simp) _ he⟩,st.2.at fun o eo=>k it (by simp) o eo⟩
 item:=by
  intro X hP hw hK hc i pins s σ H E I hf st hg
  subst hP hw hK
  obtain⟨⟨old,he⟩,hit⟩:=st
  obtain⟨xs,x,hq,hx⟩:=hg
  obtain⟨its,n,r,ho,hz⟩:=I.lst hq
  obtain⟨u,hu,ru⟩:=r.get hx
  have hl:s.heap.IsList a its.toArray:=⟨_,ho,rfl,n,rfl⟩
  refine wpAny_pyNext_enum_item he hit hl (x:=u) (by simpa using hu) hne fun h1 heo hit1 ht1 hz1 hk1=>?_
  refine⟨.ref s.heap.objs.size,rfl,wpAny_letOwnedTupleGo_enum heo fun h2 he2 hs2=>?_⟩
  have hs2':Heap.SameBut e h1 h2:=hs2
  have el:e<s.heap.objs.size:=Heap.lt_size he
  have kk:∀b o,b∉[e,it]→s.heap.get? b=some o→h2.get? b=some o:=fun b o hb eo=>by
   have hb':b≠e∧b≠it:=by simpa using hb
   exact(hs2'.2 b hb'.1).trans (hk1 b o hb'.1 hb'.2 eo)
  have I1:Inv X pins σ H {s with heap:=h2,toks:=s.toks+1}:=I.turnedL (ch:=[e,it]) kk hf
  have fr:H s.heap.objs.size=none:=I.hok.fresh (U2 _)
  have ft:FpOk X pins H s.heap.objs.size:=I.fpOk (U2 _) fr
  have ht2:h2.get? s.heap.objs.size=some {cls:=.type "tuple",data:=.seq #[.int i s.toks,u]}:=(hs2'.2 _ (JQ el)).trans ht1
  have I2:Inv X pins σ (upd H s.heap.objs.size (.tup [.int i,x])) {s with heap:=h2,toks:=s.toks+1}:=
   I1.adopt ft I.sz ⟨by show 2≤sizeLine;decide,[.int i s.toks,u], .cons ⟨_,rfl⟩ (.cons ru .nil),_,ht2,rfl,_,rfl⟩
  have hit2:h2.IsListIter it a (i+1):=hit1.extBut hs2'.extBut (Ne.symm hne)
  refine⟨.ref s.heap.objs.size,_,I2,rfl,⟨s.heap.objs.size,x,fr,rfl,rfl,fun ys hy=>by rw[hq] at hy;cases hy;exact hx⟩,⟨⟨u,?_⟩,hit2⟩,fun b hb=>?_⟩
  ·have e1:((i+1:Nat):Int)=(i:Int)+1:=rfl
   rw[e1]
   exact he2
  ·have hbl:b<s.heap.objs.size:=by
    have hb':b=e∨b=it:=by simpa using hb
    rcases hb' with rfl|rfl
    ·exact el
    ·obtain⟨o,eo,_⟩:=hit
     exact Heap.lt_size eo
   rw[kaj (Js hbl)]
   exact(hf b hb).1
 done:=by
  intro X hP hw hK hc i pins s σ H E I hf st hg
  subst hP hw hK
  obtain⟨⟨old,he⟩,hit⟩:=st
  obtain⟨xs,hq,hx⟩:=hg
  obtain⟨its,n,r,ho,hz⟩:=I.lst hq
  have hl:s.heap.IsList a its.toArray:=⟨_,ho,rfl,n,rfl⟩
  have hlen:=r.length
  obtain⟨f0,f1,f2,f3,f4,f5⟩:=hf it (by simp)
  exact wpAny_pyNext_enum_end (I.ok.hd hc) he hit hl (by simp;omega) fun h' eb=>⟨rfl,I.turned (t':=s.toks) (fun b o hb e=>eb b o hb e) f0 f1 f3 f4 f5⟩
 self:=fun _ _ _ _ _ st h=>let⟨_,he⟩:=st.1;wpAny_pyIter_enum he h
section
variable {X:Cx}
noncomputable def iEnum(ta:TA):TI:=fun σ H R=>ta σ H fun vs H1=>∃a xs,vs=[.ref a]∧H1 a=some (.lst xs)∧R (Ite a) H1
theorem ke8{es:List Expr}{k:Nat}{tpos:Pos}{e:Expr}{ta:TA}{p pos:Pos}(hg:Gl X "enumerate")(hm:X.mg "enumerate"=none)(ha:PA X [e] ta)(he:starEach [e] X.env=(false,eval e X.env)::starEach [] X.env:=by rfl)
  (hpl:(backTo pos (starEach [] X.env)).any (·.1)=false:=by rfl):PI X (.Tuple es k tpos) (.Call (.Name "enumerate" p) [e] [] pos) (iEnum ta):=by
 intro pins s σ H R I h
 refine Call_ (kc8 I hg hm boot_enumerate (PyProof.Rows.callWith_type1 (thn (ha pos pins s σ H _ I h) fun us s1 ⟨vs,H1,I1,r1,q1⟩=>?_) he hpl))
 obtain⟨a,xs,rfl,hq,q⟩:=q1
 obtain⟨u,rfl,rx⟩:=vals1 r1
 cases rx
 obtain⟨its,n,r,ho,hz⟩:=I1.lst hq
 refine call_enumerate_1 ho fun h' he' hit' hsz hk=>wpAny_pyIter_enum he' ?_
 have I2:Inv X pins σ H1 {s1 with heap:=h'}:=I1.kept (t':=s1.toks) hk
 refine⟨s1.heap.objs.size+1,[s1.heap.objs.size+1,s1.heap.objs.size],_,_,H1,rfl,I2,khP a (s1.heap.objs.size+1) s1.heap.objs.size (Nat.succ_ne_self _),⟨⟨_,he'⟩,hit'⟩,fun b hb=>?_,q⟩
 have hb':b=s1.heap.objs.size+1∨b=s1.heap.objs.size:=by simpa using hb
 have hle:s1.heap.objs.size≤b:=by rcases hb' with rfl|rfl <;> omega
 exact I1.fpOk hle (I1.hok.fresh hle)
end
theorem kfk{a:Addr}{xs:List V}{g:TG}{tb:TS}{D:Ends}{σ:St}{H:Hp}(Pv:Nat→St→Hp→Prop)(h0:Pv 0 σ H)(hl:∀i σ H,i≤xs.length→Pv i σ H→H a=some (.lst xs))
  (hs:∀i y t σ H,xs[i]?=some y→Pv i σ H→H t=none→g (.ref t) σ (upd H t (.tup [.int (i:Nat),y])) fun σ2 H2=>tb {D with nx:=Pv (i+1),ct:=Pv (i+1),bk:=D.nx} σ2 H2) (hd:∀σ H,Pv xs.length σ H→D.nx σ H):
  ∃W:Nat→Nat→St→Hp→Prop,(∃m,W 0 m σ H)∧∀i m σ H,W i m σ H→
   ((Ite a).stop i H∧D.nx σ H)∨((Ite a).go i H∧∃N:St→Hp→Prop,(∀σ' H',N σ' H'→∃m',m'<m∧W (i+1) m' σ' H')∧∀x H',(Ite a).yld i H x H'→g x σ H' fun σ2 H2=>tb {D with nx:=N,ct:=N,bk:=D.nx} σ2 H2):=by
 refine⟨fun i m σ H=>m=xs.length-i∧i≤xs.length∧Pv i σ H,⟨xs.length,by simp,Jv _,h0⟩,?_⟩
 rintro i m σ H ⟨rfl,hi,p⟩
 have q:=hl i σ H hi p
 by_cases hlt:i<xs.length
 ·refine .inr ⟨⟨xs,xs[i],q,by simp[hlt]⟩,Pv (i+1),fun σ' H' p'=>⟨xs.length-(i+1),by omega,rfl,hlt,p'⟩,fun x H' y=>?_⟩
  obtain⟨t,y,hn,rfl,rfl,hy⟩:=y
  exact hs i y t σ _ (hy xs q) p hn
 ·have e:i=xs.length:=by omega
  subst e
  exact .inl ⟨⟨xs,q,U2 _⟩,hd σ H p⟩
section
variable {X:Cx}
end
section
variable {X:Cx}
end
end L2
namespace L2
open PySem PySem.Spec PyProof.Rows
section
variable {prog:Program} {w:World} {A:Around} {E:Value→Shared→Prop} {s:Shared}
end
section
variable {X:Cx}
end
section
variable {X:Cx} {CX:CXT} {k:Nat} {f C:Addr} {fd:FuncData} {ps ks:List Str} {sp:Sp} {E:XK} {x:Str} {p pos:Pos} {e:Expr} {es:List Expr} {kws:List Keyword} {t tk:TA} {g:List Value→List Value→List Value} {gV:List V→List V→List V}
end
end L2
namespace L2
open PySem PySem.Spec PyProof.Rows
noncomputable def kby(K:U1):List V→Hp→VK→Prop:=fun xs H Q=>∃p ys,xs=[.ref p]∧(SqL K H p ys∨SqT K H p ys)∧∀l,H l=none→Q (.ref l) (upd H l (.lst ys))
noncomputable def kbL(K:U1):List V→Hp→VK→Prop:=fun xs H Q=>∃p ys,xs=[.ref p]∧(SqL K H p ys∨SqT K H p ys)∧Q (.int ys.length) H
noncomputable def rSum(K:U1):List V→Hp→VK→Prop:=fun xs H Q=>∃(p:Addr)(ns:List Int),xs=[.ref p]∧SqL K H p (ns.map V.int)∧Q (.int ns.sum) H
noncomputable def rIsi(K:U1):List V→Hp→VK→Prop:=fun xs H Q=>∃x c t b,xs=[x,c]∧((∃n,c=.ty n)∨∃a,c=.ref a)∧TyOf K H x t∧Jl K t (cV c)=some b∧Q (.bl b) H
section
variable {X:Cx} {K:U1} {pos:Pos}
theorem kak{e:Expr}{ta:TE}{f:Str}(he:PE X e ta)(hb:attributeBase e f X.env (eval e X.env)=eval e X.env)(hK:X.K=K:=by rfl):PE X (.Attribute e f pos) (tFld K ta f):=by
 subst hK
 exact klO he hb
theorem kaF{tg l:Expr}{tl:TE}(hl:PE X l tl)(hK:X.K=K:=by rfl):PI X tg l (iList K tl):=by
 subst hK
 exact kk3 hl
theorem kbB{es:List Expr}{k:Nat}{t:TGs}{n:Nat}(hc:X.calm=true)(h:PGs X es t)(hK:X.K=K:=by rfl)
  (hn:(assignEach es X.env).length=n:=by rfl) (hst:(assignEach es X.env).findIdx? (·.1)=none:=by rfl):PG X (.Tuple es k pos) (gTup K n t):=by
 subst hK
 exact klK hc h hn hst
end
end L2
namespace L2
open PySem PySem.Spec PyProof.Rows
inductive DEq (K:U1) (H:Hp):Nat→V→V→Prop
 |flat {n:Nat} {x y:V} (fx:flatV x=true) (fy:flatV y=true) (e:eqV x y=true):DEq K H n x y
 |same {n:Nat} (a:Addr):DEq K H n (.ref a) (.ref a)
 |lst {n:Nat} {a b:Addr} {xs ys:List V} (ha:SqL K H a xs) (hb:SqL K H b ys) (hl:xs.length=ys.length) (h:∀(i:Nat)(x y:V),xs[i]?=some x→ys[i]?=some y→DEq K H n x y):DEq K H (n+1) (.ref a) (.ref b)
 |tup {n:Nat} {a b:Addr} {xs ys:List V} (ha:SqT K H a xs) (hb:SqT K H b ys) (hl:xs.length=ys.length) (h:∀(i:Nat)(x y:V),xs[i]?=some x→ys[i]?=some y→DEq K H n x y):DEq K H (n+1) (.ref a) (.ref b)
def DEq.self{K:U1}{H:Hp}{n:Nat}{x:V}(h:flatV x=true):DEq K H n x x:=.flat h h (kj0 h)
def DEq.int{K:U1}{H:Hp}{n:Nat}(i:Int):DEq K H n (.int i) (.int i):=.self rfl
def DEq.bl{K:U1}{H:Hp}{n:Nat}(i:Bool):DEq K H n (.bl i) (.bl i):=.self rfl
def DEq.non{K:U1}{H:Hp}{n:Nat}:DEq K H n .non .non:=.self rfl
def DEq.str{K:U1}{H:Hp}{n:Nat}(i:Str):DEq K H n (.str i) (.str i):=.self rfl
def DEq.flats{K:U1}{H:Hp}{n:Nat}{a b:Addr}{xs:List V}(ha:SqL K H a xs)(hb:SqL K H b xs)(f:xs.all flatV=true):DEq K H (n+1) (.ref a) (.ref b):=
 .lst ha hb rfl fun i x y e1 e2=>by
  rw[e1] at e2
  cases e2
  exact .self (N3.mp f _ (U9 e1))
section
variable {X:Cx}
theorem all_true(n:Nat):(U5 n).all (fun _=>true)=true:=by simp
theorem kdA{xs:List V}{us:List Value}(r:Vals xs us){j:Nat}(h:j<us.toArray.size):∃x,xs[j]?=some x∧RelV x us.toArray[j]:=by
 have h':j<us.length:=by simpa using h
 have l:=r.length
 obtain⟨u,e,ru⟩:=r.get (i:=j) (x:=xs[j]'(by omega)) (by simp[show j<xs.length by omega])
 refine⟨xs[j]'(by omega),by simp[show j<xs.length by omega],?_⟩
 have:us.toArray[j]=u:=by
  obtain⟨_,e'⟩:=Ja.mp e
  simpa using e'
 rw[this]
 exact ru
theorem kkD{pins:List (Addr×Obj)}{σ:St}{H:Hp}{s:Shared}(I:Inv X pins σ H s){n:Nat}{x y:V}(h:DEq X.K H n x y):∀{A:Around}{u w:Value},A.units+n<cLine→RelV x u→RelV y w→SeqAt.EqAt A s u w true:=by
 induction h with
 |flat fx fy e=>
  intro A u w _ r1 r2
  have:=kkC (A:=A) (s:=s) r1 r2 fx fy
  rw[e] at this
  exact this
 |same a=>
  intro A u w _ r1 r2
  cases r1
  cases r2
  exact SeqAt.EqAt.same _
 | @lst n a b xs ys ha hb hl h ih=>
  intro A u w hu r1 r2
  cases r1
  cases r2
  by_cases e:a=b
  ·subst e
   exact SeqAt.EqAt.same _
  obtain⟨us,q1,p1,z1⟩:=I.list ha
  obtain⟨ws,q2,p2,z2⟩:=I.list hb
  have l1:=q1.length
  have l2:=q2.length
  have key:=SeqAt.RcAt.lists (A:=A) (e:=fun _=>true) p1.isList p2.isList (by simp;omega) (by omega) fun j h1 h2=>by
   obtain⟨x,e1,g1⟩:=kdA q1 h1
   obtain⟨y,e2,g2⟩:=kdA q2 h2
   exact ih j x y e1 e2 (A:=A.in1) (by show A.units+1+n<cLine;omega) g1 g2
  rw[all_true] at key
  exact SeqAt.EqAt.of_refs e key
 | @tup n a b xs ys ha hb hl h ih=>
  intro A u w hu r1 r2
  cases r1
  cases r2
  by_cases e:a=b
  ·subst e
   exact SeqAt.EqAt.same _
  obtain⟨us,q1,p1,z1⟩:=I.tuple ha
  obtain⟨ws,q2,p2,z2⟩:=I.tuple hb
  have l1:=q1.length
  have l2:=q2.length
  have key:=SeqAt.RcAt.tuples (A:=A) (e:=fun _=>true) p1 p2 (by omega) fun j h1 h2=>by
   obtain⟨x,e1,g1⟩:=kdA q1 h1
   obtain⟨y,e2,g2⟩:=kdA q2 h2
   exact ih j x y e1 e2 (A:=A.in1) (by show A.units+1+n<cLine;omega) g1 g2
  rw[all_true,show(us.toArray.size==ws.toArray.size)=true by simp;omega] at key
  exact SeqAt.EqAt.of_refs e key
noncomputable def klH(K:U1)(b:Bool):R2:=fun x y H Q=>∃(a c:Addr)(xs ys:List V),x=.ref a∧y=.ref c∧((SqL K H a xs∧SqL K H c ys)∨(SqT K H a xs∧SqT K H c ys))∧xs.length=ys.length∧(∀(i:Nat)(x y:V),xs[i]?=some x→ys[i]?=some y→DEq K H 32 x y)∧Q (.bl b) H
theorem kks(hu:X.A.units+64<cLine):OpR X (compareOp .NotEq) (klH X.K false):=by
 intro pins s σ H x y v u Q I rx ry h
 obtain⟨a,c,xs,ys,rfl,rfl,hq,hl,hd,q⟩:=h
 cases rx
 cases ry
 show wpAny _ _ (richCompare .NotEq (.ref a) (.ref c)) _ _ s
 rcases hq with⟨ha,hb⟩|⟨ha,hb⟩
 ·obtain⟨us,q1,p1,z1⟩:=I.list ha
  obtain⟨ws,q2,p2,z2⟩:=I.list hb
  have l1:=q1.length
  have l2:=q2.length
  refine SeqAt.RcNeAt.lists (e:=fun _=>true) p1.isList p2.isList (by simp;omega) (by omega) (fun j h1 h2=>?_) _ _ _ _ ⟨.bl false,H,I,?_,q⟩
  ·obtain⟨x,e1,g1⟩:=kdA q1 h1
   obtain⟨y,e2,g2⟩:=kdA q2 h2
   exact kkD I (hd j x y e1 e2) (by show X.A.units+1+32<cLine;omega) g1 g2
  ·rw[all_true]
   rfl
 ·obtain⟨us,q1,p1,z1⟩:=I.tuple ha
  obtain⟨ws,q2,p2,z2⟩:=I.tuple hb
  have l1:=q1.length
  have l2:=q2.length
  refine SeqAt.RcNeAt.tuples (e:=fun _=>true) p1 p2 (by omega) (fun j h1 h2=>?_) _ _ _ _ ⟨.bl false,H,I,?_,q⟩
  ·obtain⟨x,e1,g1⟩:=kdA q1 h1
   obtain⟨y,e2,g2⟩:=kdA q2 h2
   exact kkD I (hd j x y e1 e2) (by show X.A.units+1+32<cLine;omega) g1 g2
  ·rw[all_true,show(us.toArray.size==ws.toArray.size)=true by simp;omega]
   rfl
end
noncomputable def Itz(a b:Addr):It:=⟨fun i H=>∃xs ys x y,H a=some (.lst xs)∧H b=some (.lst ys)∧xs[i]?=some x∧ys[i]?=some y,
 fun i H v H'=>∃t x y,H t=none∧v=.ref t∧H'=upd H t (.tup [x,y])∧(∀xs,H a=some (.lst xs)→xs[i]?=some x)∧∀ys,H b=some (.lst ys)→ys[i]?=some y,
 fun i H=>∃xs ys,H a=some (.lst xs)∧H b=some (.lst ys)∧(xs.length≤i∨ys.length≤i)⟩
theorem kjp{P:Program}{w:World}{K:U1}{es:List Expr}{k:Nat}{pos:Pos}(a b z TI TO i1 i2:Addr)(nd:[z,TI,TO,i1,i2].Nodup):
  Turn P w K (.Tuple es k pos) (Itz a b) [z,TI,TO,i1,i2] z (fun i h=>IsZip h z TI TO .none∧IsPair h TI (.ref i1) (.ref i2)∧(∃u v,IsPair h TO u v)∧h.IsListIter i1 a i∧h.IsListIter i2 b i) where
 mem:=by simp
 obj:=fun i h st b hb=>by
  obtain⟨hz,hI,⟨_,_,hO⟩,⟨o1,e1,_,d1⟩,⟨o2,e2,_,d2⟩⟩:=st
  simp only[Jr,Ng,or_false] at hb
  rcases hb with rfl|rfl|rfl|rfl|rfl
  ·exact⟨_,hz,fun v q=>by cases(show Data.fields _=Data.cell v from q)⟩
  ·exact⟨_,hI,fun v q=>by cases(show Data.seq _ _=Data.cell v from q)⟩
  ·exact⟨_,hO,fun v q=>by cases(show Data.seq _ _=Data.cell v from q)⟩
  ·exact⟨o1,e1,fun v q=>by rw[d1] at q;cases q⟩
  ·exact⟨o2,e2,fun v q=>by rw[d2] at q;cases q⟩
 keep:=fun i h h' st kk=>by
  obtain⟨hz,hI,⟨u,v,hO⟩,h1,h2⟩:=st
  exact⟨kk z (by simp) _ hz,kk TI (by simp) _ hI,⟨u,v,kk TO (by simp) _ hO⟩,h1.at fun o e=>kk i1 (by simp) o e,h2.at fun o e=>kk i2 (by simp) o e⟩
 item:=by
  intro X hP hw hK hc i pins s σ H E I hf st hg
  subst hP hw hK
  obtain⟨hz,hI,⟨u,v,hO⟩,h1,h2⟩:=st
  obtain⟨xs,ys,x,y,ha,hb,hx,hy⟩:=hg
  obtain⟨its1,n1,r1,ho1,_⟩:=I.lst ha
  obtain⟨its2,n2,r2,ho2,_⟩:=I.lst hb
  obtain⟨u1,g1,ru1⟩:=r1.get hx
  obtain⟨u2,g2,ru2⟩:=r2.get hy
  have L1:s.heap.IsList a its1.toArray:=⟨_,ho1,rfl,n1,rfl⟩
  have L2':s.heap.IsList b its2.toArray:=⟨_,ho2,rfl,n2,rfl⟩
  have off:∀{l:Addr}{zs:List V},H l=some (.lst zs)→l∉[z,TI,TO,i1,i2]:=fun {l zs} e m=>by
   have:=(hf l m).1
   rw[this] at e
   cases e
  have oa:=off ha
  have ob:=off hb
  have nd':=nd
  simp only[JT,Jr,Ng,or_false,not_or,N4,and_true,not_false_eq_true] at nd' oa ob
  obtain⟨⟨nzI,nzO,nz1,nz2⟩,⟨nIO,nI1,nI2⟩,⟨nO1,nO2⟩,n12⟩:=nd'
  have D:ZipApart z TI TO i1 i2 a b:=⟨Ne.symm nzI,Ne.symm nzO,Ne.symm nz1,Ne.symm nz2,nIO,nI1,nI2,nO1,nO2,n12,oa.1,oa.2.2.1,oa.2.2.2.1,oa.2.2.2.2,ob.1,ob.2.2.1,ob.2.2.2.1,ob.2.2.2.2⟩
  refine wpAny_pyNext_zip_item D hz hI hO h1 h2 L1 L2' (x:=u1) (y:=u2) (by simpa using g1) (by simpa using g2) fun h' a1 a2 a3 a4 a5 a6 a7=>?_
  refine⟨.ref s.heap.objs.size,rfl,wpAny_letOwnedTupleGo_zip a1 fun h2' z2 s2=>?_⟩
  have s2':Heap.SameBut z h' h2':=s2
  have zl:z<s.heap.objs.size:=Heap.lt_size hz
  have kk:∀b o,b∉[z,TI,TO,i1,i2]→s.heap.get? b=some o→h2'.get? b=some o:=fun b o hb eo=>by
   simp only[Jr,Ng,or_false,not_or] at hb
   exact(s2'.2 b hb.1).trans (a7 b o hb.1 hb.2.2.1 hb.2.2.2.1 hb.2.2.2.2 eo)
  have I1:Inv X pins σ H {s with heap:=h2',toks:=s.toks}:=I.turnedL (ch:=[z,TI,TO,i1,i2]) kk hf
  have fr:H s.heap.objs.size=none:=I.hok.fresh (U2 _)
  have ft:FpOk X pins H s.heap.objs.size:=I.fpOk (U2 _) fr
  have t2:h2'.get? s.heap.objs.size=some {cls:=.type "tuple",data:=.seq #[u1,u2]}:=(s2'.2 _ (JQ zl)).trans a5
  have I2:Inv X pins σ (upd H s.heap.objs.size (.tup [x,y])) {s with heap:=h2',toks:=s.toks}:=
   I1.adopt ft I.sz ⟨by show 2≤sizeLine;decide,[u1,u2], .cons ru1 (.cons ru2 .nil),_,t2,rfl,_,rfl⟩
  have hI2:IsPair h2' TI (.ref i1) (.ref i2):=(s2'.2 _ (Ne.symm nzI)).trans (a7 TI _ (Ne.symm nzI) nIO nI1 nI2 hI)
  refine⟨.ref s.heap.objs.size,_,I2,rfl,⟨s.heap.objs.size,x,y,fr,rfl,rfl,fun ws e=>by rw[ha] at e;cases e;exact hx,fun ws e=>by rw[hb] at e;cases e;exact hy⟩,
   ⟨z2,hI2,⟨_,_,(s2'.2 _ (Ne.symm nzO)).trans a2⟩,a3.extBut s2'.extBut (Ne.symm nz1),a4.extBut s2'.extBut (Ne.symm nz2)⟩,fun b hb=>?_⟩
  have hbl:b<s.heap.objs.size:=by
   simp only[Jr,Ng,or_false] at hb
   rcases hb with rfl|rfl|rfl|rfl|rfl
   ·exact zl
   ·exact Heap.lt_size hI
   ·exact Heap.lt_size hO
   ·obtain⟨o,e,_⟩:=h1;exact Heap.lt_size e
   ·obtain⟨o,e,_⟩:=h2;exact Heap.lt_size e
  rw[kaj (Js hbl)]
  exact(hf b hb).1
 done:=by
  intro X hP hw hK hc i pins s σ H E I hf st hg
  subst hP hw hK
  obtain⟨hz,hI,⟨u,v,hO⟩,h1,h2⟩:=st
  obtain⟨xs,ys,ha,hb,hx⟩:=hg
  obtain⟨its1,n1,r1,ho1,_⟩:=I.lst ha
  obtain⟨its2,n2,r2,ho2,_⟩:=I.lst hb
  have L1:s.heap.IsList a its1.toArray:=⟨_,ho1,rfl,n1,rfl⟩
  have L2':s.heap.IsList b its2.toArray:=⟨_,ho2,rfl,n2,rfl⟩
  have hlen1:=r1.length
  have hlen2:=r2.length
  have off:∀{l:Addr}{zs:List V},H l=some (.lst zs)→l∉[z,TI,TO,i1,i2]:=fun {l zs} e m=>by
   have:=(hf l m).1
   rw[this] at e
   cases e
  have oa:=off ha
  have ob:=off hb
  have nd':=nd
  simp only[JT,Jr,Ng,or_false,not_or,N4,and_true,not_false_eq_true] at nd' oa ob
  obtain⟨⟨nzI,nzO,nz1,nz2⟩,⟨nIO,nI1,nI2⟩,⟨nO1,nO2⟩,n12⟩:=nd'
  have D:ZipApart z TI TO i1 i2 a b:=⟨Ne.symm nzI,Ne.symm nzO,Ne.symm nz1,Ne.symm nz2,nIO,nI1,nI2,nO1,nO2,n12,oa.1,oa.2.2.1,oa.2.2.2.1,oa.2.2.2.2,ob.1,ob.2.2.1,ob.2.2.2.1,ob.2.2.2.2⟩
  refine wpAny_pyNext_zip_end (I.ok.hd hc) D hz hI hO h1 h2 L1 L2' ?_ fun h' hk=>⟨rfl,?_⟩
  ·rcases hx with hx|hx
   ·exact .inl (by simp;omega)
   ·exact .inr (by simp;omega)
  ·refine I.turnedL (t':=s.toks) (ch:=[z,TI,TO,i1,i2]) (fun b o hb e=>?_) hf
   simp only[Jr,Ng,or_false,not_or] at hb
   exact hk b o hb.1 hb.2.2.1 hb.2.2.2.1 hb.2.2.2.2 e
 self:=fun _ _ _ _ _ st h=>wpAny_pyIter_zip st.1 h
def kll(n:Nat):([n+4,n+2,n+3,n,n+1]:List Nat).Nodup:=by
 simp only[JT,Jr,Ng,or_false,not_or,N4,and_true,not_false_eq_true]
 omega
def klm{n x:Nat}(h:x∈([n+4,n+2,n+3,n,n+1]:List Nat)):n≤x:=by
 simp only[Jr,Ng,or_false] at h
 omega
section
variable {X:Cx}
noncomputable def iZip(ta:TA):TI:=fun σ H R=>ta σ H fun vs H1=>∃a b xs ys,vs=[.ref a, .ref b]∧H1 a=some (.lst xs)∧H1 b=some (.lst ys)∧R (Itz a b) H1
theorem kl4:bootBuiltins "zip"=some (.type "zip"):=by decide +kernel
theorem ke7{es:List Expr}{k:Nat}{tpos:Pos}{e1 e2:Expr}{ta:TA}{p pos:Pos}(hg:Gl X "zip")(hm:X.mg "zip"=none)(ha:PA X [e1,e2] ta)(he:starEach [e1,e2] X.env=(false,eval e1 X.env)::starEach [e2] X.env:=by rfl)
  (hpl:(backTo pos (starEach [e2] X.env)).any (·.1)=false:=by rfl):PI X (.Tuple es k tpos) (.Call (.Name "zip" p) [e1,e2] [] pos) (iZip ta):=by
 intro pins s σ H R I h
 refine Call_ (kc8 I hg hm kl4 (PyProof.Rows.callWith_type1 (thn (ha pos pins s σ H _ I h) fun us s1 ⟨vs,H1,I1,r1,q1⟩=>?_) he hpl))
 obtain⟨a,b,xs,ys,rfl,qa,qb,q⟩:=q1
 cases r1 with
 | cons ra rr=>
  cases rr with
  |cons rb rr=>
   cases rr
   cases ra
   cases rb
   obtain⟨its1,n1,_,ho1,_⟩:=I1.lst qa
   obtain⟨its2,n2,_,ho2,_⟩:=I1.lst qb
   refine call_zip_2 (xs:=its1.toArray) (ys:=its2.toArray) ⟨_,ho1,rfl,n1,rfl⟩ ⟨_,ho2,rfl,n2,rfl⟩ fun h' b1 b2 b3 b4 b5 _ hk=>wpAny_pyIter_zip b1 ?_
   have I2:Inv X pins σ H1 {s1 with heap:=h'}:=I1.kept (t':=s1.toks) hk
   refine⟨s1.heap.objs.size+4,[s1.heap.objs.size+4,s1.heap.objs.size+2,s1.heap.objs.size+3,s1.heap.objs.size,s1.heap.objs.size+1],_,_,H1,rfl,I2,kjp a b _ _ _ _ _ (kll _),⟨b1,b2,⟨_,_,b3⟩,b4,b5⟩,fun x hx=>?_,q⟩
   have hle:s1.heap.objs.size≤x:=klm hx
   exact I1.fpOk hle (I1.hok.fresh hle)
end
theorem ki0{a b:Addr}{xs ys:List V}{g:TG}{tb:TS}{D:Ends}{σ:St}{H:Hp}(Pv:Nat→St→Hp→Prop)(h0:Pv 0 σ H)(hl:∀i σ H,i≤min xs.length ys.length→Pv i σ H→H a=some (.lst xs)∧H b=some (.lst ys))
  (hs:∀i x y t σ H,xs[i]?=some x→ys[i]?=some y→Pv i σ H→H t=none→g (.ref t) σ (upd H t (.tup [x,y])) fun σ2 H2=>tb {D with nx:=Pv (i+1),ct:=Pv (i+1),bk:=D.nx} σ2 H2) (hd:∀σ H,Pv (min xs.length ys.length) σ H→D.nx σ H):
  ∃W:Nat→Nat→St→Hp→Prop,(∃m,W 0 m σ H)∧∀i m σ H,W i m σ H→
   ((Itz a b).stop i H∧D.nx σ H)∨((Itz a b).go i H∧∃N:St→Hp→Prop,(∀σ' H',N σ' H'→∃m',m'<m∧W (i+1) m' σ' H')∧∀x H',(Itz a b).yld i H x H'→g x σ H' fun σ2 H2=>tb {D with nx:=N,ct:=N,bk:=D.nx} σ2 H2):=by
 refine⟨fun i m σ H=>m=min xs.length ys.length-i∧i≤min xs.length ys.length∧Pv i σ H,⟨min xs.length ys.length,by simp,Jv _,h0⟩,?_⟩
 rintro i m σ H ⟨rfl,hi,p⟩
 obtain⟨q1,q2⟩:=hl i σ H hi p
 by_cases hlt:i<min xs.length ys.length
 ·refine .inr ⟨⟨xs,ys,xs[i]'(by omega),ys[i]'(by omega),q1,q2,by simp[show i<xs.length by omega],by simp[show i<ys.length by omega]⟩,Pv (i+1),fun σ' H' p'=>⟨min xs.length ys.length-(i+1),by omega,rfl,hlt,p'⟩,fun x H' y=>?_⟩
  obtain⟨t,x,y,hn,rfl,rfl,h1,h2⟩:=y
  exact hs i x y t σ _ (h1 _ q1) (h2 _ q2) p hn
 ·have e:i=min xs.length ys.length:=by omega
  refine .inl ⟨⟨xs,ys,q1,q2,by omega⟩,?_⟩
  rw[e] at p
  exact hd σ H p
theorem khl{a b:Addr}{xs ys:List V}{g:TG}{te:TE}{σ:St}{H:Hp}{R:List V→Hp→Addr→Prop}(Pv:Nat→St→List V→Hp→Prop)(h0:Pv 0 σ [] H)(hz:min xs.length ys.length≤sizeLine)(hl:∀i σ zs H,i≤min xs.length ys.length→Pv i σ zs H→H a=some (.lst xs)∧H b=some (.lst ys)∧zs.length=i)
  (hs:∀i x y t σ zs H,xs[i]?=some x→ys[i]?=some y→Pv i σ zs H→H t=none→g (.ref t) σ (upd H t (.tup [x,y])) fun σ2 H2=>te σ2 H2 fun z H3=>Pv (i+1) σ2 (zs++[z]) H3) (hd:∀σ zs H,Pv (min xs.length ys.length) σ zs H→∀D,H D=none→R zs H D):
  ∃ W:Nat→Nat→St→List V→Hp→Prop,(∃m,W 0 m σ [] H)∧∀i m σ' zs H',W i m σ' zs H'→
   ((Itz a b).stop i H'∧∀D,H' D=none→R zs H' D)∨((Itz a b).go i H'∧zs.length<sizeLine∧∃N:St→V→Hp→Prop,(∀σ2 y H4,N σ2 y H4→∃m',m'<m∧W (i+1) m' σ2 (zs++[y]) H4)∧
    ∀x H2,(Itz a b).yld i H' x H2→g x σ' H2 fun σ2 H3=>te σ2 H3 (N σ2)):=by
 refine⟨fun i m σ zs H=>m=min xs.length ys.length-i∧i≤min xs.length ys.length∧Pv i σ zs H,⟨min xs.length ys.length,by simp,Jv _,h0⟩,?_⟩
 rintro i m σ zs H ⟨rfl,hi,p⟩
 obtain⟨q1,q2,el⟩:=hl i σ zs H hi p
 by_cases hlt:i<min xs.length ys.length
 ·refine .inr ⟨⟨xs,ys,xs[i]'(by omega),ys[i]'(by omega),q1,q2,by simp[show i<xs.length by omega],by simp[show i<ys.length by omega]⟩,by omega,fun σ2 y H3=>Pv (i+1) σ2 (zs++[y]) H3,fun σ' y H' p'=>⟨min xs.length ys.length-(i+1),by omega,rfl,hlt,p'⟩,fun x H' yl=>?_⟩
  obtain⟨t,x,y,hn,rfl,rfl,h1,h2⟩:=yl
  exact hs i x y t σ zs _ (h1 _ q1) (h2 _ q2) p hn
 ·have e:i=min xs.length ys.length:=by omega
  refine .inl ⟨⟨xs,ys,q1,q2,by omega⟩,?_⟩
  rw[e] at p
  exact hd σ zs H p
end L2
namespace L2
open PySem PySem.Spec PyProof.Rows
section
variable {g:TG} {tt:TT} {te:TE} {σ:St} {H:Hp} {R:List V→Hp→Addr→Prop}
theorem khm{J:It}{n:Nat}(Pv:Nat→St→List V→Hp→Prop)(h0:Pv 0 σ [] H)(hz:n≤sizeLine)(hl:∀i σ ys H,i≤n→Pv i σ ys H→ys.length≤i)(hgo:∀i σ ys H,i<n→Pv i σ ys H→J.go i H)(hst:∀σ ys H,Pv n σ ys H→J.stop n H)
  (hs:∀i σ ys H x H',i<n→Pv i σ ys H→J.yld i H x H'→g x σ H' fun σ2 H2=>tt σ2 H2 fun b H3=>if b=true then te σ2 H3 (fun y H4=>Pv (i+1) σ2 (ys++[y]) H4) else Pv (i+1) σ2 ys H3) (hd:∀σ ys H,Pv n σ ys H→∀D,H D=none→R ys H D):
  ∃ W:Nat→Nat→St→List V→Hp→Prop,(∃m,W 0 m σ [] H)∧∀i m σ' ys H',W i m σ' ys H'→
   (J.stop i H'∧∀D,H' D=none→R ys H' D)∨(J.go i H'∧ys.length<sizeLine∧∃(N:St→V→Hp→Prop)(N0:St→Hp→Prop),(∀σ2 y H4,N σ2 y H4→∃m',m'<m∧W (i+1) m' σ2 (ys++[y]) H4)∧(∀σ2 H4,N0 σ2 H4→∃m',m'<m∧W (i+1) m' σ2 ys H4)∧
    ∀x H2,J.yld i H' x H2→g x σ' H2 fun σ2 H3=>tt σ2 H3 fun b H4=>if b=true then te σ2 H4 (N σ2) else N0 σ2 H4):=by
 refine⟨fun i m σ ys H=>m=n-i∧i≤n∧Pv i σ ys H,⟨n,by simp,Jv _,h0⟩,?_⟩
 rintro i m σ ys H ⟨rfl,hi,p⟩
 have el:=hl i σ ys H hi p
 by_cases hlt:i<n
 ·refine .inr ⟨hgo i σ ys H hlt p,by omega,fun σ2 y H3=>Pv (i+1) σ2 (ys++[y]) H3,fun σ2 H3=>Pv (i+1) σ2 ys H3,fun σ' y H' p'=>⟨n-(i+1),by omega,rfl,hlt,p'⟩,fun σ' H' p'=>⟨n-(i+1),by omega,rfl,hlt,p'⟩,fun x H' yl=>?_⟩
  exact hs i σ ys H x H' hlt p yl
 ·have e:i=n:=by omega
  subst e
  exact .inl ⟨hst σ ys H p,hd σ ys H p⟩
theorem kgE{lo:Int}{n:Nat}(Pv:Nat→St→List V→Hp→Prop)(h0:Pv 0 σ [] H)(hz:n≤sizeLine)(hl:∀i σ ys H,i≤n→Pv i σ ys H→ys.length≤i)
  (hs:∀i σ ys H,i<n→Pv i σ ys H→g (.int (lo+i)) σ H fun σ2 H2=>tt σ2 H2 fun b H3=>if b=true then te σ2 H3 (fun y H4=>Pv (i+1) σ2 (ys++[y]) H4) else Pv (i+1) σ2 ys H3) (hd:∀σ ys H,Pv n σ ys H→∀D,H D=none→R ys H D):
  ∃ W:Nat→Nat→St→List V→Hp→Prop,(∃m,W 0 m σ [] H)∧∀i m σ' ys H',W i m σ' ys H'→
   ((Itr lo n).stop i H'∧∀D,H' D=none→R ys H' D)∨((Itr lo n).go i H'∧ys.length<sizeLine∧∃(N:St→V→Hp→Prop)(N0:St→Hp→Prop),(∀σ2 y H4,N σ2 y H4→∃m',m'<m∧W (i+1) m' σ2 (ys++[y]) H4)∧(∀σ2 H4,N0 σ2 H4→∃m',m'<m∧W (i+1) m' σ2 ys H4)∧
    ∀x H2,(Itr lo n).yld i H' x H2→g x σ' H2 fun σ2 H3=>tt σ2 H3 fun b H4=>if b=true then te σ2 H4 (N σ2) else N0 σ2 H4):=
 khm Pv h0 hz hl (fun _ _ _ _ hi _=>hi) (fun _ _ _ _=>U2 _) (fun i σ ys H x H' hi p yl=>by
  obtain⟨e,q⟩:=yl
  subst e q
  exact hs i σ ys _ hi p) hd
theorem khH{a:Addr}{xs:List V}(Pv:Nat→St→List V→Hp→Prop)(h0:Pv 0 σ [] H)(hz:xs.length≤sizeLine)(hl:∀i σ ys H,i≤xs.length→Pv i σ ys H→H a=some (.lst xs)∧ys.length≤i)
  (hs:∀i y t σ ys H,xs[i]?=some y→Pv i σ ys H→H t=none→g (.ref t) σ (upd H t (.tup [.int (i:Nat),y])) fun σ2 H2=>tt σ2 H2 fun b H3=>if b=true then te σ2 H3 (fun y H4=>Pv (i+1) σ2 (ys++[y]) H4) else Pv (i+1) σ2 ys H3) (hd:∀σ ys H,Pv xs.length σ ys H→∀D,H D=none→R ys H D):
  ∃ W:Nat→Nat→St→List V→Hp→Prop,(∃m,W 0 m σ [] H)∧∀i m σ' ys H',W i m σ' ys H'→
   ((Ite a).stop i H'∧∀D,H' D=none→R ys H' D)∨((Ite a).go i H'∧ys.length<sizeLine∧∃(N:St→V→Hp→Prop)(N0:St→Hp→Prop),(∀σ2 y H4,N σ2 y H4→∃m',m'<m∧W (i+1) m' σ2 (ys++[y]) H4)∧(∀σ2 H4,N0 σ2 H4→∃m',m'<m∧W (i+1) m' σ2 ys H4)∧
    ∀x H2,(Ite a).yld i H' x H2→g x σ' H2 fun σ2 H3=>tt σ2 H3 fun b H4=>if b=true then te σ2 H4 (N σ2) else N0 σ2 H4):=
 khm Pv h0 hz (fun i σ ys H hi p=>(hl i σ ys H hi p).2) (fun i σ ys H hi p=>⟨xs,xs[i],(hl i σ ys H (Jf hi) p).1,by simp[hi]⟩) (fun σ ys H p=>⟨xs,(hl _ σ ys H (U2 _) p).1,U2 _⟩)
  (fun i σ ys H x H' hi p yl=>by
   obtain⟨t,y,hn,rfl,rfl,hy⟩:=yl
   exact hs i y t σ ys _ (hy xs (hl i σ ys _ (Jf hi) p).1) p hn) hd
end
section
variable {X:Cx}
noncomputable def isI(k:Int):Value→Bool
 | .int a _=>a==k
 |_=>false
theorem kfV:∀{ns:List Int}{us:List Value},Vals (ns.map V.int) us→∀(j:Nat)(n:Int),ns[j]?=some n→∃t,us[j]?=some (.int n t)
 |[],_,_,j,n,e=>by simp at e
 | m::ns,u::us, .cons r t,j,n,e=>by
  cases j with
  |zero=>
   have e':m=n:=by simpa using e
   subst e'
   obtain⟨t,rfl⟩:=r
   exact⟨t,rfl⟩
  |succ j=>
   obtain⟨q,h⟩:=kfV t j n (by simpa using e)
   exact⟨q,by simpa using h⟩
end
end L2
namespace L2
open PySem PySem.Spec PyProof.Rows
structure BaseT (K:U1) (C:Addr) (m:Str) (f:Addr):Prop where
 rd:PySem.W.readsIn K C (.type "type")=true
 ga:NC K (.ref C) "__getattribute__"=some (some (.builtin "type.__getattribute__"))
 fc:PySem.W.findCls K (.ref C) (.type "type") m=some (.val (.ref f))
section
variable {X:Cx} {CX:CXT} {k:Nat} {f C:Addr} {fd:FuncData} {ps:List Str} {sp:Sp} {dvs:List V} {ds:List Value} {E:XK} {x m:Str} {p pos apos:Pos} {e o:Expr} {es:List Expr} {ta:TE} {t:TA}
theorem kd5{pl:Sem Bool}(B:BaseT X.K C m f)(F:FnOk X.prog X.w X.K X.mg X.base CX k f fd ps sp)(hr:Room k X.A)(hg:Gl X x)(hm:X.mg x=some (.ref C))(hk:Jd X.K (.ref f)=true)(hb:Binds X.K fd ps ds)(hd:Vals dvs ds)(hx:kdd CX X E)
  (ha:PA X (e::es) t) (hdb:(x==("__debug__" :Str))=false:=by decide)
  (hst:starEach (e::es) X.env=(false,eval e X.env)::starEach es X.env:=by rfl) (hpl:(backTo pos (starEach es X.env)).any (·.1)=false:=by rfl)
  (ht:eval (.Call (.Attribute (.Name x p) m apos) (e::es) [] pos) X.env=(do
   let ov ←eval (.Name x p) X.env
   standAt apos.atName
   let(f,first) ←holding [ov] (getMethod ov m pl)
   callWith pos f first (backTo pos (starEach (e::es) X.env)) (backToKw pos (keywordEach [] X.env))):=by rfl):
  PE X (.Call (.Attribute (.Name x p) m apos) (e::es) [] pos) (tCall sp dvs E t):=by
 intro pins s σ H Q I h
 refine Mr (pl:=pl) (thn (kcf (v:=.ref C) hg hm rfl hdb pins s σ H (fun y H1=>y=.ref C∧H1=H) I ⟨rfl,rfl⟩) fun u s1 ⟨y,H1,I1,ry,ey,eH⟩=>?_) ht
 subst ey eH
 obtain rfl:u=Value.ref C:=ry
 refine PySem.W.method_cls I1.kIn B.ga (PySem.W.cls_value I1.kIn B.rd B.fc rfl ?_)
 have I2:=I1.tok (s1.toks+1)
 refine ND (h₀:=X.base) I.ok.mod.kin hk (thn (ha pos pins _ σ H1 _ I2 h) fun us s2 ⟨vs,H2,I3,r,q2⟩=>⟨I3.kIn,?_⟩) hst hpl
 exact kfF F hr hb hd hx I3 r q2
end
def kjh:bootBuiltins "tuple"=some (.type "tuple"):=by decide +kernel
def kiN{n j:Nat}(h:j<n):ixN n (j:Int)=some j:=by
 unfold ixN
 rw[if_pos (by omega),if_pos (by omega)]
 simp
section
variable {X:Cx}
end
section
variable {X:Cx}
noncomputable def klY(ta:TA):TI:=fun σ H R=>ta σ H fun vs H1=>∃i j k:Int,vs=[.int i, .int j, .int k]∧(-(2 ^ 31)≤i∧i<2 ^ 31)∧(-(2 ^ 31)≤j∧j<2 ^ 31)∧0<k∧k<2 ^ 30∧R (Its i k (Builtin.Range.rangeSize i j k).toNat) H1
theorem keK{tg a b c:Expr}{ta:TA}{p pos:Pos}(hg:Gl X "range")(hm:X.mg "range"=none)(ha:PA X [a,b,c] ta)(he:starEach [a,b,c] X.env=(false,eval a X.env)::starEach [b,c] X.env:=by rfl)
  (hpl:(backTo pos (starEach [b,c] X.env)).any (·.1)=false:=by rfl):PI X tg (.Call (.Name "range" p) [a,b,c] [] pos) (klY ta):=by
 intro pins s σ H R I h
 refine Call_ (kc8 I hg hm boot_range (PyProof.Rows.callWith_type1 (thn (ha pos pins s σ H _ I h) fun us s1 ⟨vs,H1,I1,r1,q1⟩=>?_) he hpl))
 obtain⟨i,j,k,e,hi,hj,hk,hk2,q⟩:=q1
 subst e
 cases r1 with
 | cons r rr=>
  cases rr with
  | cons r' rr=>
   cases rr with
   | cons r'' rr=>
    cases rr
    obtain⟨t,rfl⟩:=r
    obtain⟨t',rfl⟩:=r'
    obtain⟨t'',rfl⟩:=r''
    refine call_range_3 (by omega) ?_ (.inl (PyProof.noPylong_small (by omega)))
    refine wpAny_pyIter_range (IsRange.new ..) (khr hk hk2 hi hj) ?_
    have I2:Inv X pins σ H1 {s1 with heap:=s1.heap.push {cls:=.type "range",data:=.fields #[.int i t, .int j t', .int k t'']},toks:=s1.toks}:=I1.kept fun b o e=>Heap.get?_push_of_some _ e
    have hn:=kfA hk hi hj
    refine⟨(s1.heap.push {cls:=.type "range",data:=.fields #[.int i t, .int j t', .int k t'']}).objs.size,[(s1.heap.push {cls:=.type "range",data:=.fields #[.int i t, .int j t', .int k t'']}).objs.size],_,_,H1,rfl,
     I2.kept (t':=s1.toks) fun b o e=>Heap.get?_push_of_some _ e,khN _ i k (Builtin.Range.rangeSize i j k).toNat,?_,fun b hb=>?_,q⟩
    ·have e1:i+((0:Nat):Int)*k=i:=by simp
     have e2:(((Builtin.Range.rangeSize i j k).toNat:Nat):Int)-((0:Nat):Int)=Builtin.Range.rangeSize i j k:=by omega
     show IsRangeIter _ _ (i+((0:Nat):Int)*k) ((((Builtin.Range.rangeSize i j k).toNat:Nat):Int)-((0:Nat):Int)) k
     rw[e1,e2]
     exact Heap.get?_push_size _ rfl
    ·have e:b=(s1.heap.push {cls:=.type "range",data:=.fields #[.int i t, .int j t', .int k t'']}).objs.size:=by simpa using hb
     subst e
     exact I2.fpOk (U2 _) (I2.hok.fresh (U2 _))
end
section
variable {g:TG} {te:TE} {σ:St} {H:Hp} {R:List V→Hp→Addr→Prop}
theorem ki7{lo st:Int}{n:Nat}(Pv:Nat→St→List V→Hp→Prop)(h0:Pv 0 σ [] H)(hz:n≤sizeLine)(hl:∀i σ ys H,i≤n→Pv i σ ys H→ys.length=i)
  (hs:∀i σ ys H,i<n→Pv i σ ys H→g (.int (lo+i*st)) σ H fun σ2 H2=>te σ2 H2 fun y H3=>Pv (i+1) σ2 (ys++[y]) H3) (hd:∀σ ys H,Pv n σ ys H→∀D,H D=none→R ys H D):
  ∃ W:Nat→Nat→St→List V→Hp→Prop,(∃m,W 0 m σ [] H)∧∀i m σ' ys H',W i m σ' ys H'→
   ((Its lo st n).stop i H'∧∀D,H' D=none→R ys H' D)∨((Its lo st n).go i H'∧ys.length<sizeLine∧∃N:St→V→Hp→Prop,(∀σ2 y H4,N σ2 y H4→∃m',m'<m∧W (i+1) m' σ2 (ys++[y]) H4)∧
    ∀x H2,(Its lo st n).yld i H' x H2→g x σ' H2 fun σ2 H3=>te σ2 H3 (N σ2)):=by
 refine⟨fun i m σ ys H=>m=n-i∧i≤n∧Pv i σ ys H,⟨n,by simp,Jv _,h0⟩,?_⟩
 rintro i m σ ys H ⟨rfl,hi,p⟩
 have el:=hl i σ ys H hi p
 by_cases hlt:i<n
 ·refine .inr ⟨hlt,by omega,fun σ2 y H3=>Pv (i+1) σ2 (ys++[y]) H3,fun σ' y H' p'=>⟨n-(i+1),by omega,rfl,hlt,p'⟩,fun x H' yl=>?_⟩
  obtain⟨e,yl⟩:=yl
  subst e yl
  exact hs i σ ys _ hlt p
 ·have e:i=n:=by omega
  subst e
  exact .inl ⟨U2 _,hd σ ys H p⟩
end
def kgh{L m:Nat}(hm:0<m):(Builtin.Range.rangeSize 0 ((L:Int)-(m:Int)+1) (m:Int)).toNat=L/m:=by
 unfold Builtin.Range.rangeSize
 rw[if_pos (by omega)]
 by_cases h:m≤L
 ·rw[if_pos (by omega),show(L:Int)-(m:Int)+1-0-1=((L-m:Nat):Int) by omega,←Int.natCast_ediv,Nat.div_eq_sub_div hm h]
  generalize (L-m)/m=q
  omega
 ·rw[if_neg (by omega),Nat.div_eq_of_lt (by omega)]
  rfl
def b_str:bootBuiltins "str"=some (.type "str"):=by decide +kernel
end L2
namespace L2
open PySem PySem.Spec PyProof.Rows
inductive Src where
 |p (i:Nat)
 |k (j:Nat)
 |d (v:Value) (x:V)
noncomputable def Src.val(us ws:List Value):Src→Value
 | .p i=>us.getD i .none
 | .k j=>ws.getD j .none
 | .d v _=>v
noncomputable def Src.abs(vs zs:List V):Src→V
 | .p i=>vs.getD i .non
 | .k j=>zs.getD j .non
 | .d _ x=>x
noncomputable def Src.Ok:Src→Prop
 | .d v x=>RelV x v
 |_=>True
section
variable {X:Cx} {CX:CXT} {k:Nat} {f C:Addr} {fd:FuncData} {ps ks:List Str} {sp:Sp} {E:XK} {x:Str} {p pos:Pos} {kws:List Keyword} {tk:TA} {g:List Value→List Value→List Value} {gV:List V→List V→List V}
end
end L2
namespace L2
open PySem PySem.Spec PyProof.Rows
noncomputable def atK(kvs:List (Key×V))(k:Key):Option V:=(kvs.find? fun p=>decide (p.1=k)).map Prod.snd
theorem kgG:∀{kvs:List (Key×V)}{vs:List (Key×Value)},KV kvs vs→∀k,RelO (atK kvs k) (valueAt vs k)
 |_,_, .nil,_=>True.intro
 | p::ps,q::qs, .cons h t,k=>by
  obtain⟨h1,h2⟩:=h
  have ih:=kgG t k
  unfold atK valueAt at *
  by_cases e:p.1=k
  ·have e':q.1=k:=h1.symm.trans e
   simp only[JN,e,e',decide_true,Nf]
   exact h2
  ·have e':¬q.1=k:=fun z=>e (h1.trans z)
   simp only[JN,e,e',decide_false]
   exact ih
theorem kvAny:∀{kvs:List (Key×V)}{vs:List (Key×Value)},KV kvs vs→∀k:Key,atK kvs k=none→(vs.any fun p=>decide (p.1=k))=false
 |_,_, .nil,_,_=>rfl
 | p::ps,q::qs, .cons h t,k,hn=>by
  obtain⟨h1,h2⟩:=h
  unfold atK at hn
  by_cases e:p.1=k
  ·simp[JN,e] at hn
  ·have e':¬q.1=k:=fun z=>e (h1.trans z)
   rw[JX,decide_eq_false e',Bool.false_or]
   refine kvAny t k ?_
   unfold atK
   simpa[JN,e] using hn
theorem kkw:∀{kvs:List (Key×V)}{vs:List (Key×Value)},KV kvs vs→∀{k:Key}{y:V}{u:Value},RelV y u→KV (kvs++[(k,y)]) (vs++[(k,u)])
 |_,_, .nil,_,_,_,r=>.cons ⟨rfl,r⟩ .nil
 |_,_, .cons h t,_,_,_,r=>.cons h (kkw t r)
theorem kvLen:∀{kvs:List (Key×V)}{vs:List (Key×Value)},KV kvs vs→kvs.length=vs.length
 |_,_, .nil=>rfl
 |_,_, .cons _ t=>by rw[Jw,Jw,kvLen t]
theorem kkv:∀{kvs:List (Key×V)}{vs:List (Key×Value)},KV kvs vs→Vals (kvs.map Prod.snd) (vs.map Prod.snd)
 |_,_, .nil=>.nil
 |_,_, .cons h t=>.cons h.2 (kkv t)
section
variable {X:Cx}
noncomputable def kly:TE:=fun _ H Q=>∀p,H p=none→Q (.ref p) (upd H p (.dK []))
theorem kjB{pos:Pos}:PE X (.Dict [] [] pos) kly:=fun pins s σ H Q I h=>
 have big:sysModules<s.heap.objs.size:=N1 (by decide) (show mainGlobals<s.heap.objs.size from(I.mod.glob.keeps I.bk).lt)
 wpAny_Dict_empty ⟨.ref s.heap.objs.size,_,I.laid (a:=s.heap.objs.size) (o:=.dK []) (t':=s.toks) (fun _ _ q=>Heap.get?_push_of_some _ q) (U2 _)
  (show ObjOk X.prog X.w _ _ _ (.dK []) from⟨Jv _,beq_eq_false_iff_ne.mpr (Ne.symm (Js big)),[], .nil,Heap.DictOf.new _⟩),rfl,h _ (I.hok.fresh (U2 _))⟩
noncomputable def rSetd:V→List V→Hp→VK→Prop:=fun x vs H Q=>∃(a:Addr)(kvs:List (Key×V))(i:Int)(y:V),x=.ref a∧vs=[.int i,y]∧H a=some (.dK kvs)∧kvs.length<sizeLine∧(∀v,atK kvs (.inl i)=some v→Q v H)∧(atK kvs (.inl i)=none→Q y (upd H a (.dK (kvs++[(.inl i,y)]))))
theorem kfg:MtM X "dict.setdefault" rSetd:=by
 intro pins s σ H x vs v us Q I rx rv h
 obtain⟨a,kvs,i,y,rfl,rfl,e,hz,h1,h2⟩:=h
 cases rx
 obtain⟨u1,u2,rfl,⟨t,rfl⟩,ru2⟩:=vals2 rv
 obtain⟨z,hd,ws,rel,dd⟩:=(show ObjOk X.prog X.w H s.heap a (.dK kvs) from I.hok a _ e)
 have key:(ka8 X.prog X.w).is (Sum.inl i:Key) (.int i t)=true:=kei _ _ i t
 refine call_meetsIn N5 dd.typeIs MT (MU _ _ _) (kt_meets_setdefault (ka8 X.prog X.w) a key hd u2)
  ⟨ws,dd,by rw[←kvLen rel];exact z,fun v hv=>?_,fun hn h' dd' hs=>?_⟩
 ·have r:=kgG rel (Sum.inl i)
  rw[hv] at r
  cases ea:atK kvs (Sum.inl i) with
  |none=>rw[ea] at r;exact(show False from r).elim
  |some w'=>
   rw[ea] at r
   exact⟨w',H,I.tok _,r,h1 w' ea⟩
 ·have r:=kgG rel (Sum.inl i)
  rw[hn] at r
  have ea:atK kvs (Sum.inl i)=none:=by
   cases ea:atK kvs (Sum.inl i) with
   |none=>rfl
   |some w'=>rw[ea] at r;exact(show False from r).elim
  have est:stored ws (Sum.inl i:Key) u2=ws++[(Sum.inl i,u2)]:=by
   unfold stored
   rw[kvAny rel _ ea,if_neg U8]
  rw[est] at dd'
  have he:∃q,h'.get? a=some q:=let⟨q,_,_,hq,_⟩:=dd';⟨q,hq⟩
  refine⟨y,_,I.write (x:=a) (e:=a) (by rw[e];exact True.intro) (.inl rfl) (fun b q hb w'=>(hs.2 b hb).trans w') he ?_,ru2,h2 ea⟩
  exact(show ObjOk X.prog X.w _ h' a (.dK (kvs++[(.inl i,y)])) from⟨by rw[Jh,Nx];omega,hd,_,kkw rel ru2,dd'⟩)
noncomputable def khQ(te:TE):TE:=fun σ H Q=>te σ H fun v H1=>∃(a:Addr)(kvs:List (Key×V)),v=.ref a∧H1 a=some (.dK kvs)∧∀l,H1 l=none→Q (.ref l) (upd H1 l (.lst (kvs.map Prod.snd)))
theorem kgq{e:Expr}{te:TE}{p1 pos1 apos cpos:Pos}(hc:X.calm=true)(h1:Gl X "list")(m1:X.mg "list"=none)(he:PE X e te)
  (hbase:attributeBase e "values" X.env (eval e X.env)=eval e X.env:=by rfl) (hline:(apos.endLine==cpos.line)=true:=by rfl)
  (s2:starEach [.Call (.Attribute e "values" apos) [] [] cpos] X.env=[(false,eval (.Call (.Attribute e "values" apos) [] [] cpos) X.env)]:=by rfl):PE X (.Call (.Name "list" p1) [.Call (.Attribute e "values" apos) [] [] cpos] [] pos1) (khQ te):=by
 intro pins s σ H Q I h
 refine wpAny_Call_Name_kw (kc8 I h1 m1 kca ?_ (by decide) (by decide))
 refine PyProof.Rows.callWith_type1 ?_ s2 rfl
 rw[s2]
 refine Calls.spliced_cons (wpAny_Call_method0_late hbase hline (thn (he pins s σ H _ I h) fun u s3 ⟨v,H1,I1,r1,a,kvs,ev,ea,q⟩=>?_))
 subst ev
 cases r1
 obtain⟨t1,t2⟩:=kka (T:="dict") (x:=.ref a) (v:=.ref a) I1 rfl (.inr (.inr (.inl ⟨rfl, .inl ⟨kvs,ea⟩⟩)))
 obtain⟨z,hd,ws,rel,dd⟩:=(show ObjOk X.prog X.w H1 s3.heap a (.dK kvs) from I1.hok a _ ea)
 obtain⟨ep,hat⟩:=dd.dictAt
 refine⟨"dict","dict.values",Mv,MV,PySem.F.type_dict_values,t1,t2,Calls.callWith_builtin rfl (PySem.evalArgs_none ?_)⟩
 refine call_meetsIn MV dd.typeIs PySem.F.entry_dict_values (PySem.F.args_dict_values_1 _) (meets_dict_values (ka8 X.prog X.w) a hd) ⟨⟨ws,dd⟩,Calls.spliced_nil ?_⟩
 refine PySem.W.kdl_call (PySem.W.kdl_values (knd:=ka8 X.prog X.w) (kvs:=ws) (ep:=ep)) (I1.ok.hd hc) ⟨⟨_,Heap.get?_push_size _ rfl,rfl,rfl⟩,hat.push _⟩ (by rw[←kvLen rel];exact z) fun h' tk acc' c' hk hS hacc=>?_
 have hv:acc'.toList=ws.map (·.2):=PySem.W.kdl_vals_eq acc'.toList (by rw[Ni];exact hacc.1) fun j v' ej=>hacc.2 j v' (by rw[←Array.getElem?_toList];exact ej)
 generalize ho:({cls:=.type "dict_values",data:=.fields #[.ref a]}:Obj)=ob at *
 have hsz:(s3.heap.push ob).objs.size=s3.heap.objs.size+1:=Heap.size_push ..
 have rv:Vals (kvs.map Prod.snd) acc'.toList:=by rw[hv];exact kkv rel
 have I2:Inv X pins σ (upd H1 (s3.heap.push ob).objs.size (.lst (kvs.map Prod.snd))) {s3 with heap:=h',toks:=tk}:=
  I1.laid (fun b o e=>hk b o (Heap.get?_push_of_some _ e)) (by rw[hsz];exact Nj _) (show ObjOk X.prog X.w _ h' _ (.lst (kvs.map Prod.snd)) from⟨by rw[U0];exact z,acc'.toList,c',rv,by simpa using hS⟩)
 exact⟨.ref _,_,I2,rfl,q _ (I1.hok.fresh (by rw[hsz];exact Nj _))⟩
end
end L2
namespace L2
open PySem PySem.Spec PyProof.Rows
section
variable {X:Cx}
noncomputable def rCatS(K:U1):R2:=fun x y H Q=>∃(l b:Addr)(xs zs:List V),x=.ref l∧y=.ref b∧SqL K H l xs∧SqL K H b zs∧xs.length+zs.length≤sizeLine∧∀p,H p=none→Q (.ref p) (upd H p (.lst (xs++zs)))
theorem kk7:OpR X (binaryOp .Add) (rCatS X.K):=by
 intro pins s σ H x y v u Q I rx ry h
 obtain⟨l,b,xs,zs,rfl,rfl,hl,hb,hz,q⟩:=h
 cases rx
 cases ry
 obtain⟨us,r1,⟨⟨c1,d1,t1,f1⟩,n1,g1,z1,z2,z3⟩,_⟩:=I.list hl
 obtain⟨ws,r2,⟨⟨c2,d2,t2,f2⟩,n2,g2,y1,y2,y3⟩,_⟩:=I.list hb
 have lu:=r1.length
 have lw:=r2.length
 simp only at z1 z2 z3 y1 y2 y3
 subst z1 z2 z3 y1 y2 y3
 refine concat_meets ⟨_,g1,rfl⟩ ⟨_,g2,rfl⟩ noFill_list_add seq_list_add PySem.F.slot_list_add PySem.F.entry_list_add (PySem.F.args_list_add_2 _ _)
  (list_addW l b us.toArray ws.toArray n1 n2 none none f1 f2 (by rw[Jk,Jk];omega)) ⟨g1,g2,?_⟩
 have ea:us.toArray++ws.toArray=(us++ws).toArray:=by simp
 rw[ea]
 exact⟨.ref _,_,I.lnew (t':=s.toks) (r1.append r2) (by rw[Jh];omega),rfl,q _ I.fresh⟩
end
end L2
namespace Stb
open PySem PyProof.Rows
noncomputable def T(xs:Array Keyed)(i:Nat):Int:=match xs[i]? with
 |some p=>numOf p.2
 |none=>0
def T_at{xs ys:Array Keyed}{i j:Nat}(h:xs[i]?=ys[j]?):T xs i=T ys j:=by unfold T;rw[h]
noncomputable def Lx(xs:Array Keyed)(i j:Nat):Prop:=K xs i<K xs j∨(K xs i=K xs j∧T xs i<T xs j)
def Lx.trans{xs:Array Keyed}{i j k:Nat}(h:Lx xs i j)(h':Lx xs j k):Lx xs i k:=by unfold Lx at *;omega
def Lx.le{xs:Array Keyed}{i j:Nat}(h:Lx xs i j):K xs i≤K xs j:=by unfold Lx at *;omega
noncomputable def Up(xs:Array Keyed)(k:Nat):Prop:=∀i j,i<j→j<k→Lx xs i j
noncomputable def Dn(xs:Array Keyed)(k:Nat):Prop:=∀i j,i<j→j<k→Lx xs j i
noncomputable def Lat(a₀ xs:Array Keyed)(k:Nat):Prop:=∀i j,i<j→k≤j→j<a₀.size→T xs i<T xs j
def Lat.mono{a₀ xs:Array Keyed}{k k':Nat}(h:Lat a₀ xs k)(hk:k≤k'):Lat a₀ xs k':=fun i j h1 h2 h3=>h i j h1 (by omega) h3
theorem khn{xs:Array Keyed}{src d:Nat}(hs:src<xs.size)(hd:d≤src)(k:Nat):
  ∃k',(K (bubble xs src d) k=K xs k'∧T (bubble xs src d) k=T xs k')∧k'=if k=src-d then src else if src-d<k∧k≤src then k-1 else k:=by
 refine⟨_,?_,rfl⟩
 have e:=getElem?_bubble hs d hd k
 have e':(bubble xs src d)[k]?=xs[if k=src-d then src else if src-d<k∧k≤src then k-1 else k]?:=by
  rw[e]
  split
  ·rfl
  ·split <;> rfl
 exact⟨K_congr e',T_at e'⟩
theorem kcp{xs:Array Keyed}{i j:Nat}(hj:j≤xs.size)(k:Nat):
  ∃k',(K (mirror xs i j ((j-i)/2)) k=K xs k'∧T (mirror xs i j ((j-i)/2)) k=T xs k')∧k'=if i≤k∧k<j then i+j-1-k else k:=by
 refine⟨_,?_,rfl⟩
 have e:=getElem?_mirror_all (i:=i) hj k
 have e':(mirror xs i j ((j-i)/2))[k]?=xs[if i≤k∧k<j then i+j-1-k else k]?:=by
  rw[e]
  split <;> rfl
 exact⟨K_congr e',T_at e'⟩
def kgw{a₀ xs:Array Keyed}{i j k:Nat}(hj:j≤xs.size)(hk:j≤k)(h:Lat a₀ xs k):Lat a₀ (mirror xs i j ((j-i)/2)) k:=by
 intro a b hab hkb hb
 obtain⟨a',⟨_,ea⟩,ha⟩:=kcp (i:=i) hj a
 obtain⟨b',⟨_,eb⟩,hb'⟩:=kcp (i:=i) hj b
 rw[ea,eb]
 rw[if_neg (by omega)] at hb'
 subst hb'
 refine h _ _ ?_ hkb hb
 rw[ha]
 split <;> omega
section
variable {prog:Program} {w:World} {A:Around} {E:Value→Shared→Prop} {s:Shared} {a₀:Array Keyed}
theorem asc{st:SortSt}{a nrem:Nat}{Q:AscSt→SortSt→Prop}(h0:IntKeys a₀)(hn:nrem≤a₀.size)(ha:1≤a)(han:a≤nrem)(hB:SBase a₀ st)(hs:Up (arrOf st) a)(hl:Lat a₀ (arrOf st) a)
  (h:∀n,a≤n→n≤nrem→Up (arrOf st) n→(n=nrem∨K (arrOf st) n<K (arrOf st) (n-1))→Q (none,n) st):wpS (model prog w) A E s (ascLoop a nrem) Q st:=by
 unfold ascLoop
 refine wpS_forRange (I:=fun x c st'=>st'=st∧c=(none,x)∧Up (arrOf st) x) ?turn ?over ⟨rfl,rfl,hs⟩
 case over=>
  rintro c st' ⟨rfl,rfl,u⟩
  rw[show max a nrem=nrem by omega] at u⊢
  exact h nrem han (U2 _) u (.inl rfl)
 case turn=>
  rintro x c st' hax hxn ⟨rfl,rfl,u⟩
  dsimp only
  refine wpS_bind (wpS_ltK hB h0 (by omega) (by omega) ?_)
  by_cases c1:K (arrOf st') x<K (arrOf st') (x-1)
  ·simp only[c1,decide_true,if_true]
   exact wpS_pure (h x hax (by omega) u (.inr c1))
  ·simp only[c1,decide_false,JP,if_false]
   refine wpS_pure ⟨rfl,rfl,fun i j hij hj=>?_⟩
   by_cases hjx:j<x
   ·exact u i j hij hjx
   ·have e:j=x:=by omega
    subst e
    have t1:=hl (j-1) j (by omega) hax (by omega)
    have l1:Lx (arrOf st') (j-1) j:=by unfold Lx;omega
    by_cases e2:i=j-1
    ·rw[e2];exact l1
    ·exact(u i (j-1) (by omega) (by omega)).trans l1
theorem tail{st:SortSt}{n nrem:Nat}{Q:Option Nat→SortSt→Prop}(h0:IntKeys a₀)(hn:nrem≤a₀.size)(h1:1≤n)(hnn:n≤nrem)(hB:SBase a₀ st)(hs:Dn (arrOf st) n)(hl:Lat a₀ (arrOf st) n)
  (h:∀m st',SBase a₀ st'→1≤m→m≤nrem→Up (arrOf st') m→Lat a₀ (arrOf st') m→Q (some m) st'):wpS (model prog w) A E s (tail3 n nrem) Q st:=by
 unfold tail3
 have sz:n≤(arrOf st).size:=by rw[hB.size];omega
 refine wpS_bind (wpS_reverse ?_)
 have hB2:SBase a₀ (setArr st (mirror (arrOf st) 0 n ((n-0)/2))):=hB.setArr (mirror_perm _ _ _ _)
 have hl2:Lat a₀ (mirror (arrOf st) 0 n ((n-0)/2)) n:=kgw sz (U2 _) hl
 refine wpS_bind (asc h0 hn h1 hnn hB2 ?_ hl2 fun m hm1 hm2 hu _=>wpS_pure (h m _ hB2 (by omega) hm2 hu (hl2.mono hm1)))
 intro i j hij hj
 show Lx (mirror (arrOf st) 0 n ((n-0)/2)) i j
 obtain⟨i',⟨k1,t1⟩,e1⟩:=kcp (i:=0) sz i
 obtain⟨j',⟨k2,t2⟩,e2⟩:=kcp (i:=0) sz j
 rw[if_pos (by omega)] at e1 e2
 have:=hs j' i' (by omega) (by omega)
 unfold Lx at this⊢
 rw[k1,k2,t1,t2]
 exact this
structure Fl (a₀ xs:Array Keyed) (x neq:Nat):Prop where
 few:neq+1≤x
 hd:Dn xs (x-(neq+1))
 cr:∀i j,i<x-(neq+1)→x-(neq+1)≤j→j<x→K xs j<K xs i
 tl:∀i j,x-(neq+1)≤i→i<j→j<x→K xs i=K xs j∧T xs i<T xs j
 lat:Lat a₀ xs x
theorem Fl.turned{xs:Array Keyed}{x neq:Nat}(h:Fl a₀ xs x neq)(hx:x≤xs.size):Dn (mirror xs (x-(neq+1)) x ((x-(x-(neq+1)))/2)) x∧(∀i,i<x→K xs (x-1)≤K (mirror xs (x-(neq+1)) x ((x-(x-(neq+1)))/2)) i)∧Lat a₀ (mirror xs (x-(neq+1)) x ((x-(x-(neq+1)))/2)) x∧
  ∀k,x≤k→K (mirror xs (x-(neq+1)) x ((x-(x-(neq+1)))/2)) k=K xs k:=by
 have hf:=h.few
 refine⟨fun i j hij hj=>?_,fun i hi=>?_,kgw hx (U2 _) h.lat,fun k hk=>?_⟩
 ·obtain⟨i',⟨k1,t1⟩,e1⟩:=kcp (i:=x-(neq+1)) hx i
  obtain⟨j',⟨k2,t2⟩,e2⟩:=kcp (i:=x-(neq+1)) hx j
  unfold Lx
  rw[k1,k2,t1,t2]
  by_cases c1:j<x-(neq+1)
  ·rw[if_neg (by omega)] at e1 e2
   subst e1 e2
   exact h.hd i' j' hij c1
  ·rw[if_pos (by omega)] at e2
   by_cases c2:i<x-(neq+1)
   ·rw[if_neg (by omega)] at e1
    subst e1
    exact .inl (h.cr i' j' c2 (by omega) (by omega))
   ·rw[if_pos (by omega)] at e1
    have:=h.tl j' i' (by omega) (by omega) (by omega)
    omega
 ·obtain⟨i',⟨k1,_⟩,e1⟩:=kcp (i:=x-(neq+1)) hx i
  rw[k1]
  by_cases c2:i<x-(neq+1)
  ·rw[if_neg (by omega)] at e1
   subst e1
   have:=h.cr i' (x-1) c2 (by omega) (by omega)
   omega
  ·rw[if_pos (by omega)] at e1
   by_cases c3:i'=x-1
   ·rw[c3];exact Int.le_refl _
   ·have:=h.tl i' (x-1) (by omega) (by omega) (by omega)
    omega
 ·obtain⟨k',⟨k1,_⟩,e1⟩:=kcp (i:=x-(neq+1)) hx k
  rw[if_neg (by omega)] at e1
  rw[k1,e1]
theorem Fl.plain{xs:Array Keyed}{x:Nat}(h:Fl a₀ xs x 0):Dn xs x∧(∀i,i<x→K xs (x-1)≤K xs i):=by
 have hf:=h.few
 refine⟨fun i j hij hj=>?_,fun i hi=>?_⟩
 ·by_cases c1:j<x-(0+1)
  ·exact h.hd i j hij c1
  ·exact .inl (h.cr i j (by omega) (by omega) hj)
 ·by_cases c3:i=x-1
  ·rw[c3];exact Int.le_refl _
  ·have:=h.cr i (x-1) (by omega) (by omega) (by omega)
   omega
theorem Fl.next{xs:Array Keyed}{x:Nat}(hd:Dn xs x)(hk:∀i,i<x→K xs x<K xs i)(hl:Lat a₀ xs x):Fl a₀ xs (x+1) 0:=
 ⟨by omega,fun i j h1 h2=>hd i j h1 (by omega),fun i j h1 h2 h3=>by
  have e:j=x:=by omega
  subst e
  exact hk i (by omega),fun i j h1 h2 h3=>by omega,hl.mono (by omega)⟩
theorem desc{st:SortSt}{n nrem:Nat}{Q:DescSt→SortSt→Prop}(h0:IntKeys a₀)(hn:nrem≤a₀.size)(hnn:n≤nrem)(hB:SBase a₀ st)(hs:Fl a₀ (arrOf st) n 0)
  (h:∀m neq st',SBase a₀ st'→n≤m→m≤nrem→Fl a₀ (arrOf st') m neq→Q (none,m,neq) st'):wpS (model prog w) A E s (descLoop n nrem) Q st:=by
 unfold descLoop
 refine wpS_forRange (I:=fun x c st'=>∃neq,c=(none,x,neq)∧SBase a₀ st'∧Fl a₀ (arrOf st') x neq) ?turn ?over ⟨0,rfl,hB,hs⟩
 case over=>
  rintro c st' ⟨neq,rfl,hB',f⟩
  rw[show max n nrem=nrem by omega] at f⊢
  exact h nrem neq st' hB' hnn (U2 _) f
 case turn=>
  rintro x c st' hax hxn ⟨neq,rfl,hB',f⟩
  dsimp only
  have few:=f.few
  have sz:x≤(arrOf st').size:=by rw[hB'.size];omega
  refine wpS_bind (wpS_ltK hB' h0 (by omega) (by omega) ?_)
  by_cases c1:K (arrOf st') x<K (arrOf st') (x-1)
  ·simp only[c1,decide_true,if_true]
   by_cases c2:neq > 0
   ·rw[if_pos c2]
    obtain⟨d1,d2,d3,d4⟩:=f.turned sz
    refine wpS_bind (wpS_reverse (wpS_pure ⟨0,rfl,hB'.setArr (mirror_perm _ _ _ _),Fl.next d1 (fun i hi=>?_) d3⟩))
    have:=d2 i hi
    have e:=d4 x (U2 _)
    show K (mirror (arrOf st') _ _ _) x<K (mirror (arrOf st') _ _ _) i
    omega
   ·rw[if_neg c2]
    have e:neq=0:=by omega
    subst e
    obtain⟨d1,d2⟩:=f.plain
    exact wpS_pure ⟨0,rfl,hB',Fl.next d1 (fun i hi=>by have:=d2 i hi;omega) f.lat⟩
  ·simp only[c1,decide_false,JP,if_false]
   refine wpS_bind (wpS_ltK hB' h0 (by omega) (by omega) ?_)
   by_cases c2:K (arrOf st') (x-1)<K (arrOf st') x
   ·simp only[c2,decide_true,if_true]
    exact wpS_pure (h x neq st' hB' hax (by omega) f)
   ·simp only[c2,decide_false,JP,if_false]
    have ek:K (arrOf st') x=K (arrOf st') (x-1):=by omega
    refine wpS_pure ⟨neq+1,rfl,hB',⟨by omega,?_,?_,?_,f.lat.mono (by omega)⟩⟩
    ·rw[show x+1-(neq+1+1)=x-(neq+1) by omega]
     exact f.hd
    ·rw[show x+1-(neq+1+1)=x-(neq+1) by omega]
     intro i j h1 h2 h3
     by_cases c3:j<x
     ·exact f.cr i j h1 h2 c3
     ·have e:j=x:=by omega
      subst e
      rw[ek]
      exact f.cr i (j-1) h1 (by omega) (by omega)
    ·rw[show x+1-(neq+1+1)=x-(neq+1) by omega]
     intro i j h1 h2 h3
     by_cases c3:j<x
     ·exact f.tl i j h1 h2 c3
     ·have e:j=x:=by omega
      subst e
      refine⟨?_,f.lat i j h2 (U2 _) (by omega)⟩
      rw[ek]
      by_cases c4:i=j-1
      ·rw[c4]
      ·exact(f.tl i (j-1) h1 (by omega) (by omega)).1
theorem falls{st:SortSt}{n nrem:Nat}{Q:Option Nat→SortSt→Prop}(h0:IntKeys a₀)(hn:nrem≤a₀.size)(hnn:n+1≤nrem)(hB:SBase a₀ st)(hs:Fl a₀ (arrOf st) (n+1) 0)
  (h:∀m st',SBase a₀ st'→1≤m→m≤nrem→Up (arrOf st') m→Lat a₀ (arrOf st') m→Q (some m) st'):wpS (model prog w) A E s (descPart n nrem) Q st:=by
 unfold descPart
 refine wpS_bind (wpS_lift (wpAny_rule ⟨rfl,?_⟩))
 refine wpS_bind (desc h0 hn hnn hB hs fun m neq st' hB' hm1 hm2 f=>?_)
 dsimp only
 have sz:m≤(arrOf st').size:=by rw[hB'.size];omega
 by_cases c2:neq > 0
 ·rw[if_pos c2]
  obtain⟨d1,_,d3,_⟩:=f.turned sz
  exact wpS_bind (wpS_reverse (tail h0 hn (by omega) hm2 (hB'.setArr (mirror_perm _ _ _ _)) d1 d3 h))
 ·rw[if_neg c2]
  have e:neq=0:=by omega
  subst e
  exact tail h0 hn (by omega) hm2 hB' f.plain.1 f.lat h
theorem count{st:SortSt}{nrem:Nat}{Q:Option Nat→SortSt→Prop}(h0:IntKeys a₀)(hn:nrem≤a₀.size)(h1:1≤nrem)(hB:SBase a₀ st)(hl:Lat a₀ (arrOf st) 1)
  (h:∀m st',SBase a₀ st'→1≤m→m≤nrem→Up (arrOf st') m→Lat a₀ (arrOf st') m→Q (some m) st'):wpS (model prog w) A E s (countRun' 0 nrem) Q st:=by
 rw[countRun0_eq]
 refine wpS_bind (asc h0 hn (U2 1) h1 hB (fun i j hij hj=>by omega) hl fun n hn1 hn2 hu hor=>?_)
 dsimp only
 by_cases c1:n=nrem
 ·rw[if_pos (by simpa using c1)]
  exact wpS_pure (h n st hB hn1 hn2 hu (hl.mono hn1))
 ·rw [if_neg (by simpa using c1)]
  have lt:K (arrOf st) n<K (arrOf st) (n-1):=hor.resolve_left c1
  by_cases c2:n > 1
  ·rw [if_pos c2]
   refine wpS_bind (wpS_ltK hB h0 (by omega) (by omega) ?_)
   by_cases c3:K (arrOf st) 0<K (arrOf st) (n-1)
   ·simp only[c3,decide_true,if_true]
    exact wpS_pure (h n st hB hn1 hn2 hu (hl.mono hn1))
   ·simp only[c3,decide_false,JP,if_false]
    have sz:n≤(arrOf st).size:=by rw[hB.size];omega
    have same:∀i,i<n→K (arrOf st) i=K (arrOf st) (n-1):=fun i hi=>by
     by_cases z:i=0
     ·subst z
      have:=(hu 0 (n-1) (by omega) (by omega)).le
      omega
     ·have a1:=(hu 0 i (by omega) hi).le
      by_cases z2:i=n-1
      ·rw[z2]
      ·have a2:=(hu i (n-1) (by omega) (by omega)).le
       omega
    refine wpS_bind (wpS_reverse (falls h0 hn (by omega) (hB.setArr (mirror_perm _ _ _ _)) (Fl.next (fun i j hij hj=>?_) (fun i hi=>?_) (kgw sz (U2 _) (hl.mono hn1))) h))
    ·show Lx (mirror (arrOf st) 0 n ((n-0)/2)) j i
     obtain⟨i',⟨k1,t1⟩,e1⟩:=kcp (i:=0) sz i
     obtain⟨j',⟨k2,t2⟩,e2⟩:=kcp (i:=0) sz j
     rw[if_pos (by omega)] at e1 e2
     have:=hu j' i' (by omega) (by omega)
     unfold Lx at this⊢
     rw[k1,k2,t1,t2]
     exact this
    ·show K (mirror (arrOf st) 0 n ((n-0)/2)) n<K (mirror (arrOf st) 0 n ((n-0)/2)) i
     obtain⟨i',⟨k1,_⟩,e1⟩:=kcp (i:=0) sz i
     obtain⟨n',⟨k2,_⟩,e2⟩:=kcp (i:=0) sz n
     rw[if_pos (by omega)] at e1
     rw[if_neg (by omega)] at e2
     subst e2
     rw[k1,k2,same i' (by omega)]
     exact lt
  ·rw[if_neg c2]
   have e:n=1:=by omega
   subst e
   refine falls h0 hn (by omega) hB (Fl.next (fun i j hij hj=>by omega) (fun i hi=>?_) hl) h
   have z:i=0:=by omega
   subst z
   exact lt
theorem insert{st:SortSt}{n ok:Nat}{Q:Bool→SortSt→Prop}(h0:IntKeys a₀)(hn:n≤a₀.size)(h1:1≤ok)(hok:ok≤n)(hB:SBase a₀ st)(hs:Up (arrOf st) ok)(hl:Lat a₀ (arrOf st) ok)
  (h:∀st',SBase a₀ st'→Up (arrOf st') n→Q true st'):wpS (model prog w) A E s (binarySort' 0 n ok) Q st:=by
 rw[binarySort'_eq]
 simp only[Nat.zero_add]
 refine wpS_bind (wpS_mono (wpS_forRange (I:=fun k c st'=>c=(none,())∧SBase a₀ st'∧Up (arrOf st') (min k n)∧Lat a₀ (arrOf st') (min k n)) (Q:=fun c st'=>c=(none,())∧SBase a₀ st'∧Up (arrOf st') n) ?turn ?over ?begin) ?behind)
 case behind=>
  rintro c st' ⟨rfl,hB',hu⟩
  exact wpS_pure (h st' hB' hu)
 case begin=>
  rw[show max ok 1=ok by omega,show min ok n=ok by omega]
  exact⟨rfl,hB,hs,hl⟩
 case over=>
  rintro c st' ⟨hc,hB',hu,_⟩
  refine⟨hc,hB',?_⟩
  rwa [show min (max (max ok 1) n) n=n by omega] at hu
 case turn=>
  rintro k c st' hak hkn ⟨rfl,hB',hu,hla⟩
  rw[show min k n=k by omega] at hu hla
  have hk:k<a₀.size:=by omega
  refine wpS_bind (wpS_mono (wpS_forRange (I:=fun x c st''=>st''=st'∧∃l r,c=(none,l,r)∧l≤r∧r≤k∧r-l≤k-x∧(∀i,i<l→K (arrOf st') i≤K (arrOf st') k)∧(∀i,r≤i→i<k→K (arrOf st') k<K (arrOf st') i))
   (Q:=fun c st''=>st''=st'∧∃l r,c=(none,l,r)∧l≤k∧(∀i,i<l→K (arrOf st') i≤K (arrOf st') k)∧(∀i,l≤i→i<k→K (arrOf st') k<K (arrOf st') i)) ?turn2 ?over2 ?begin2) ?behind2)
  case begin2=>exact⟨rfl,0,k,rfl,by omega,by omega,by omega,fun i hi=>by omega,fun i a b=>by omega⟩
  case over2=>
   rintro c st'' ⟨rfl,l,r,rfl,hlr,hrk,hm,lo,hi⟩
   have e:l=r:=by omega
   subst e
   exact⟨rfl,l,l,rfl,hrk,lo,hi⟩
  case turn2=>
   rintro x c st'' _ hxk ⟨rfl,l,r,rfl,hlr,hrk,hm,lo,hi⟩
   dsimp only
   by_cases c1:l≥r
   ·rw[if_pos c1]
    have e:l=r:=by omega
    subst e
    exact wpS_pure ⟨rfl,l,l,rfl,hrk,lo,hi⟩
   ·rw[if_neg c1]
    refine wpS_bind (wpS_ltK hB' h0 hk (by omega) ?_)
    by_cases c2:K (arrOf st'') k<K (arrOf st'') ((l+r)/2)
    ·simp only[c2,decide_true,if_true]
     refine wpS_pure ⟨rfl,l,(l+r)/2,rfl,by omega,by omega,by omega,lo,fun i a b=>?_⟩
     by_cases z:i=(l+r)/2
     ·rw[z];exact c2
     ·exact Int.lt_of_lt_of_le c2 (hu _ _ (by omega) b).le
    ·simp only[c2,decide_false,JP,if_false]
     refine wpS_pure ⟨rfl,(l+r)/2+1,r,rfl,by omega,by omega,by omega,fun i a=>?_,hi⟩
     by_cases z:i=(l+r)/2
     ·rw[z];omega
     ·exact Int.le_trans (hu i ((l+r)/2) (by omega) (by omega)).le (Int.not_lt.mp c2)
  case behind2=>
   rintro c st'' ⟨rfl,l,r,rfl,hlk,lo,hi⟩
   show wpS _ _ _ _ (do moveDown' k l;pure (ForInStep.yield (none,()))) _ _
   rw[moveDown'_eq]
   have hks:k<(arrOf st'').size:=by rw[hB'.size];exact hk
   refine wpS_bind (wpS_modify (wpS_pure ⟨rfl,hB'.setArr (bubble_perm _ _ _),?_,?_⟩))
   ·rw [show min (k+1) n=k+1 by omega]
    intro i j hij hj
    show Lx (bubble (arrOf st'') k (k-l)) i j
    obtain⟨i',⟨k1,t1⟩,e1⟩:=khn hks (show k-l≤k by omega) i
    obtain⟨j',⟨k2,t2⟩,e2⟩:=khn hks (show k-l≤k by omega) j
    rw[show k-(k-l)=l by omega] at e1 e2
    unfold Lx
    rw[k1,k2,t1,t2]
    by_cases z1:i=l
    ·rw[if_pos z1] at e1
     rw[if_neg (by omega),if_pos (by omega)] at e2
     subst e1
     exact .inl (hi j' (by omega) (by omega))
    ·rw[if_neg z1] at e1
     by_cases z2:j=l
     ·rw[if_pos z2] at e2
      rw[if_neg (by omega)] at e1
      subst e2
      have a1:=lo i' (by omega)
      have a2:=hla i' j' (by omega) (U2 _) hk
      omega
     ·rw[if_neg z2] at e2
      refine hu i' j' ?_ ?_
      ·rw[e1,e2]
       repeat' split
       all_goals omega
      ·rw[e2]
       split <;> omega
   ·rw[show min (k+1) n=k+1 by omega]
    intro a b hab hkb hb
    show T (bubble (arrOf st'') k (k-l)) a<T (bubble (arrOf st'') k (k-l)) b
    obtain⟨a',⟨_,t1⟩,e1⟩:=khn hks (show k-l≤k by omega) a
    obtain⟨b',⟨_,t2⟩,e2⟩:=khn hks (show k-l≤k by omega) b
    rw[show k-(k-l)=l by omega] at e1 e2
    rw[if_neg (by omega),if_neg (by omega)] at e2
    subst e2
    rw[t1,t2]
    refine hla a' b' ?_ (by omega) hb
    rw[e1]
    repeat' split
    all_goals omega
noncomputable def Done(a₀:Array Keyed)(st:SortSt):Prop:=(arrOf st).Perm a₀∧failedOf st=none∧pendingOf st= #[(0,a₀.size,0)]∧Up (arrOf st) a₀.size
theorem done{st:SortSt}(hB:SBase a₀ st)(hu:Up (arrOf st) a₀.size):Done a₀ (setPending st ((pendingOf st).push (0,a₀.size,0))):=⟨hB.perm,hB.failed,by show(pendingOf st).push _=_;rw[hB.pend];rfl,hu⟩
theorem runs{st:SortSt}{Q:Unit→SortSt→Prop}(h0:IntKeys a₀)(hB:SBase a₀ st)(h2:2≤a₀.size)(h64:a₀.size<64)(hl:Lat a₀ (arrOf st) 1)
  (h:∀st',(arrOf st').Perm a₀→failedOf st'=none→Up (arrOf st') a₀.size→Q () st'):wpS (model prog w) A E s sortRuns' Q st:=by
 rw[sortRuns'_eq]
 refine wpS_bind (wpS_get ?_)
 dsimp only
 have mr:minRun' a₀.size a₀.size 0=a₀.size:=by
  obtain⟨f,hf⟩:∃f,a₀.size=f+1:=⟨a₀.size-1,by omega⟩
  have z:minRun' (f+1) a₀.size 0=a₀.size:=by rw[minRun'_succ,if_pos h64];rfl
  rwa [←hf] at z
 simp only[hB.size,mr]
 refine wpS_bind (wpS_mono (wpS_forRange (I:=fun x c st'=>(x=0∧c=(none,0)∧st'=st)∨(1≤x∧c=(none,a₀.size)∧Done a₀ st')) (Q:=fun c st'=>c=(none,a₀.size)∧Done a₀ st') ?turn ?over (.inl ⟨rfl,rfl,rfl⟩)) ?behind)
 case over=>
  rintro c st' (⟨hx,_,_⟩|⟨_,hc,hD⟩)
  ·omega
  ·exact⟨hc,hD⟩
 case turn=>
  rintro x c st' _ hx (⟨rfl,rfl,rfl⟩|⟨hx1,rfl,hD⟩)
  ·dsimp only
   rw[if_neg (by omega)]
   simp only[Nat.sub_zero,NI,Nat.zero_add]
   refine wpS_bind (count h0 (U2 _) (by omega) hB hl fun m st2 hB2 hm1 hm2 hu2 hl2=>?_)
   dsimp only
   by_cases c1:m<a₀.size
   ·rw[if_pos c1]
    refine wpS_bind (wpS_lift (wpAny_rule ⟨rfl,?_⟩))
    refine wpS_bind (insert h0 (U2 _) hm1 hm2 hB2 hu2 hl2 fun st3 hB3 hu3=>?_)
    simp only[Bool.not_true,JP,if_false]
    refine wpS_bind (wpS_get ?_)
    have hb:(pendingOf st3).back?=none:=by rw[hB3.pend];rfl
    rw[hb]
    dsimp only
    exact wpS_bind (wpS_modify (wpS_pure (.inr ⟨by omega,rfl,done hB3 hu3⟩)))
   ·rw[if_neg c1]
    have e:m=a₀.size:=by omega
    subst e
    refine wpS_bind (wpS_get ?_)
    have hb:(pendingOf st2).back?=none:=by rw[hB2.pend];rfl
    rw[hb]
    dsimp only
    exact wpS_bind (wpS_modify (wpS_pure (.inr ⟨by omega,rfl,done hB2 hu2⟩)))
  ·dsimp only
   rw[if_pos (U2 _)]
   exact wpS_pure ⟨rfl,hD⟩
 case behind=>
  rintro c st' ⟨rfl,hD⟩
  dsimp only
  refine wpS_bind (wpS_mono (wpS_forRange (I:=fun _ c st''=>st''=st'∧c=(none,())) (Q:=fun c st''=>st''=st'∧c=(none,())) ?_ (fun _ _ z=>z) ⟨rfl,rfl⟩) ?_)
  ·rintro x c st'' _ _ ⟨rfl,rfl⟩
   refine wpS_bind (wpS_get ?_)
   rw[if_pos (by rw[hD.2.2.1];exact U2 1)]
   exact wpS_pure ⟨rfl,rfl⟩
  ·rintro c st'' ⟨rfl,rfl⟩
   exact wpS_pure (h _ hD.1 hD.2.1 hD.2.2.2)
end
end Stb
namespace Stb
open PySem PyProof.Rows
structure SJ (J:Shared→Prop) (n0:Nat):Prop where
 sz:∀s,J s→n0≤s.heap.objs.size
 push:∀s c xs n,J s→J {s with heap:=s.heap.push (seqObj c xs n)}
 upd:∀s b g,J s→n0≤b→J {s with heap:=s.heap.update b (Obj.mapSeq g)}
noncomputable def Tells(J:Shared→Prop)(n0:Nat)(k:Int)(s:Shared)(v:Value)(s':Shared):Prop:=(∃t,v=.int k t)∧J s'∧∀b o,n0≤b→s.heap.get? b=some o→s'.heap.get? b=some o
noncomputable def Rows(keys:Array Value)(vs:List Value)(out:Array Value):Prop:=∃xs:Array Keyed,xs.Perm (keys.zip vs.toArray)∧Up xs xs.size∧out=xs.map (·.2)
section
variable {prog:Program} {w:World} {A:Around} {E:Value→Shared→Prop} {s:Shared} {J:Shared→Prop} {n0:Nat} {a kS:Addr} {vs:List Value} {kz:List Int} {keys:Array Value} {e e1:Nat} {P:PySem.Fin→Shared→Prop}
theorem tailK(S:SJ J n0)(hJ:J s)(hk:s.heap.get? kS=some (seqObj "list" keys e))(ha:s.heap.get? a=some (seqObj "list" #[] e1))(ne:kS≠a)(nk:n0≤kS)(na:n0≤a){st:SortSt}(hz:keys.size≤64)(hp:(arrOf st).Perm (keys.zip vs.toArray))(hu:Up (arrOf st) (arrOf st).size)
  (hf:failedOf st=none) (hv:vs.length≤64) (h:∀h' out c,J {s with heap:=h'}→h'.get? a=some (seqObj "list" out c)→Rows keys vs out→P (.done (.ret .none)) {s with heap:=h'}):wpAny (model prog w) A (ksk_tail a false e1 (.ref kS) st) P E s:=by
 have sz2:(arrOf st).size≤64:=by
  have hvs:vs.toArray.size=vs.length:=by simp
  rw[hp.size_eq,N6]
  omega
 have q1:=Heap.SameBut.update s.heap kS (Obj.mapSeq fun _=>(#[]:Array Value))
 have g1:(s.heap.update kS (Obj.mapSeq fun _=>(#[]:Array Value))).get? a=some (seqObj "list" #[] e1):=(q1.2 a ne.symm).trans ha
 have J1:=S.upd s kS (fun _=>#[]) hJ nk
 have J2:=S.upd _ a (fun _=>(arrOf st).map (·.2)) J1 na
 unfold ksk_tail
 try dsimp only
 refine wpAny_bind (listUpdate_at hk rfl ?_ (by rw[sizeLine_eq];omega) (Jv _))
 refine wpAny_bind (wpAny_letGo ?_)
 refine wpAny_bind (seqEpoch_at g1 rfl ?_)
 refine wpAny_bind (listUpdate_at g1 rfl ?_ (Jv _) (by simp only[JP,if_false,Array.size_map];rw[sizeLine_eq];omega))
 rw[hf]
 simp only[bne_self_eq_false,JP,if_false]
 exact wpAny_pure (h _ _ _ J2 (get?_update_seq g1 fun _=>(arrOf st).map (·.2)) ⟨arrOf st,hp,hu,rfl⟩)
theorem zip_T{keys:Array Value}{vs:List Value}{i:Nat}(hl:keys.size=vs.length):T (keys.zip vs.toArray) i=match vs[i]? with|some v=>numOf v|none=>0:=by
 unfold T
 have hvs:vs.toArray.size=vs.length:=by simp
 cases ev:vs[i]? with
 |none=>
  have hi:vs.length≤i:=Mh.mp ev
  have e:(keys.zip vs.toArray)[i]?=none:=Array.getElem?_eq_none (by rw[N6];omega)
  rw[e]
 | some v=>
  have hi:i<vs.length:=(Ja.mp ev).1
  have hz:i<(keys.zip vs.toArray).size:=by rw[N6];omega
  have ev':vs[i]=v:=by
   rw[JZ hi] at ev
   exact Option.some.inj ev
  have e:(keys.zip vs.toArray)[i]?=some (keys[i]'(by omega),vs[i]):=by
   rw[Mw hz]
   simp
  rw[e,ev']
theorem endK(S:SJ J n0)(hJ:J s)(hk:s.heap.get? kS=some (seqObj "list" keys e))(ha:s.heap.get? a=some (seqObj "list" #[] e1))(ne:kS≠a)(nk:n0≤kS)(na:n0≤a)(hi:IntsAre keys.toList kz)(hl:keys.size=vs.length)(h64:vs.length<64)
  (up:∀(i j:Nat)(x y:Value),i<j→vs[i]?=some x→vs[j]?=some y→numOf x<numOf y)
  (h:∀h' out c,J {s with heap:=h'}→h'.get? a=some (seqObj "list" out c)→Rows keys vs out→P (.done (.ret .none)) {s with heap:=h'}):wpAny (model prog w) A (ksk_end a false vs.toArray e1 (.ref kS) keys) P E s:=by
 have hvs:vs.toArray.size=vs.length:=by simp
 have zs:(keys.zip vs.toArray).size=vs.length:=by rw[N6];omega
 unfold ksk_end
 try dsimp only
 simp only[JP,if_false]
 by_cases h2:vs.toArray.size<2
 ·rw[if_pos h2,if_pos h2]
  refine wpAny_bind (wpAny_pure ?_)
  rw[StateT.run_pure]
  refine wpAny_bind (wpAny_pure ?_)
  try dsimp only
  refine tailK (st:=SortSt.mk' general' (keys.zip vs.toArray) #[] 7 none) S hJ hk ha ne nk na (by omega) (Array.Perm.refl _) ?_ rfl (by omega) h
  intro i j hij hj
  have hj2:j<(keys.zip vs.toArray).size:=hj
  rw[zs] at hj2
  rw[Jk] at h2
  omega
 ·rw[if_neg h2,if_neg h2]
  rw[Jk] at h2
  rw[ksk_kind hi (by rw[hl];omega)]
  refine wpAny_bind (wpAny_pure ?_)
  have lat:Lat (keys.zip vs.toArray) (keys.zip vs.toArray) 1:=fun i j hij _ hj=>by
   rw[zs] at hj
   rw[zip_T hl,zip_T hl,JZ (show i<vs.length by omega),JZ hj]
   exact up i j _ _ hij (JZ (show i<vs.length by omega)) (JZ hj)
  refine wpAny_bind (wpAny_mono (runs (a₀:=keys.zip vs.toArray) (st:=SortSt.mk' oneType' (keys.zip vs.toArray) #[] 7 none) (Q:=fun _ st'=>(arrOf st').Perm (keys.zip vs.toArray)∧failedOf st'=none∧Up (arrOf st') (keys.zip vs.toArray).size)
   (ksk_intKeys hi) ⟨Array.Perm.refl _,rfl,rfl,rfl⟩ (by rw[zs];omega) (by rw[zs];exact h64) lat fun st' b1 b2 b3=>⟨b1,b2,b3⟩) ?_ fun _ _ z=>z)
  rintro⟨⟨⟩,st'⟩ s' ⟨rfl,b1,b2,b3⟩
  try dsimp only
  exact tailK S hJ hk ha ne nk na (by omega) b1 (by rw[b1.size_eq];exact b3) b2 (by omega) h
theorem restK{f:Value}(S:SJ J n0)(hJ:J s)(hk:s.heap.get? kS=some (seqObj "list" #[] 0))(ha:s.heap.get? a=some (seqObj "list" #[] e1))(ne:kS≠a)(nk:n0≤kS)(na:n0≤a)(hl:kz.length=vs.length)(h64:vs.length<64)
  (up:∀(i j:Nat)(x y:Value),i<j→vs[i]?=some x→vs[j]?=some y→numOf x<numOf y)
  (turn:∀(i:Nat)(v:Value)(k:Int),vs[i]?=some v→kz[i]?=some k→∀s',J s'→wpAny (model prog w) A (call f [v]) (Tells J n0 k s') (fun _ _=>False) s')
  (h:∀s' keys out c,J s'→s'.heap.get? a=some (seqObj "list" out c)→IntsAre keys.toList kz→keys.size=vs.length→Rows keys vs out→P (.done (.ret .none)) s'):wpAny (model prog w) A (ksk_rest a f false vs.toArray e1 (.ref kS)) P E s:=by
 unfold ksk_rest
 refine wpAny_bind (wpAny_rule ?_)
 first
  |rw[List.forIn_toArray]
  |rw[←Array.forIn_toList]
 refine wpAny_bind (ksk_fold (fun i s'=>J s'∧∃kA e,s'.heap.get? kS=some (seqObj "list" kA e)∧s'.heap.get? a=some (seqObj "list" #[] e1)∧IntsAre kA.toList (kz.take i)) vs 0 s ⟨hJ,#[],0,hk,ha,by simpa using IntsAre.nil⟩ ?turnP ?doneP)
 case turnP=>
  rintro j x s' hx ⟨J',kA,e,g1,g2,hi⟩
  simp only[Nat.zero_add] at hi⊢
  have hj:j<vs.length:=(Ja.mp hx).1
  obtain⟨k,ek⟩:∃k,kz[j]?=some k:=⟨_,JZ (by omega)⟩
  have lz:kA.size≤vs.length:=by
   have h1:=hi.length
   rw[Ni,Jg] at h1
   omega
  refine wpAny_bind (wpAny_attempt (wpAny_mono (turn j x k hx ek s' J') (fun v s'' hT=>?_) fun _ _ z=>z.elim))
  obtain⟨⟨t,rfl⟩,J2,kp⟩:=hT
  try dsimp only
  have g1':=kp _ _ nk g1
  have g2':=kp _ _ na g2
  have q1:=Heap.SameBut.update s''.heap kS (Obj.mapSeq (·.push (.int k t)))
  refine wpAny_bind (listUpdate_at g1' rfl ?_ (by rw[sizeLine_eq];omega) (U4 (NU (Array.size_push ..)) (by rw[sizeLine_eq];omega)))
  have et:kz.take (j+1)=kz.take j++[k]:=by rw[J0,ek];simp
  have ep:(kA.push (Value.int k t)).toList=kA.toList++[Value.int k t]:=by simp
  exact wpAny_pure ⟨rfl,S.upd _ kS _ J2 nk,kA.push (.int k t),_,get?_update_seq g1' (·.push (.int k t)),(q1.2 a ne.symm).trans g2',by rw[ep,et];exact ksk_snoc hi⟩
 case doneP=>
  rintro s' ⟨J',kA,e,g1,g2,hi⟩
  have e3:kz.take (0+vs.length)=kz:=J7 (by omega)
  rw[e3] at hi
  have lk:kA.size=vs.length:=by
   have:=hi.length
   rw[Ni] at this
   omega
  try dsimp only
  refine wpAny_bind (listItems_at g1 rfl ?_)
  exact endK S J' g1 g2 ne nk na hi lk h64 up fun h' out c z1 z2 z3=>h _ kA out c z1 z2 hi lk z3
theorem sortK{f:Value}{n:Nat}(S:SJ J n0)(hJ:J s)(ho:s.heap.get? a=some (seqObj "list" vs.toArray n))(na:n0≤a)(hl:kz.length=vs.length)(h64:vs.length<64)
  (up:∀(i j:Nat)(x y:Value),i<j→vs[i]?=some x→vs[j]?=some y→numOf x<numOf y)
  (turn:∀(i:Nat)(v:Value)(k:Int),vs[i]?=some v→kz[i]?=some k→∀s',J s'→wpAny (model prog w) A (call f [v]) (Tells J n0 k s') (fun _ _=>False) s')
  (h:∀s' keys out c,J s'→s'.heap.get? a=some (seqObj "list" out c)→IntsAre keys.toList kz→keys.size=vs.length→Rows keys vs out→P (.done (.ret .none)) s'):wpAny (model prog w) A (ksk_tree a f false) P E s:=by
 have la:a<s.heap.objs.size:=Heap.lt_size ho
 have J1:=S.upd s a (fun _=>#[]) hJ na
 have J2:=S.push _ "tuple" vs.toArray 0 J1
 have J3:=S.push _ "list" #[] 0 J2
 obtain⟨e1,g1⟩:∃e1,(s.heap.update a (Obj.mapSeq fun _=>(#[]:Array Value))).get? a=some (seqObj "list" #[] e1):=⟨_,get?_update_seq ho fun _=>#[]⟩
 have sz:((s.heap.update a (Obj.mapSeq fun _=>(#[]:Array Value))).push (seqObj "tuple" vs.toArray 0)).objs.size=s.heap.objs.size+1:=by rw[size_push',Heap.size_update]
 have n0s:=S.sz s hJ
 unfold ksk_tree
 refine wpAny_bind (listItems_at ho rfl ?_)
 refine wpAny_bind (listUpdate_at ho rfl ?_ (by rw[Jk,sizeLine_eq];omega) (Jv _))
 refine wpAny_bind (seqEpoch_at g1 rfl ?_)
 refine wpAny_bind (wpAny_newTuple ?_ (by show vs.length≤_;rw[sizeLine_eq];omega))
 refine wpAny_bind (wpAny_newList ?_ (Jv _))
 refine wpAny_holding ?_
 refine restK (s:={s with heap:=((s.heap.update a (Obj.mapSeq fun _=>(#[]:Array Value))).push (seqObj "tuple" vs.toArray 0)).push (seqObj "list" #[] 0)}) (kS:=((s.heap.update a (Obj.mapSeq fun _=>(#[]:Array Value))).push (seqObj "tuple" vs.toArray 0)).objs.size)
  S J3 (Heap.get?_push_size _ rfl) (Heap.get?_push_of_some _ (Heap.get?_push_of_some _ g1)) (by rw[sz];exact JQ (Nat.lt_succ_of_lt la)) (by rw[sz];omega) na hl h64 up turn h
end
section
variable {prog:Program} {w:World} {A:Around} {E:Value→Shared→Prop} {s:Shared} {J:Shared→Prop} {n0:Nat} {vs:List Value} {kz:List Int} {Q:Value→Shared→Prop}
theorem sortedK{l f:Addr}(S:SJ J n0)(hJ:J s)(hL:s.heap.IsList l vs.toArray)(hl:kz.length=vs.length)(h64:vs.length<64)
  (up:∀(i j:Nat)(x y:Value),i<j→vs[i]?=some x→vs[j]?=some y→numOf x<numOf y)
  (turn:∀(i:Nat)(v:Value)(k:Int),vs[i]?=some v→kz[i]?=some k→∀s',J s'→wpAny (model prog w) A.in1.in1 (call (.ref f) [v]) (Tells J n0 k s') (fun _ _=>False) s')
  (h:∀s' D keys out c,n0≤D→J s'→s'.heap.get? D=some (seqObj "list" out c)→IntsAre keys.toList kz→keys.size=vs.length→Rows keys vs out→Q (.ref D) s'):wpAny (model prog w) A (call (.builtin "sorted") [.ref l] [(Str.ofString "key", .ref f)]) Q E s:=by
 refine call_function_entry_kw kind_sorted plain_sorted entry_sorted (ksk_s1 _ _) ?_
 unfold Builtin.«sorted»
 refine wpAny_bind (m:=checkCount "sorted" 1 1 _) (wpAny_pure ?_)
 refine wpAny_bind (collect_list hL ?_ (by rw[sizeLine_eq];omega))
 refine wpAny_bind (wpAny_newList ?_ (by rw[sizeLine_eq];omega))
 have n0s:=S.sz s hJ
 have J1:=S.push s "list" #[] 0 hJ
 have J2:=S.upd _ s.heap.objs.size (· ++vs.toArray) J1 n0s
 have J3:=S.push _ "list" vs.toArray 0 J2
 have sz:((s.heap.push (seqObj "list" #[] 0)).update s.heap.objs.size (Obj.mapSeq (· ++vs.toArray))).objs.size=s.heap.objs.size+1:=by rw[Heap.size_update,size_push']
 have g1:(((s.heap.push (seqObj "list" #[] 0)).update s.heap.objs.size (Obj.mapSeq (· ++vs.toArray))).push (seqObj "list" vs.toArray 0)).get? (s.heap.objs.size+1)=some (seqObj "list" vs.toArray 0):=by
  rw[←sz]
  exact Heap.get?_push_size _ rfl
 show wpAny _ _ _ _ _ {s with heap:=((s.heap.push (seqObj "list" #[] 0)).update s.heap.objs.size (Obj.mapSeq (· ++vs.toArray))).push (seqObj "list" vs.toArray 0)}
 rw[sz]
 refine wpAny_bind (wpAny_holding (wpAny_call_entry_kw slot_list_sort ⟨_,g1,rfl⟩ entry_list_sort ?inner (ksk_l1 _ _)))
 case inner=>
  show wpAny (model prog w) A.in1.in1 (Builtin.«list.sort» ⟨[.ref (s.heap.objs.size+1)],[(Str.ofString "key", .ref f)]⟩) _ _ _
  rw[ksk_t1]
  refine sortK (s:={s with heap:=((s.heap.push (seqObj "list" #[] 0)).update s.heap.objs.size (Obj.mapSeq (· ++vs.toArray))).push (seqObj "list" vs.toArray 0)}) S J3 g1 (by omega) hl h64 up turn fun s' keys out c z1 z2 z3 z4 z5=>⟨_,rfl,?_⟩
  exact wpAny_pure ⟨_,rfl,h s' _ keys out c (by omega) z1 z2 z3 z4 z5⟩
end
end Stb
namespace L2
open PySem PySem.Spec PyProof.Rows
structure kcF (X:Cx) (scope:Scope) (x:Str) (N:List Str) (cap:List (Option Nat)):Prop where
 S:CompScope X scope N (none::cap)
 hd:N[0]?=some x
 par:scope.names.lookup x=some .local
 co:scope.isCoroutine=false
 gen:scope.isGenerator=false
 nocell:∀y∈scope.names,y.2≠.cell
noncomputable abbrev kiH(X:Cx)(scope:Scope)(qual:Str)(L f c:Addr):Env:=PySem.W.envX qual scope L f (.ref c) (closL X.env.cells scope.names [])
noncomputable def cxL(X:Cx)(A:Around)(scope:Scope)(N:List Str)(qual:Str)(f c:Addr)(s:Shared)(H:Hp):Cx:=
 {X with A:=A.deeper (kiH X scope qual s.heap.objs.size f c),N:=N,s₀:=s,H₀:=H,env:=kiH X scope qual s.heap.objs.size f c,outer:=X.stack,stack:=kiH X scope qual s.heap.objs.size f c::X.stack,ex:=[],fn:=fun _=>false,calm:=true,pn:=[],xe:=fun _ _=>False}
section
variable {X:Cx} {A:Around} {scope:Scope} {x:Str} {N:List Str} {cap:List (Option Nat)} {pins:List (Addr×Obj)} {σ:St} {H:Hp} {s s1:Shared} {qual:Str} {f c:Addr}
theorem kcy(S:kcF X scope x N cap)(I:Inv X pins σ H s){y:Str}{a:Addr}(h:(closL X.env.cells scope.names []).lookup y=some a):X.env.cells.lookup y=some a:=by
 rcases kdc _ _ h with⟨h1,h2⟩|h1
 ·obtain⟨a',ea⟩:=I.ok.has y (S.S.free _ h1 rfl)
  rw[ea] at h2
  rw[h2]
  exact ea
 ·cases h1
theorem kli(S:kcF X scope x N cap)(I:Inv X pins σ H s)(hfr:A.frames=some X.stack)(hh:A.handled=none){v:V}{u:Value}(r:RelV v u){h1:Heap}{t:Nat}(hns:h1.Ns s.heap.objs.size fun y=>[(x,u)].reverse.lookup y)(hk:∀b o,s.heap.get? b=some o→h1.get? b=some o):
  Inv (cxL X A scope N qual f c s H) [] (some v::capσ cap σ) H {s with heap:=h1,toks:=t}:=by
 have noA:∀b:Addr,b∉(cxL X A scope N qual f c s H).ex:=fun b z=>absurd (show b∈([]:List Addr) from z) (by simp)
 have od:∀{y:Str}{a:Addr},X.env.cells.lookup y=some a→a<s.heap.objs.size:=fun {y a} h=>let⟨_,q⟩:=I.cell y a h;q.lt
 refine⟨⟨I.ok.mod,S.S.kind,rfl,rfl,U2 _,fun y z a e1 e2=>I.ok.inj y z a (kcy S I e1) (kcy S I e2),fun y hy=>?_,fun y a e1 _=>?_,fun _=>hh,Around.frames_deeper hfr, .inr ⟨rfl,rfl⟩,fun b z=>absurd z (noA b),I.bs,U4 I.ok.bsz I.sz,fun b _ _=>noA b,fun b z=>absurd z (noA b),I.stack,I.stkFree⟩,
  rfl,I.bare,Un.kept hk,⟨_,hns,fun j y w e1 e2 e3=>?_⟩,fun y a e=>?_,I.hok.fresh (U2 _),fun y a e=>I.freeC y a (kcy S I e),fun p hp=>absurd (show p∈([]:List (Addr×Obj)) from hp) (by simp),I.hok.kept hk,?_⟩
 ·have hy':scope.names.lookup y=some .cell∨scope.names.lookup y=some .free:=hy
  rcases hy' with q|q
  ·exact absurd rfl (S.nocell _ (PySem.mem_of_lookup q))
  ·exact kb9 (cells:=X.env.cells) scope.names [] (.inl (PySem.mem_of_lookup q))
 ·cases(show false=true from e1)
 ·cases j with
  | zero=>
   have ex:y=x:=by
    have e1':N[0]?=some y:=e1
    rw[S.hd] at e1'
    exact(Option.some.inj e1').symm
   have ev:w=v:=by
    have e2':some (some v)=some (some w):=e2
    exact(Option.some.inj (Option.some.inj e2')).symm
   subst ex ev
   refine⟨u,r, .inl ⟨S.par,?_⟩⟩
   simp
  | succ j=>
   have e2':(capσ cap σ)[j]?=some (some w):=by simpa using e2
   have e2'':(cap.map fun o=>match o with|some i=>(σ[i]?).getD none|none=>none)[j]?=some (some w):=e2'
   rw[Jb] at e2''
   cases ec:cap[j]? with
   |none=>rw[ec] at e2'';cases e2''
   | some oi=>
    rw[ec] at e2''
    cases oi with
    |none=>cases e2''
    | some i=>
     have e4:(σ[i]?).getD none=some w:=Option.some.inj e2''
     have e5: σ[i]?=some (some w):=by
      cases q: σ[i]? with
      |none=>rw[q] at e4;cases e4
      |some w'=>rw[q] at e4;exact congrArg some e4
     obtain⟨q1,hf,_⟩:=S.S.cap (j+1) i y (by simpa using ec) e1
     have hm:=PySem.mem_of_lookup hf
     have q2:=S.S.free _ hm rfl
     obtain⟨mo,_,hl⟩:=I.loc
     obtain⟨u',ru,lk⟩:=hl i y w q1 e5 (.inr q2)
     refine⟨u',ru, .inr ⟨.inr hf,?_⟩⟩
     rcases lk with⟨k1,_⟩|⟨_,a,ea,z⟩
     ·have k1':X.env.scope.names.lookup y=some .local:=k1
      rcases q2 with q2|q2 <;> rw[q2] at k1' <;> cases k1'
     ·obtain⟨a',ea2⟩:=kb9 (cells:=X.env.cells) scope.names [] (.inl hm)
      have e6:=kcy S I ea2
      rw[ea] at e6
      have e7:a=a':=Option.some.inj e6
      subst e7
      obtain⟨oc,ho,hd⟩:=z
      exact⟨a,ea2,oc,hk _ _ ho,hd⟩
 ·obtain⟨w,oc,ho,hd⟩:=I.cell y a (kcy S I e)
  exact⟨w,oc,hk _ _ ho,hd⟩
 ·have:=S.S.len
  show(some v::capσ cap σ).length=N.length
  rw[←this,Jw,Jw]
  unfold capσ
  rw[U0]
theorem kjP{name:Str}{params:Arguments}{body:Expr}{pm ctv:Value}{te:TE}{v:V}{u:Value}{Q:VK}(S:kcF X scope x N cap)(I:Inv X pins σ H s)(hfr:A.frames=some X.stack)(hh:A.handled=none)(hdp:A.depth<recursionLimit)
  (ho:s.heap.get? f=some (Np name qual params body scope (closL X.env.cells scope.names []) pm c ctv)) (hcd:s.heap.CodeRec (.ref c) qual)
  (hbind:bindArgs (Mx name qual params body scope (closL X.env.cells scope.names []) pm (.ref c) ctv) ⟨[u],[]⟩=pure [(x,u)]) (r:RelV v u) (he:PE (cxL X A scope N qual f c s H) body te) (hq:te (some v::capσ cap σ) H Q):
  wpAny (model X.prog X.w) A (call (.ref f) [u]) (fun w' s'=>∃v' H',Inv X pins σ H' s'∧RelV v' w'∧Q v' H'∧Un (frs X.stack) [] H H' s.heap s'.heap∧s.heap.objs.size≤s'.heap.objs.size) (fun _ _=>False) s:=by
 refine wpAny_call (MW hdp ho rfl S.co S.gen rfl hcd ?_)
 rw[hbind]
 refine wpAny_pure (wpAny_newFunctionEnv S.nocell (fun y hy=>?_) (fun h1 hns hsb=>⟨I.nolimit.fresh _ hsb,?_⟩) S.S.kind)
 ·rw[JU] at hy
  subst hy
  exact S.par
 have hk:∀b o,s.heap.get? b=some o→h1.get? b=some o:=fun b o e=>hsb.extBut b o (Js (Heap.lt_size e)) (Heap.get?_push_of_some _ e)
 have J:=kli (A:=A) (qual:=qual) (f:=f) (c:=c) (t:=s.toks+1) S I hfr hh r hns hk
 refine MX (wpAny_mono (he [] _ _ _ Q J hq) (fun w' s' hw=>?_) fun _ _ z=>z.elim)
 obtain⟨v',H',J',rv,qv⟩:=hw
 exact⟨v',H',I.call' (ch:=[]) J'.os J'.base J'.hok J'.bare (fun b hb=>by simp at hb),rv,qv,J'.base,J'.sz⟩
end
end L2
namespace L2
open PySem PySem.Spec PyProof.Rows
noncomputable def CodeO(c:Addr)(qual:Str):HO:=.ext fun h=>h.CodeRec (.ref c) qual
noncomputable def lamN(p:Pos):Str:=if p.col=38 then "first_use.<locals>.<lambda>" else "falling_groups.<locals>.<lambda>"
def kjQ{p p':Pos}(h:p.col=p'.col):lamN p=lamN p':=by unfold lamN;rw[h]
noncomputable def TbAt(P:Addr)(H:Hp):Prop:=∃ps:Array Value,H P=some (.tbl ps)∧TriplesOk ps.toList∧∀pos c,codeAmong pos ps.toList=some c→∃c',c=.ref c'∧H c'=some (CodeO c' (lamN pos))
structure Grew (P:Addr) (H H':Hp):Prop where
 kp:∀b o,b≠P→H b=some o→H' b=some o
 tb:TbAt P H'
theorem kjl{pos:Pos}{a b:Int}{c:Value}(l:List Value)(h:TriplesOk l){x:Value}(e:codeAmong pos (l++[rawInt a,rawInt b,c])=some x):codeAmong pos l=some x∨(x=c∧b=pos.col):=by
 fun_induction TriplesOk l with
 |case1=>
  right
  unfold rawInt codeAmong at e
  simp only[NY] at e
  split at e
  next hc=>exact⟨(Option.some.inj e).symm,by simpa using(Bool.and_eq_true_iff.mp hc).2⟩
  ·simp[codeAmong] at e
 | case2 n t m u d rest ih=>
  simp only[N7,codeAmong] at e⊢
  split at e
  ·left
   rename_i hc
   rw[if_pos hc]
   exact e
  ·rename_i hc
   rw[if_neg hc]
   exact ih h e
 |case3=>exact h.elim
noncomputable def CodeK(K:U1)(c P:Addr):Prop:=
 ∃o vs file tf flags tg inF text tt,K.lookup c=some o∧o.cls=.type "code"∧o.data=.fields vs∧vs[11]?=some (.ref P)∧vs.getD 11 .none=.ref P∧vs.getD 18 .none=.str file tf∧vs.getD 7 .none=.int flags tg∧vs.getD 9 .none=.bool inF∧vs.getD 10 .none=.int text tt∧c≠P
def CodeK.hd{K:U1}{c P:Addr}{h:Heap}(x:CodeK K c P)(X:K.In h):PySem.W.CodeHd h c P:=by
 obtain⟨o,vs,file,tf,flags,tg,inF,text,tt,e,r⟩:=x
 exact⟨o,vs,file,tf,flags,tg,inF,text,tt,X _ _ e,r⟩
noncomputable def BltM(mg:Str→Option Value)(base:Heap):Prop:=∃bm ob,mg "__builtins__"=some (.ref bm)∧bm≠builtinsNs∧base.get? bm=some ob∧ob.cls=.type "module"∧ob.dict=some builtinsNs∧ob.data=.plain
section
variable {X:Cx} {scope:Scope} {x:Str} {N:List Str} {cap:List (Option Nat)} {pins:List (Addr×Obj)} {σ:St} {H:Hp} {s:Shared} {c0 P:Addr} {params:Arguments} {body:Expr} {lpos:Pos}
theorem khc{E:Value→Shared→Prop}{Q:Value→Shared→Prop}(S:kcF X scope x N cap)(I:Inv X pins σ H s)(hcode:X.env.code=.ref c0)(CK:CodeK X.K c0 P)(hB:BltM X.mg X.base)(TB:TbAt P H)(hq:X.env.qual++ "<lambda>"=(lamN lpos))(hdef:defaultsOf params X.env=([],[]))
  (h:∀(s':Shared)(H':Hp)(f c:Addr)(pm ctv:Value),Inv X pins σ H' s'→Grew P H H'→s'.heap.get? f=some (Np "<lambda>" (lamN lpos) params body scope (closL X.env.cells scope.names []) pm c ctv)→H' f=none→s.heap.objs.size≤f→(∀b,s.heap.objs.size≤b→s'.heap.objs.size≤b→H' b=none)→H' c=some (CodeO c (lamN lpos))→Q (.ref f) s'):
  wpAny (model X.prog X.w) X.A (eval (.Lambda params body scope lpos) X.env) Q E s:=by
 obtain⟨ps,eP,ht,hor⟩:=TB
 have hP:s.heap.get? P=some (Nz ps):=(show ObjOk X.prog X.w H s.heap P (.tbl ps) from I.hok P _ eP)
 have hg:=I.mod.glob.keeps I.bk
 have nbP:∀b o,X.base.get? b=some o→b≠P:=fun b o e z=>by
  have:=(I.bs b o e).2
  rw[z,eP] at this
  cases this
 have hgP:mainGlobals≠P:=by
  obtain⟨o,_,_,e,_⟩:=I.mod.glob
  exact nbP _ o e
 have hb:s.heap.BuiltinsAt X.mg P:=by
  obtain⟨bm,ob,b1,b2,b3,b4,b5,b6⟩:=hB
  refine⟨bm,ob,b1,b2,fun z=>?_,nbP _ ob b3,I.bk _ _ b3,b4,b5,b6⟩
  obtain⟨o,es,ep,e,hd,_⟩:=I.mod.glob
  rw[←z,b3] at e
  cases e
  rw[b6] at hd
  cases hd
 have CH:=CK.hd I.kIn
 refine PySem.W.kla_eval hdef ?_
 rw[hq]
 cases hor':codeAmong lpos ps.toList with
 | none=>
  have hnf:=hor'
  refine PySem.W.kla_makeFunction (mg:=X.mg) (kcC S.S I) I.ok.glob hg hcode CH hP ht hnf hgP hb fun c' ctv h' tk hx hge hlt hrec htb=>?_
  have hc0:H c'=none:=I.hok.fresh hge
  have nPc:P≠c':=kah eP hc0
  have szP:P<s.heap.objs.size:=Heap.lt_size hP
  generalize hob:Np "<lambda>" (lamN lpos) params body scope (closL X.env.cells scope.names []) ((X.mg "__name__").getD .none) c' ctv=ob
  have k2:∀b o,b≠P→s.heap.get? b=some o→(h'.push ob).get? b=some o:=fun b o hbp e=>Heap.get?_push_of_some _ (hx b o hbp e)
  have nN:∀{b:Addr},H b=none→b≠P:=fun {b} n z=>by rw[z,eP] at n;cases n
  have at2:∀{b:Addr},b≠P→b≠c'→(upd (upd H P (.tbl (ps++ #[rawInt lpos.line,rawInt lpos.col, .ref c']))) c' (CodeO c' (lamN lpos))) b=H b:=fun {b} h1 h2=>by rw[kaj h2,kaj h1]
  have eP2:(upd (upd H P (.tbl (ps++ #[rawInt lpos.line,rawInt lpos.col, .ref c']))) c' (CodeO c' (lamN lpos))) P=some (.tbl (ps++ #[rawInt lpos.line,rawInt lpos.col, .ref c'])):=by rw[kaj nPc,kad]
  have ec2:(upd (upd H P (.tbl (ps++ #[rawInt lpos.line,rawInt lpos.col, .ref c']))) c' (CodeO c' (lamN lpos))) c'=some (CodeO c' (lamN lpos)):=kad
  have fresh2:∀b,s.heap.objs.size≤b→(h'.push ob).objs.size≤b→(upd (upd H P (.tbl (ps++ #[rawInt lpos.line,rawInt lpos.col, .ref c']))) c' (CodeO c' (lamN lpos))) b=none:=fun b h1 h2=>by
   rw[Heap.size_push] at h2
   rw[at2 (JQ (Jq szP h1)) (JQ (Jq hlt (Nat.le_of_succ_le h2)))]
   exact I.hok.fresh h1
  have ff:(upd (upd H P (.tbl (ps++ #[rawInt lpos.line,rawInt lpos.col, .ref c']))) c' (CodeO c' (lamN lpos))) h'.objs.size=none:=by
   have h1:s.heap.objs.size≤h'.objs.size:=U4 hge (Jf hlt)
   rw[at2 (JQ (Jq szP h1)) (JQ hlt)]
   exact I.hok.fresh h1
  generalize upd (upd H P (.tbl (ps++ #[rawInt lpos.line,rawInt lpos.col, .ref c']))) c' (CodeO c' (lamN lpos))=H2 at *
  have un:Un X.fs [] H H2 s.heap (h'.push ob):=by
   refine⟨fun b o e n _ _=>k2 b o (nN n) e,fun b o e n _ _=>⟨o.slots,k2 b o (nN n) e⟩,fun b o e n _=>?_,fun b o e _=>?_,fun b xs e=>?_,fun b o u e=>?_,fun b qs e=>?_⟩
   ·rw[at2 (nN n) (Js (Jq (Heap.lt_size e) hge))]
    exact n
   ·by_cases hbp:b=P
    ·subst hbp
     exact⟨_,Heap.get?_push_of_some _ htb⟩
    ·exact⟨o,k2 b o hbp e⟩
   ·rw[at2 (ne_of e eP (by intro z;cases z)) (kah e hc0)]
    exact e
   ·rw[at2 (ne_of e eP (by intro z;cases z)) (kah e hc0)]
    exact e
   ·by_cases hbp:b=P
    ·subst hbp
     rw[eP] at e
     cases e
     exact⟨_,eP2⟩
    ·refine⟨#[],?_⟩
     rw[at2 hbp (kah e hc0),e]
     simp
  have hok2:HOk X.prog X.w H2 (h'.push ob):=fun b u e=>by
   by_cases hbp:b=P
   ·subst hbp
    rw[eP2] at e
    cases e
    exact(show(h'.push ob).get? b=some _ from Heap.get?_push_of_some _ htb)
   ·by_cases hbc:b=c'
    ·subst hbc
     rw[ec2] at e
     cases e
     obtain⟨cc,oc,vs,t,e1,e2,e3,e4⟩:=hrec
     cases e1
     refine(show ObjOk X.prog X.w H2 (h'.push ob) b (CodeO b (lamN lpos)) from⟨⟨b,oc,vs,t,rfl,Heap.get?_push_of_some _ e2,e3,e4⟩,⟨oc,Heap.get?_push_of_some _ e2⟩,fun h1 h2 q k=>?_⟩)
     obtain⟨c3,o3,vs3,t3,z1,z2,z3,z4⟩:=q
     cases z1
     exact⟨b,o3,vs3,t3,rfl,k _ z2,z3,z4⟩
    ·rw[at2 hbp hbc] at e
     have nown:∀d y,H d=some (.own y)→d≠P∧d≠c':=fun d y r=>⟨ne_of r eP (by intro z;cases z),kah r hc0⟩
     refine(I.hok b u e).stay (fun d v hd r=>k2 d v ?_ r) (fun d r=>by rw[at2 (nown d b r).1 (nown d b r).2];exact r) fun d xs r=>by rw[at2 (ne_of r eP (by intro z;cases z)) (kah r hc0)];exact r
     rcases hd with rfl|hd
     ·exact hbp
     ·exact(nown d b hd).1
  subst hob
  refine h _ H2 h'.objs.size c' _ ctv (I.un (t':=tk) un hok2) ⟨fun b o hbp e=>by rw[at2 hbp (kah e hc0)];exact e,_,eP2,?_,fun pos d ed=>?_⟩ (Heap.get?_push_size _ rfl) ff (U4 hge (Jf hlt)) fresh2 ec2
  ·have:=TriplesOk_snoc lpos.line lpos.col (.ref c') ps.toList ht
   simpa using this
  ·have ed':codeAmong pos (ps.toList++[rawInt lpos.line,rawInt lpos.col, .ref c'])=some d:=by simpa using ed
   rcases kjl ps.toList ht ed' with z|z
   ·obtain⟨d',rfl,ed2⟩:=hor pos d z
    exact⟨d',rfl,by rw[at2 (ne_of ed2 eP (by intro z;cases z)) (kah ed2 hc0)];exact ed2⟩
   ·exact⟨c',z.1,by rw[kjQ (p:=pos) (p':=lpos) (by have:=z.2;omega)];exact ec2⟩
 |some cv=>
  have hf:=hor'
  obtain⟨c',rfl,ec'⟩:=hor lpos cv hf
  refine PySem.W.kla_makeFunctionHit (mg:=X.mg) (kcC S.S I) I.ok.glob hg hcode CH hP ht hf hb fun ctv h' tk hk hsz=>?_
  have k2:∀b o,s.heap.get? b=some o→(h'.push (Np "<lambda>" (lamN lpos) params body scope (closL X.env.cells scope.names []) ((X.mg "__name__").getD .none) c' ctv)).get? b=some o:=fun b o e=>Heap.get?_push_of_some _ (hk b o e)
  exact h _ H h'.objs.size c' _ ctv (I.kept (t':=tk) k2) ⟨fun b o _ e=>e,ps,eP,ht,hor⟩ (Heap.get?_push_size _ rfl) (I.hok.fresh hsz) hsz (fun b h1 _=>I.hok.fresh h1) ec'
end
end L2
namespace L2
open PySem PySem.Spec PyProof.Rows
theorem kfi:∀{ns:List Int}{us:List Value},Vals (ns.map V.int) us→IntsAre us ns
 |[],_, .nil=>.nil
 |n::ns,_, .cons h t=>by
  obtain⟨tk,rfl⟩:=h
  exact .cons n tk (kfi t)
theorem keX:∀{us:List Value}{ns:List Int},IntsAre us ns→Vals (ns.map V.int) us
 |_,_, .nil=>.nil
 |_,_, .cons n t h=>.cons ⟨t,rfl⟩ (keX h)
theorem kjt{ns:List Int}{key:Int→Int}{keys:Array Value}{us:List Value}{out:Array Value}(hu:IntsAre us ns)(hk:IntsAre keys.toList (ns.map key))(hl:keys.size=us.length)(h:Stb.Rows keys us out):
  ∃ms:List Int,IntsAre out.toList ms∧ms.Perm ns∧ms.Pairwise fun a b=>key a<key b∨(key a=key b∧a<b):=by
 obtain⟨xs,hp,hup,rfl⟩:=h
 have pl:xs.toList.Perm (keys.toList.zip us):=by
  rw[←ksk_zip]
  exact Array.perm_iff_toList_perm.mp hp
 have mem:∀p∈keys.toList.zip us,p.2∈us∧numOf p.1=key (numOf p.2):=fun p hp=>by
  obtain⟨i,hi,rfl⟩:=List.mem_iff_getElem.mp hp
  have l1:i<keys.toList.length:=by
   rw[List.length_zip] at hi
   omega
  have l2:i<us.length:=by
   rw[List.length_zip] at hi
   omega
  rw[List.getElem_zip]
  refine⟨List.getElem_mem l2,?_⟩
  have e1:(keys.toList.map numOf)[i]?=(ns.map key)[i]?:=by rw[hk.nums]
  have e2:(us.map numOf)[i]?=ns[i]?:=by rw[hu.nums]
  rw[Jb,JZ l1,Jb] at e1
  rw[Jb,JZ l2] at e2
  rw[←e2] at e1
  exact Option.some.inj e1
 have memx:∀p∈xs.toList,p.2∈us∧numOf p.1=key (numOf p.2):=fun p hp=>mem p (pl.mem_iff.mp hp)
 refine⟨xs.toList.map fun p=>numOf p.2,?_,?_,?_⟩
 ·have e:(xs.map (·.2)).toList=xs.toList.map (·.2):=by simp
  rw[e]
  have:=intsAre_map (xs.toList.map (·.2)) fun v hv=>by
   obtain⟨p,hp',rfl⟩:=Jp.mp hv
   exact hu.all _ (memx p hp').1
  rw[Jm] at this
  exact this
 ·have h1:=pl.map (fun p:Keyed=>numOf p.2)
  have e2:(keys.toList.zip us).map (fun p:Keyed=>numOf p.2)=ns:=by
   have e3:(keys.toList.zip us).map (fun p:Keyed=>numOf p.2)=((keys.toList.zip us).map Prod.snd).map numOf:=by rw[Jm];rfl
   rw[e3,List.map_snd_zip (by have e:=Ni (xs:=keys);omega),hu.nums]
  rw[e2] at h1
  exact h1
 ·rw[Nq]
  intro i j hi hj hij
  have hi':i<xs.size:=by simpa using hi
  have hj':j<xs.size:=by simpa using hj
  have q:=hup i j hij hj'
  have ki:=(memx xs[i] (by simp)).2
  have kj:=(memx xs[j] (by simp)).2
  unfold Stb.Lx Stb.T at q
  rw[K_eq hi',K_eq hj',Mw hi',Mw hj'] at q
  simp only[NJ,Array.getElem_toList]
  rw[←ki,←kj]
  exact q
section
variable {X:Cx} {scope:Scope} {x:Str} {N:List Str} {cap:List (Option Nat)} {pins:List (Addr×Obj)} {σ:St} {H:Hp} {s1:Shared} {f:Addr} {fo:Obj}
noncomputable def Held(X:Cx)(pins:List (Addr×Obj))(σ:St)(H:Hp)(n0:Nat)(f:Addr)(fo:Obj)(s:Shared):Prop:=Inv X pins σ H s∧n0≤s.heap.objs.size∧s.heap.get? f=some fo
theorem klj(I:Inv X pins σ H s1)(hf:f<s1.heap.objs.size):Stb.SJ (Held X pins σ H s1.heap.objs.size f fo) s1.heap.objs.size where
 sz:=fun s h=>h.2.1
 push:=fun s c xs n h=>⟨h.1.kept (t':=s.toks) fun b o e=>Heap.get?_push_of_some _ e,U4 h.2.1 (by rw[Heap.size_push];exact Nj _),Heap.get?_push_of_some _ h.2.2⟩
 upd:=fun s b g h hb=>by
  obtain⟨q1,q2,q3,q4,q5,q6⟩:=I.fpOk hb (I.hok.fresh hb)
  have sb:=Heap.SameBut.update s.heap b (Obj.mapSeq g)
  exact⟨h.1.turned (t':=s.toks) (it:=b) (fun d o hd e=>(sb.2 d hd).trans e) q1 q2 q4 q5 q6,by rw[Heap.size_update];exact h.2.1,(sb.2 f (Js (Jq hf hb))).trans h.2.2⟩
noncomputable def kjq(K:U1)(P:Addr)(tl:TE)(cap:List (Option Nat))(te:TE):TE:=fun σ H Q=>tl σ H fun v H1=>∃(a:Addr)(ns:List Int)(key:Int→Int),v=.ref a∧SqL K H1 a (ns.map V.int)∧ns.length<64∧ns.Pairwise (· < ·)∧TbAt P H1∧a≠P∧
 (∀H2,Grew P H1 H2→∀n∈ns,te (some (.int n)::capσ cap σ) H2 fun v H3=>v=.int (key n)∧H3=H2)∧
 ∀(H2:Hp)(l:Addr)(ms:List Int),Grew P H1 H2→H1 l=none→H2 l=none→ms.Perm ns→(ms.Pairwise fun a b=>key a<key b∨(key a=key b∧a<b))→Q (.ref l) (upd H2 l (.lst (ms.map V.int)))
theorem kho:bootBuiltins "sorted"=some (.builtin "sorted"):=by decide +kernel
theorem Grew.seq{K:U1}{P:Addr}{H H':Hp}{a:Addr}{xs:List V}(g:Grew P H H')(ha:a≠P)(h:SqL K H a xs):SqL K H' a xs:=by
 rcases h with(h|⟨o,h⟩)|h
 ·exact .inl (.inl (g.kp _ _ ha h))
 ·exact .inl (.inr ⟨o,g.kp _ _ ha h⟩)
 ·exact .inr h
theorem khw{l:Expr}{tl te:TE}{c0 P:Addr}{params:Arguments}{body:Expr}{lpos p pos kpos:Pos}(hl:PE X l tl)(S:kcF X scope x N cap)(hc:X.calm=true)(hdp:X.A.depth<recursionLimit)(hcode:X.env.code=.ref c0)(CK:CodeK X.K c0 P)(hB:BltM X.mg X.base)
  (hg:Gl X "sorted") (hm:X.mg "sorted"=none) (hbind:∀(cl:List (Str×Addr))(pm:Value)(c:Addr)(ctv u:Value),bindArgs (Mx "<lambda>" (lamN lpos) params body scope cl pm (.ref c) ctv) ⟨[u],[]⟩=pure [(x,u)])
  (he:∀A f c s H,PE (cxL X A scope N (lamN lpos) f c s H) body te) (hq:X.env.qual++ "<lambda>"=(lamN lpos)) (hdef:defaultsOf params X.env=([],[]):=by rfl) (s1:starEach [l] X.env=[(false,eval l X.env)]:=by rfl):
  PE X (.Call (.Name "sorted" p) [l] [⟨some "key", .Lambda params body scope lpos,kpos⟩] pos) (kjq X.K P tl cap te):=by
 intro pins s σ H Q I h
 refine wpAny_Call_Name_kw (kc8 I hg hm kho ?_ (by decide) (by decide))
 refine callWith_kw ?_ (by rw[s1];rfl) (by rw[s1];rfl)
 rw[s1]
 refine Calls.spliced_cons (thn (hl pins s σ H _ I h) fun u s3 ⟨v,H1,I1,r1,a,ns,key,ev,hS,h64,hup,TB,haP,hte,q⟩=>Calls.spliced_nil ?_)
 subst ev
 cases r1
 show wpAny _ _ (evalAll ((do let v ←eval (.Lambda params body scope lpos) X.env;standAt pos;pure v):: [])) _ _ s3
 refine wpAny_evalAll_cons (wpAny_bind (khc S I1 hcode CK hB TB hq hdef fun s4 H4 lf c pm ctv I4 G ef ff hsf hfr ec=>wpAny_bind (wpAny_standAt (wpAny_pure (wpAny_evalAll_nil ?_)))))
 show wpAny _ _ (call (.builtin "sorted") [.ref a] [(Str.ofString "key", .ref lf)]) _ _ s4
 obtain⟨its,rv,pl,hz⟩:=I4.list (G.seq haP hS)
 have hi:=kfi rv
 have lu:=hi.length
 have lf4:lf<s4.heap.objs.size:=Heap.lt_size ef
 have rising:∀(i j:Nat)(y z:Value),i<j→its[i]?=some y→its[j]?=some z→numOf y<numOf z:=fun i j y z hij ey ez=>by
  have e1:ns[i]?=some (numOf y):=by rw[←hi.nums,Jb,ey];rfl
  have e2:ns[j]?=some (numOf z):=by rw[←hi.nums,Jb,ez];rfl
  obtain⟨l1,q1⟩:=Ja.mp e1
  obtain⟨l2,q2⟩:=Ja.mp e2
  have:=Nq.mp hup i j l1 l2 hij
  rw[q1,q2] at this
  exact this
 refine Stb.sortedK (kz:=ns.map key) (J:=Held X pins σ H4 s4.heap.objs.size lf _) (klj I4 lf4) ⟨I4,U2 _,ef⟩ pl.isList (by rw[U0,lu]) (by omega) rising (fun i v k ev ek s5 hJ=>?_) fun s5 D keys out cc hD hJ eD hk hkl hR=>?_
 ·have en:ns[i]?=some (numOf v):=by rw[←hi.nums,Jb,ev];rfl
  have ek':k=key (numOf v):=by
   rw[Jb,en] at ek
   exact(Option.some.inj ek).symm
  subst ek'
  obtain⟨n,t,rfl⟩:=hi.all v (U9 ev)
  have hcr:s5.heap.CodeRec (.ref c) (lamN lpos):=(show ObjOk X.prog X.w H4 s5.heap c (CodeO c (lamN lpos)) from hJ.1.hok c _ ec).1
  refine wpAny_mono (kjP (A:=X.A.in1.in1) (v:=.int n) (u:=.int n t) S hJ.1 I.ok.frames (I.ok.hd hc) hdp hJ.2.2 hcr (hbind _ _ _ _ _) ⟨t,rfl⟩ (he _ _ _ _ _) (hte H4 G n (U9 en))) (fun w' s6 hw=>?_) fun _ _ z=>z
  obtain⟨v',H6,I6,rv',⟨e1,e2⟩,un,sz6⟩:=hw
  subst e1 e2
  have nst:∀b,s3.heap.objs.size≤b→b∉frs X.stack:=fun b hb z=>absurd (khT I1 z) (N2.mpr hb)
  have s34:s3.heap.objs.size≤s4.heap.objs.size:=Jf (JY hsf lf4)
  have kp:∀b o,s3.heap.objs.size≤b→H6 b=none→s5.heap.get? b=some o→s6.heap.get? b=some o:=fun b o hb hn e=>un.keep b o e hn (nst b hb) (by simp)
  refine⟨rv',⟨I6,?_,kp lf _ hsf ff hJ.2.2⟩,fun b o hb e=>kp b o (U4 s34 hb) (I4.hok.fresh hb) e⟩
  exact U4 hJ.2.1 sz6
 ·obtain⟨ms,m1,m2,m3⟩:=kjt hi hk (by omega) hR
  have hn:H4 D=none:=I4.hok.fresh hD
  have fp:=I4.fpOk hD hn
  have h10:H1 D=none:=I1.hok.fresh (U4 (Jf (JY hsf lf4)) hD)
  have vm:=keX m1
  have lz:(ms.map V.int).length≤sizeLine:=by
   rw[U0,m2.length_eq,sizeLine_eq]
   omega
  refine⟨.ref D,_,hJ.1.adopt (a:=D) (o:=.lst (ms.map V.int)) fp ?_ ?_,rfl,q H4 D ms G h10 hn m2 m3⟩
  ·exact U4 I4.sz hD
  ·exact(show ObjOk X.prog X.w _ s5.heap D (.lst (ms.map V.int)) from⟨lz,out.toList,cc,vm,by simpa using eD⟩)
end
end L2
namespace L2
open PySem PySem.W PyProof.Rows
section
variable {X:Cx}
noncomputable def klG:V→List V→Hp→VK→Prop:=fun x vs H Q=>∃(l:Addr)(ns:List Int)(k:Int),x=.ref l∧vs=[.int k]∧H l=some (.lst (ns.map V.int))∧Q (.int (ns.count k:Nat)) H
theorem kes:∀{ns:List Int}{us:List Value}(k:Int),Vals (ns.map V.int) us→us.countP (isI k)=ns.count k
 |[],_,_, .nil=>rfl
 |m::ns,_::us,k, .cons r t=>by
  obtain⟨tk,rfl⟩:=r
  rw[List.countP_cons,My,kes k t]
  rfl
theorem kjL:MtM X "list.count" klG:=by
 intro pins s σ H x vs v us Q I rx rv h
 obtain⟨l,ns,k,rfl,rfl,hH,q⟩:=h
 cases rx
 obtain⟨u,rfl,ru⟩:=rv.one
 obtain⟨t,rfl⟩:=ru
 obtain⟨z,its,n,r,hl,e⟩:=I.lstM hH
 refine call_meets F.slot_list_count ⟨_,e,rfl⟩ F.entry_list_count (F.args_list_count_2 _ _)
  (MeetsSeq.list_count l its.toArray n (.int k t) (isI k) (fun y hy=>?_)) ⟨e,?_⟩
 ·obtain⟨j,hj',rfl⟩:=Array.mem_iff_getElem.mp hy
  have hjl:j<its.length:=by simpa using hj'
  have hln:its.length=ns.length:=by rw[←hl,U0]
  obtain⟨tk,et⟩:=kfV r j ns[j] (by simp)
  obtain⟨_,e'⟩:=Ja.mp et
  have e2:its.toArray[j]=.int ns[j] tk:=by simpa using e'
  rw[e2]
  exact MeetsSeq.EqGives.int _ k tk t
 ·refine⟨.int (ns.count k:Nat),H,I.tok _,⟨s.toks,?_⟩,q⟩
  rw[List.toList_toArray,kes k r]
end
end L2
namespace L2
open PySem PySem.W PyProof.Rows
section
variable {X:Cx} {pins:List (Addr×Obj)} {σ:St} {H:Hp} {s:Shared} {A:Around} {E:Value→Shared→Prop} {Q:Value→Shared→Prop}
theorem kkx{K:U1}{n m:String}(e:(Value.type n==Value.type m)=false)(hk:kitMeta m=true)(hf:(fastBuiltinMro n).map (·.contains (Value.type m))=some false):kitOne K (.type n) (.type m)=some false:=by
 unfold kitOne kitCls subIn
 rw[e,if_neg U8]
 show(if kitMeta m=true then _ else _)=_
 rw[if_pos hk]
 exact hf
noncomputable def kkl(K:U1):List V→Hp→VK→Prop:=fun xs H Q=>∃(a:Addr)(ns:List Int),xs=[.ref a]∧SqL K H a (ns.map V.int)∧ns.length<64∧∀(D:Addr)(ms:List Int),H D=none→ms.Perm ns→ms.Pairwise (·≤·)→Q (.ref D) (upd H D (.lst (ms.map V.int)))
theorem kf0:CallR X (.builtin "sorted") (kkl X.K):=by
 intro pins s σ H xs us Q I r h
 obtain⟨a,ns,rfl,hS,h64,q⟩:=h
 obtain⟨u,rfl,rx⟩:=vals1 r
 cases rx
 obtain⟨its,rv,pl,hz⟩:=I.list hS
 have hi:=kfi rv
 have lu:=hi.length
 refine sorted_ints pl.isList hi (by omega) fun out ms h1 h2 h3=>?_
 obtain⟨e,he⟩:=sortedAll_at s.heap its out
 have hn:H (s.heap.objs.size+1)=none:=I.hok.fresh (Nj _)
 have lz:(ms.map V.int).length≤sizeLine:=by
  rw[U0,h2.length_eq,sizeLine_eq]
  omega
 exact⟨.ref (s.heap.objs.size+1),_,I.laid (t':=s.toks) (fun b o z=>sortedAll_old z) (Nj _) (show ObjOk X.prog X.w (upd H (s.heap.objs.size+1) (.lst (ms.map V.int))) (sortedAll s.heap its out) (s.heap.objs.size+1) (.lst (ms.map V.int)) from⟨lz,out.toList,e,keX h1,by simpa using he⟩),rfl,q _ ms hn h2 h3⟩
end
end L2
namespace L2
open PySem PySem.W PyProof.Rows
section
variable {X:Cx}
end
end L2
namespace L2
open PySem PySem.Spec PyProof.Rows
section
variable {prog:Program} {w:World} {A:Around} {E:Value→Shared→Prop} {s:Shared}
end
end L2
namespace L2
open PySem PySem.Spec PyProof.Rows
section
variable {prog:Program} {w:World} {A:Around} {E:Value→Shared→Prop} {s:Shared}
end
section
variable {X:Cx}
end
end L2
namespace L2
open PySem PySem.Spec PyProof.Rows
section
variable {X:Cx}
end
end L2
namespace L2
open PySem PySem.Spec PyProof.Rows
section
variable {κ:Type} [DecidableEq κ]
noncomputable def valV(kvs:List (κ×V))(k: κ):Option V:=(kvs.find? fun kv=>decide (kv.1=k)).map (·.2)
noncomputable def putK(kvs:List (κ×V))(k: κ)(v:V):List (κ×V):=
 if(kvs.any fun kv=>decide (kv.1=k))=true then kvs.map (fun kv=>if kv.1=k then(kv.1,v) else kv) else kvs++[(k,v)]
noncomputable def dropK(kvs:List (κ×V))(k: κ):List (κ×V):=kvs.filter fun kv=>decide (kv.1≠k)
theorem kbd{p: κ×V}{r:List (κ×V)}{k: κ}(e:p.1=k):valV (p::r) k=some p.2:=by simp[valV,JN,e]
theorem kbe{p: κ×V}{r:List (κ×V)}{k: κ}(e:¬p.1=k):valV (p::r) k=valV r k:=by simp[valV,JN,e]
theorem kdQ(k: κ):∀kvs:List (κ×V),(kvs.any fun kv=>decide (kv.1=k))=(valV kvs k).isSome
 |[]=>rfl
 |p::r=>by
  rw[JX]
  by_cases e:p.1=k
  ·simp only[kbd e,decide_eq_true e,Bool.true_or,Option.isSome_some]
  ·rw[kbe e,decide_eq_false e,Bool.false_or];exact kdQ k r
theorem kgI(k j: κ)(y:V):∀kvs:List (κ×V),valV (kvs.map fun kv=>if kv.1=k then(kv.1,y) else kv) j=(valV kvs j).map fun x=>if j=k then y else x
 |[]=>rfl
 | p::r=>by
  have ih:=kgI k j y r
  rw[Ji]
  by_cases h:p.1=k
  ·rw[if_pos h]
   by_cases e:p.1=j
   ·rw[kbd (p:=(p.1,y)) e,kbd e,Nf,if_pos (e.symm.trans h)]
   ·rw[kbe (p:=(p.1,y)) e,kbe e,ih]
  ·rw[if_neg h]
   by_cases e:p.1=j
   ·rw[kbd (p:=p) e,kbd e,Nf,if_neg (fun z=>h (e.trans z))]
   ·rw[kbe (p:=p) e,kbe e,ih]
theorem kfs(k j: κ)(y:V):∀kvs:List (κ×V),valV kvs k=none→valV (kvs++[(k,y)]) j=if j=k then some y else valV kvs j
 |[],_=>by
  by_cases e:k=j
  ·rw[if_pos e.symm];exact kbd (p:=(k,y)) e
  ·rw[if_neg (fun z=>e z.symm)];exact kbe (p:=(k,y)) e
 |p::r,hn=>by
  rw[N7]
  have hk:¬p.1=k:=fun z=>by rw[kbd z] at hn;cases hn
  rw[kbe hk] at hn
  have ih:=kfs k j y r hn
  by_cases e:p.1=j
  ·rw[kbd e,kbd e,if_neg (fun z=>hk (e.trans z))]
  ·rw[kbe e,kbe e,ih]
theorem kjn(kvs:List (κ×V))(k j: κ)(y:V):valV (putK kvs k y) j=if j=k then some y else valV kvs j:=by
 unfold putK
 by_cases a:(kvs.any fun kv=>decide (kv.1=k))=true
 ·rw[if_pos a,kgI]
  rw[kdQ] at a
  by_cases e:j=k
  ·obtain⟨x,hx⟩:=MN.mp a
   rw[if_pos e,e,hx,Nf,if_pos rfl]
  ·rw[if_neg e]
   cases valV kvs j with
   |none=>rfl
   |some x=>rw[Nf,if_neg e]
 ·rw[if_neg a]
  refine kfs k j y kvs ?_
  rw[kdQ] at a
  cases q:valV kvs k with
  |none=>rfl
  |some x=>rw[q] at a;exact(a rfl).elim
theorem kek(kvs:List (κ×V))(k: κ)(v:V):(putK kvs k v).length≤kvs.length+1:=by
 unfold putK
 split
 ·rw[U0];omega
 ·rw[Jh,Jw,List.length_nil];omega
theorem RelO.isSome_eq{o:Option V}{u:Option Value}(r:RelO o u):o.isSome=u.isSome:=by
 cases o with
 |none=>cases u with
  |none=>rfl
  |some _=>exact(show False from r).elim
 |some _=>cases u with
  |none=>exact(show False from r).elim
  |some _=>rfl
theorem RelO.getD{o:Option V}{u:Option Value}{d:V}{d':Value}(r:RelO o u)(rd:RelV d d'):RelV (o.getD d) (u.getD d'):=by
 cases o with
 |none=>cases u with
  |none=>exact rd
  |some _=>exact(show False from r).elim
 |some _=>cases u with
  |none=>exact(show False from r).elim
  |some _=>exact r
theorem KV.val{kvs:List (κ×V)}{vs:List (κ×Value)}(r:KV kvs vs)(k: κ):RelO (valV kvs k) (valueAt vs k):=by
 unfold KV at r
 induction r with
 |nil=>exact True.intro
 | @cons p q ps qs h t ih=>
  obtain⟨h1,h2⟩:=h
  by_cases e:p.1=k
  ·have e':q.1=k:=h1.symm.trans e
   have b:valueAt (q::qs) k=some q.2:=by simp[valueAt,JN,e']
   rw[kbd e,b];exact h2
  ·have e':¬q.1=k:=fun z=>e (h1.trans z)
   have b:valueAt (q::qs) k=valueAt qs k:=by simp[valueAt,JN,e']
   rw[kbe e,b];exact ih
theorem KV.any{kvs:List (κ×V)}{vs:List (κ×Value)}(r:KV kvs vs)(k: κ):(kvs.any fun kv=>decide (kv.1=k))=vs.any fun kv=>decide (kv.1=k):=by
 unfold KV at r
 induction r with
 |nil=>rfl
 |cons h t ih=>rw[JX,JX,ih,h.1]
theorem KV.repl{kvs:List (κ×V)}{vs:List (κ×Value)}(r:KV kvs vs)(k: κ){y:V}{u:Value}(ry:RelV y u):
  KV (kvs.map fun kv=>if kv.1=k then(kv.1,y) else kv) (vs.map fun kv=>if kv.1=k then(kv.1,u) else kv):=by
 unfold KV at r⊢
 induction r with
 |nil=>exact .nil
 | @cons p q ps qs h t ih=>
  rw[Ji,Ji]
  refine .cons ?_ ih
  obtain⟨h1,h2⟩:=h
  by_cases e:p.1=k
  ·rw[if_pos e,if_pos (h1.symm.trans e)];exact⟨h1,ry⟩
  ·rw[if_neg e,if_neg (fun z=>e (h1.trans z))];exact⟨h1,h2⟩
theorem KV.put{kvs:List (κ×V)}{vs:List (κ×Value)}(r:KV kvs vs)(k: κ){y:V}{u:Value}(ry:RelV y u):KV (putK kvs k y) (stored vs k u):=by
 unfold putK stored
 rw[r.any k]
 by_cases e:(vs.any fun kv=>decide (kv.1=k))=true
 ·rw[if_pos e,if_pos e];exact r.repl k ry
 ·rw[if_neg e,if_neg e];exact Paired.snoc r ⟨rfl,ry⟩
theorem KV.drop{kvs:List (κ×V)}{vs:List (κ×Value)}(r:KV kvs vs)(k: κ):KV (dropK kvs k) (without vs k):=by
 unfold KV at r⊢
 unfold dropK without
 induction r with
 |nil=>exact .nil
 | @cons p q ps qs h t ih=>
  obtain⟨h1,h2⟩:=h
  rw[NK,NK]
  by_cases e:p.1=k
  ·have a:¬decide (p.1≠k)=true:=by simp[e]
   have b:¬decide (q.1≠k)=true:=by simp[h1.symm.trans e]
   rw[if_neg a,if_neg b];exact ih
  ·have e':¬q.1=k:=fun z=>e (h1.trans z)
   have a:decide (p.1≠k)=true:=by simp[e]
   have b:decide (q.1≠k)=true:=by simp[e']
   rw[if_pos a,if_pos b];exact .cons ⟨h1,h2⟩ ih
theorem KV.keys{kvs:List (κ×V)}{vs:List (κ×Value)}(r:KV kvs vs):kvs.map (·.1)=vs.map (·.1):=by
 unfold KV at r
 induction r with
 |nil=>rfl
 |cons h t ih=>rw[Ji,Ji,ih,h.1]
theorem KV.length{kvs:List (κ×V)}{vs:List (κ×Value)}(r:KV kvs vs):kvs.length=vs.length:=Paired.length r
end
theorem kV_is{P:Program}{w:World}{k:Key}{u:Value}(r:RelV (kV k) u):(ka8 P w).is k u=true:=by
 cases k with
 |inl i=>obtain⟨t,e⟩:=(show ∃t,u=Value.int i t from r);subst e;exact kei P w i t
 |inr x=>obtain⟨t,e⟩:=(show ∃t,u=Value.str x t from r);subst e;exact kgt P w x t
theorem kfU{P:Program}{w:World}:∀{ks:List Key}{us:List Value},Vals (ks.map kV) us→ItemsAre (ka8 P w) ks us
 |[],_,r=>by rw[Nl] at r;cases r;exact .nil
 |k::ks,_,r=>by
  rw[Ji] at r
  cases r with
  |cons h t=>exact .cons (kV_is h) (kfU t)
noncomputable abbrev KT(H:Hp):List (List Key×V)→List (List Key×Addr×Value)→Prop:=Paired fun p q=>p.1=q.1∧H q.2.1=some (.tup (p.1.map kV))∧RelV p.2 q.2.2
theorem KT.val{H:Hp}{kvs:List (List Key×V)}{xs:List (List Key×Addr×Value)}(r:KT H kvs xs)(k:List Key):RelO (valV kvs k) ((atKey xs k).map (·.2)):=by
 induction r with
 |nil=>exact True.intro
 | @cons p q ps qs h t ih=>
  obtain⟨h1,_,h2⟩:=h
  by_cases e:p.1=k
  ·have e':q.1=k:=h1.symm.trans e
   have b:atKey (q::qs) k=some q.2:=by simp[atKey,JN,e']
   rw[kbd e,b];exact h2
  ·have e':¬q.1=k:=fun z=>e (h1.trans z)
   have b:atKey (q::qs) k=atKey qs k:=by simp[atKey,JN,e']
   rw[kbe e,b];exact ih
theorem KT.repl{H:Hp}{kvs:List (List Key×V)}{xs:List (List Key×Addr×Value)}(r:KT H kvs xs)(k:List Key){y:V}{u:Value}(ry:RelV y u):
  KT H (kvs.map fun kv=>if kv.1=k then(kv.1,y) else kv) (xs.map (putAt k u)):=by
 induction r with
 |nil=>exact .nil
 | @cons p q ps qs h t ih=>
  rw[Ji,Ji]
  refine .cons ?_ ih
  obtain⟨h1,h2,h3⟩:=h
  unfold putAt
  by_cases e:p.1=k
  ·rw[if_pos e,if_pos (h1.symm.trans e)];exact⟨h1,h2,ry⟩
  ·rw[if_neg e,if_neg (fun z=>e (h1.trans z))];exact⟨h1,h2,h3⟩
theorem KT.put{H:Hp}{kvs:List (List Key×V)}{xs:List (List Key×Addr×Value)}(r:KT H kvs xs)(k:List Key){b:Addr}{y:V}{u:Value}(hb:H b=some (.tup (k.map kV)))(ry:RelV y u):
  KT H (putK kvs k y) (storedH xs k b u):=by
 have e:(kvs.any fun kv=>decide (kv.1=k))=(atKey xs k).isSome:=by
  rw[kdQ,(r.val k).isSome_eq,Option.isSome_map]
 unfold putK storedH
 rw[e]
 by_cases q:(atKey xs k).isSome=true
 ·rw[if_pos q,if_pos q];exact r.repl k ry
 ·rw[if_neg q,if_neg q];exact Paired.snoc r ⟨rfl,hb,ry⟩
def KT.keeps{H H':Hp}{kvs:List (List Key×V)}{xs:List (List Key×Addr×Value)}(r:KT H kvs xs)(ht:∀b ys,H b=some (.tup ys)→H' b=some (.tup ys)):KT H' kvs xs:=
 Paired.mapP r fun _ _ z=>⟨z.1,ht _ _ z.2.1,z.2.2⟩
section
variable {P:Program} {w:World} {H:Hp} {h:Heap} {a:Addr}
theorem rd_of{u:HO}(ok:HOk P w H h)(e:Rd H a u):ObjOk P w H h a u:=e.ok ok
theorem kky{ks:List Key}(ok:HOk P w H h)(e:H a=some (.tup (ks.map kV))):(tupleKind (ka8 P w)).is h ks a:=by
 obtain⟨_,its,r,o,h1,h2,n,h3⟩:=(show ObjOk P w H h a (.tup (ks.map kV)) from ok a _ e)
 exact⟨o,its.toArray,n,h1,h2,h3,by simpa using kfU r⟩
theorem dt_rd{kvs:List (List Key×V)}(ok:HOk P w H h)(e:Rd H a (.dT kvs)):kvs.length≤sizeLine∧(a==sysModules)=false∧
  ∃xs,KT H kvs xs∧h.DictOfH (tupleKind (ka8 P w)) a xs:=by
 obtain⟨z,y,xs,r,o,es,ep,h1,h2,h3,h4,h5⟩:=(show ObjOk P w H h a (.dT kvs) from rd_of ok e)
 refine⟨z,y,xs,r,o,es,ep,h1,h2,h3,h4,fun x hx=>?_,h5⟩
 have all:∀{l:List (List Key×V)}{m:List (List Key×Addr×Value)},KT H l m→∀x∈m,(tupleKind (ka8 P w)).is h x.1 x.2.1:=by
  intro l m q
  induction q with
  |nil=>intro x hx;exact nomatch hx
  | @cons p q ps qs hq t ih=>
   intro x hx
   rcases Jr.mp hx with e|hx
   ·subst e
    exact kky ok (by rw[←hq.1];exact hq.2.1)
   ·exact ih x hx
 exact all r x hx
theorem dt_of{kvs:List (List Key×V)}(ok:HOk P w H h)(e:H a=some (.dT kvs)):kvs.length≤sizeLine∧(a==sysModules)=false∧
  ∃xs,KT H kvs xs∧h.DictOfH (tupleKind (ka8 P w)) a xs:=dt_rd ok (.inl e)
end
noncomputable def DGet(H:Hp)(a:Addr)(y:V)(r:Option V):Prop:=
 (∃kvs k,Rd H a (.dK kvs)∧y=kV k∧r=valV kvs k)∨∃kvs k b,Rd H a (.dT kvs)∧y=.ref b∧H b=some (.tup (k.map kV))∧r=valV kvs k
noncomputable def DPut(H:Hp)(a:Addr)(y v:V)(H':Hp):Prop:=
 (∃kvs k,H a=some (.dK kvs)∧y=kV k∧kvs.length<sizeLine∧H'=upd H a (.dK (putK kvs k v)))∨
 ∃kvs k b,H a=some (.dT kvs)∧y=.ref b∧H b=some (.tup (k.map kV))∧kvs.length<sizeLine∧H'=upd H a (.dT (putK kvs k v))
theorem DGet.k{H:Hp}{a:Addr}{kvs:List (Key×V)}{k:Key}(e:H a=some (.dK kvs)):DGet H a (kV k) (valV kvs k):=.inl ⟨kvs,k, .inl e,rfl,rfl⟩
def DGet.t{H:Hp}{a b:Addr}{kvs:List (List Key×V)}{k:List Key}(e:H a=some (.dT kvs))(eb:H b=some (.tup (k.map kV))):DGet H a (.ref b) (valV kvs k):=.inr ⟨kvs,k,b, .inl e,rfl,eb,rfl⟩
theorem DPut.k{H:Hp}{a:Addr}{kvs:List (Key×V)}{k:Key}{v:V}(e:H a=some (.dK kvs))(hl:kvs.length<sizeLine):DPut H a (kV k) v (upd H a (.dK (putK kvs k v))):=.inl ⟨kvs,k,e,rfl,hl,rfl⟩
theorem DPut.t{H:Hp}{a b:Addr}{kvs:List (List Key×V)}{k:List Key}{v:V}(e:H a=some (.dT kvs))(eb:H b=some (.tup (k.map kV)))(hl:kvs.length<sizeLine):
  DPut H a (.ref b) v (upd H a (.dT (putK kvs k v))):=.inr ⟨kvs,k,b,e,rfl,eb,hl,rfl⟩
section
variable {X:Cx} {pins:List (Addr×Obj)} {σ:St} {H:Hp} {s:Shared} {a:Addr} {y v:V} {u r:Value} {o:Option V} {A:Around} {E:Value→Shared→Prop}
theorem Inv.big(I:Inv X pins σ H s):sysModules<s.heap.objs.size:=by
 have h:mainGlobals<s.heap.objs.size:=(I.mod.glob.keeps I.bk).lt
 exact N1 (by decide) h
theorem klq{h':Heap}{t':Nat}{ob:HO}(I:Inv X pins σ H s)(mu:Mut (H a))(hs:Heap.SameBut a s.heap h')(he:∃q,h'.get? a=some q)(new:ObjOk X.prog X.w (upd H a ob) h' a ob):
  Inv X pins σ (upd H a ob) {s with heap:=h',toks:=t'}:=
 I.write (x:=a) (e:=a) mu (.inl rfl) (fun b q hb z=>(hs.2 b hb).trans z) he new
end
section
variable {X:Cx} {pins:List (Addr×Obj)} {σ:St} {H:Hp} {s:Shared} {a:Addr} {kvs:List (Key×V)} {k:Key} {u:Value} {A:Around} {E:Value→Shared→Prop}
end
section
variable {X:Cx} {o i e value:Expr} {pos pos' tpos:Pos} {td ty tv:TE}
end
def kj1{P:Program}{w:World}{H:Hp}(h:Heap)(hb:sysModules<h.objs.size):ObjOk P w H (h.push {cls:=.type "dict",data:=.dict #[]}) h.objs.size (.dT []):=
 ⟨Jv _,beq_eq_false_iff_ne.mpr (Ne.symm (Js hb)),[], .nil,_,#[],0,Heap.get?_push_size _ rfl,⟨rfl,rfl,rfl⟩,rfl,rfl,N4⟩
noncomputable def klz:TE:=fun _ H Q=>∀p,H p=none→Q (.ref p) (upd H p (.dT []))
section
variable {X:Cx} {pos:Pos}
theorem kjA:PE X (.Dict [] [] pos) klz:=fun pins s σ H Q I h=>
 wpAny_Dict_empty ⟨.ref s.heap.objs.size,_,I.laid (a:=s.heap.objs.size) (o:=.dT []) (t':=s.toks) (fun _ _ q=>Heap.get?_push_of_some _ q) (U2 _) (kj1 s.heap I.big),rfl,h _ (I.hok.fresh (U2 _))⟩
end
end L2
namespace PySem.SeqAt
open AutoSeq1 (wpAny_loadPart')
open MeetsSeq MeetsSeq2 MeetsSeq3
end PySem.SeqAt
namespace L2
open PySem PySem.Spec PyProof.Rows
section
variable {X:Cx}
noncomputable def kkk(K:U1):List V→Hp→VK→Prop:=fun xs H Q=>∃(p:Addr)(ys:List V),xs=[.ref p]∧SqL K H p ys∧∀l,H l=none→Q (.ref l) (upd H l (.tup ys))
theorem kjd:CallR X (.type "tuple") (kkk X.K):=by
 intro pins s σ H xs us Q I r h
 obtain⟨p,ys,e,hq,q⟩:=h
 exact kfo pins s σ H xs us Q I r ⟨p,ys,e, .inl ⟨hq,q⟩⟩
end
end L2
namespace PySem.SeqAt
open AutoSeq1 (wpAny_loadPart')
open MeetsSeq MeetsSeq2 MeetsSeq3
end PySem.SeqAt
namespace PySem
noncomputable def Has(h0 h:Heap):Prop:=∀b o,h0.get? b=some o→h.get? b=some o
def Has.go{h0 h h':Heap}{wr:List Addr}(z:∀b∈wr,h0.get? b=none)(p:Has h0 h)(q:∀b o,b∉wr→h.get? b=some o→h'.get? b=some o):Has h0 h':=fun b o e=>q b o (fun m=>by rw[z b m] at e;cases e) (p b o e)
def Has.one{h0 h h':Heap}{S:Addr}(z:h0.get? S=none)(p:Has h0 h)(q:∀b o,b≠S→h.get? b=some o→h'.get? b=some o):Has h0 h':=fun b o e=>q b o (fun m=>by rw[m,z] at e;cases e) (p b o e)
section
variable {prog:Program} {w:World} {A:Around} {R:Result→Shared→Prop} {J:Addr} {fp wr:List Addr} {m:Nat} {P:Nat→Value→Prop} {St:Nat→Heap→Prop}
end
end PySem
namespace L2
open PySem PySem.Spec PyProof.Rows
section
variable {X:Cx}
end
end L2
namespace PySem
section
variable {prog:Program} {w:World} {K:Type} [DecidableEq K] {knd:HeapKind prog w K} {A:Around} {E:Value→Shared→Prop} {s:Shared}
theorem kde{d a:Addr}{xs:List (K×Addr×Value)}{k:K}{v:Value}{Q:Value→Shared→Prop}(hu:knd.room A)(hkey:knd.is s.heap k a)(hm:s.heap.DictOfH knd d xs)
  (h1:∀u,(atKey xs k).map (·.2)=some u→Q u {s with toks:=s.toks+knd.draws k})
  (h2:(atKey xs k).map (·.2)=none→∀h',h'.DictOfH knd d (storedH xs k a v)→Heap.SameBut d s.heap h'→Q v {s with heap:=h',toks:=s.toks+knd.draws k})
  (hsz:xs.length≤sizeLine):wpAny (model prog w) A (dictSetDefault d (.ref a) v) Q E s:=by
 obtain⟨o,es,ep,ho,hc,hd,he,his,hn⟩:=hm
 unfold dictSetDefault
 try with_reducible refine wpAny_holding ?_
 refine wpAny_bind (knd.pyHash hu hkey (wpAny_bind (wpAny_dictFind_heap (s:={s with toks:=s.toks+knd.draws k}) hu hkey ho hd he his hn ?_ ?_)))
 ·intro hno
  have hnot:k∉xs.map (·.1):=not_mem_keys_of_get hno
  refine wpAny_bind (wpAny_rule (wpAny_bind (wpAny_updateDictKeys (hz:=by have e:=size_of_entries he;omega) (s:={s with toks:=s.toks+knd.draws k}) ho hd (wpAny_pure (h2 (by rw[atKey_none_of_get hno];rfl) _ ⟨_,_,ep+1,Heap.get?_update_self _ ho (Obj.isFreed_of_dict (Obj.data_mapDictKeys hd _)),
   hc.mapDictKeys _,Obj.data_mapDictKeys hd _,?_,?_,?_⟩ (Heap.SameBut.update ..))))))
  ·rw[storedH_new (atKey_none_of_get hno)]
   simp[he,entryOfKey]
  ·rw[storedH_new (atKey_none_of_get hno)]
   intro x hx
   rcases JE.mp hx with hx|hx
   ·exact knd.keeps (his x hx) ho hd (Heap.SameBut.update ..)
   ·rw[JU.mp hx]
    exact knd.keeps hkey ho hd (Heap.SameBut.update ..)
  ·rw[storedH_new (atKey_none_of_get hno),Jc,N8]
   refine⟨hn,by simp,fun x hx y hy e=>hnot ?_⟩
   have ey:y=k:=by simpa using hy
   exact ey▸e▸hx
 ·intro j p hj
  refine wpAny_bind (wpAny_dictEntries (s:={s with toks:=s.toks+knd.draws k}) ho hd ?_)
  rw[entry_at he j,hj]
  exact wpAny_bind (wpAny_rule (wpAny_pure (h1 p.2 (by rw[atKey_of_get hn hj];rfl))))
theorem kdr(knd:HeapKind prog w K)(d a:Addr)(hd:(d==sysModules)=false)(v:Value):
  MeetsIn prog w (Builtin.«dict.setdefault» ⟨[.ref d, .ref a,v],[]⟩) (fun A R s=>knd.room A.in1∧∃k xs,knd.is s.heap k a∧s.heap.DictOfH knd d xs∧xs.length≤sizeLine∧
   (∀u,(atKey xs k).map (·.2)=some u→R (.ok (.ret u)) {s with toks:=s.toks+knd.draws k})∧
   ((atKey xs k).map (·.2)=none→∀h',h'.DictOfH knd d (storedH xs k a v)→Heap.SameBut d s.heap h'→R (.ok (.ret v)) {s with heap:=h',toks:=s.toks+knd.draws k})):=
 .of_wp fun A R s ⟨hu,k,xs,hkey,hm,hz,h1,h2⟩=>by
  unfold Builtin.«dict.setdefault»
  refine wpAny_bind ?_
  unfold Builtin.Dict.keyAndDefault
  refine wpAny_bind (wpAny_notOrdered_dict hm.typeIs ?_)
  show wpAny _ _ (pure (d,Value.ref a,some v)) _ _ s
  refine wpAny_pure ?_
  show wpAny _ _ (if(d==sysModules)=true then _ else(dictSetDefault d (.ref a) v >>= _)) _ _ s
  rw[if_neg (by rw[hd];exact U8)]
  exact wpAny_bind (kde hu hkey hm (fun u e=>wpAny_pure ⟨u,rfl,h1 u e⟩) (fun hn h' hm' hs'=>wpAny_pure ⟨v,rfl,h2 hn h' hm' hs'⟩) hz)
end
end PySem
namespace L2
open PySem PySem.Spec PyProof.Rows
section
variable {X:Cx}
noncomputable def rSetT:V→List V→Hp→VK→Prop:=fun x vs H Q=>∃(a b:Addr)(kvs:List (List Key×V))(k:List Key)(y:V),x=.ref a∧vs=[.ref b,y]∧H a=some (.dT kvs)∧H b=some (.tup (k.map kV))∧kvs.length<sizeLine∧(∀v,valV kvs k=some v→Q v H)∧(valV kvs k=none→Q y (upd H a (.dT (putK kvs k y))))
theorem kla(hu:X.A.units+1<cLine):MtM X "dict.setdefault" rSetT:=by
 intro pins s σ H x vs v us Q I rx rv h
 obtain⟨a,b,kvs,k,y,rfl,rfl,e,eb,hz,h1,h2⟩:=h
 cases rx
 obtain⟨u1,u2,rfl,ru1,ru2⟩:=vals2 rv
 cases(show u1=Value.ref b from ru1)
 obtain⟨z,hd,xs,rel,dd⟩:=dt_of I.hok e
 have rk:=rel.val k
 refine call_meetsIn N5 dd.typeIs MT (MU _ _ _) (kdr (tupleKind (ka8 X.prog X.w)) a b hd u2)
  ⟨tupleKind_room_in1 hu,k,xs,kky I.hok eb,dd,by rw[←Paired.length rel];exact z,fun w' hw=>?_,fun hn h' dd' hs=>?_⟩
 ·rw[hw] at rk
  cases ea:valV kvs k with
  |none=>rw[ea] at rk;exact(show False from rk).elim
  |some w2=>
   rw[ea] at rk
   exact⟨w2,H,I.tok _,rk,h1 w2 ea⟩
 ·rw[hn] at rk
  have ea:valV kvs k=none:=by
   cases ea:valV kvs k with
   |none=>rfl
   |some w'=>rw[ea] at rk;exact(show False from rk).elim
  obtain⟨q,es,ep,hq,g2,g3,g4,_,g5⟩:=dd'
  have hl:(putK kvs k y).length≤sizeLine:=by have:=kek kvs k y;omega
  refine⟨y,_,klq (ob:=.dT (putK kvs k y)) I (by rw[e];exact True.intro) hs ⟨q,hq⟩ ⟨hl,hd,_,(rel.put k eb ru2).keeps fun c ys ec=>?_,q,es,ep,hq,g2,g3,g4,g5⟩,ru2,h2 ea⟩
  rw[kaj (ne_of ec e (fun z=>nomatch z))]
  exact ec
end
end L2
namespace L2
open PySem PySem.Spec PyProof.Rows
noncomputable def nxo:HO→Bool
 | .ext _=>false
 |_=>true
noncomputable def NX(H:Hp)(p:Addr):Prop:=∀φ,H p≠some (.ext φ)
def nx{H:Hp}{p:Addr}{o:HO}(h:H p=some o)(n:nxo o=true:=by rfl):NX H p:=fun φ z=>by
 rw[h] at z
 cases z
 cases n
def nx0{H:Hp}{p:Addr}(h:H p=none):NX H p:=fun φ z=>by
 rw[h] at z
 cases z
def kcJ{H:Hp}{p q:Addr}{o:HO}(h:NX H p)(n:nxo o=true:=by rfl):NX (upd H q o) p:=fun φ z=>by
 by_cases e:p=q
 ·subst e
  rw[kad] at z
  cases z
  cases n
 ·rw[kaj e] at z
  exact h φ z
noncomputable abbrev Ev(H H':Hp)(b:Addr)(o:HO):Prop:=match o with
 | .tbl _=>(∃ps,H' b=some (.tbl ps))∧(TbAt b H→TbAt b H')
 |o=>H' b=some o
def ev_eq{H H':Hp}{b:Addr}{o:HO}(e:H' b=some o)(t:TbAt b H→TbAt b H'):Ev H H' b o:=by
 cases o <;> first|exact e|exact⟨⟨_,e⟩,t⟩
def kfl{H H':Hp}{b:Addr}{o:HO}(e:Ev H H' b o):∃o',H' b=some o':=by
 cases o <;> first|exact⟨_,e⟩|exact⟨_,e.1.choose_spec⟩
theorem kbq{H H1 H2:Hp}{b:Addr}{o:HO}(e:Ev H H1 b o)(k:∀o,H1 b=some o→Ev H1 H2 b o):Ev H H2 b o:=by
 cases o with
 |tbl ps=>
  obtain⟨⟨ps1,e1⟩,t1⟩:=e
  obtain⟨e2,t2⟩:=(show Ev H1 H2 b (.tbl ps1) from k _ e1)
  exact⟨e2,fun h=>t2 (t1 h)⟩
 |_=>exact k _ e
def kcU{b p:Addr}{H:Hp}{o:HO}(h:TbAt b H)(n:b≠p)(hx:NX H p):TbAt b (upd H p o):=by
 obtain⟨ps,e,t,hor⟩:=h
 refine⟨ps,by rw[kaj n];exact e,t,fun pos d ed=>?_⟩
 obtain⟨c,rfl,z2⟩:=hor pos d ed
 have hc:c≠p:=fun e=>by
  subst e
  exact hx _ z2
 exact⟨c,rfl,by rw[kaj hc];exact z2⟩
noncomputable def Same(H H':Hp):Prop:=∀b o,H b=some o→Ev H H' b o
def Same.refl(H:Hp):Same H H:=fun _ _ h=>ev_eq h fun t=>t
def Same.trans{H H1 H2:Hp}(a:Same H H1)(b:Same H1 H2):Same H H2:=fun c o h=>kbq (a c o h) fun o' e=>b c o' e
theorem Same.free{H H':Hp}(e:Same H H'){l:Addr}(h:H' l=Option.none):H l=Option.none:=by
 cases q:H l with
 |none=>rfl
 |some o=>
  obtain⟨o',e'⟩:=kfl (e l o q)
  rw[e'] at h
  cases h
def Same.seq{K:U1}{H H':Hp}{a:Addr}{xs:List V}(e:Same H H')(h:SqL K H a xs):SqL K H' a xs:=by
 rcases h with(h|⟨o,h⟩)|h
 ·exact .inl (.inl (e _ _ h))
 ·exact .inl (.inr ⟨o,e _ _ h⟩)
 ·exact .inr h
def Same.tb{H H':Hp}(s:Same H H'){b:Addr}(h:TbAt b H):TbAt b H':=by
 obtain⟨ps,e,r⟩:=id h
 exact(show Ev H H' b (.tbl ps) from s b _ e).2 h
def Grew.same{P:Addr}{H H':Hp}(g:Grew P H H')(TB:TbAt P H):Same H H':=fun b o e=>by
 obtain⟨ps,eP,ht,hor⟩:=TB
 by_cases h:b=P
 ·subst h
  rw[eP] at e
  cases e
  obtain⟨qs,e1,_⟩:=id g.tb
  exact⟨⟨qs,e1⟩,fun _=>g.tb⟩
 ·refine ev_eq (g.kp b o h e) fun t=>?_
  obtain⟨qs,e1,t1,h1⟩:=t
  refine⟨qs,g.kp b _ h e1,t1,fun pos d ed=>?_⟩
  obtain⟨c,rfl,z⟩:=h1 pos d ed
  exact⟨c,rfl,g.kp c _ (ne_of z eP (by intro z;cases z)) z⟩
end L2
namespace L2
open PySem PySem.Spec PyProof.Rows
end L2
namespace L2
open PySem PySem.Spec PyProof.Rows
noncomputable def kdZ(K:U1)(tP tR:Addr):Sp:=fun vs H Q _=>∃(a:Addr)(ns:List Int),vs=[.ref a]∧SqL K H a (ns.map V.int)∧ns.length≤63∧TbAt tP H∧TbAt tR H∧∀H',Q (.bl true) H'
theorem khE{P:Program}{w:World}{K:U1}{mg mb:Str→Option Value}{k:Nat}{fa a tP tR c0 c1:Addr}{fd:FuncData}{x:Str}{s₁:Shared}{vs:List Value}{ns:List Int}
  (KX:K.In s₁.heap) (hns:s₁.heap.Ns mainGlobals mg) (hb:s₁.heap.Ns builtinsNs mb) (hbb:∀x:Str,x≠"__name__"→mb x=bootBuiltins x) (hlim:s₁.heap.NoLimit) (hg:s₁.gens= #[])
  (ha:s₁.heap.get? a=some {cls:=.type "list",data:=.seq vs.toArray}) (hi:IntsAre vs ns) (hl:ns.length≤63) (hr:Room k callerA) (hT:s₁.heap.get? tP=some (Nz #[])) (CK:CodeK K c0 tP) (kT:K.lookup tP=none) (hR:s₁.heap.get? tR=some (Nz #[])) (CR:CodeK K c1 tR) (kR:K.lookup tR=none) (hBM:BltM mg s₁.heap)
  (F:∀base:Heap,K.In base→base.Ns mainGlobals mg→BltM mg base→FnOk P w K mg base CX0 k fa fd [x] (kdZ K tP tR)) (hbind:∀(s:Shared)(u:Value),BindsTo s fd ⟨[u],[]⟩ [(x,u)]):
  codeAny (model P w) callerA (.call (.ref fa) ⟨[.ref a],[]⟩) (fun r s'=>r=.ok (.ret (.bool true))∧OldK s₁.heap s'.heap∧s'.os=s₁.os∧AllBare s'.gens) s₁:=by
 have rv:=kfr hi
 have lenV:=hi.length
 have hlz:ns.length≤sizeLine:=U4 hl (by decide)
 have nTa:tP≠a:=fun e=>by
  rw[e,ha] at hT
  have:=Option.some.inj hT
  injection this with z
  cases z
 have nRa:tR≠a:=fun e=>by
  rw[e,ha] at hR
  have:=Option.some.inj hR
  injection this with z
  cases z
 have core:∀H:Hp,SqL K H a (ns.map V.int)→HOk P w H s₁.heap→H tP=some (.tbl #[])→H tR=some (.tbl #[])→(∀b,b≠tP→b≠tR→H b=none∨(b=a∧∃o xs,H b=some (.frz o (.lst xs))))→(H a≠none→K.lookup a=none)→
   codeAny (model P w) callerA (.call (.ref fa) ⟨[.ref a],[]⟩) (fun r s'=>r=.ok (.ret (.bool true))∧OldK s₁.heap s'.heap∧s'.os=s₁.os∧AllBare s'.gens) s₁:=by
  intro H hS hok eT eR hO hK
  have base_of:∀{b:Addr}{o:Obj},s₁.heap.get? b=some o→H b=none→(hidT s₁.heap H).get? b=some o:=fun e n=>kjU e n
  have noT:∀{b:Addr}{o:Obj},s₁.heap.get? b=some o→o.cls≠.none→(∀us n,o.data≠.seq us n)→H b=none:=fun {b o} e hc hd=>by
   by_cases hbT:b=tP
   ·rw[hbT,hT] at e
    cases e
    exact absurd rfl hc
   by_cases hbR:b=tR
   ·rw[hbR,hR] at e
    cases e
    exact absurd rfl hc
   ·rcases hO b hbT hbR with z|⟨z,_⟩
    ·exact z
    ·rw[z,ha] at e
     cases e
     exact absurd rfl (hd _ _)
  have noA:∀{b:Addr}{o:Obj}{es:Array DictEntry}{ep:Nat},s₁.heap.get? b=some o→o.data=.dict es ep→H b=none:=fun {b o es ep} e d=>by
   by_cases hbT:b=tP
   ·rw[hbT,hT] at e
    cases e
    cases d
   by_cases hbR:b=tR
   ·rw[hbR,hR] at e
    cases e
    cases d
   ·rcases hO b hbT hbR with z|⟨z,_⟩
    ·exact z
    ·rw[z,ha] at e
     cases e
     cases d
  have nsK:∀{b:Addr}{m:Str→Option Value},s₁.heap.Ns b m→(hidT s₁.heap H).Ns b m:=fun {b m} ⟨o,es,ep,e,d,r⟩=>⟨o,es,ep,base_of e (noA e d),d,r⟩
  have hKb:K.In (hidT s₁.heap H):=fun b o e=>base_of (KX b o e) (by
   by_cases hbT:b=tP
   ·rw[hbT,kT] at e
    cases e
   by_cases hbR:b=tR
   ·rw[hbR,kR] at e
    cases e
   ·rcases hO b hbT hbR with z|⟨z,o',xs,z2⟩
    ·exact z
    ·subst z
     rw[hK (by rw[z2];simp)] at e
     cases e)
  have hM:Mod K mg (hidT s₁.heap H):=⟨hKb,nsK hns,⟨mb,nsK hb,hbb⟩,let⟨mc,h1,h2⟩:=hlim;⟨mc,nsK h1,h2⟩⟩
  have hBb:BltM mg (hidT s₁.heap H):=by
   obtain⟨bm,ob,b1,b2,b3,b4,b5,b6⟩:=hBM
   exact⟨bm,ob,b1,b2,base_of b3 (noT b3 (by rw[b4];intro z;cases z) (fun us n z=>by rw[b6] at z;cases z)),b4,b5,b6⟩
  have e0:Env0 P w K mg (hidT s₁.heap H) callerA [] s₁ H:=⟨rfl,hM,fun b o e=>kk9 e,NU (kiS _ _),trivial,fun b hb=>absurd (show b∈([]:List Addr) from hb) (by simp),hok, .of_eq hg⟩
  have hsp:kdZ K tP tR [.ref a] H (fun v _=>v=.bl true) fun _ _ _=>False:=⟨a,ns,rfl,hS,hl,⟨#[],eT,by trivial,fun pos c e=>by cases e⟩,⟨#[],eR,by trivial,fun pos c e=>by cases e⟩,fun _=>rfl⟩
  refine codeAny_mono ((F _ hKb (nsK hns) hBb).run callerA [] s₁ H ⟨[.ref a],[]⟩ [.ref a] [.ref a] _ _ hr e0 (hbind s₁ (.ref a)) (.cons rfl .nil) hsp) fun r s' h=>?_
  cases r with
  |error e=>exact(show False from h).elim
  | ok fl=>
   cases fl with
   |next=>exact False.elim h
   |brk=>exact False.elim h
   |cont=>exact False.elim h
   | ret u=>
    obtain⟨v,H',os,bare,un,hok',r',q⟩:=h
    have q':v=.bl true:=q
    subst q'
    obtain rfl:u=Value.bool true:=r'
    have kp:∀b o,b≠tP→b≠tR→s₁.heap.get? b=some o→s'.heap.get? b=some o:=fun b o hbT hbR e=>by
     rcases hO b hbT hbR with z|⟨z,o',xs,z2⟩
     ·exact un.keep b o e z (fun z=>absurd (show b∈([]:List Addr) from z) (by simp)) (by simp)
     ·have z3:=un.frzs b o' _ z2
      obtain⟨e1,_⟩:=hok b _ z2
      obtain⟨e2,_⟩:=hok' b _ z3
      rw[e] at e1
      cases e1
      exact e2
    obtain⟨more,eM⟩:=un.tbls tP #[] eT
    have tM:s'.heap.get? tP=some (Nz (#[]++more)):=(show ObjOk P w H' s'.heap tP (.tbl (#[]++more)) from hok' tP _ eM)
    obtain⟨mor2,eM2⟩:=un.tbls tR #[] eR
    have tM2:s'.heap.get? tR=some (Nz (#[]++mor2)):=(show ObjOk P w H' s'.heap tR (.tbl (#[]++mor2)) from hok' tR _ eM2)
    refine⟨rfl,⟨fun b o e=>?_,fun b o e=>?_⟩,os,bare⟩
    ·by_cases hbT:b=tP
     ·subst hbT
      rw[hT] at e
      cases e
      obtain⟨oc,us,_,_,_,_,_,_,_,b1,c2,c3,c4,_⟩:=CK
      exact .inr (.inl ⟨⟨c0,oc,us,KX _ _ b1,c2,c3,c4⟩,rfl,#[],more,rfl,tM⟩)
     by_cases hbR:b=tR
     ·subst hbR
      rw[hR] at e
      cases e
      obtain⟨oc,us,_,_,_,_,_,_,_,d1,d2,d3,d4,_⟩:=CR
      exact .inr (.inl ⟨⟨c1,oc,us,KX _ _ d1,d2,d3,d4⟩,rfl,#[],mor2,rfl,tM2⟩)
     ·exact .inl (kp b o hbT hbR e)
    ·by_cases hbT:b=tP
     ·subst hbT
      exact⟨_,tM⟩
     by_cases hbR:b=tR
     ·subst hbR
      exact⟨_,tM2⟩
     ·exact⟨o,kp b o hbT hbR e⟩
 cases hk:K.lookup a with
 | some o=>
  have e:=KX a o hk
  rw[ha] at e
  cases e
  refine core (fun b=>if b=tP∨b=tR then some (.tbl #[]) else none) (.inr ⟨_,vs.toArray,_,hk,rfl,rfl,rfl,by rw[Jk,lenV];exact hlz,by simpa using rv⟩) (fun b u z=>?_) (if_pos (.inl rfl)) (if_pos (.inr rfl)) (fun b hbT hbR=>.inl (if_neg fun z=>z.elim hbT hbR)) fun z=>absurd (if_neg fun z=>z.elim nTa.symm nRa.symm) z
  by_cases hbT:b=tP∨b=tR
  ·have z':=(if_pos hbT).symm.trans z
   cases z'
   rcases hbT with h|h <;> subst h
   ·exact(show s₁.heap.get? b=some _ from hT)
   ·exact(show s₁.heap.get? b=some _ from hR)
  ·have z':=(if_neg hbT).symm.trans z
   cases z'
 | none=>
  refine core (fun b=>if b=tP∨b=tR then some (.tbl #[]) else if b=a then some (.frz {cls:=.type "list",data:=.seq vs.toArray} (.lst (ns.map V.int))) else none) (.inl (.inr ⟨{cls:=.type "list",data:=.seq vs.toArray},by show(if a=tP∨a=tR then _ else _)=_;rw[if_neg fun z=>z.elim nTa.symm nRa.symm,if_pos rfl]⟩)) (fun b u z=>?_) (if_pos (.inl rfl)) (if_pos (.inr rfl)) (fun b hbT hbR=>?_) fun _=>hk
  ·by_cases hbT:b=tP∨b=tR
   ·have z':=(if_pos hbT).symm.trans z
    cases z'
    rcases hbT with h|h <;> subst h
    ·exact(show s₁.heap.get? b=some _ from hT)
    ·exact(show s₁.heap.get? b=some _ from hR)
   ·have z1:=(if_neg hbT).symm.trans z
    by_cases hb2:b=a
    ·have z':=(if_pos hb2).symm.trans z1
     cases z'
     subst hb2
     exact⟨ha,by rw[U0];exact hlz,vs,_,rv,ha⟩
    ·have z':=(if_neg hb2).symm.trans z1
     cases z'
  ·have hbT':¬(b=tP∨b=tR):=fun z=>z.elim hbT hbR
   by_cases hb2:b=a
   ·exact .inr ⟨hb2,_,_,by show(if b=tP∨b=tR then _ else _)=_;rw[if_neg hbT',if_pos hb2]⟩
   ·exact .inl (by show(if b=tP∨b=tR then _ else _)=_;rw[if_neg hbT',if_neg hb2])
theorem walkT2_of{l:PySem.W.OpenLaw}{k:Nat}{q:Program}{loose:List Str}{XP:(Str→Option Value)→Heap→Prop}{YP:World→Heap→Prop}{d:DefRec}{K:Params→U1}{ts:List Addr}{x:Str}
  (hn:l.most=some 63) (hdf:d.params.defaults=[]) (hr:Room k callerA) (hY:∀(w:World)(h:Heap),YP w h→(K w.params).In h) (hTs:∀(w:World)(h:Heap),YP w h→∀P∈ts,h.get? P=some (Nz #[]))
  (F:∀(w:World)(mg:Str→Option Value)(fa:Addr)(h:Heap),(K w.params).In h→h.Ns mainGlobals mg→mg d.name=some (.ref fa)→
   ∃(fd:FuncData)(tP c0 tR c1:Addr),tP∈ts∧CodeK (K w.params) c0 tP∧(K w.params).lookup tP=none∧tR∈ts∧CodeK (K w.params) c1 tR∧(K w.params).lookup tR=none∧(∀(s:Shared)(u:Value),BindsTo s fd ⟨[u],[]⟩ [(x,u)])∧
    ∀base:Heap,(K w.params).In base→base.Ns mainGlobals mg→BltM mg base→FnOk l.prog w (K w.params) mg base CX0 k fa fd [x] (kdZ (K w.params) tP tR)):
  PySem.W.WalkO q loose XP YP l.row.toRowW d [] (fun f vs=>PySem.call f vs):=by
 refine Att.attach_call hn hdf fun w s₀ s₁ mg mb fa o pm cd doc a vs ns G Y ho hd hcd hmg hobj hints hlen hg=>?_
 have KX:=hY w _ Y
 obtain⟨fd,tP,c0,tR,c1,hm,CK,kT,hm2,CR,kR,hb,hF⟩:=F w mg fa _ KX G.T.g hmg
 obtain⟨bm,ob,b1,b2,b3,b4,b5,b6⟩:=G.T.bmain
 exact khE KX G.T.g G.T.b G.T.builtins G.T.nolimit hg hobj hints hlen hr (hTs w _ Y tP hm) CK kT (hTs w _ Y tR hm2) CR kR ⟨bm,ob,b1,b2,b3,b4,b5,b6⟩ hF hb
end L2
namespace L2
open PySem PySem.Spec PyProof.Rows
def nd1(x:Str):([x]:List Str).Nodup:=by simp
noncomputable def But(x:Addr)(H H':Hp):Prop:=∀b o,b≠x→H b=some o→Ev H H' b o
def But.trans{x:Addr}{H H1 H2:Hp}(a:But x H H1)(b:But x H1 H2):But x H H2:=fun c o n h=>kbq (a c o n h) fun o' e=>b c o' n e
def But.same{x:Addr}{H H1 H2:Hp}(a:But x H H1)(b:Same H1 H2):But x H H2:=fun c o n h=>kbq (a c o n h) fun o' e=>b c o' e
def But.of_same{x:Addr}{H H1:Hp}(b:Same H H1):But x H H1:=fun c o _ h=>b c o h
def But.refl{x:Addr}{H:Hp}:But x H H:=fun b o _ h=>Same.refl H b o h
def kar{x:Addr}{H:Hp}{o:HO}(hx:NX H x:=by first|exact nx kad|exact nx (by assumption)|exact nx0 (by assumption)|exact kcJ (nx kad) rfl|exact kcJ (nx (by assumption)) rfl):But x H (upd H x o):=fun b u n e=>ev_eq (by rw[kaj n];exact e) fun t=>kcU t n hx
def kam{H:Hp}{p:Addr}{o:HO}(hp:H p=none):Same H (upd H p o):=fun b u e=>ev_eq (by rw[kaj (kah e hp)];exact e) fun t=>kcU t (kah e hp) (nx0 hp)
def kat{H H':Hp}{p:Addr}{o:HO}(hp:H p=none)(s:Same H H')(hx:NX H' p:=by first|exact nx (by assumption)|exact nx kad|exact kcJ (nx (by assumption)) rfl|exact kcJ (nx kad) rfl|exact kcJ (nx0 (by assumption)) rfl|exact kcJ (kcJ (nx (by assumption)) rfl) rfl):Same H (upd H' p o):=fun b u e=>
 kbq (s b u e) fun u' e'=>ev_eq (by rw[kaj (kah e hp)];exact e') fun t=>kcU t (kah e hp) hx
def kbb{H:Hp}{x dx C:Addr}(hx:H x=none)(nd:H dx=none):Same H (upd (upd H dx (.own x)) x (.ins C dx [])):=fun b u e=>by
 have n1:=kah e hx
 have n2:=kah e nd
 exact ev_eq (by rw[kaj n1,kaj n2];exact e) fun t=>kcU (kcU t n2 (nx0 nd)) n1 (kcJ (nx0 hx) rfl)
def kbr{H H':Hp}{x dx C:Addr}(hx:H x=none)(nd:H dx=none)(k:But x (upd (upd H dx (.own x)) x (.ins C dx [])) H'):Same H H':=fun b o e=>kbq (kbb (C:=C) hx nd b o e) fun o' e'=>k b o' (kah e hx) e'
def kc7{H:Hp}{x dx C y:Addr}(h:(upd (upd H dx (.own x)) x (.ins C dx [])) y=none):H y=none:=by
 by_cases e1:y=x
 ·subst e1
  rw[kad] at h
  cases h
 ·rw[kaj e1] at h
  by_cases e2:y=dx
  ·subst e2
   rw[kad] at h
   cases h
  ·rw[kaj e2] at h
   exact h
def kfS{H:Hp}{x dx C y:Addr}{o:HO}(nx:H x=none)(nd:H dx=none)(h:H y=some o):(upd (upd H dx (.own x)) x (.ins C dx [])) y=some o:=by
 rw[kaj (kah h nx),kaj (kah h nd)]
 exact h
theorem kal{f:Str}{v:V}:∀{fs:List (Str×V)}{n:Nat},fs.length≤n→(putF f v fs).length≤n+1
 |[],n,_=>by
  show 1≤n+1
  omega
 | (g,x)::r,n,h=>by
  show(if g=f then(g,v)::r else(g,x)::putF f v r).length≤n+1
  have h':r.length+1≤n:=h
  split
  ·show r.length+1≤n+1
   omega
  ·show(putF f v r).length+1≤n+1
   have:=kal (f:=f) (v:=v) (fs:=r) (n:=n-1) (by omega)
   omega
def few{fs:List (Str×V)}(h:fs.length≤20):fs.length<1000:=by omega
theorem kbK{ns:List Addr}{i:Nat}{x:V}(h:(ns.map V.ref)[i]?=some x):∃z,ns[i]?=some z∧x=V.ref z:=by
 rw[Jb] at h
 cases e:ns[i]? with
 |none=>rw[e] at h;cases h
 |some z=>rw[e] at h;exact⟨z,rfl,(Option.some.inj h).symm⟩
theorem kbO{α:Type}{g: α→V}{ns:List α}{i:Nat}{x:V}(h:(ns.map g)[i]?=some x):∃z,ns[i]?=some z∧x=g z:=by
 rw[Jb] at h
 cases e:ns[i]? with
 |none=>rw[e] at h;cases h
 |some z=>rw[e] at h;exact⟨z,rfl,(Option.some.inj h).symm⟩
def at_lt{α:Type}{xs:List α}{i:Nat}{x: α}(h:xs[i]?=some x):i<xs.length:=(Ja.mp h).1
def at_of{α:Type}{xs:List α}{i:Nat}(h:i<xs.length):∃x,xs[i]?=some x:=⟨xs[i],by simp[h]⟩
def kbU{α:Type}{rs:List α}{i:Nat}{r: α}(h:rs[i]?=some r):rs.take (i+1)=rs.take i++[r]:=by
 rw[J0,h]
 rfl
inductive P2 {α β:Type} (R: α→β→Prop):List α→List β→Prop
 |nil:P2 R [] []
 |cons {a: α} {b: β} {as:List α} {bs:List β} (h:R a b) (t:P2 R as bs):P2 R (a::as) (b::bs)
section
variable {α β:Type} {R R': α→β→Prop} {as as':List α} {bs bs':List β}
theorem P2.of(hl:as.length=bs.length)(h:∀(i:Nat)(a: α)(b: β),as[i]?=some a→bs[i]?=some b→R a b):P2 R as bs:=by
 induction as generalizing bs with
 |nil=>
  cases bs with
  |nil=>exact .nil
  |cons b bs=>cases hl
 |cons a as ih=>
  cases bs with
  |nil=>cases hl
  |cons b bs=>exact .cons (h 0 a b rfl rfl) (ih (by simpa using hl) fun i x y e1 e2=>h (i+1) x y (by simpa using e1) (by simpa using e2))
theorem P2.len(h:P2 R as bs):as.length=bs.length:=by
 induction h with
 |nil=>rfl
 |cons r t ih=>simp[ih]
theorem P2.get(h:P2 R as bs){i:Nat}{a: α}{b: β}(e1:as[i]?=some a)(e2:bs[i]?=some b):R a b:=by
 induction h generalizing i with
 |nil=>simp at e1
 | cons r t ih=>
  cases i with
  |zero=>
   simp at e1 e2
   subst e1 e2
   exact r
  |succ i=>exact ih (by simpa using e1) (by simpa using e2)
theorem P2.at(h:P2 R as bs){i:Nat}{a: α}(e1:as[i]?=some a):∃b,bs[i]?=some b∧R a b:=by
 obtain⟨b,e2⟩:=at_of (xs:=bs) (i:=i) (by rw[←h.len];exact at_lt e1)
 exact⟨b,e2,h.get e1 e2⟩
theorem P2.mono(h:P2 R as bs)(k:∀a b,R a b→R' a b):P2 R' as bs:=by
 induction h with
 |nil=>exact .nil
 |cons r t ih=>exact .cons (k _ _ r) ih
theorem P2.append(h:P2 R as bs)(h':P2 R as' bs'):P2 R (as++as') (bs++bs'):=by
 induction h with
 |nil=>exact h'
 |cons r t ih=>exact .cons r ih
theorem P2.snoc(h:P2 R as bs){a: α}{b: β}(r:R a b):P2 R (as++[a]) (bs++[b]):=h.append (.cons r .nil)
theorem P2.take(h:P2 R as bs)(k:Nat):P2 R (as.take k) (bs.take k):=by
 induction h generalizing k with
 |nil=>simpa using P2.nil
 |cons r t ih=>
  cases k with
  |zero=>exact .nil
  |succ k=>exact .cons r (ih k)
theorem P2.drop(h:P2 R as bs)(k:Nat):P2 R (as.drop k) (bs.drop k):=by
 induction h generalizing k with
 |nil=>simpa using P2.nil
 |cons r t ih=>
  cases k with
  |zero=>exact .cons r t
  |succ k=>exact ih k
theorem P2.reverse(h:P2 R as bs):P2 R as.reverse bs.reverse:=by
 induction h with
 |nil=>exact .nil
 |cons r t ih=>
  rw[NW,NW]
  exact ih.append (.cons r .nil)
end
theorem rep1(n:Nat)(v:V):(U6 n [v]).flatten=U6 n v:=by
 induction n with
 |zero=>rfl
 |succ n ih=>rw[Nd,Jy,ih,Nd];rfl
def kig(n:Nat)(z:Int):U6 n (V.int z)=(U6 n z).map V.int:=by simp
def kku(k:Int):(!decide (V.int k=V.non))=true:=by simp
def kkt:(!decide (V.non=V.non))=false:=by simp
noncomputable def oV:Option Int→V
 |none=>.non
 |some z=>.int z
structure TxtB (mg:Str→Option Value):Prop where
 range:mg "range"=none
 len:mg "len"=none
 min:mg "min"=none
 max:mg "max"=none
 isi:mg "isinstance"=none
 bool:mg "bool"=none
 int:mg "int"=none
 list:mg "list"=none
 sum:mg "sum"=none
 enum:mg "enumerate"=none
 any:mg "any"=none
 all:mg "all"=none
 rev:mg "reversed"=none
 zip:mg "zip"=none
 abs:mg "abs"=none
 sorted:mg "sorted"=none
 tuple:mg "tuple"=none
 str:mg "str"=none
structure FunD (K:U1) (x qual:Str) (st:Stmt) (f:Addr) (fd:FuncData):Prop where
 ex:∃(oc:Value)(od:Option Addr)(dV kV doc pm:Value)(an:Option Addr)(cdv ct:Value)(osl:Array (Option Value)),
  fd=Je x qual (kax st) (kau st) (kae st) dV kV doc pm an cdv ct∧K.lookup f=some ⟨oc,od, .func fd,osl⟩∧Jx K cdv qual=true
 kp:Jd K (.ref f)=true
theorem FunD.ok{P:Program}{w:World}{K:U1}{mg:Str→Option Value}{base:Heap}{x qual:Str}{st:Stmt}{f:Addr}{fd:FuncData}{N ps:List Str}{k:Nat}{sp:Sp}(F:FunD K x qual st f fd)(S:kao N ps (kae st))(len:∀vs H Q E,sp vs H Q E→vs.length=ps.length)
  (hbody:∀(cdv:Value)(A:Around)(outer:List Env)(s:Shared)(H:Hp)(vs:List V)(Q:VK)(E:XK),Room k (A.deeper (PyProof.Rows.envOfC qual (kae st) s.heap.objs.size f cdv))→sp vs H Q E→
   ∃t,PSs (cxOf CX0 P w K mg base N qual (kae st) f cdv A outer s H E).nox (kau st) t∧t {nx:=fun _ H'=>Q .non H',rt:=Q} (start N vs) H):FnOk P w K mg base CX0 (k+1) f fd ps sp:=by
 obtain⟨oc,od,dV,kV,doc,pm,an,cdv,ct,osl,rfl,lk,hcd⟩:=F.ex
 refine fn_of lk hcd S len fun A outer s H vs Q E hr hsp=>?_
 obtain⟨t,h,q⟩:=hbody cdv A outer s H vs Q E hr hsp
 exact⟨t,h.nox,q⟩
theorem FunD.okC{P:Program}{w:World}{K:U1}{mg:Str→Option Value}{base:Heap}{x qual:Str}{st:Stmt}{f:Addr}{fd:FuncData}{N ps:List Str}{k:Nat}{sp:Sp}(F:FunD K x qual st f fd)(S:kao N ps (kae st))(len:∀vs H Q E,sp vs H Q E→vs.length=ps.length)
  (hbody:∀(A:Around)(outer:List Env)(s:Shared)(H:Hp)(vs:List V)(Q:VK)(E:XK),Room k (A.deeper (PyProof.Rows.envOfC qual (kae st) s.heap.objs.size f fd.code))→sp vs H Q E→
   ∃t,PSs (cxOf CX0 P w K mg base N qual (kae st) f fd.code A outer s H E).nox (kau st) t∧t {nx:=fun _ H'=>Q .non H',rt:=Q} (start N vs) H):FnOk P w K mg base CX0 (k+1) f fd ps sp:=by
 obtain⟨oc,od,dV,kV,doc,pm,an,cdv,ct,osl,rfl,lk,hcd⟩:=F.ex
 refine fn_of lk hcd S len fun A outer s H vs Q E hr hsp=>?_
 obtain⟨t,h,q⟩:=hbody A outer s H vs Q E hr hsp
 exact⟨t,h.nox,q⟩
theorem ka9{K:U1}{x qual:Str}{st:Stmt}{f:Addr}{oc:Value}{od an:Option Addr}{osl:Array (Option Value)}{dV kV doc pm cdv ct:Value}(l:K.lookup f=some ⟨oc,od, .func (Je x qual (kax st) (kau st) (kae st) dV kV doc pm an cdv ct),osl⟩)
  (c:Jx K cdv qual=true) (k:Jd K (.ref f)=true):FunD K x qual st f (Je x qual (kax st) (kau st) (kae st) dV kV doc pm an cdv ct):=⟨⟨oc,od,dV,kV,doc,pm,an,cdv,ct,osl,rfl,l,c⟩,k⟩
structure Dn (K:U1) (mg:Str→Option Value) (x:Str) (st:Stmt) (ps:List Str) (f:Addr) (fd:FuncData):Prop where
 F:FunD K x x st f fd
 b:Binds K fd ps []
 m:mg x=some (.ref f)
structure Isi (K:U1) (C:Addr):Prop where
 ha:U3 K (.ref C) "__class__"=some (some (.builtin "object.__class__"))
 hn:NC K (.builtin "object.__class__") "__get__"=some (some (.builtin "getset_descriptor.__get__"))
 ht:Mq K (.builtin "object.__class__")=some true
 hm:U7 K C (.type "object")=some true
def kaJ{K:U1}{A B:Addr}{b:Bool}(mA:U7 K A (.ref B)=some b)(ob:U7 K B (.type "object")=some true)(ty:JD K (.ref B)=some (.type "type"))(ne:A≠B):Jl K (.ref A) (.ref B)=some b:=by
 have e:(Value.ref A==Value.ref B)=false:=beq_eq_false_iff_ne.mpr fun z=>ne (by injection z)
 obtain⟨cd,a,_⟩:=Option.bind_eq_some_iff.mp ob
 unfold Jl PySem.W.kitCls PySem.W.subIn
 rw[e,if_neg U8]
 show(if((PySem.W.clsIn K B).isSome&&JD K (.ref B)==some (.type "type"))=true then U7 K A (.ref B) else none)=some b
 rw[a,ty,mA,if_pos (by simp)]
def kbc{K:U1}{A B:Addr}(h:U7 K A (.ref B)=some false)(hA:U7 K A (.ref A)=some true):A≠B:=fun e=>by
 rw[←e,hA] at h
 cases h
structure ClsT (K:U1) (mg:Str→Option Value) (nm:Str) (C:Addr):Prop where
 cl:Cls K C
 m:mg nm=some (.ref C)
 isi:Isi K C
 self:U7 K C (.ref C)=some true
 ty:JD K (.ref C)=some (.type "type")
 makes:JI K C=true
 kp:Jd K (.ref C)=true
structure MthT (K:U1) (C:Addr) (m qual:Str) (st:Stmt) (ps:List Str) (f:Addr) (fd:FuncData):Prop where
 at_:U3 K (.ref C) m=some (some (.ref f))
 fn:JH K (.ref f)=true
 F:FunD K m qual st f fd
 b:Binds K fd ps []
def MthT.me{K:U1}{C:Addr}{m qual:Str}{st:Stmt}{ps:List Str}{f:Addr}{fd:FuncData}(h:MthT K C m qual st ps f fd):Meth K C m f:=⟨h.at_,h.fn,h.F.kp⟩
def MthT.mk'{K:U1}{mg:Str→Option Value}{C:Addr}{nm qual:Str}{st:Stmt}{ps:List Str}{f:Addr}{fd:FuncData}(h:MthT K C "__init__" qual st ps f fd)(c:ClsT K mg nm C):Mk K C f:=⟨c.makes,h.at_,h.fn,c.kp⟩
end L2
namespace L2
open PySem PySem.Spec PyProof.Rows
section
variable {X:Cx}
theorem pcl{k:Nat}{f:Addr}{fd:FuncData}{ps:List Str}{sp:Sp}{x:Str}{st:Stmt}{e:Expr}{es:List Expr}{t:TA}{p pos:Pos}(F:FnOk X.prog X.w X.K X.mg X.base CX0 k f fd ps sp)(hr:Room k X.A)(D:Dn X.K X.mg x st ps f fd)(ha:PA X (e::es) t)
  (hg:Gl X x:=by rfl) (hdb:(x==("__debug__" :Str))=false:=by decide) (he:starEach (e::es) X.env=(false,eval e X.env)::starEach es X.env:=by rfl) (hpl:(backTo pos (starEach es X.env)).any (·.1)=false:=by rfl):
  PE X (.Call (.Name x p) (e::es) [] pos) (tCall sp [] E0 t):=kir F hr hg D.m D.F.kp D.b .nil pass0 ha hdb he hpl
theorem psl{i:Nat}{x:Str}{e:Expr}{te:TE}{pos pos':Pos}(hN:X.N.Nodup)(he:PE X e te)(hi:X.N[i]?=some x:=by rfl)(hx:Loc X.env.scope x:=by first|exact Or.inl rfl|exact Or.inr rfl)(hs:swapsWith e (some (.Name x pos')) pos.line X.env=pure false:=by rfl)(hf:X.fn x=true∨X.env.scope.names.lookup x=some .local:=by first|exact .inl rfl|exact .inr rfl|assumption):
  PS X (.Assign [.Name x pos'] e pos) (tAsg te (gName i)):=klI hN hi hx he hs hf
theorem pgn{i:Nat}{x:Str}{pos:Pos}(hN:X.N.Nodup)(hi:X.N[i]?=some x:=by rfl)(hx:Loc X.env.scope x:=by first|exact Or.inl rfl|exact Or.inr rfl)(hf:X.fn x=true∨X.env.scope.names.lookup x=some .local:=by first|exact .inl rfl|exact .inr rfl|assumption):PG X (.Name x pos) (gName i):=kk4 hN hi hx hf
end
end L2
namespace L2
open PySem PySem.Spec PyProof.Rows
section
variable {X:Cx}
end
end L2
namespace L2
open PySem PySem.Spec PyProof.Rows
noncomputable abbrev Fz(a:Addr)(o:Obj):HO:=.frz o (.own a)
noncomputable def unt(c:Addr)(H:Hp):Hp:=fun a=>if a=c then none else H a
def kdW{c:Addr}{H:Hp}:unt c H c=none:=if_pos rfl
def kaX{c a:Addr}{H:Hp}(n:a≠c):unt c H a=H a:=if_neg n
def kjo{c a:Addr}{H:Hp}{o:HO}(h:unt c H a=some o):a≠c∧H a=some o:=by
 by_cases e:a=c
 ·rw[e,kdW] at h
  cases h
 ·rw[kaX e] at h
  exact⟨e,h⟩
section
variable {P:Program} {w:World} {H:Hp} {h:Heap} {c:Addr} {o:Obj}
theorem HOk.unt(x:HOk P w H h)(hc:H c=some (Fz c o)):HOk P w (unt c H) h:=fun b u e=>by
 obtain⟨n,e⟩:=kjo e
 refine(x b u e).stay (fun _ _ _ q=>q) (fun d r=>?_) fun d xs r=>?_
 ·rw[kaX (ne_of r hc (by intro z;cases z))]
  exact r
 ·rw[kaX (ne_of r hc (by intro z;cases z))]
  exact r
theorem HOk.fz(x:HOk P w H h)(hn:H c=none)(ho:h.get? c=some o):HOk P w (upd H c (Fz c o)) h:=fun b u e=>by
 by_cases hb:b=c
 ·subst hb
  rw[kad] at e
  cases e
  exact⟨ho,o,ho⟩
 ·rw[kaj hb] at e
  refine(x b u e).stay (fun _ _ _ q=>q) (fun d r=>?_) fun d xs r=>?_
  ·rw[kaj (kah r hn)]
   exact r
  ·rw[kaj (kah r hn)]
   exact r
theorem HOk.fz_at(x:HOk P w H h)(hc:H c=some (Fz c o)):h.get? c=some o:=(show ObjOk P w H h c (Fz c o) from x c _ hc).1
end
structure LamS (scope:Scope) (x y:Str):Prop where
 kind:scope.kind=.function
 par:scope.names.lookup x=some .local
 fre:scope.names.lookup y=some .free
 only:∀p∈scope.names,p.2=.free→p.1=y
 nocell:∀p∈scope.names,p.2≠.cell
 co:scope.isCoroutine=false
 gen:scope.isGenerator=false
structure Clo (cl:List (Str×Addr)) (y:Str) (c:Addr):Prop where
 at_:cl.lookup y=some c
 only:∀z a,cl.lookup z=some a→z=y∧a=c
noncomputable abbrev envM(qual:Str)(scope:Scope)(cl:List (Str×Addr))(f cc:Addr)(s:Shared):Env:=PySem.W.envX qual scope s.heap.objs.size f (.ref cc) cl
noncomputable def cxM(P:Program)(w:World)(K:U1)(mg:Str→Option Value)(base:Heap)(N:List Str)(qual:Str)(scope:Scope)(cl:List (Str×Addr))(f cc:Addr)(A:Around)(outer:List Env)(s:Shared)(H:Hp):Cx where
 prog:=P
 w:=w
 K:=K
 mg:=mg
 base:=base
 A:=A.deeper (envM qual scope cl f cc s)
 N:=N
 s₀:=s
 H₀:=H
 env:=envM qual scope cl f cc s
 outer:=outer
 stack:=envM qual scope cl f cc s::outer
 ex:=[]
 calm:=true
 fn:=fun _=>false
 pn:=[]
 xe:=fun _ _=>False
noncomputable def spLam(f c cc:Addr)(fo co:Obj)(qual:Str)(vy:V)(te:TE):Sp:=fun vs H Q _=>∃v,vs=[v]∧H f=some (Fz f fo)∧H c=some (Fz c co)∧H cc=some (CodeO cc qual)∧te [some v,some vy] (unt c H) fun v' H'=>H' c=none→Q v' (upd H' c (Fz c co))
section
variable {P:Program} {w:World} {K:U1} {mg:Str→Option Value} {base:Heap} {k:Nat} {f c cc:Addr} {fo co:Obj} {scope:Scope} {x y:Str} {name qual:Str} {params:Arguments} {body:Expr} {cl:List (Str×Addr)} {pm ctv uy:Value} {vy:V} {te:TE}
theorem kjS{A:Around}{outer:List Env}{s:Shared}{H:Hp}{v:V}{u:Value}{h1:Heap}{t:Nat}(S:LamS scope x y)(C:Clo cl y c)(e0:Env0 P w K mg base A outer s H)(hd:A.handled=none)(ho:s.heap.get? c=some co)(hco:co.data=.cell (some uy))(ry:RelV vy uy)(hc:H c=some (Fz c co))(r:RelV v u)
  (hns:h1.Ns s.heap.objs.size fun z=>[(x,u)].reverse.lookup z) (hk:∀b o,s.heap.get? b=some o→h1.get? b=some o):
  Inv (cxM P w K mg base [x,y] qual scope cl f cc A outer s (unt c H)) [] [some v,some vy] (unt c H) {s with heap:=h1,toks:=t}:=by
 have noA:∀b:Addr,b∉(cxM P w K mg base [x,y] qual scope cl f cc A outer s (unt c H)).ex:=fun b z=>absurd (show b∈([]:List Addr) from z) (by simp)
 have ul:∀{b:Addr},H b=none→unt c H b=none:=fun {b} n=>by
  by_cases e:b=c
  ·rw[e];exact kdW
  ·rw[kaX e];exact n
 have cell1:h1.IsCell c (some uy):=⟨co,hk _ _ ho,hco⟩
 refine⟨⟨e0.mod,S.kind,rfl,rfl,U2 _,fun a b d h1 h2=>(C.only a d h1).1.trans (C.only b d h2).1.symm,fun a ha=>?_,fun a d h _=>(show False by cases(show false=true from h)).elim,fun _=>hd,Around.frames_deeper e0.frames, .inr ⟨rfl,rfl⟩,fun b z=>absurd z (noA b),fun b o e=>⟨(e0.bs b o e).1,ul (e0.bs b o e).2⟩,e0.bsz,fun b _ _=>noA b,fun b z=>absurd z (noA b),e0.funs,fun b hb=>ul (e0.frf b hb)⟩,
  rfl,e0.bare,Un.kept hk,⟨_,hns,fun j z w' e1 e2 e3=>?_⟩,fun a d e=>?_,ul (e0.hok.fresh (U2 _)),fun a d e=>?_,fun p hp=>absurd (show p∈([]:List (Addr×Obj)) from hp) (by simp),(e0.hok.unt hc).kept hk,rfl⟩
 ·have ha':scope.names.lookup a=some .cell∨scope.names.lookup a=some .free:=ha
  rcases ha' with q|q
  ·exact absurd rfl (S.nocell _ (PySem.mem_of_lookup q))
  ·have:a=y:=S.only _ (PySem.mem_of_lookup q) rfl
   subst this
   exact⟨c,C.at_⟩
 ·match j with
  |0=>
   have ez:x=z:=Option.some.inj (show some x=some z from e1)
   have ev:v=w':=Option.some.inj (Option.some.inj (show some (some v)=some (some w') from e2))
   subst ez ev
   exact⟨u,r, .inl ⟨S.par,by simp⟩⟩
  |1=>
   have ez:y=z:=Option.some.inj (show some y=some z from e1)
   have ev:vy=w':=Option.some.inj (Option.some.inj (show some (some vy)=some (some w') from e2))
   subst ez ev
   exact⟨uy,ry, .inr ⟨.inr S.fre,c,C.at_,cell1⟩⟩
  |j+2=>simp at e2
 ·rw[(C.only a d e).2]
  exact⟨_,cell1⟩
 ·rw[(C.only a d e).2]
  exact kdW
theorem klQ(S:LamS scope x y)(C:Clo cl y c)(hfo:fo=Np name qual params body scope cl pm cc ctv)(hco:co.data=.cell (some uy))(ry:RelV vy uy)
  (he:∀(A:Around)(outer:List Env)(s:Shared)(H:Hp),Room k (A.deeper (envM qual scope cl f cc s))→PE (cxM P w K mg base [x,y] qual scope cl f cc A outer s H) body te):
  FnOk P w K mg base CX0 (k+1) f (Mx name qual params body scope cl pm (.ref cc) ctv) [x] (spLam f c cc fo co qual vy te):=by
 refine⟨fun vs H Q E ⟨v,e,_⟩=>by rw[e];rfl,fun A outer s H args us vs Q E hr e0 hb r hsp=>?_⟩
 obtain⟨v,rfl,hf,hc,hcc,hq⟩:=hsp
 obtain⟨u,rfl,ru⟩:=r.one
 have of:=e0.hok.fz_at hf
 have oc:=e0.hok.fz_at hc
 have hcr:s.heap.CodeRec (.ref cc) qual:=(show ObjOk P w H s.heap cc (CodeO cc qual) from e0.hok cc _ hcc).1
 have lim:s.heap.NoLimit:=e0.mod.nolimit.keeps fun b o e=>(e0.bs b o e).1
 rw[hfo] at of
 refine MW hr.depth of rfl S.co S.gen rfl hcr (hb _ _ _ _ ?_)
 refine wpAny_newFunctionEnv S.nocell (fun z hz=>?_) (fun h1 hns hsb=>⟨lim.fresh _ hsb,?_⟩) S.kind
 ·have:z=(x,u):=by simpa using hz
  rw[this]
  exact S.par
 have hk:∀b o,s.heap.get? b=some o→h1.get? b=some o:=fun b o e=>hsb.extBut b o (Js (Heap.lt_size e)) (Heap.get?_push_of_some _ e)
 have J:=kjS (qual:=qual) (f:=f) (cc:=cc) (t:=s.toks+1) S C e0 hr.hd oc hco ry hc ru hns hk
 refine MX (wpAny_mono (he A outer s (unt c H) (hr.deeper _) [] _ _ _ _ J hq) (fun w' s' hw=>?_) fun _ _ z=>z.elim)
 obtain⟨v',H',J',rv,qv⟩:=hw
 have fc:H' c=none:=J'.base.free c co oc kdW (by intro z;cases z)
 have nst:c∉frs outer:=fun z=>by
  have:=e0.frf c z
  rw[hc] at this
  cases this
 have oc':s'.heap.get? c=some co:=J'.base.keep c co oc kdW nst (by intro z;cases z)
 have un:=J'.base
 have un0:∀{b:Addr},H b=none→unt c H b=none:=fun {b} n=>by
  by_cases z:b=c
  ·rw[z]
   exact kdW
  ·rw[kaX z]
   exact n
 have tr:∀{b:Addr}{o:HO},H b=some o→(∀ob,o≠Fz c ob)→b≠c:=fun {b o} e n z=>by
  rw[z,hc] at e
  cases e
  exact n _ rfl
 refine⟨v',upd H' c (Fz c co),J'.os,J'.bare,⟨fun b o e n hb hx=>?_,fun b o e n hb hx=>?_,fun b o e n hx=>?_,fun b o e hx=>un.there b o e hx,fun b xs e=>?_,fun b o u' e=>?_,fun b ps e=>?_⟩,J'.hok.fz fc oc',rv,qv fc⟩
 ·exact un.keep b o e (un0 n) hb hx
 ·exact un.slot b o e (un0 n) hb hx
 ·have z:b≠c:=fun z=>by rw[z,hc] at n;cases n
  rw[kaj z]
  exact un.free b o e (un0 n) hx
 ·have z:=tr e (fun _ z=>by cases z)
  rw[kaj z]
  exact un.tups b xs (by show unt c H b=_;rw[kaX z];exact e)
 ·by_cases z:b=c
  ·subst z
   rw[hc] at e
   rw[kad,←e]
  ·rw[kaj z]
   exact un.frzs b o u' (by show unt c H b=_;rw[kaX z];exact e)
 ·have z:=tr e (fun _ z=>by cases z)
  obtain⟨m,q⟩:=un.tbls b ps (by show unt c H b=_;rw[kaX z];exact e)
  exact⟨m,by rw[kaj z];exact q⟩
end
section
variable {X:Cx} {scope:Scope} {x y:Str} {N:List Str} {cap:List (Option Nat)} {c0 P:Addr} {params:Arguments} {body:Expr} {lpos:Pos}
noncomputable def tLam(X:Cx)(P:Addr)(scope:Scope)(params:Arguments)(body:Expr)(lpos:Pos):TE:=fun _ H Q=>TbAt P H∧∀(H2:Hp)(f cc:Addr)(pm ctv:Value),Grew P H H2→H f=none→H2 f=none→H2 cc=some (CodeO cc (lamN lpos))→
 Q (.ref f) (upd H2 f (Fz f (Np "<lambda>" (lamN lpos) params body scope (closL X.env.cells scope.names []) pm cc ctv)))
theorem klN(S:kcF X scope x N cap)(hcode:X.env.code=.ref c0)(CK:CodeK X.K c0 P)(hB:BltM X.mg X.base)(hq:X.env.qual++ "<lambda>"=lamN lpos:=by rfl)(hdef:defaultsOf params X.env=([],[]):=by rfl):
  PE X (.Lambda params body scope lpos) (tLam X P scope params body lpos):=by
 intro pins s σ H Q I h
 obtain⟨TB,h⟩:=h
 refine khc S I hcode CK hB TB hq hdef fun s4 H4 f cc pm ctv I4 G ef ff hsf hfr ec=>?_
 obtain⟨q1,q2,q3,q4,q5,q6⟩:=I.fpOk hsf ff
 exact⟨.ref f,_,I4.adopt (a:=f) (o:=Fz f _) ⟨ff,q2,q3,q4,q5,q6⟩ (U4 I.sz hsf) ⟨ef,_,ef⟩,rfl,h H4 f cc pm ctv G (I.hok.fresh hsf) ff ec⟩
noncomputable def klC(X:Cx)(y:Str)(i:Nat)(sp:Sp)(t:TA):TE:=fun σ H Q=>t σ H fun vs H1=>∃vy,σ[i]?=some (some vy)∧∀(c:Addr)(co:Obj)(uy:Value),X.env.cells.lookup y=some c→H1 c=none→co.data=.cell (some uy)→RelV vy uy→
 sp vs (upd H1 c (Fz c co)) (fun v H'=>H' c=some (Fz c co)→Q v (unt c H')) E0
theorem kjD{k i:Nat}{f:Addr}{fd:FuncData}{ps:List Str}{sp:Sp}{x0:Str}{st:Stmt}{e:Expr}{es:List Expr}{t:TA}{p pos:Pos}(F:FnOk X.prog X.w X.K X.mg X.base CX0 k f fd ps sp)(hr:Room k X.A)(D:Dn X.K X.mg x0 st ps f fd)(ha:PA X (e::es) t)
  (hN:X.N[i]?=some y) (hy:X.env.scope.names.lookup y=some .cell) (hfn:X.fn y=true) (hg:Gl X x0:=by rfl) (hdb:(x0==("__debug__" :Str))=false:=by decide) (he:starEach (e::es) X.env=(false,eval e X.env)::starEach es X.env:=by rfl) (hpl:(backTo pos (starEach es X.env)).any (·.1)=false:=by rfl):
  PE X (.Call (.Name x0 p) (e::es) [] pos) (klC X y i sp t):=by
 intro pins s σ H Q I h
 refine wpAny_Call_Name_kw (kem I hg D.m ?_ hdb)
 refine ND (h₀:=X.base) I.ok.mod.kin D.F.kp (thn (ha pos pins s σ H _ I h) fun us s1 ⟨vs,H1,I1,r,vy,hv,q⟩=>⟨I1.kIn,?_⟩) he hpl
 obtain⟨m,_,hl⟩:=I1.loc
 obtain⟨uy,ry,lk⟩:=hl i y vy hN hv (.inr (.inl hy))
 obtain⟨c,ec,co,oc,hco⟩:∃c,X.env.cells.lookup y=some c∧s1.heap.IsCell c (some uy):=by
  rcases lk with⟨k1,_⟩|⟨_,c,ec,z⟩
  ·have k1':X.env.scope.names.lookup y=some .local:=k1
   rw[hy] at k1'
   cases k1'
  ·exact⟨c,ec,z⟩
 have hc:=I1.freeC y c ec
 have q2:=q c co uy ec hc hco ry
 have szc:=I1.ok.cab y c hfn ec
 have e0:=I1.env0
 have nlo:c≠X.env.locals:=fun z=>by
  obtain⟨o,es,ep,ho,hd,_⟩:=I1.loc.choose_spec.1
  rw[←z,oc] at ho
  cases ho
  rw[hd] at hco
  cases hco
 have nfs:c∉X.fs:=fun z=>by
  have:=I1.ok.funs.mem z
  obtain⟨_,o,ho,_⟩:=this
  exact absurd (Heap.lt_size ho) (N2.mpr szc)
 have nfr:c∉frs X.stack:=fun z=>by
  rcases I1.ok.stk with e|⟨e,e2⟩
  ·rw[e] at z
   exact nfs z
  ·rw[e] at z
   unfold frs at z
   rw[NP,e2] at z
   rcases Jr.mp z with h1|h1
   ·exact nlo h1
   ·exact nfs h1
 have nbs:∀b o,X.base.get? b=some o→b≠c:=fun b o e z=>by
  have:=Heap.lt_size e
  rw[z] at this
  exact absurd this (N2.mpr (U4 I1.ok.bsz szc))
 have e1:Env0 X.prog X.w X.K X.mg X.base X.A X.stack s1 (upd H1 c (Fz c co)):=⟨e0.frames,e0.mod,fun b o e=>⟨(e0.bs b o e).1,by rw[kaj (nbs b o e)];exact(e0.bs b o e).2⟩,e0.bsz,e0.funs,fun b hb=>by rw[kaj (show b≠c from fun z=>by rw[z] at hb;exact nfr hb)];exact e0.frf b hb,e0.hok.fz hc oc,e0.bare⟩
 have hlen:us.length=ps.length:=by rw[←r.length];exact F.len _ _ _ _ q2
 have hb:=D.b s1 us I1.kIn (by rw[J6];exact hlen)
 rw[J6] at hb
 refine wpAny_call (codeAny_mono (F.run X.A X.stack s1 _ ⟨us,[]⟩ us vs _ E0 hr e1 hb r q2) fun rs s' hq=>?_)
 cases rs with
 |error e=>exact hq.elim
 | ok fl=>
  cases fl with
  |next=>exact False.elim hq
  |brk=>exact False.elim hq
  |cont=>exact False.elim hq
  | ret u=>
   obtain⟨v,H',os,bare,un,hok,rv,qv⟩:=hq
   have fz:=un.frzs c co (.own c) kad
   have oc':=hok.fz_at fz
   have nn:∀{b:Addr}{o:HO},H1 b=some o→b≠c:=fun {b o} e=>kah e hc
   have un2:Un (frs X.stack) [] H1 (unt c H') s1.heap s'.heap:=by
    refine⟨fun b o e n hb hx=>?_,fun b o e n hb hx=>?_,fun b o e n hx=>?_,fun b o e hx=>un.there b o e hx,fun b xs e=>?_,fun b o u' e=>?_,fun b qs e=>?_⟩
    ·by_cases z:b=c
     ·subst z
      rw[oc] at e
      cases e
      exact oc'
     ·exact un.keep b o e (by rw[kaj z];exact n) hb hx
    ·have z:b≠c:=fun z=>by rw[z] at hb;exact nfr hb
     exact un.slot b o e (by rw[kaj z];exact n) hb hx
    ·by_cases z:b=c
     ·rw[z]
      exact kdW
     ·rw[kaX z]
      exact un.free b o e (by rw[kaj z];exact n) hx
    ·rw[kaX (nn e)]
     exact un.tups b xs (by rw[kaj (nn e)];exact e)
    ·rw[kaX (nn e)]
     exact un.frzs b o u' (by rw[kaj (nn e)];exact e)
    ·obtain⟨m,q⟩:=un.tbls b qs (by rw[kaj (nn e)];exact e)
     exact⟨m,by rw[kaX (nn e)];exact q⟩
   exact⟨v,unt c H',I1.call' (ch:=[]) os un2 (hok.unt fz) bare (fun b hb=>by simp at hb),rv,qv fz⟩
end
end L2
namespace L2
open PySem PySem.Spec PyProof.Rows
def kl2{scope:Scope}{x y:Str}{cells:List (Str×Addr)}{c:Addr}(S:LamS scope x y)(hc:cells.lookup y=some c):Clo (closL cells scope.names []) y c:=by
 have ev:∀{z a},(closL cells scope.names []).lookup z=some a→z=y∧a=c:=fun {z a} h=>by
  rcases kdc _ _ h with⟨h1,h2⟩|h1
  ·have e:z=y:=S.only _ h1 rfl
   subst e
   rw[hc] at h2
   exact⟨rfl,h2⟩
  ·cases h1
 obtain⟨a,ea⟩:=kb9 (cells:=cells) (x:=y) scope.names [] (.inl (PySem.mem_of_lookup S.fre))
 refine⟨?_,fun z a h=>ev h⟩
 rw[ea,(ev ea).2]
def kkb{b c:Addr}{o:Obj}{H:Hp}(hc:H c=some (Fz c o))(h:TbAt b H):TbAt b (unt c H):=by
 obtain⟨ps,e,t,hor⟩:=h
 refine⟨ps,by rw[kaX (ne_of e hc (by intro z;cases z))];exact e,t,fun pos d ed=>?_⟩
 obtain⟨c',rfl,z⟩:=hor pos d ed
 exact⟨c',rfl,by rw[kaX (ne_of z hc (by intro z;cases z))];exact z⟩
def kid{H H':Hp}{c:Addr}{o:Obj}(hc:H c=some (Fz c o))(s:Same (unt c H) H')(hn:H' c=none):Same H (upd H' c (Fz c o)):=fun b u e=>by
 by_cases h:b=c
 ·subst h
  rw[hc] at e
  cases e
  exact kad
 ·have q:=s b u (by rw[kaX h];exact e)
  cases u with
  |tbl ps=>exact⟨⟨_,by rw[kaj h];exact q.1.choose_spec⟩,fun t=>kcU (q.2 (kkb hc t)) h (nx0 hn)⟩
  |_=>exact(by rw[kaj h];exact q:(upd H' c (Fz c o)) b=some _)
theorem kkT{H H':Hp}{c:Addr}{o:Obj}(h0:H c=none)(s:Same H H')(hc:H' c=some (Fz c o)):Same H (unt c H'):=fun b u e=>by
 have h:b≠c:=kah e h0
 have q:=s b u e
 cases u with
 |tbl ps=>exact⟨⟨_,by rw[kaX h];exact q.1.choose_spec⟩,fun t=>kkb hc (q.2 t)⟩
 |_=>exact(by rw[kaX h];exact q:(unt c H') b=some _)
end L2
namespace L2
open PySem PySem.Spec PyProof.Rows
section
variable {X:Cx}
noncomputable def klB(K:U1)(i:Nat)(f:Addr)(fo:Obj)(sp:Sp)(t:TA):TE:=fun σ H Q=>σ[i]?=some (some (.ref f))∧t σ H fun vs H1=>(Jd K (.ref f)=true∨H1 f=some (Fz f fo))∧sp vs H1 Q E0
theorem kjC{k i:Nat}{f:Addr}{fo:Obj}{fd:FuncData}{ps:List Str}{sp:Sp}{x:Str}{e:Expr}{es:List Expr}{t:TA}{p pos:Pos}(hv:PE X (.Name x p) (tVar i))(F:FnOk X.prog X.w X.K X.mg X.base CX0 k f fd ps sp)(hr:Room k X.A)(hfo:fo.data=.func fd)(hb:Binds X.K fd ps [])(ha:PA X (e::es) t)
  (he:starEach (e::es) X.env=(false,eval e X.env)::starEach es X.env:=by rfl) (hpl:(backTo pos (starEach es X.env)).any (·.1)=false:=by rfl):
  PE X (.Call (.Name x p) (e::es) [] pos) (klB X.K i f fo sp t):=by
 intro pins s σ H Q I h
 obtain⟨h0,h⟩:=h
 refine wpAny_Call_Name_kw (thn (hv pins s σ H (fun v H'=>v=.ref f∧t σ H' fun vs H1=>(Jd X.K (.ref f)=true∨H1 f=some (Fz f fo))∧sp vs H1 Q E0) I ⟨_,h0,rfl,h⟩) fun u s1 ⟨v,H1,I1,r,ev,q⟩=>?_)
 subst ev
 cases r
 rw[he]
 refine PySem.W.callWith_of (P:=fun h=>X.K.In h∧(Jd X.K (.ref f)=true∨h.get? f=some fo)) (by show((false||(backTo pos (starEach es X.env)).any (·.1))||false)=false;rw[hpl];rfl) (fun h ⟨kin,e⟩=>?_) (Calls.evalArgs_plain ?_)
 ·rcases e with e|e
  ·exact PySem.W.keeps_K e h kin
  ·refine⟨.frame, .inl rfl,?_⟩
   obtain⟨oc,od,dt,sl⟩:=fo
   cases(show dt=.func fd from hfo)
   exact(PySem.W.Looks.ld (part:=none) e).andThen .now
 ·have ha':=ha pos pins s1 σ H1 _ I1 q
  rw[he] at ha'
  exact thn ha' fun us s2 ⟨vs,H2,I2,r2,hf,q2⟩=>⟨⟨I2.kIn,hf.imp id I2.hok.fz_at⟩,kfF F hr hb .nil pass0 I2 r2 (by rw[J6];exact q2)⟩
theorem kiw{f:Value→Value→Sem Value}{r1 r2:R2}(h1:OpR X f r1)(h2:OpR X f r2):OpR X f fun x y H Q=>r1 x y H Q∨r2 x y H Q:=fun pins s σ H x y v u Q I rx ry h=>h.elim (h1 pins s σ H x y v u Q I rx ry) (h2 pins s σ H x y v u Q I rx ry)
end
end L2
namespace War
structure Row where
 kd:Int
 pr:Int
 mn:Int
 ex:Option Int
structure Row.Ok (r:Row):Prop where
 pr0:0≤r.pr
 pr1:r.pr≤1000000000000
 mn0:0≤r.mn
 mn1:r.mn≤60
 ex0:∀z,r.ex=some z→0≤z∧z≤1000000000000
noncomputable def prc(m:Bool)(r:Row):Int:=if m=true then r.ex.getD r.pr else r.pr
noncomputable def own(rs:List Row):List Int:=(rs.zipIdx.map fun p=>U6 p.1.mn.toNat (p.2:Int)).flatten
noncomputable def prs(m:Bool)(rs:List Row):List Int:=(rs.map fun r=>U6 r.mn.toNat (prc m r)).flatten
def kjE(rs:List Row)(r:Row):own (rs++[r])=own rs++U6 r.mn.toNat (rs.length:Int):=by
 unfold own
 rw[List.zipIdx_append,Jc,N9]
 simp
def kjw(m:Bool)(rs:List Row)(r:Row):prs m (rs++[r])=prs m rs++U6 r.mn.toNat (prc m r):=by
 unfold prs
 rw[Jc,N9]
 simp
theorem kg5:∀(rs:List Row)(k:Nat),(∀r∈rs,r.Ok)→((rs.zipIdx k).map fun p=>U6 p.1.mn.toNat (p.2:Int)).flatten.length≤60*rs.length
 |[],_,_=>by simp
 |r::rs,k,h=>by
  have h1:=kg5 rs (k+1) fun x hx=>h x (Jo _ hx)
  have h2:=(h r Jt).mn1
  rw[Mz,Ji,Jy,Jh,Nc,Jw]
  show r.mn.toNat+_≤_
  omega
def kiu(rs:List Row)(h:∀r∈rs,r.Ok):(own rs).length≤60*rs.length:=kg5 rs 0 h
theorem kil(m:Bool):∀(rs:List Row),(∀r∈rs,r.Ok)→(prs m rs).length≤60*rs.length
 |[],_=>by simp[prs]
 |r::rs,h=>by
  have h1:=kil m rs fun x hx=>h x (Jo _ hx)
  have h2:=(h r Jt).mn1
  unfold prs at h1⊢
  rw[Ji,Jy,Jh,Nc,Jw]
  omega
def kko{m:Bool}{r:Row}(h:r.Ok):0≤prc m r∧prc m r≤1000000000000:=by
 unfold prc
 split
 ·cases e:r.ex with
  |none=>exact⟨h.pr0,h.pr1⟩
  |some z=>exact h.ex0 z e
 ·exact⟨h.pr0,h.pr1⟩
def take_snoc{α:Type}{rs:List α}{i:Nat}{r: α}(h:rs[i]?=some r):rs.take (i+1)=rs.take i++[r]:=by
 rw[J0,h]
 rfl
end War
namespace Kin
noncomputable def Good(ps:List (Option Nat)):Prop:=∀(i k:Nat),ps[i]?=some (some k)→k<i
noncomputable def anc(ps:List (Option Nat)):Nat→Nat→List Nat
 |0,_=>[]
 |f+1,i=>i::(match ps[i]? with|some (some k)=>anc ps f k|_=>[])
noncomputable def up(ps:List (Option Nat))(i:Nat):List Nat:=anc ps (i+1) i
theorem kj8{ps:List (Option Nat)}(g:Good ps):∀(f f' i:Nat),i<f→i<f'→anc ps f i=anc ps f' i:=by
 intro f
 induction f with
 |zero=>intro f' i h;omega
 | succ f ih=>
  intro f' i h h'
  cases f' with
  |zero=>omega
  | succ f'=>
   show i::_=i::_
   congr 1
   cases e:ps[i]? with
   |none=>rfl
   | some o=>
    cases o with
    |none=>rfl
    |some k=>
     have hk:=g i k e
     exact ih f' k (by omega) (by omega)
def kkM{ps:List (Option Nat)}(g:Good ps){i k:Nat}(e:ps[i]?=some (some k)):up ps i=i::up ps k:=by
 have hk:=g i k e
 show i::_=_
 rw[e]
 show i::anc ps i k=i::up ps k
 rw[kj8 g i (k+1) k hk (by omega)]
 rfl
def kkN{ps:List (Option Nat)}{i:Nat}(e:ps[i]?=some none):up ps i=[i]:=by
 show i::_=_
 rw[e]
noncomputable def rest(ps:List (Option Nat)):Option Nat→List Nat
 |none=>[]
 |some k=>up ps k
noncomputable def left:Option Nat→Nat
 |none=>0
 |some k=>k+1
theorem up_eq{ps:List (Option Nat)}(g:Good ps){i:Nat}{o:Option Nat}(e:ps[i]?=some o):up ps i=i::rest ps o:=by
 cases o with
 |none=>exact kkN e
 |some k=>exact kkM g e
def kjW:Good []:=fun i k e=>by simp at e
def kiZ{ps:List (Option Nat)}(g:Good ps){o:Option Nat}(h:∀k,o=some k→k<ps.length):Good (ps++[o]):=by
 intro i k e
 rcases Nat.lt_trichotomy i ps.length with hi|hi|hi
 ·rw[NF hi] at e
  exact g i k e
 ·subst hi
  rw[Nw (U2 _)] at e
  simp at e
  exact h k e
 ·rw[Nw (by omega)] at e
  have:(i-ps.length)≠0:=by omega
  cases q:i-ps.length with
  |zero=>omega
  |succ n=>rw[q] at e;simp at e
end Kin
namespace Kin
end Kin
namespace Deal
noncomputable def pre(ws:List Int)(k:Nat):Int:=(ws.take k).sum
noncomputable def part(c:Int)(ws:List Int)(j:Nat):Int:=c*pre ws (j+1)/ws.sum-c*pre ws j/ws.sum
noncomputable def dl(c:Int)(ws:List Int):List Int:=if ws.sum=0 then ws.map (fun _=>0) else(U5 ws.length).map (part c ws)
def kjx(ws:List Int):pre ws 0=0:=by simp[pre]
def kim(ws:List Int):pre ws ws.length=ws.sum:=by simp[pre]
def kdS{ws:List Int}{i:Nat}{w:Int}(h:ws[i]?=some w):pre ws (i+1)=pre ws i+w:=by
 unfold pre
 rw[J0,h]
 simp
def keS(c:Int)(ws:List Int):(dl c ws).length=ws.length:=by
 unfold dl
 split <;> simp
def dl_at{c:Int}{ws:List Int}(h:¬ws.sum=0){j:Nat}(hj:j<ws.length):(dl c ws)[j]?=some (part c ws j):=by
 unfold dl
 rw[if_neg h]
 simp[hj]
def ki2{c:Int}{ws:List Int}(h:ws.sum=0){j:Nat}(hj:j<ws.length):(dl c ws)[j]?=some 0:=by
 unfold dl
 rw[if_pos h]
 simp[hj]
noncomputable def Nn(ws:List Int):Prop:=∀w∈ws,0≤w
theorem kb6:∀{ws:List Int},Nn ws→0≤ws.sum
 |[],_=>by simp
 |w::ws,h=>by
  have:=kb6 (ws:=ws) fun x hx=>h x (Jo _ hx)
  have h1:=h w Jt
  simp
  omega
theorem kit{c s A w:Int}(hs:0<s)(hc:0≤c)(hcs:c≤s)(hw:0≤w):0≤c*(A+w)/s-c*A/s∧c*(A+w)/s-c*A/s≤w∧
  (c*(A+w)/s-c*A/s)*s-c*w<s∧-s<(c*(A+w)/s-c*A/s)*s-c*w:=by
 have e:c*(A+w)=c*A+c*w:=Int.mul_add ..
 rw[e]
 generalize hx:c*A=x
 have h1:0≤c*w:=Int.mul_nonneg hc hw
 have h2:c*w≤w*s:=by
  rw[Int.mul_comm w s]
  exact Int.mul_le_mul_of_nonneg_right hcs hw
 generalize hy:c*w=y at h1 h2
 have m1:x/s≤(x+y)/s:=Int.ediv_le_ediv hs (by omega)
 have m2:(x+y)/s≤(x+w*s)/s:=Int.ediv_le_ediv hs (by omega)
 rw[Int.add_mul_ediv_right _ _ (by omega)] at m2
 have d1:=Int.emod_add_mul_ediv x s
 have d2:=Int.emod_add_mul_ediv (x+y) s
 have r1:=Int.emod_nonneg x (show s≠0 by omega)
 have r2:=Int.emod_lt_of_pos x hs
 have r3:=Int.emod_nonneg (x+y) (show s≠0 by omega)
 have r4:=Int.emod_lt_of_pos (x+y) hs
 have e3:((x+y)/s-x/s)*s=s*((x+y)/s)-s*(x/s):=by
  rw[Int.sub_mul,Int.mul_comm,Int.mul_comm (x/s)]
 rw[e3]
 refine⟨by omega,by omega,by omega,by omega⟩
end Deal
namespace Vs
open Kin Deal
structure Mks where
 kind:Option Nat
 needs:Int
 most:Option Int
 member:Bool
 once:Bool
 lone:Bool
inductive Srt
 |off (a:Int)
 |share (s:Int) (b:Bool)
 |cheap (n:Int)
 |bund (n p:Int)
 |carr
structure Vch where
 so:Srt
 ms:Mks
structure Stnd where
 ow:List Nat
 pr:List Int
 cg:Int
 mkd:List Bool
noncomputable def kHit(ps:List (Option Nat))(kind:Option Nat)(kd:Nat):Bool:=match kind with
 |none=>true
 |some k=>decide (k∈up ps kd)
noncomputable def hits(ps:List (Option Nat))(kds:List Nat)(kind:Option Nat)(lone:Bool)(mkd:List Bool)(l:Nat):Bool:=
 kHit ps kind (kds.getD l 0)&&(!lone|| !(mkd.getD l false))
noncomputable def abt(ps:List (Option Nat))(kds:List Nat)(kind:Option Nat)(lone:Bool)(S:Stnd):List Nat:=
 (U5 S.ow.length).filter fun i=>hits ps kds kind lone S.mkd (S.ow.getD i 0)
def kga{ps:List (Option Nat)}{kds:List Nat}{kind:Option Nat}{lone:Bool}{S:Stnd}{i:Nat}(h:i∈abt ps kds kind lone S):i<S.ow.length:=by
 have:=(JM.mp h).1
 simpa using this
def kf9(ps:List (Option Nat))(kds:List Nat)(kind:Option Nat)(lone:Bool)(S:Stnd):(abt ps kds kind lone S).Nodup:=Ny.filter _ Ma
def kdv(ps:List (Option Nat))(kds:List Nat)(kind:Option Nat)(lone:Bool)(S:Stnd):(abt ps kds kind lone S).length≤S.ow.length:=by
 have:=NL (fun i=>hits ps kds kind lone S.mkd (S.ow.getD i 0)) (U5 S.ow.length)
 simpa[abt] using this
noncomputable def qs(pr:List Int)(is:List Nat):List Int:=is.map fun i=>pr.getD i 0
def kbS(pr:List Int)(is:List Nat):(qs pr is).length=is.length:=by simp[qs]
noncomputable def spr(n:Nat)(is:List Nat)(vs:List Int):List Int:=(U5 n).map fun i=>((is.zip vs).lookup i).getD 0
def kcL(n:Nat)(is:List Nat)(vs:List Int):(spr n is vs).length=n:=by simp[spr]
def kkQ(n:Nat)(vs:List Int):spr n [] vs=U6 n 0:=by
 unfold spr
 apply Nh
 ·simp
 ·intro i h1 h2
  simp
theorem kgu{l:List (Nat×Int)}{i j:Nat}{v:Int}(h:∀p∈l,p.1≠i):(l++[(i,v)]).lookup j=if j=i then some v else l.lookup j:=by
 induction l with
 | nil=>
  simp only[NY,JA,List.lookup_nil]
  by_cases e:j=i
  ·subst e;simp
  ·have:(j==i)=false:=beq_eq_false_iff_ne.mpr e
   simp[this,e]
 | cons p l ih=>
  obtain⟨k,w⟩:=p
  have ih':=ih fun q hq=>h q (Jo _ hq)
  have hk:k≠i:=h (k,w) Jt
  simp only[N7,JA]
  by_cases e:j=k
  ·subst e
   simp[hk]
  ·have:(j==k)=false:=beq_eq_false_iff_ne.mpr e
   simp only[this]
   exact ih'
theorem kkP{n:Nat}{is:List Nat}{vs:List Int}(hn:is.Nodup){k i:Nat}{v:Int}(h1:is[k]?=some i)(h2:vs[k]?=some v)(hi:i<n):
  (spr n (is.take k) (vs.take k)).set i v=spr n (is.take (k+1)) (vs.take (k+1)):=by
 have e1:is.take (k+1)=is.take k++[i]:=by rw[J0,h1];rfl
 have e2:vs.take (k+1)=vs.take k++[v]:=by rw[J0,h2];rfl
 have hk1:k<is.length:=(Ja.mp h1).1
 have hk2:k<vs.length:=(Ja.mp h2).1
 have ez:(is.take (k+1)).zip (vs.take (k+1))=(is.take k).zip (vs.take k)++[(i,v)]:=by
  rw[e1,e2,List.zip_append (by simp;omega)]
  rfl
 have hne:∀p∈(is.take k).zip (vs.take k),p.1≠i:=fun p hp e=>by
  have hm:p.1∈is.take k:=(Nb hp).1
  rw[e] at hm
  obtain⟨j,hj,ej⟩:=List.getElem_of_mem hm
  rw[Jg] at hj
  rw[List.getElem_take] at ej
  have e3:is[k]=i:=by
   obtain⟨_,q⟩:=Ja.mp h1
   exact q
  exact Nq.mp hn j k (by omega) hk1 (by omega) (by rw[ej,e3])
 apply Nh
 ·simp[spr]
 ·intro j h3 h4
  have hj:j<n:=by simpa[spr] using h4
  rw[List.getElem_set]
  simp only[spr,NJ,Mb]
  rw[ez,kgu hne]
  by_cases e:i=j
  ·subst e;simp
  ·have:¬j=i:=fun z=>e z.symm
   simp[e,this]
noncomputable def bef(q:List Int)(a b:Nat):Prop:=q.getD b 0<q.getD a 0∨(q.getD a 0=q.getD b 0∧a<b)
noncomputable def Fall(q:List Int)(r:List Nat):Prop:=r.Perm (U5 q.length)∧r.Pairwise (bef q)
def kj6{q:List Int}{a b:Nat}(h:bef q a b)(h':bef q b a):False:=by
 unfold bef at h h'
 omega
theorem kd4{R:Nat→Nat→Prop}(asym:∀a b,R a b→R b a→False):∀{l l':List Nat},l.Perm l'→l.Pairwise R→l'.Pairwise R→l=l'
 |[],l',p,_,_=>(List.nil_perm.mp p).symm
 | a ::l,l',p,h,h'=>by
  cases l' with
  |nil=>exact absurd p.length_eq (by simp)
  | cons b l'=>
   have hab:a=b:=by
    rcases Classical.em (a=b) with e|e
    ·exact e
    ·have ha:a∈b::l':=p.mem_iff.mp Jt
     have hb:b∈a::l:=p.mem_iff.mpr Jt
     rcases Jr.mp ha with e1|ha
     ·exact absurd e1 e
     ·rcases Jr.mp hb with e2|hb
      ·exact absurd e2.symm e
      ·exact(asym a b ((Mc.mp h).1 b hb) ((Mc.mp h').1 a ha)).elim
   subst hab
   congr 1
   exact kd4 asym (NM.cons_inv p) (Mc.mp h).2 (Mc.mp h').2
def kgB{q:List Int}{r r':List Nat}(h:Fall q r)(h':Fall q r'):r=r':=
 kd4 (fun _ _ a b=>kj6 a b) (h.1.trans h'.1.symm) h.2 h'.2
noncomputable def grp(n:Nat)(r:List Nat):List (List Nat):=(U5 (r.length/n)).map fun g=>(r.drop (g*n)).take n
end Vs
namespace Vs
open Kin Deal
noncomputable def Le2(xs ys:List Int):Prop:=xs.length=ys.length∧∀(j:Nat)(v w:Int),xs[j]?=some v→ys[j]?=some w→0≤v∧v≤w
def Le2.nil:Le2 [] []:=⟨rfl,fun j v w e=>by simp at e⟩
def Le2.self{xs:List Int}(h:Nn xs):Le2 xs xs:=⟨rfl,fun j v w e1 e2=>by
 rw[e1] at e2
 cases e2
 exact⟨h v (U9 e1),Int.le_refl _⟩⟩
def Le2.nn{xs ys:List Int}(h:Le2 xs ys):Nn xs:=fun v hv=>by
 obtain⟨j,hj,e⟩:=List.getElem_of_mem hv
 exact(h.2 j v (ys[j]'(by rw[←h.1];exact hj)) (by simp[hj,e]) (by simp[show j<ys.length by rw[←h.1];exact hj])).1
def Le2.trans{xs ys zs:List Int}(h:Le2 xs ys)(h':Le2 ys zs):Le2 xs zs:=⟨h.1.trans h'.1,fun j v w e1 e2=>by
 have hj:j<xs.length:=(Ja.mp e1).1
 have e3:ys[j]?=some (ys[j]'(by rw[←h.1];exact hj)):=by simp[show j<ys.length by rw[←h.1];exact hj]
 have a:=h.2 j v _ e1 e3
 have b:=h'.2 j _ w e3 e2
 omega⟩
def Le2.append{xs ys xs' ys':List Int}(h:Le2 xs ys)(h':Le2 xs' ys'):Le2 (xs++xs') (ys++ys'):=by
 refine⟨by simp[h.1,h'.1],fun j v w e1 e2=>?_⟩
 have hl:=h.1
 rcases Nat.lt_or_ge j xs.length with hj|hj
 ·rw[NF hj] at e1
  rw[NF (by omega)] at e2
  exact h.2 j v w e1 e2
 ·rw[Nw hj] at e1
  rw[Nw (by omega),←hl] at e2
  exact h'.2 _ v w e1 e2
theorem Le2.sum:∀{xs ys:List Int},Le2 xs ys→0≤xs.sum∧xs.sum≤ys.sum
 |[],[],_=>by simp
 |[],_::_,h=>by have:=h.1;simp at this
 |_::_,[],h=>by have:=h.1;simp at this
 |x::xs,y::ys,h=>by
  have h0:=h.2 0 x y rfl rfl
  have h1:Le2 xs ys:=⟨by simpa using h.1,fun j v w e1 e2=>h.2 (j+1) v w (by simpa using e1) (by simpa using e2)⟩
  have h2:=Le2.sum h1
  simp
  omega
def dl_le{c:Int}{ws:List Int}(hn:Nn ws)(h0:0≤c)(h1:c≤ws.sum):Le2 (dl c ws) ws:=by
 refine⟨keS c ws,fun j v w e1 e2=>?_⟩
 have hj:j<ws.length:=(Ja.mp e2).1
 have hw:=hn w (U9 e2)
 by_cases hs:ws.sum=0
 ·rw[ki2 hs hj] at e1
  cases e1
  exact⟨Int.le_refl _,hw⟩
 ·rw[dl_at hs hj] at e1
  cases e1
  have hp:0<ws.sum:=by
   have:=kb6 hn
   omega
  have q:=kit (A:=pre ws j) hp h0 h1 hw
  unfold part
  rw[kdS e2]
  exact⟨q.1,q.2.1⟩
theorem kdt{is:List Nat}{vs:List Int}{i:Nat}{v:Int}(h:(is.zip vs).lookup i=some v):∃k:Nat,is[k]?=some i∧vs[k]?=some v:=by
 induction is generalizing vs with
 |nil=>simp at h
 | cons a is ih=>
  cases vs with
  |nil=>simp at h
  | cons b vs=>
   simp only[List.zip_cons_cons,JA] at h
   by_cases e:i=a
   ·subst e
    simp at h
    exact⟨0,rfl,by simp[h]⟩
   ·have:(i==a)=false:=beq_eq_false_iff_ne.mpr e
    rw[this] at h
    obtain⟨k,h1,h2⟩:=ih h
    exact⟨k+1,by simpa using h1,by simpa using h2⟩
theorem kfu{pr:List Int}{is:List Nat}{vs:List Int}(hn:Nn pr)(hv:Le2 vs (qs pr is)):Le2 (spr pr.length is vs) pr:=by
 refine⟨kcL _ _ _,fun j v w e1 e2=>?_⟩
 have hj:j<pr.length:=(Ja.mp e2).1
 have hw:=hn w (U9 e2)
 have e3:v=((is.zip vs).lookup j).getD 0:=by
  simp[spr,hj] at e1
  exact e1.symm
 cases e4:(is.zip vs).lookup j with
 |none=>
  rw[e4] at e3
  subst e3
  exact⟨Int.le_refl _,hw⟩
 |some u=>
  rw[e4] at e3
  have e3':v=u:=e3
  subst e3'
  obtain⟨k,h1,h2⟩:=kdt e4
  refine hv.2 k v w h2 ?_
  simp only[qs,Jb,h1,Nf]
  rw[Jn,e2]
  rfl
theorem qs_nn{pr:List Int}(hn:Nn pr)(is:List Nat):Nn (qs pr is):=fun v hv=>by
 obtain⟨i,_,rfl⟩:=Jp.mp hv
 rw[Jn]
 cases e:pr[i]? with
 |none=>exact Int.le_refl _
 |some w=>exact hn w (U9 e)
noncomputable def leQ(q:List Int)(a b:Nat):Bool:=decide (q.getD b 0<q.getD a 0∨(q.getD a 0=q.getD b 0∧a≤b))
noncomputable def ordQ(q:List Int):List Nat:=(U5 q.length).mergeSort (leQ q)
def kcZ(q:List Int):(ordQ q).Perm (U5 q.length):=List.mergeSort_perm _ _
def kd8(q:List Int):Fall q (ordQ q):=by
 refine⟨kcZ q,?_⟩
 have h1:(ordQ q).Pairwise (fun a b=>leQ q a b=true):=List.pairwise_mergeSort (le:=leQ q) (fun a b c h h'=>by simp only[leQ,decide_eq_true_eq] at *;omega) (fun a b=>by simp only[leQ,Mu,decide_eq_true_eq];omega) _
 have h2:(ordQ q).Nodup:=(kcZ q).nodup_iff.mpr Ma
 refine(h1.and h2).imp fun {a b} h=>?_
 have h3:=h.1
 have h4:a≠b:=h.2
 simp only[leQ,decide_eq_true_eq] at h3
 unfold bef
 omega
noncomputable def gdl(cut:Int→Int)(gs:List (List Nat))(q:List Int):List Int:=spr q.length gs.flatten ((gs.map fun g=>dl (cut (qs q g).sum) (qs q g)).flatten)
def kij(q:List Int)(a b:List Nat):qs q (a++b)=qs q a++qs q b:=by simp[qs]
theorem kkz{cut:Int→Int}{gs:List (List Nat)}{q:List Int}(hn:Nn q)(hc:∀s,0≤s→0≤cut s∧cut s≤s):Le2 (gdl cut gs q) q:=by
 refine kfu hn ?_
 induction gs with
 |nil=>exact Le2.nil
 |cons g gs ih=>
  rw[Ji,Jy,Jy,kij]
  have h:=hc _ (kb6 (qs_nn hn g))
  exact(dl_le (qs_nn hn g) h.1 h.2).append ih
noncomputable def keu(n:Nat)(lines:List Nat):List (List Nat):=(U5 n).map fun l=>(U5 lines.length).filter fun k=>lines.getD k 0==l
noncomputable def lasts(gs:List (List Nat)):List Nat:=gs.map fun g=>g.getLastD 0
noncomputable def want(so:Srt)(n:Nat)(lines:List Nat)(q:List Int):List Int:=match so with
 | .off a=>dl (min a q.sum) q
 | .share s false=>dl (q.sum*s/1000) q
 | .share s true=>gdl (fun z=>z*s/1000) (keu n lines) q
 | .cheap m=>spr q.length (lasts (grp m.toNat (ordQ q))) (qs q (lasts (grp m.toNat (ordQ q))))
 | .bund m p=>gdl (fun z=>max 0 (z-p)) (grp m.toNat (ordQ q)) q
 | .carr=>U6 q.length 0
noncomputable def fee(so:Srt)(cg:Int):Int:=match so with
 | .carr=>cg
 |_=>0
noncomputable def SrtOk:Srt→Prop
 | .off a=>0≤a∧a≤1000000000000
 | .share s _=>1≤s∧s≤1000
 | .cheap n=>2≤n∧n≤20
 | .bund n p=>2≤n∧n≤20∧0≤p∧p≤1000000000000
 | .carr=>True
def ke0{z s:Int}(hz:0≤z)(h1:1≤s)(h2:s≤1000):0≤z*s/1000∧z*s/1000≤z:=by
 have a:0≤z*s:=Int.mul_nonneg hz (by omega)
 have b:z*s≤z*1000:=Int.mul_le_mul_of_nonneg_left h2 hz
 omega
def klF{q:List Int}(hn:Nn q):Le2 (U6 q.length 0) q:=by
 refine⟨by simp,fun j v w e1 e2=>?_⟩
 have:v=0:=by
  rw[Ms] at e1
  split at e1
  ·exact(Option.some.inj e1).symm
  ·cases e1
 subst this
 exact⟨Int.le_refl _,hn w (U9 e2)⟩
def kgb{a:Int}{n:Nat}{lines:List Nat}{q:List Int}(hn:Nn q)(h0:0≤a):Le2 (want (.off a) n lines q) q:=by
 have hs:=kb6 hn
 show Le2 (dl (min a q.sum) q) q
 exact dl_le hn (by omega) (by omega)
theorem keV{s:Int}{e:Bool}{n:Nat}{lines:List Nat}{q:List Int}(hn:Nn q)(h1:1≤s)(h2:s≤1000):Le2 (want (.share s e) n lines q) q:=by
 have hs:=kb6 hn
 cases e with
 |false=>
  show Le2 (dl (q.sum*s/1000) q) q
  have h:=ke0 hs h1 h2
  exact dl_le hn h.1 h.2
 |true=>
  show Le2 (gdl (fun z=>z*s/1000) (keu n lines) q) q
  exact kkz hn fun z hz=>ke0 hz h1 h2
def kfq{m p:Int}{n:Nat}{lines:List Nat}{q:List Int}(hn:Nn q)(h0:0≤p):Le2 (want (.bund m p) n lines q) q:=by
 show Le2 (gdl (fun z=>max 0 (z-p)) (grp m.toNat (ordQ q)) q) q
 exact kkz hn fun z hz=>⟨by show 0≤max 0 (z-p);omega,by show max 0 (z-p)≤z;omega⟩
def keW{m:Int}{n:Nat}{lines:List Nat}{q:List Int}(hn:Nn q):Le2 (want (.cheap m) n lines q) q:=by
 show Le2 (spr q.length _ (qs q _)) q
 exact kfu hn (Le2.self (qs_nn hn _))
def kfp{n:Nat}{lines:List Nat}{q:List Int}(hn:Nn q):Le2 (want .carr n lines q) q:=klF hn
theorem khL{so:Srt}{n:Nat}{lines:List Nat}{q:List Int}(hn:Nn q)(ho:SrtOk so):Le2 (want so n lines q) q:=by
 cases so with
 |off a=>exact kgb hn ho.1
 |share s e=>exact keV hn ho.1 ho.2
 |cheap m=>exact keW hn
 |bund m p=>exact kfq hn ho.2.2.1
 |carr=>exact kfp hn
noncomputable def cap(most:Option Int)(w:List Int)(f:Int):List Int×Int:=match most with
 |none=>(w,f)
 |some m=>if m<w.sum+f then(dl (min m w.sum) w,min f m) else(w,f)
theorem kl3{most:Option Int}{w q:List Int}{f cg:Int}(h:Le2 w q)(hf:0≤f∧f≤cg)(hm:∀m,most=some m→0≤m):Le2 (cap most w f).1 q∧0≤(cap most w f).2∧(cap most w f).2≤cg:=by
 unfold cap
 cases most with
 |none=>exact⟨h,hf⟩
 |some m=>
  have h0:=hm m rfl
  have hs:=kb6 h.nn
  simp only
  split
  ·exact⟨(dl_le h.nn (by omega) (by omega)).trans h,by simp only;omega,by simp only;omega⟩
  ·exact⟨h,hf⟩
noncomputable def cutM(V:Vch)(ps:List (Option Nat))(kk:List Nat)(S:Stnd):List Int×Int:=
 let is:=abt ps kk V.ms.kind V.ms.lone S
 let c:=cap V.ms.most (want V.so S.mkd.length (is.map fun i=>S.ow.getD i 0) (qs S.pr is)) (fee V.so S.cg)
 (spr S.pr.length is c.1,c.2)
def kkF{V:Vch}{ps:List (Option Nat)}{kk:List Nat}{S:Stnd}(hn:Nn S.pr)(hc:0≤S.cg)(ho:SrtOk V.so)(hm:∀m,V.ms.most=some m→0≤m):Le2 (cutM V ps kk S).1 S.pr∧0≤(cutM V ps kk S).2∧(cutM V ps kk S).2≤S.cg:=by
 have hf:0≤fee V.so S.cg∧fee V.so S.cg≤S.cg:=by
  unfold fee
  split <;> omega
 have h:=kl3 (most:=V.ms.most) (khL (n:=S.mkd.length) (lines:=(abt ps kk V.ms.kind V.ms.lone S).map fun i=>S.ow.getD i 0) (qs_nn hn (abt ps kk V.ms.kind V.ms.lone S)) ho) hf hm
 exact⟨kfu hn h.1,h.2⟩
noncomputable def kdb(ow:List Nat)(c:List Int)(l:Nat):Bool:=(U5 ow.length).any fun i=>ow.getD i 0==l&&decide (0<c.getD i 0)
noncomputable def aftM(V:Vch)(ps:List (Option Nat))(kk:List Nat)(S:Stnd):Stnd:=
 ⟨S.ow,JJ (· - ·) S.pr (cutM V ps kk S).1,S.cg-(cutM V ps kk S).2,(U5 S.mkd.length).map fun l=>S.mkd.getD l false||(V.ms.lone&&kdb S.ow (cutM V ps kk S).1 l)⟩
def kl5{V:Vch}{ps:List (Option Nat)}{kk:List Nat}{S:Stnd}(hn:Nn S.pr)(hc:0≤S.cg)(ho:SrtOk V.so)(hm:∀m,V.ms.most=some m→0≤m):Le2 (aftM V ps kk S).pr S.pr∧0≤(aftM V ps kk S).cg∧(aftM V ps kk S).cg≤S.cg:=by
 have h:=kkF (ps:=ps) (kk:=kk) hn hc ho hm
 refine⟨⟨?_,fun j v w e1 e2=>?_⟩,?_,?_⟩
 ·show(JJ _ _ _).length=_
  rw[Md,h.1.1]
  omega
 ·have hj:j<S.pr.length:=(Ja.mp e2).1
  have hj2:j<(cutM V ps kk S).1.length:=by rw[h.1.1];exact hj
  have e3:(cutM V ps kk S).1[j]?=some ((cutM V ps kk S).1[j]):=by simp[hj2]
  have b:=h.1.2 j _ w e3 e2
  have e4:(JJ (· - ·) S.pr (cutM V ps kk S).1)[j]?=some (w-(cutM V ps kk S).1[j]):=by
   rw[Me,e2,e3]
  have e1':(JJ (· - ·) S.pr (cutM V ps kk S).1)[j]?=some v:=e1
  rw[e4] at e1'
  cases e1'
  omega
 ·show 0≤S.cg-_
  have:=h.2
  omega
 ·show S.cg-_≤S.cg
  have:=h.2
  omega
end Vs
namespace Vs
open Kin Deal
structure Sel (q:List Int) (row left:List Nat):Prop where
 pm:(row++left).Perm (U5 q.length)
 inc:left.Pairwise (· < ·)
 pw:row.Pairwise (bef q)
 cr:∀r∈row,∀l∈left,bef q r l
def Sel.start(q:List Int):Sel q [] (U5 q.length):=⟨NM.refl _,MA, .nil,fun r hr=>by simp at hr⟩
def Sel.lt{q:List Int}{row left:List Nat}(h:Sel q row left){i:Nat}(hi:i∈left):i<q.length:=by
 have:=h.pm.mem_iff.mp (JF row hi)
 simpa using this
def Sel.len{q:List Int}{row left:List Nat}(h:Sel q row left):row.length+left.length=q.length:=by
 have:=h.pm.length_eq
 simpa using this
def Sel.fin{q:List Int}{row:List Nat}(h:Sel q row []):row=ordQ q:=by
 refine kgB ⟨?_,h.pw⟩ (kd8 q)
 have:=h.pm
 rwa [J6] at this
noncomputable def TopI(q:List Int)(left:List Nat)(i top:Nat):Prop:=(∃k,left[k]?=some top∧(k<i∨k=0))∧∀y∈left.take i,y=top∨bef q top y
def TopI.start{q:List Int}{left:List Nat}{t:Nat}(h:left[0]?=some t):TopI q left 0 t:=⟨⟨0,h, .inr rfl⟩,fun y hy=>by simp at hy⟩
def TopI.more{q:List Int}{left:List Nat}{i top x:Nat}(inc:left.Pairwise (· < ·))(h:TopI q left i top)(hx:left[i]?=some x):TopI q left (i+1) (if q.getD top 0<q.getD x 0 then x else top):=by
 obtain⟨⟨k,ek,hk⟩,hy⟩:=h
 have et:left.take (i+1)=left.take i++[x]:=by rw[J0,hx];rfl
 split
 ·rename_i hlt
  refine⟨⟨i,hx, .inl (by omega)⟩,fun y hm=>?_⟩
  rw[et] at hm
  rcases JE.mp hm with h1|h1
  ·refine .inr (.inl ?_)
   rcases hy y h1 with rfl|h2
   ·exact hlt
   ·unfold bef at h2
    omega
  ·exact .inl (by simpa using h1)
 ·rename_i hge
  refine⟨⟨k,ek,by omega⟩,fun y hm=>?_⟩
  rw[et] at hm
  rcases JE.mp hm with h1|h1
  ·exact hy y h1
  ·have e:y=x:=by simpa using h1
   subst e
   by_cases hki:k=i
   ·subst hki
    rw[ek] at hx
    exact .inl (Option.some.inj hx).symm
   ·have hlt:top<y:=by
     obtain⟨l1,q1⟩:=Ja.mp ek
     obtain⟨l2,q2⟩:=Ja.mp hx
     have:=Nq.mp inc k i l1 l2 (by omega)
     rwa [q1,q2] at this
    refine .inr ?_
    unfold bef
    omega
def Sel.step{q:List Int}{row left:List Nat}{top:Nat}(h:Sel q row left)(ht:TopI q left left.length top):Sel q (row++[top]) (left.erase top)∧top∈left:=by
 obtain⟨⟨k,ek,_⟩,hy⟩:=ht
 have hm:=U9 ek
 rw[JB] at hy
 have nd:left.Nodup:=h.inc.imp fun hlt=>Js hlt
 refine⟨⟨?_,h.inc.sublist (List.erase_sublist),?_,?_⟩,hm⟩
 ·refine NM.trans ?_ h.pm
  rw[Nm]
  exact NM.append_left row (List.perm_cons_erase hm).symm
 ·exact List.pairwise_append.mpr ⟨h.pw,List.pairwise_singleton _ _,fun r hr t ht=>by
   have e:t=top:=by simpa using ht
   subst e
   exact h.cr r hr t hm⟩
 ·intro r hr l hl
  have hl':=(nd.mem_erase_iff).mp hl
  rcases JE.mp hr with h1|h1
  ·exact h.cr r h1 l hl'.2
  ·have e:r=top:=by simpa using h1
   subst e
   rcases hy l hl'.2 with h2|h2
   ·exact absurd h2 hl'.1
   ·exact h2
end Vs
namespace Vs
open Kin Deal
def khe{m:Nat}{r:List Nat}{i:Nat}{g:List Nat}(h:(grp m r)[i]?=some g):i*m+m≤r.length∧g.length=m∧∀j,j<m→g[j]?=r[i*m+j]?:=by
 unfold grp at h
 rw[Jb] at h
 have hi:i<r.length/m:=by
  rcases Nat.lt_or_ge i (r.length/m) with q|q
  ·exact q
  ·rw[MB (by simpa using q)] at h
   cases h
 rw[Mf hi] at h
 cases h
 have hle:i*m+m≤r.length:=by
  have h1:(i+1)*m≤r.length/m*m:=Nat.mul_le_mul_right m hi
  have h2:=Nat.div_mul_le_self r.length m
  rw[Nat.add_mul,Nat.one_mul] at h1
  omega
 refine⟨hle,by rw[Jg,JW];omega,fun j hj=>?_⟩
 rw[MO hj,List.getElem?_drop]
theorem kgy{m:Nat}{r:List Nat}{i:Nat}{g:List Nat}(hm:0<m)(h:(grp m r)[i]?=some g):r[i*m+(m-1)]?=some (g.getLastD 0):=by
 obtain⟨hle,hl,hg⟩:=khe h
 rw[←hg (m-1) (by omega)]
 cases g with
 |nil=>simp at hl;omega
 |cons x xs=>
  have e:(x::xs).getLastD 0=(x::xs).getLast (by simp):=by simp[List.getLastD]
  rw[e,List.getLast_eq_getElem,Ja]
  refine⟨by omega,?_⟩
  congr 1
  omega
def khb{gs:List (List Nat)}{i:Nat}{g:List Nat}(h:gs[i]?=some g):(lasts gs)[i]?=some (g.getLastD 0):=by
 unfold lasts
 rw[Jb,h]
 rfl
def kc9(gs:List (List Nat)):(lasts gs).length=gs.length:=by simp[lasts]
def kgx{m:Nat}{r:List Nat}(hm:0<m)(hr:r.Nodup):(lasts (grp m r)).Nodup:=by
 refine Nq.mpr fun i j hi hj hij e=>?_
 rw[kc9] at hi hj
 have e1:(grp m r)[i]?=some (grp m r)[i]:=by simp[hi]
 have e2:(grp m r)[j]?=some (grp m r)[j]:=by simp[hj]
 have a1:=kgy hm e1
 have a2:=kgy hm e2
 have b1:=khb e1
 have b2:=khb e2
 obtain⟨_,c1⟩:=Ja.mp b1
 obtain⟨_,c2⟩:=Ja.mp b2
 rw[c1,c2] at e
 rw[e] at a1
 obtain⟨l1,d1⟩:=Ja.mp a1
 obtain⟨l2,d2⟩:=Ja.mp a2
 have hlt:i*m+(m-1)<j*m+(m-1):=by
  have:=Nat.mul_lt_mul_of_pos_right hij hm
  omega
 exact Nq.mp hr _ _ l1 l2 hlt (by rw[d1,d2])
def kk6{q:List Int}{i:Nat}(h:i∈ordQ q):i<q.length:=by
 have:=(kcZ q).mem_iff.mp h
 simpa using this
end Vs
namespace Vs
open Kin Deal
def kjr{n:Nat}{is:List Nat}{vs:List Int}{i:Nat}{v:Int}(hl:is.length=vs.length)(hn:(is++[i]).Nodup)(hi:i<n):(spr n is vs).set i v=spr n (is++[i]) (vs++[v]):=by
 have h:=kkP (n:=n) (is:=is++[i]) (vs:=vs++[v]) hn (k:=is.length) (i:=i) (v:=v) (by simp) (by rw[hl];simp) hi
 rw[List.take_left' rfl,List.take_left' hl.symm,J7 (by simp),J7 (by simp[hl])] at h
 exact h
def kdX{gs:List (List Nat)}(h:gs.flatten.Nodup){i k a:Nat}{g:List Nat}(hg:gs[i]?=some g)(hk:g[k]?=some a):((gs.take i).flatten++g.take k++[a]).Nodup:=by
 have e:gs=gs.take i++g::gs.drop (i+1):=by
  obtain⟨hi,eg⟩:=Ja.mp hg
  rw[←eg,MY hi,MC]
 have e2:g=(g.take k++[a])++g.drop (k+1):=by
  obtain⟨hk',ek⟩:=Ja.mp hk
  rw[Nm,List.singleton_append,←ek,MY hk',MC]
 rw[e,N9,Jy] at h
 rw[Nm]
 refine h.sublist (List.Sublist.append_left ?_ _)
 refine List.Sublist.trans ?_ (MZ g _)
 conv=>rhs;rw[e2]
 exact MZ _ _
theorem kjV{m:Nat}(r:List Nat):(grp m r).flatten=r.take (r.length/m*m):=by
 unfold grp
 have hle:r.length/m*m≤r.length:=Nat.div_mul_le_self _ _
 generalize r.length/m=c at *
 induction c with
 |zero=>simp
 |succ c ih=>
  have h1:c*m+m≤r.length:=by rw[←Nat.succ_mul];exact hle
  rw[JO,Jc,N9,ih (by omega)]
  simp only[Ji,Nl,Jy,List.flatten_nil,J6]
  rw[show(c+1)*m=c*m+m by rw[Nat.add_mul,Nat.one_mul],List.take_add]
def kiV{m:Nat}{r:List Nat}(h:r.Nodup):(grp m r).flatten.Nodup:=by
 rw[kjV]
 exact h.sublist (List.take_sublist _ _)
end Vs
namespace Vs
open Kin Deal
theorem kcK{is:List Nat}(hn:is.Nodup){k i:Nat}(hk:is[k]?=some i):∀(l:List (Nat×Int)),(∀p∈l,p.1<is.length)→(l.map fun p=>(is.getD p.1 0,p.2)).lookup i=l.lookup k
 |[],_=>rfl
 | (j,v)::l,h=>by
  have ih:=kcK hn hk l fun p hp=>h p (Jo _ hp)
  have hj:j<is.length:=h (j,v) Jt
  obtain⟨hk',ek⟩:=Ja.mp hk
  have e:is.getD j 0=is[j]:=by rw[Jn];simp[hj]
  simp only[Ji,JA,e]
  by_cases q:k=j
  ·subst q
   simp[ek]
  ·have h1:(k==j)=false:=by simp[q]
   have h2:(i==is[j])=false:=by
    refine beq_eq_false_iff_ne.mpr fun z=>q ?_
    exact(List.getElem_inj hn).mp (by rw[ek,z])
   rw[h1,h2]
   exact ih
theorem lookup_none{is:List Nat}{i:Nat}(hi:∀k:Nat,is[k]?≠some i):∀(l:List (Nat×Int)),(∀p∈l,p.1<is.length)→(l.map fun p=>(is.getD p.1 0,p.2)).lookup i=none
 |[],_=>rfl
 |(j,v)::l,h=>by
  have ih:=lookup_none hi l fun p hp=>h p (Jo _ hp)
  have hj:j<is.length:=h (j,v) Jt
  have e:is.getD j 0=is[j]:=by rw[Jn];simp[hj]
  have h2:(i==is[j])=false:=beq_eq_false_iff_ne.mpr fun z=>hi j (by rw[z];simp[hj])
  simp only[Ji,JA,e,h2]
  exact ih
theorem kej{is:List Nat}(hn:is.Nodup){k i:Nat}(hk:is[k]?=some i):∀{vs:List Int},is.length=vs.length→(is.zip vs).lookup i=vs[k]?:=by
 induction is generalizing k with
 |nil=>simp at hk
 | cons a is ih=>
  intro vs hl
  cases vs with
  |nil=>simp at hl
  | cons v vs=>
   rw[List.zip_cons_cons,JA]
   cases k with
   |zero=>
    have:a=i:=by simpa using hk
    subst this
    simp
   |succ k=>
    have hk':is[k]?=some i:=by simpa using hk
    have hh:=JT.mp hn
    have hne:(i==a)=false:=beq_eq_false_iff_ne.mpr fun z=>hh.1 (z▸U9 hk')
    rw[hne]
    simpa using ih hh.2 hk' (by simpa using hl)
def kgc{n:Nat}{is js:List Nat}{vs:List Int}(hn:is.Nodup)(hj:∀j∈js,j<is.length):spr n is (spr is.length js vs)=spr n (js.map fun j=>is.getD j 0) vs:=by
 apply Nh
 ·simp[spr]
 intro i h1 h2
 have ez:(js.map fun j=>is.getD j 0).zip vs=(js.zip vs).map fun p=>(is.getD p.1 0,p.2):=by rw[List.zip_map_left];rfl
 have hp:∀p∈js.zip vs,p.1<is.length:=fun p hp=>hj _ (Nb hp).1
 simp only[spr,NJ,Mb]
 rw[ez]
 by_cases hk:∃k:Nat,is[k]?=some i
 ·obtain⟨k,hk⟩:=hk
  have hkl:=(Ja.mp hk).1
  rw[kcK hn hk _ hp,kej hn hk (by simp)]
  simp[hkl]
 ·rw[lookup_none (fun k e=>hk ⟨k,e⟩) _ hp]
  have:((is.zip ((U5 is.length).map fun i=>((js.zip vs).lookup i).getD 0)).lookup i)=none:=by
   rw[List.lookup_eq_none_iff]
   intro p hp'
   have:=(Nb hp').1
   obtain⟨k,ek⟩:=Nr.mp this
   have hne:i≠p.1:=fun z=>hk ⟨k,by rw[ek,←z]⟩
   simpa using hne
  rw[this]
noncomputable def owns(n:Nat)(ow:List Nat)(is:List Nat):List (List Nat):=(U5 n).map fun l=>is.filter fun i=>ow.getD i 0==l
def ket(n:Nat)(ow is:List Nat):(keu n (is.map fun i=>ow.getD i 0)).map (fun g=>g.map fun j=>is.getD j 0)=owns n ow is:=by
 unfold keu owns
 rw[Jm]
 refine JL fun l _=>?_
 show(((U5 _).filter _).map fun j=>is.getD j 0)=_
 have e:is=(U5 is.length).map fun j=>is.getD j 0:=by
  apply Nh
  ·simp
  ·intro j h1 h2
   simp[Jn,h1]
 conv=>rhs;rw[e]
 rw[List.filter_map,U0]
 congr 1
 refine List.filter_congr fun k hk=>?_
 have hk':k<is.length:=by simpa using hk
 simp[Jn,hk']
def qs_qs{pr:List Int}{ab g:List Nat}(h:∀j∈g,j<ab.length):qs (qs pr ab) g=qs pr (g.map fun j=>ab.getD j 0):=by
 unfold qs
 rw[Jm]
 refine JL fun j hj=>?_
 have:=h j hj
 simp[Jn,this]
def kf2{n:Nat}{lines:List Nat}{g:List Nat}(hg:g∈keu n lines){j:Nat}(hj:j∈g):j<lines.length:=by
 obtain⟨l,_,rfl⟩:=Jp.mp hg
 have:=(JM.mp hj).1
 simpa using this
def kgF{n N:Nat}{ow ab:List Nat}{pr:List Int}(cut:Int→Int)(hn:ab.Nodup):spr n ab (gdl cut (keu N (ab.map fun i=>ow.getD i 0)) (qs pr ab))=spr n (owns N ow ab).flatten ((owns N ow ab).map fun o=>dl (cut (qs pr o).sum) (qs pr o)).flatten:=by
 unfold gdl
 rw[kbS,kgc hn fun j hj=>?_,List.map_flatten,ket]
 ·congr 2
  rw[←ket,Jm]
  refine JL fun g hg=>?_
  have e:=qs_qs (pr:=pr) (ab:=ab) (g:=g) fun j hj=>by simpa using kf2 hg hj
  show dl (cut (qs (qs pr ab) g).sum) (qs (qs pr ab) g)=dl (cut (qs pr (g.map fun j=>ab.getD j 0)).sum) (qs pr (g.map fun j=>ab.getD j 0))
  rw[e]
 ·obtain⟨g,hg,hj'⟩:=J9.mp hj
  simpa using kf2 hg hj'
end Vs
namespace Vs
open Kin Deal
section
variable {p:Nat→Bool} {n:Nat} {w:List Int}
noncomputable def cnt(p:Nat→Bool)(j:Nat):Nat:=((U5 j).filter p).length
theorem ki9{j:Nat}(h:p j=true):cnt p (j+1)=cnt p j+1:=by
 unfold cnt
 rw[JO,Nt,Jh]
 simp[h]
theorem kkH{j:Nat}(h:p j=false):cnt p (j+1)=cnt p j:=by
 unfold cnt
 rw[JO,Nt,Jh]
 simp[h]
theorem kcB:∀{n j:Nat},j<n→p j=true→((U5 n).filter p)[cnt p j]?=some j
 |0,j,h,_=>by omega
 | n+1,j,h,hp=>by
  rw[JO,Nt]
  by_cases hj:j<n
  ·have ih:=kcB hj hp
   rw[NF (Ja.mp ih).1]
   exact ih
  ·have e:j=n:=by omega
   subst e
   unfold cnt
   rw[Nw (U2 _)]
   simp[hp]
theorem kkd(hl:w.length=cnt p n){j:Nat}(hj:j<n):(spr n ((U5 n).filter p) w)[j]?=some (if p j=true then w.getD (cnt p j) 0 else 0):=by
 unfold spr
 rw[Jb,Mf hj]
 show some _=some _
 congr 1
 show(JR j (((U5 n).filter p).zip w)).getD 0=_
 cases hp:p j with
 |true=>
  rw[kej (Ny.filter _ Ma) (kcB hj hp) hl.symm,if_pos rfl,Jn]
 | false=>
  rw[if_neg U8]
  cases e:(((U5 n).filter p).zip w).lookup j with
  |none=>rw[Mt]
  |some v=>
   obtain⟨k,hk,_⟩:=kdt e
   have:=(JM.mp (U9 hk)).2
   rw[hp] at this
   cases this
theorem ke6(hl:w.length=cnt p n):∀j,j≤n→pre (spr n ((U5 n).filter p) w) j=pre w (cnt p j)
 |0,_=>by simp[pre,cnt]
 | j+1,h=>by
  have ih:=ke6 hl j (by omega)
  rw[kdS (kkd hl (show j<n by omega)),ih]
  cases hp:p j with
  |true=>
   have hk:=(Ja.mp (kcB (show j<n by omega) hp)).1
   have hk':cnt p j<w.length:=by rw[hl];exact hk
   rw[if_pos rfl,ki9 hp,kdS (w:=w.getD (cnt p j) 0) (by rw[Jn,JZ hk'];rfl)]
  |false=>rw[if_neg U8,kkH hp,Int.add_zero]
theorem khR(hl:w.length=cnt p n):(spr n ((U5 n).filter p) w).sum=w.sum:=by
 have h:=ke6 hl n (U2 _)
 rw[←hl,kim] at h
 have e:pre (spr n ((U5 n).filter p) w) n=(spr n ((U5 n).filter p) w).sum:=by
  have:=kim (spr n ((U5 n).filter p) w)
  rw[kcL] at this
  exact this
 rw[←e,h]
theorem kl0(m:Int)(hl:w.length=cnt p n):dl m (spr n ((U5 n).filter p) w)=spr n ((U5 n).filter p) (dl m w):=by
 have hl2:(dl m w).length=cnt p n:=by rw[keS,hl]
 have hs:=khR hl
 apply List.ext_getElem?
 intro j
 by_cases hj:j<n
 ·rw[kkd hl2 hj]
  have hjF:j<(spr n ((U5 n).filter p) w).length:=by rw[kcL];exact hj
  by_cases h0:w.sum=0
  ·rw[ki2 (hs.trans h0) hjF]
   cases hp:p j with
   |false=>rw[if_neg U8]
   |true=>
    have hk:=(Ja.mp (kcB hj hp)).1
    rw[if_pos rfl,Jn,ki2 h0 (by rw[hl];exact hk)]
    rfl
  ·rw[dl_at (by rw[hs];exact h0) hjF]
   unfold part
   rw[hs,ke6 hl j (by omega),ke6 hl (j+1) (by omega)]
   cases hp:p j with
   |false=>rw[if_neg U8,kkH hp,Int.sub_self]
   |true=>
    have hk:=(Ja.mp (kcB hj hp)).1
    rw[if_pos rfl,Jn,dl_at h0 (by rw[hl];exact hk),ki9 hp]
    rfl
 ·rw[MB (by rw[keS,kcL];omega),MB (by rw[kcL];omega)]
end
def klp{c:Int}{n:Nat}:dl c (U6 n 0)=U6 n 0:=by
 have e:(U6 n (0:Int)).sum=0:=by simp
 unfold dl
 rw[if_pos e]
 simp
theorem kj3{V:Vch}{ps:List (Option Nat)}{kk:List Nat}{S:Stnd}(e:V.ms.most=none):
  (cutM V ps kk S).1=spr S.pr.length (abt ps kk V.ms.kind V.ms.lone S) (want V.so S.mkd.length ((abt ps kk V.ms.kind V.ms.lone S).map fun i=>S.ow.getD i 0) (qs S.pr (abt ps kk V.ms.kind V.ms.lone S))):=by
 unfold cutM cap
 rw[e]
theorem kj2{V:Vch}{ps:List (Option Nat)}{kk:List Nat}{S:Stnd}(hl:S.pr.length=S.ow.length)
  (hw:Le2 (want V.so S.mkd.length ((abt ps kk V.ms.kind V.ms.lone S).map fun i=>S.ow.getD i 0) (qs S.pr (abt ps kk V.ms.kind V.ms.lone S))) (qs S.pr (abt ps kk V.ms.kind V.ms.lone S))) {m:Int} (e:V.ms.most=some m) (h0:0≤m):
  (cutM V ps kk S).1=if(spr S.pr.length (abt ps kk V.ms.kind V.ms.lone S) (want V.so S.mkd.length ((abt ps kk V.ms.kind V.ms.lone S).map fun i=>S.ow.getD i 0) (qs S.pr (abt ps kk V.ms.kind V.ms.lone S)))).sum > m
   then dl m (spr S.pr.length (abt ps kk V.ms.kind V.ms.lone S) (want V.so S.mkd.length ((abt ps kk V.ms.kind V.ms.lone S).map fun i=>S.ow.getD i 0) (qs S.pr (abt ps kk V.ms.kind V.ms.lone S))))
   else spr S.pr.length (abt ps kk V.ms.kind V.ms.lone S) (want V.so S.mkd.length ((abt ps kk V.ms.kind V.ms.lone S).map fun i=>S.ow.getD i 0) (qs S.pr (abt ps kk V.ms.kind V.ms.lone S))):=by
 have hwl:=hw.1
 rw[kbS] at hwl
 have ea:abt ps kk V.ms.kind V.ms.lone S=(U5 S.pr.length).filter fun i=>hits ps kk V.ms.kind V.ms.lone S.mkd (S.ow.getD i 0):=by rw[hl];rfl
 have ez:V.so=.carr→(want V.so S.mkd.length ((abt ps kk V.ms.kind V.ms.lone S).map fun i=>S.ow.getD i 0) (qs S.pr (abt ps kk V.ms.kind V.ms.lone S)))=U6 (qs S.pr (abt ps kk V.ms.kind V.ms.lone S)).length 0:=fun z=>by rw[z];rfl
 unfold cutM cap
 rw[e]
 simp only
 generalize want V.so S.mkd.length ((abt ps kk V.ms.kind V.ms.lone S).map fun i=>S.ow.getD i 0) (qs S.pr (abt ps kk V.ms.kind V.ms.lone S))=w at *
 rw[ea] at hwl⊢
 rw[khR hwl,kl0 m hwl]
 by_cases hc:V.so=.carr
 ·have hz:=ez hc
  have hs:w.sum=0:=by rw[hz];simp
  rw[if_neg (by omega:¬w.sum > m)]
  split
  ·simp only
   rw[hz,klp]
  ·rfl
 ·have hf:fee V.so S.cg=0:=by
   unfold fee
   split
   ·rename_i z
    exact absurd z hc
   ·rfl
  rw[hf,Int.add_zero]
  by_cases hm:m<w.sum
  ·rw[if_pos hm,if_pos hm]
   simp only
   rw[Int.min_eq_left (by omega)]
  ·rw[if_neg hm,if_neg hm]
end Vs
namespace Vs
open Kin Deal
noncomputable def ins:List (Nat×List Nat)→Nat→Nat→List (Nat×List Nat)
 |[],o,a=>[(o,[a])]
 |(l,g)::G,o,a=>if l=o then(l,g++[a])::G else(l,g)::ins G o a
noncomputable def parted(f:Nat→Nat)(is:List Nat):List (Nat×List Nat):=is.foldl (fun G a=>ins G (f a) a) []
def kd7(f:Nat→Nat)(is:List Nat)(a:Nat):parted f (is++[a])=ins (parted f is) (f a) a:=by
 unfold parted
 rw[List.foldl_append]
 rfl
theorem kdU:∀(G:List (Nat×List Nat))(o a:Nat),(ins G o a).map Prod.fst=if o∈G.map Prod.fst then G.map Prod.fst else G.map Prod.fst++[o]
 |[],o,a=>by simp[ins]
 | (l,g)::G,o,a=>by
  unfold ins
  by_cases h:l=o
  ·subst h
   simp
  ·rw[if_neg h,Ji,kdU G o a]
   show _=if o∈l::G.map Prod.fst then l::G.map Prod.fst else(l::G.map Prod.fst)++[o]
   have h':¬o=l:=fun z=>h z.symm
   by_cases hm:o∈G.map Prod.fst
   ·rw[if_pos hm,if_pos (Jo _ hm)]
   ·rw[if_neg hm,if_neg (by rw[Jr,not_or];exact⟨h',hm⟩)]
    rfl
theorem kiR:∀{G:List (Nat×List Nat)}{o a l:Nat}{g:List Nat},(G.map Prod.fst).Nodup→(l,g)∈ins G o a→(l≠o∧(l,g)∈G)∨(l=o∧((∃g',(o,g')∈G∧g=g'++[a])∨(o∉G.map Prod.fst∧g=[a])))
 |[],o,a,l,g,_,h=>by
  unfold ins at h
  rw[JU] at h
  cases h
  exact .inr ⟨rfl, .inr ⟨by simp,rfl⟩⟩
 | (k,g0)::G,o,a,l,g,hn,h=>by
  unfold ins at h
  rw[Ji,JT] at hn
  by_cases e:k=o
  ·rw[if_pos e] at h
   subst e
   rcases Jr.mp h with z|z
   ·cases z
    exact .inr ⟨rfl, .inl ⟨g0,Jt,rfl⟩⟩
   ·refine .inl ⟨fun w=>?_,Jo _ z⟩
    subst w
    exact hn.1 (Jp.mpr ⟨(l,g),z,rfl⟩)
  ·rw[if_neg e] at h
   rcases Jr.mp h with z|z
   ·cases z
    exact .inl ⟨e,Jt⟩
   ·rcases kiR hn.2 z with⟨w1,w2⟩|⟨w1,⟨g',w2,w3⟩|⟨w2,w3⟩⟩
    ·exact .inl ⟨w1,Jo _ w2⟩
    ·exact .inr ⟨w1, .inl ⟨g',Jo _ w2,w3⟩⟩
    ·refine .inr ⟨w1, .inr ⟨?_,w3⟩⟩
     rw[Ji,Jr,not_or]
     exact⟨fun z=>e z.symm,w2⟩
structure PtOk (f:Nat→Nat) (is:List Nat) (G:List (Nat×List Nat)):Prop where
 nd:(G.map Prod.fst).Nodup
 gs:∀l g,(l,g)∈G→g=is.filter fun i=>f i==l
 all:∀i∈is,f i∈G.map Prod.fst
theorem keL(f:Nat→Nat):∀(n:Nat)(is:List Nat),is.length=n→PtOk f is (parted f is)
 |0,is,h=>by
  have e:is=[]:=List.eq_nil_of_length_eq_zero h
  subst e
  exact⟨by simp[parted],fun l g hg=>by simp[parted] at hg,fun i hi=>by simp at hi⟩
 | n +1,is,h=>by
  have hne:is≠[]:=by
   intro z
   subst z
   cases h
  obtain⟨is',a,rfl⟩:∃is' a,is=is'++[a]:=⟨is.dropLast,is.getLast hne,(List.dropLast_concat_getLast hne).symm⟩
  have ih:=keL f n is' (by simpa using h)
  rw[kd7]
  refine⟨?_,fun l g hg=>?_,fun i hi=>?_⟩
  ·rw[kdU]
   split
   ·exact ih.nd
   ·rename_i hm
    exact N8.mpr ⟨ih.nd,by simp,fun x hx y hy=>by
     rw[JU] at hy
     subst hy
     exact fun z=>hm (by rw[←z];exact hx)⟩
  ·rw[Nt]
   rcases kiR ih.nd hg with⟨w1,w2⟩|⟨w1,⟨g',w2,w3⟩|⟨w2,w3⟩⟩
   ·rw[ih.gs l g w2]
    have:(f a==l)=false:=by simpa using fun z=>w1 z.symm
    simp[this]
   ·subst w1 w3
    rw[ih.gs _ g' w2]
    simp
   ·subst w1 w3
    have e:is'.filter (fun i=>f i==f a)=[]:=by
     rw[List.filter_eq_nil_iff]
     intro i hi z
     have z':f i=f a:=by simpa using z
     exact w2 (by rw[←z'];exact ih.all i hi)
    rw[e]
    simp
  ·rw[kdU]
   rcases JE.mp hi with hi|hi
   ·have:=ih.all i hi
    split
    ·exact this
    ·exact Ml _ this
   ·rw[JU] at hi
    subst hi
    split
    ·assumption
    ·exact JF _ (by simp)
def kcx(f:Nat→Nat)(is:List Nat):PtOk f is (parted f is):=keL f is.length is rfl
def PtOk.snds{f:Nat→Nat}{is:List Nat}{G:List (Nat×List Nat)}(h:PtOk f is G):G.map Prod.snd=(G.map Prod.fst).map fun l=>is.filter fun i=>f i==l:=by
 rw[Jm]
 refine JL fun p hp=>?_
 exact h.gs p.1 p.2 hp
theorem khD{l l':List (Nat×Int)}{i:Nat}:(l++l').lookup i=(l.lookup i).or (l'.lookup i):=by
 induction l with
 |nil=>simp
 |cons p l ih=>
  obtain⟨a,b⟩:=p
  rw[N7,JA,JA,ih]
  split <;> rfl
theorem keP{l:List (Nat×Int)}{i:Nat}(h:∀p∈l,p.1≠i):l.lookup i=none:=by
 induction l with
 |nil=>rfl
 | cons p l ih=>
  obtain⟨a,b⟩:=p
  have h1:(i==a)=false:=by
   have:=h (a,b) Jt
   simpa using fun z=>this z.symm
  rw[JA,h1]
  exact ih fun q hq=>h q (Jo _ hq)
section
variable {f:Nat→Nat} {is:List Nat} {D:List Nat→List Int}
theorem kkK{l i:Nat}{vs:List Int}(h:f i≠l):((is.filter fun i=>f i==l).zip vs).lookup i=none:=
 keP fun p hp=>by
  have h1:=(Nb (show(p.1,p.2)∈_ from hp)).1
  have h2:f p.1=l:=by simpa using(JM.mp h1).2
  intro z
  rw[z] at h2
  exact h h2
theorem kdz(hD:∀g,(D g).length=g.length)(i:Nat):∀(ks:List Nat),ks.Nodup→
  (((ks.map fun l=>is.filter fun i=>f i==l).flatten).zip ((ks.map fun l=>D (is.filter fun i=>f i==l)).flatten)).lookup i=if f i∈ks then((is.filter fun j=>f j==f i).zip (D (is.filter fun j=>f j==f i))).lookup i else none
 |[],_=>by simp
 | l::ks,hn=>by
  rw[JT] at hn
  have ih:=kdz hD i ks hn.2
  rw[Ji,Ji,Jy,Jy,List.zip_append (hD _).symm,khD,ih]
  by_cases h:f i=l
  ·subst h
   rw[if_neg hn.1,if_pos Jt,Option.or_none]
  ·rw[kkK h,Option.none_or]
   by_cases hm:f i∈ks
   ·rw[if_pos hm,if_pos (Jo _ hm)]
   ·rw[if_neg hm,if_neg (by rw[Jr,not_or];exact⟨h,hm⟩)]
theorem khx(hD:∀g,(D g).length=g.length){n:Nat}{ks ks':List Nat}(hn:ks.Nodup)(hn':ks'.Nodup)(h:∀i∈is,f i∈ks)(h':∀i∈is,f i∈ks'):
  spr n (ks.map fun l=>is.filter fun i=>f i==l).flatten (ks.map fun l=>D (is.filter fun i=>f i==l)).flatten=spr n (ks'.map fun l=>is.filter fun i=>f i==l).flatten (ks'.map fun l=>D (is.filter fun i=>f i==l)).flatten:=by
 unfold spr
 refine JL fun i _=>?_
 have key:∀ks:List Nat,ks.Nodup→(∀i∈is,f i∈ks)→(((ks.map fun l=>is.filter fun i=>f i==l).flatten).zip ((ks.map fun l=>D (is.filter fun i=>f i==l)).flatten)).lookup i=((is.filter fun j=>f j==f i).zip (D (is.filter fun j=>f j==f i))).lookup i:=fun ks hn hk=>by
  rw[kdz hD i ks hn]
  by_cases hm:f i∈ks
  ·rw[if_pos hm]
  ·rw[if_neg hm,keP fun p hp=>?_]
   have h1:=(Nb (show(p.1,p.2)∈_ from hp)).1
   obtain⟨h2,h3⟩:=JM.mp h1
   exact fun _=>hm (by rw[←(show f p.1=f i by simpa using h3)];exact hk _ h2)
 rw[key ks hn h,key ks' hn' h']
theorem kd6(hi:is.Nodup):∀{ks:List Nat},ks.Nodup→(ks.map fun l=>is.filter fun i=>f i==l).flatten.Nodup
 |[],_=>by simp
 |l::ks,hn=>by
  rw[JT] at hn
  rw[Ji,Jy]
  refine N8.mpr ⟨hi.filter _,kd6 hi hn.2,fun x hx y hy z=>?_⟩
  subst z
  have h1:f x=l:=by simpa using(JM.mp hx).2
  obtain⟨g,hg,hy⟩:=J9.mp hy
  obtain⟨l',hl',rfl⟩:=Jp.mp hg
  have h2:f x=l':=by simpa using(JM.mp hy).2
  exact hn.1 (by rw[←h1,h2];exact hl')
end
theorem khy{n N:Nat}{ow ab:List Nat}{pr:List Int}(cut:Int→Int)(hn:ab.Nodup)(hN:∀i∈ab,ow.getD i 0<N):
  spr n ((parted (fun i=>ow.getD i 0) ab).map Prod.snd).flatten (((parted (fun i=>ow.getD i 0) ab).map Prod.snd).map fun g=>dl (cut (qs pr g).sum) (qs pr g)).flatten=spr n ab (gdl cut (keu N (ab.map fun i=>ow.getD i 0)) (qs pr ab)):=by
 have ok:=kcx (fun i=>ow.getD i 0) ab
 rw[kgF cut hn,ok.snds]
 generalize hks:(parted (fun i=>ow.getD i 0) ab).map Prod.fst=ks at *
 have nd:ks.Nodup:=by rw[←hks];exact ok.nd
 have al:∀i∈ab,ow.getD i 0∈ks:=by rw[←hks];exact ok.all
 unfold owns
 rw[Jm,Jm]
 exact khx (f:=fun i=>ow.getD i 0) (is:=ab) (D:=fun g=>dl (cut (qs pr g).sum) (qs pr g)) (fun g=>by rw[keS,kbS]) nd Ma al fun i hi=>by simpa using hN i hi
def keM(f:Nat→Nat):∀(is:List Nat),(parted f is).length≤is.length:=by
 intro is
 have key:∀(is:List Nat)(G:List (Nat×List Nat)),(is.foldl (fun G a=>ins G (f a) a) G).length≤G.length+is.length:=by
  intro is
  induction is with
  |nil=>intro G;simp
  | cons a is ih=>
   intro G
   have h1:=ih (ins G (f a) a)
   have h2:(ins G (f a) a).length≤G.length+1:=by
    have:=congrArg NV (kdU G (f a) a)
    rw[U0] at this
    rw[this]
    split <;> simp
   rw[List.foldl_cons,Jw]
   omega
 simpa[parted] using key is []
end Vs
namespace Vs
open Kin Deal
noncomputable def fallP(pr:List Int)(is:List Nat):List Nat:=(ordQ (qs pr is)).map fun j=>is.getD j 0
def range_getD(is:List Nat):(U5 is.length).map (fun j=>is.getD j 0)=is:=by
 apply Nh
 ·simp
 ·intro j h1 h2
  simp[Jn,h2]
def kbm(pr:List Int)(is:List Nat):(fallP pr is).Perm is:=by
 have h:=(kcZ (qs pr is)).map fun j=>is.getD j 0
 rw[kbS,range_getD] at h
 exact h
noncomputable def befP(pr:List Int)(a b:Nat):Prop:=pr.getD b 0<pr.getD a 0∨(pr.getD a 0=pr.getD b 0∧a<b)
def kjZ{pr:List Int}{is:List Nat}(hs:is.Pairwise (· < ·)):(fallP pr is).Pairwise (befP pr):=by
 have h:=(kd8 (qs pr is)).2
 have hm:=(kd8 (qs pr is)).1
 unfold fallP
 rw[MD]
 refine h.imp_of_mem fun {a b} ha hb hab=>?_
 have la:a<is.length:=by simpa[kbS] using hm.mem_iff.mp ha
 have lb:b<is.length:=by simpa[kbS] using hm.mem_iff.mp hb
 have ea:(qs pr is).getD a 0=pr.getD (is.getD a 0) 0:=by simp[qs,Jn,la]
 have eb:(qs pr is).getD b 0=pr.getD (is.getD b 0) 0:=by simp[qs,Jn,lb]
 unfold bef at hab
 unfold befP
 rw[ea,eb] at hab
 rcases hab with z|⟨z1,z2⟩
 ·exact .inl z
 ·refine .inr ⟨z1,?_⟩
  have:=Nq.mp hs a b la lb z2
  simpa[Jn,la,lb] using this
def khG{pr:List Int}{is ks:List Nat}(hs:is.Pairwise (· < ·))(hp:ks.Perm is)(hk:ks.Pairwise (befP pr)):ks=fallP pr is:=
 kd4 (R:=befP pr) (fun a b h h'=>by unfold befP at h h';omega) (hp.trans (kbm pr is).symm) hk (kjZ hs)
def kiX(m:Nat)(f:Nat→Nat)(r:List Nat):grp m (r.map f)=(grp m r).map fun g=>g.map f:=by
 unfold grp
 rw[U0,Jm]
 refine JL fun g _=>?_
 show((r.map f).drop _).take _=((r.drop _).take _).map f
 rw[J8,NH]
def kiW{m:Nat}{r g:List Nat}(h:g∈grp m r):∀j∈g,j∈r:=fun j hj=>by
 obtain⟨i,_,rfl⟩:=Jp.mp h
 exact List.mem_of_mem_drop (ME hj)
theorem kiY{n:Nat}{ab:List Nat}{pr:List Int}(cut:Int→Int)(hn:ab.Nodup)(gs:List (List Nat))(hg:∀g∈gs,∀j∈g,j<ab.length):
  spr n ab (gdl cut gs (qs pr ab))=spr n (gs.map fun g=>g.map fun j=>ab.getD j 0).flatten ((gs.map fun g=>g.map fun j=>ab.getD j 0).map fun o=>dl (cut (qs pr o).sum) (qs pr o)).flatten:=by
 unfold gdl
 rw[kbS,kgc hn fun j hj=>?_,List.map_flatten,Jm]
 ·congr 2
  refine JL fun g hg'=>?_
  have e:=qs_qs (pr:=pr) (ab:=ab) (g:=g) (hg g hg')
  show dl (cut (qs (qs pr ab) g).sum) (qs (qs pr ab) g)=dl (cut (qs pr (g.map fun j=>ab.getD j 0)).sum) (qs pr (g.map fun j=>ab.getD j 0))
  rw[e]
 ·obtain⟨g,hg',hj'⟩:=J9.mp hj
  exact hg g hg' j hj'
def kkq{pr:List Int}{is:List Nat}{m:Nat}{g:List Nat}(h:g∈grp m (ordQ (qs pr is))):∀j∈g,j<is.length:=fun j hj=>by
 have:=kk6 (kiW h j hj)
 rwa [kbS] at this
theorem kj5{n m:Nat}{is:List Nat}{pr:List Int}(cut:Int→Int)(hn:is.Nodup):
  spr n is (gdl cut (grp m (ordQ (qs pr is))) (qs pr is))=spr n (grp m (fallP pr is)).flatten ((grp m (fallP pr is)).map fun o=>dl (cut (qs pr o).sum) (qs pr o)).flatten:=by
 rw[kiY cut hn _ fun g hg=>kkq hg]
 unfold fallP
 rw[kiX]
def kiG{f:Nat→Nat}{gs:List (List Nat)}(h:∀g∈gs,g≠[]):lasts (gs.map fun g=>g.map f)=(lasts gs).map f:=by
 unfold lasts
 rw[Jm,Jm]
 refine JL fun g hg=>?_
 show(g.map f).getLastD 0=f (g.getLastD 0)
 have hne:=h g hg
 rw[Mg,Mg,List.getLast?_map,M0 hne]
 rfl
def kl1(c:Int):dl c [c]=[c]:=by
 unfold dl
 by_cases h:[c].sum=0
 ·rw[if_pos h]
  have:c=0:=by simpa using h
  simp[this]
 ·rw[if_neg h]
  have hc:c≠0:=by simpa using h
  have e:part c [c] 0=c:=by
   unfold part pre
   simp[Int.mul_ediv_cancel _ hc]
  simp[JO,e]
theorem kib(f:Nat→Int):∀(l:List Nat),(l.map fun i=>[i]).flatten=l∧(l.map fun i=>[f i]).flatten=l.map f
 |[]=>⟨rfl,rfl⟩
 |a::l=>by
  obtain⟨h1,h2⟩:=kib f l
  simp[h1,h2]
theorem kjc{n m:Nat}{is:List Nat}{pr:List Int}(hm:0<m)(hn:is.Nodup):
  spr n is (spr (qs pr is).length (lasts (grp m (ordQ (qs pr is)))) (qs (qs pr is) (lasts (grp m (ordQ (qs pr is))))))=spr n (lasts (grp m (fallP pr is))) ((lasts (grp m (fallP pr is))).map fun i=>pr.getD i 0):=by
 have ne:∀g∈grp m (ordQ (qs pr is)),g≠[]:=fun g hg z=>by
  obtain⟨i,hi⟩:=Nr.mp hg
  have:=(khe hi).2.1
  rw[z] at this
  simp at this
  omega
 have hl:∀j∈lasts (grp m (ordQ (qs pr is))),j<is.length:=fun j hj=>by
  obtain⟨g,hg,rfl⟩:=Jp.mp hj
  refine kkq hg _ ?_
  rw[Mg,M0 (ne g hg)]
  exact List.getLast_mem _
 rw[kbS,kgc hn hl,qs_qs hl]
 have e:lasts (grp m (fallP pr is))=(lasts (grp m (ordQ (qs pr is)))).map fun j=>is.getD j 0:=by
  unfold fallP
  rw[kiX,kiG ne]
 rw[e]
 rfl
def spr_zero{n k:Nat}{is:List Nat}:spr n is (U6 k 0)=U6 n 0:=by
 unfold spr
 apply Nh
 ·simp
 ·intro j h1 h2
  simp only[NJ,Mb,List.getElem_replicate]
  cases e:(is.zip (U6 k (0:Int))).lookup j with
  |none=>rfl
  |some v=>
   obtain⟨i,_,hv⟩:=kdt e
   have:=List.eq_of_mem_replicate (U9 hv)
   rw[this]
   rfl
def keq{pr:List Int}{is:List Nat}(hn:is.Nodup):(fallP pr is).Nodup:=(kbm pr is).nodup_iff.mpr hn
def kgA(m:Nat)(r:List Nat):(grp m r).length≤r.length:=by
 unfold grp
 rw[U0,List.length_range]
 exact Nat.div_le_self _ _
end Vs
namespace Vs
open Kin Deal
structure Later (S S':Stnd):Prop where
 ow:S'.ow=S.ow
 pr:Le2 S'.pr S.pr
 cg:0≤S'.cg∧S'.cg≤S.cg
 mg:∀l,S.mkd.getD l false=true→S'.mkd.getD l false=true
def Later.refl{S:Stnd}(hn:Nn S.pr)(hc:0≤S.cg):Later S S:=⟨rfl,Le2.self hn,⟨hc,Int.le_refl _⟩,fun _ h=>h⟩
def Later.trans{S S' S'':Stnd}(h:Later S S')(h':Later S' S''):Later S S'':=⟨h'.ow.trans h.ow,h'.pr.trans h.pr,⟨h'.cg.1,Int.le_trans h'.cg.2 h.cg.2⟩,fun l e=>h'.mg l (h.mg l e)⟩
end Vs
namespace Vs
open PySem L2
noncomputable def top(i:Nat):Stmt:=PySem.Challenge.pw_voucherstack_k41_looks_basket_by_basket.main.body.getD i (.Pass ⟨0,0,0,0⟩)
noncomputable abbrev kgm:Stmt:=top 1
noncomputable abbrev kgl:Stmt:=top 3
noncomputable abbrev kbt:Stmt:=top 15
noncomputable abbrev kd3:Stmt:=top 18
noncomputable abbrev kie:Stmt:=top 19
noncomputable abbrev kcN:Stmt:=top 20
noncomputable abbrev kgn:Stmt:=top 21
noncomputable abbrev kbw:Stmt:=top 22
noncomputable abbrev kbk:Stmt:=top 23
noncomputable abbrev ka3:Stmt:=top 24
noncomputable abbrev kbv:Stmt:=top 25
noncomputable abbrev kay:Stmt:=top 26
noncomputable abbrev kbH:Stmt:=top 27
noncomputable abbrev kcc:Stmt:=top 28
noncomputable abbrev kbG:Stmt:=top 29
noncomputable abbrev kd2:Stmt:=top 30
noncomputable abbrev kbE:Stmt:=top 33
noncomputable abbrev kbW:Stmt:=top 34
noncomputable abbrev kbX:Stmt:=top 35
noncomputable abbrev kbj:Stmt:=top 36
noncomputable abbrev kcM:Stmt:=top 38
noncomputable abbrev kaT:Stmt:=top 40
noncomputable abbrev kbV:Stmt:=top 41
noncomputable abbrev kcd:Stmt:=top 42
noncomputable abbrev kce:Stmt:=top 43
noncomputable abbrev kcr:Stmt:=top 44
noncomputable abbrev kbF:Stmt:=top 45
noncomputable abbrev ka6:Stmt:=top 46
noncomputable abbrev kbu:Stmt:=top 47
noncomputable abbrev ke4:Stmt:=top 48
noncomputable abbrev kdi:Stmt:=top 52
noncomputable abbrev kcQ:Stmt:=top 53
noncomputable abbrev kbZ:Stmt:=top 54
noncomputable abbrev kct:Stmt:=top 55
noncomputable abbrev kbY:Stmt:=top 56
noncomputable abbrev kcs:Stmt:=top 57
noncomputable abbrev kcO:Stmt:=top 58
noncomputable abbrev kcP:Stmt:=top 59
noncomputable abbrev kbn:Stmt:=top 60
noncomputable abbrev kcu:Stmt:=top 61
noncomputable abbrev kdj:Stmt:=top 62
noncomputable abbrev s_law:Stmt:=top 63
noncomputable abbrev kaS:Stmt:=inClass (top 5) 0
noncomputable abbrev kaL:Stmt:=inClass (top 6) 0
noncomputable abbrev kba:Stmt:=inClass (top 7) 0
noncomputable abbrev kaR:Stmt:=inClass (top 8) 0
noncomputable abbrev kaG:Stmt:=inClass (top 9) 0
noncomputable abbrev kaN:Stmt:=inClass (top 10) 0
noncomputable abbrev kaH:Stmt:=inClass (top 11) 0
noncomputable abbrev kaZ:Stmt:=inClass (top 13) 0
noncomputable abbrev kaO:Stmt:=inClass (top 14) 0
noncomputable abbrev kbJ:Stmt:=inClass (top 16) 0
noncomputable abbrev kbx:Stmt:=inClass (top 16) 1
noncomputable abbrev kdk:Stmt:=inClass (top 32) 0
noncomputable abbrev kb0:Stmt:=inClass (top 32) 1
noncomputable abbrev kcv:Stmt:=inClass (top 32) 2
noncomputable abbrev kbf:Stmt:=inClass (top 32) 3
noncomputable abbrev kbI:Stmt:=inClass (top 32) 4
noncomputable abbrev kaY:Stmt:=inClass (top 50) 0
set_option genInjectivity false
set_option genSizeOf false
structure D where
 Xj:Addr
 Xk:FuncData
 Xl:Addr
 Xm:FuncData
 Xn:Addr
 Xo:FuncData
 Xp:Addr
 Xq:FuncData
 Xr:Addr
 Xs:FuncData
 Xu:Addr
 Xv:FuncData
 Xw:Addr
 Xx:FuncData
 Xy:Addr
 Xz:FuncData
 XA:Addr
 XB:FuncData
 XC:Addr
 XD:FuncData
 XE:Addr
 XF:FuncData
 XG:Addr
 Qy:FuncData
 XH:Addr
 XI:FuncData
 XJ:Addr
 XM:FuncData
 XO:Addr
 XQ:FuncData
 XR:Addr
 XS:FuncData
 XT:Addr
 XU:FuncData
 XW:Addr
 XX:FuncData
 XY:Addr
 XZ:FuncData
 X0:Addr
 X1:FuncData
 qK:Addr
 qL:FuncData
 X2:Addr
 Qz:FuncData
 X3:Addr
 X4:FuncData
 X5:Addr
 X6:FuncData
 X7:Addr
 X8:FuncData
 X9:Addr
 Ya:FuncData
 qZ:Addr
 q9:FuncData
 Qa:Addr
 Qb:FuncData
 Yb:Addr
 Yc:FuncData
 Yd:Addr
 Ye:FuncData
 Yf:Addr
 Yg:FuncData
 Yh:Addr
 Yi:FuncData
 Yj:Addr
 Yk:FuncData
 Yl:Addr
 Ym:FuncData
 Yn:Addr
 Yo:FuncData
 Yp:Addr
 Yq:FuncData
 Yr:Addr
 Ys:FuncData
 Yt:Addr
 Yu:FuncData
 Yv:Addr
 Yw:FuncData
 Yx:Addr
 Yy:FuncData
 Yz:Addr
 YA:FuncData
 f_law:Addr
 YB:FuncData
 qf:Addr
 YC:Addr
 qA:FuncData
 tok1_Marks_init:Nat
 qw:Addr
 QA:Addr
 QB:FuncData
 c_Off:Addr
 YD:Addr
 QC:FuncData
 qh:Addr
 YE:Addr
 Qc:FuncData
 qj:Addr
 YF:Addr
 QD:FuncData
 qi:Addr
 YG:Addr
 QE:FuncData
 qm:Addr
 YH:Addr
 QF:FuncData
 qe:Addr
 YI:Addr
 QG:FuncData
 qg:Addr
 YJ:Addr
 Qd:FuncData
 tok0_Basket_init:Nat
 qc:Addr
 YK:Addr
 YL:FuncData
 YM:Addr
 YN:FuncData
 c_Way:Addr
 YO:Addr
 YQ:FuncData
 YR:Addr
 YS:FuncData
 YT:Addr
 YU:FuncData
 YV:Addr
 YW:FuncData
 YX:Addr
 YY:FuncData
 qd:Addr
 YZ:Addr
 QH:FuncData
 tok0_Till_init:Nat
 cc_falling_groups:Addr
 tP_falling_groups:Addr
 cc_first_use:Addr
 tP_first_use:Addr
structure Wld (K:U1) (mg:Str→Option Value) (d:D):Prop where
 B:TxtB mg
 QI:Dn K mg "dealt" kgm ["cut","weights"] d.Xj d.Xk
 Y0:Dn K mg "under" kgl ["parents","one","other"] d.Xl d.Xm
 Y1:Dn K mg "price_of_piece" kbt ["line","member"] d.Xn d.Xo
 Qe:Dn K mg "about" kd3 ["voucher","parents","basket","standing"] d.Xp d.Xq
 Y2:Dn K mg "fits" kie ["marks","parents","kind","marked"] d.Xr d.Xs
 Y3:Dn K mg "hindrance" kcN ["voucher","parents","basket","standing"] d.Xu d.Xv
 Y5:Dn K mg "after" kgn ["voucher","parents","basket","standing"] d.Xw d.Xx
 Y7:Dn K mg "cuts_of_pieces" kbw ["voucher","parents","basket","standing"] d.Xy d.Xz
 Y9:Dn K mg "cut_of_carriage" kbk ["voucher","standing"] d.XA d.XB
 Za:Dn K mg "wanted_cuts" ka3 ["voucher","standing","pieces"] d.XC d.XD
 Zb:Dn K mg "parted_by_line" kbv ["standing","pieces"] d.XE d.XF
 QJ:Dn K mg "falling_groups" kay ["standing","pieces","many"] d.XG d.Qy
 Zc:Dn K mg "marked_behind" kbH ["voucher","standing","piece_cuts"] d.XH d.XI
 QK:Dn K mg "prices_of" kcc ["standing","pieces"] d.XJ d.XM
 qH:Dn K mg "sum_of_prices" kbG ["standing","pieces"] d.XO d.XQ
 Zd:Dn K mg "at_most" kd2 ["most","number"] d.XR d.XS
 Ze:Dn K mg "word_of_order" kbE ["till","hand","used","number"] d.XT d.XU
 Zf:Dn K mg "breaks_never" kbW ["rules","used","number"] d.XW d.XX
 Zg:Dn K mg "breaks_ahead" kbX ["rules","used","number"] d.XY d.XZ
 Zh:Dn K mg "without_company" kbj ["rules","order"] d.X0 d.X1
 qM:Dn K mg "ways_from" kcM ["way"] d.qK d.qL
 Zi:Dn K mg "first_use" kaT ["till","voucher","baskets"] d.X2 d.Qz
 Zj:Dn K mg "first_unlike" kbV ["till","baskets"] d.X3 d.X4
 Zk:Dn K mg "first_spill" kcd ["till","baskets"] d.X5 d.X6
 Qf:Dn K mg "first_found" kce ["till","baskets","look"] d.X7 d.X8
 Zl:Dn K mg "order_with" kcr ["ways","voucher"] d.X9 d.Ya
 Qg:Dn K mg "unlike_orders" kbF ["ways"] d.qZ d.q9
 Qh:Dn K mg "order_that_spills" ka6 ["ways"] d.Qa d.Qb
 Zm:Dn K mg "place_of_spill" kbu ["way"] d.Yb d.Yc
 Zn:Dn K mg "spills" ke4 ["way","voucher"] d.Yd d.Ye
 qu:Dn K mg "_law_mix" kdi ["_law_cell","_law_factor","_law_prime"] d.Yf d.Yg
 QL:Dn K mg "_law_coin" kcQ ["_law_cell"] d.Yh d.Yi
 Zo:Dn K mg "_law_parents" kbZ ["_law_cell"] d.Yj d.Yk
 Zp:Dn K mg "_law_marks" kct ["_law_cell","_law_kinds"] d.Yl d.Ym
 Zq:Dn K mg "_law_voucher" kbY ["_law_cell","_law_kinds"] d.Yn d.Yo
 Zr:Dn K mg "_law_rules" kcs ["_law_cell","_law_many"] d.Yp d.Yq
 Zs:Dn K mg "_law_till" kcO ["_law_script","_law_most"] d.Yr d.Ys
 Zt:Dn K mg "_law_line" kcP ["_law_cell","_law_kinds"] d.Yt d.Yu
 Zu:Dn K mg "_law_baskets" kbn ["_law_script","_law_kinds","_law_most"] d.Yv d.Yw
 QM:Dn K mg "_law_asked" kcu ["_law_kind","_law_till_here","_law_voucher_here","_law_baskets_here"] d.Yx d.Yy
 Zv:Dn K mg "_law_due" kdj ["_law_kind","_law_till_here","_law_voucher_here","_law_baskets_here"] d.Yz d.YA
 d_law:Dn K mg "law" s_law ["_law_script"] d.f_law d.YB
 qf:ClsT K mg "Marks" d.qf
 Qi:NoAttr K d.qf "kind"
 Zw:NoAttr K d.qf "needs"
 QN:NoAttr K d.qf "most"
 Zx:NoAttr K d.qf "member"
 Zy:NoAttr K d.qf "once"
 QO:NoAttr K d.qf "lone"
 Qj:MthT K d.qf "__init__" "Marks.__init__" kaS ["self","kind","needs","most","member","once","lone"] d.YC d.qA
 b1_Marks_init:Binds K d.qA ["self","kind","needs","most","member","once","lone"] [.bool false]
 b2_Marks_init:Binds K d.qA ["self","kind","needs","most","member","once","lone"] [.bool false, .bool false]
 b3_Marks_init:Binds K d.qA ["self","kind","needs","most","member","once","lone"] [.bool false, .bool false, .bool false]
 b4_Marks_init:Binds K d.qA ["self","kind","needs","most","member","once","lone"] [.none, .bool false, .bool false, .bool false]
 b5_Marks_init:Binds K d.qA ["self","kind","needs","most","member","once","lone"] [.int 0 d.tok1_Marks_init, .none, .bool false, .bool false, .bool false]
 b6_Marks_init:Binds K d.qA ["self","kind","needs","most","member","once","lone"] [.none, .int 0 d.tok1_Marks_init, .none, .bool false, .bool false, .bool false]
 qw:ClsT K mg "Voucher" d.qw
 qr:MthT K d.qw "__init__" "Voucher.__init__" kaL ["self","marks"] d.QA d.QB
 b1_Voucher_init:Binds K d.QB ["self","marks"] [.none]
 g_Off:mg "Off"=some (.ref d.c_Off)
 c_Off:ClsT K mg "Off" d.c_Off
 QP:NoAttr K d.c_Off "amount"
 Zz:NoAttr K d.c_Off "marks"
 QQ:MthT K d.c_Off "__init__" "Off.__init__" kba ["self","amount","marks"] d.YD d.QC
 b1_Off_init:Binds K d.QC ["self","amount","marks"] [.none]
 ZX:mg "Share"=some (.ref d.qh)
 qh:ClsT K mg "Share" d.qh
 ZA:NoAttr K d.qh "share"
 ZC:NoAttr K d.qh "by_line"
 ZD:NoAttr K d.qh "marks"
 QR:MthT K d.qh "__init__" "Share.__init__" kaR ["self","share","by_line","marks"] d.YE d.Qc
 b1_Share_init:Binds K d.Qc ["self","share","by_line","marks"] [.none]
 b2_Share_init:Binds K d.Qc ["self","share","by_line","marks"] [.bool false, .none]
 ZY:mg "Cheapest"=some (.ref d.qj)
 qj:ClsT K mg "Cheapest" d.qj
 ZE:NoAttr K d.qj "many"
 ZF:NoAttr K d.qj "marks"
 QS:MthT K d.qj "__init__" "Cheapest.__init__" kaG ["self","many","marks"] d.YF d.QD
 b1_Cheapest_init:Binds K d.QD ["self","many","marks"] [.none]
 ZZ:mg "Bundle"=some (.ref d.qi)
 qi:ClsT K mg "Bundle" d.qi
 ZG:NoAttr K d.qi "many"
 ZH:NoAttr K d.qi "price"
 ZI:NoAttr K d.qi "marks"
 QT:MthT K d.qi "__init__" "Bundle.__init__" kaN ["self","many","price","marks"] d.YG d.QE
 b1_Bundle_init:Binds K d.QE ["self","many","price","marks"] [.none]
 Z9:mg "Carriage"=some (.ref d.qm)
 qm:ClsT K mg "Carriage" d.qm
 ZJ:NoAttr K d.qm "marks"
 QU:MthT K d.qm "__init__" "Carriage.__init__" kaH ["self","marks"] d.YH d.QF
 b1_Carriage_init:Binds K d.QF ["self","marks"] [.none]
 qe:ClsT K mg "Line" d.qe
 ZK:NoAttr K d.qe "kind"
 QV:NoAttr K d.qe "price"
 QW:NoAttr K d.qe "many"
 QX:NoAttr K d.qe "special"
 QY:MthT K d.qe "__init__" "Line.__init__" kaZ ["self","kind","price","many","special"] d.YI d.QG
 b1_Line_init:Binds K d.QG ["self","kind","price","many","special"] [.none]
 qg:ClsT K mg "Basket" d.qg
 QZ:NoAttr K d.qg "lines"
 ZL:NoAttr K d.qg "carriage"
 Q0:NoAttr K d.qg "member"
 Q1:MthT K d.qg "__init__" "Basket.__init__" kaO ["self","lines","carriage","member"] d.YJ d.Qd
 b1_Basket_init:Binds K d.Qd ["self","lines","carriage","member"] [.bool false]
 b2_Basket_init:Binds K d.Qd ["self","lines","carriage","member"] [.int 0 d.tok0_Basket_init, .bool false]
 qc:ClsT K mg "Standing" d.qc
 qE:NoAttr K d.qc "owners"
 qx:NoAttr K d.qc "prices"
 qN:NoAttr K d.qc "carriage"
 qO:NoAttr K d.qc "marked"
 qP:MthT K d.qc "__init__" "Standing.__init__" kbJ ["self","basket"] d.YK d.YL
 qQ:MthT K d.qc "whole" "Standing.whole" kbx ["self"] d.YM d.YN
 c_Way:ClsT K mg "Way" d.c_Way
 qp:NoAttr K d.c_Way "till"
 qI:NoAttr K d.c_Way "basket"
 Qk:NoAttr K d.c_Way "hand"
 qq:NoAttr K d.c_Way "used"
 qB:NoAttr K d.c_Way "standing"
 qF:MthT K d.c_Way "__init__" "Way.__init__" kdk ["self","till","basket","hand"] d.YO d.YQ
 Q2:MthT K d.c_Way "word_for" "Way.word_for" kb0 ["self","number"] d.YR d.YS
 qR:MthT K d.c_Way "behind" "Way.behind" kcv ["self","number"] d.YT d.YU
 Q3:MthT K d.c_Way "followers" "Way.followers" kbf ["self"] d.YV d.YW
 Q4:MthT K d.c_Way "is_let_by" "Way.is_let_by" kbI ["self"] d.YX d.YY
 qd:ClsT K mg "Till" d.qd
 qS:NoAttr K d.qd "parents"
 qC:NoAttr K d.qd "vouchers"
 qJ:NoAttr K d.qd "rules"
 Va:NoAttr K d.qd "back"
 ZM:MthT K d.qd "__init__" "Till.__init__" kaY ["self","parents","vouchers","rules","back"] d.YZ d.QH
 b1_Till_init:Binds K d.QH ["self","parents","vouchers","rules","back"] [.str "again" d.tok0_Till_init]
 qT:BaseT K d.qw "__init__" d.QA
 Vb:Jl K (.ref d.c_Off) (.ref d.qm)=some false
 Vd:Jl K (.ref d.qh) (.ref d.qm)=some false
 Ve:Jl K (.ref d.qj) (.ref d.qm)=some false
 Vf:Jl K (.ref d.qi) (.ref d.qm)=some false
 Vg:Jl K (.ref d.qh) (.ref d.c_Off)=some false
 Vh:Jl K (.ref d.qj) (.ref d.c_Off)=some false
 Vi:Jl K (.ref d.qi) (.ref d.c_Off)=some false
 Vj:Jl K (.ref d.qm) (.ref d.c_Off)=some false
 Vk:Jl K (.ref d.c_Off) (.ref d.qh)=some false
 Vl:Jl K (.ref d.qj) (.ref d.qh)=some false
 Vm:Jl K (.ref d.qi) (.ref d.qh)=some false
 Vn:Jl K (.ref d.qm) (.ref d.qh)=some false
 Vo:Jl K (.ref d.c_Off) (.ref d.qj)=some false
 Vp:Jl K (.ref d.qh) (.ref d.qj)=some false
 Vq:Jl K (.ref d.qi) (.ref d.qj)=some false
 Vr:Jl K (.ref d.qm) (.ref d.qj)=some false
 Vt:Jl K (.ref d.c_Off) (.ref d.qi)=some false
 Vu:Jl K (.ref d.qh) (.ref d.qi)=some false
 Vv:Jl K (.ref d.qj) (.ref d.qi)=some false
 Vw:Jl K (.ref d.qm) (.ref d.qi)=some false
 code_falling_groups:d.Qy.code=.ref d.cc_falling_groups
 ck_falling_groups:CodeK K d.cc_falling_groups d.tP_falling_groups
 code_first_use:d.Qz.code=.ref d.cc_first_use
 ck_first_use:CodeK K d.cc_first_use d.tP_first_use
structure WB (K:U1) (mg:Str→Option Value) (d:D) (base:Heap):Prop extends Wld K mg d where
 blt:BltM mg base
end Vs
namespace Vs
open PySem L2 War Kin Deal
noncomputable def LineAt(C:Addr)(H:Hp)(x:Addr)(r:Row):Prop:=∃(dx:Addr)(fs:List (Str×V)),H x=some (.ins C dx fs)∧fs.lookup ("kind" :Str)=some (.int r.kd)∧fs.lookup ("price" :Str)=some (.int r.pr)∧fs.lookup ("many" :Str)=some (.int r.mn)∧fs.lookup ("special" :Str)=some (oV r.ex)
noncomputable abbrev Lines(C:Addr)(H:Hp)(ls:List Addr)(rs:List Row):Prop:=P2 (LineAt C H) ls rs
noncomputable def BaskAt(C:Addr)(H:Hp)(b l:Addr)(cg:Int)(m:Bool):Prop:=∃(dx:Addr)(fs:List (Str×V)),H b=some (.ins C dx fs)∧fs.lookup ("lines" :Str)=some (.ref l)∧fs.lookup ("carriage" :Str)=some (.int cg)∧fs.lookup ("member" :Str)=some (.bl m)
noncomputable def StandAt(C:Addr)(H:Hp)(x o p mk:Addr)(cg:Int):Prop:=∃(dx:Addr)(fs:List (Str×V)),H x=some (.ins C dx fs)∧fs.lookup ("owners" :Str)=some (.ref o)∧fs.lookup ("prices" :Str)=some (.ref p)∧fs.lookup ("carriage" :Str)=some (.int cg)∧fs.lookup ("marked" :Str)=some (.ref mk)∧fs.lookup ("whole" :Str)=none
section
variable {C:Addr} {H H':Hp}
theorem LineAt.same{x:Addr}{r:Row}(s:Same H H'):LineAt C H x r→LineAt C H' x r:=fun⟨dx,fs,h,q⟩=>⟨dx,fs,s _ _ h,q⟩
theorem Lines.same{ls:List Addr}{rs:List Row}(s:Same H H')(h:Lines C H ls rs):Lines C H' ls rs:=h.mono fun _ _ q=>q.same s
theorem BaskAt.same{b l:Addr}{cg:Int}{m:Bool}(s:Same H H'):BaskAt C H b l cg m→BaskAt C H' b l cg m:=fun⟨dx,fs,h,q⟩=>⟨dx,fs,s _ _ h,q⟩
theorem StandAt.same{x o p mk:Addr}{cg:Int}(s:Same H H'):StandAt C H x o p mk cg→StandAt C H' x o p mk cg:=fun⟨dx,fs,h,q⟩=>⟨dx,fs,s _ _ h,q⟩
end
section
variable {H:Hp} {hd:Addr} {xs:List V} {o:HO}
theorem BaskAt.set{C b l:Addr}{cg:Int}{m:Bool}(h:H hd=some (.lst xs)):BaskAt C H b l cg m→BaskAt C (upd H hd o) b l cg m:=fun⟨dx,fs,e,q⟩=>⟨dx,fs,by rw[kaj (ne_of e h (by intro z;cases z))];exact e,q⟩
theorem StandAt.set{C x a b c:Addr}{cg:Int}(h:H hd=some (.lst xs)):StandAt C H x a b c cg→StandAt C (upd H hd o) x a b c cg:=fun⟨dx,fs,e,q⟩=>⟨dx,fs,by rw[kaj (ne_of e h (by intro z;cases z))];exact e,q⟩
theorem LineAt.set{C x:Addr}{r:Row}(h:H hd=some (.lst xs)):LineAt C H x r→LineAt C (upd H hd o) x r:=fun⟨dx,fs,e,q⟩=>⟨dx,fs,by rw[kaj (ne_of e h (by intro z;cases z))];exact e,q⟩
theorem Lines.set{C:Addr}{ls:List Addr}{rs:List Row}(h:H hd=some (.lst xs))(L:Lines C H ls rs):Lines C (upd H hd o) ls rs:=L.mono fun _ _ q=>q.set h
end
structure Bask where
 rs:List Row
 cg:Int
 m:Bool
inductive BaskIs (CL CB:Addr) (H:Hp) (b:Addr) (B:Bask):Prop
 |ct (l:Addr)(ls:List Addr)(_:BaskAt CB H b l B.cg B.m)(_:H l=some (.lst (ls.map V.ref)))(_:Lines CL H ls B.rs):BaskIs CL CB H b B
def BaskIs.same{CL CB:Addr}{H H':Hp}{b:Addr}{B:Bask}(s:Same H H'):BaskIs CL CB H b B→BaskIs CL CB H' b B:=fun⟨l,ls,h1,h2,h3⟩=>⟨l,ls,h1.same s,s _ _ h2,h3.same s⟩
noncomputable def iV(k:Nat):V:=.int (k:Int)
inductive StndIs (CS:Addr) (H:Hp) (x:Addr) (S:Stnd):Prop
 |ct (o p mk:Addr)(_:StandAt CS H x o p mk S.cg)(_:H o=some (.lst (S.ow.map iV)))(_:H p=some (.lst (S.pr.map V.int)))(_:H mk=some (.lst (S.mkd.map V.bl))):StndIs CS H x S
def StndIs.same{CS:Addr}{H H':Hp}{x:Addr}{S:Stnd}(s:Same H H'):StndIs CS H x S→StndIs CS H' x S:=fun⟨o,p,mk,h1,h2,h3,h4⟩=>⟨o,p,mk,h1.same s,s _ _ h2,s _ _ h3,s _ _ h4⟩
def kci(ns:List Nat):(ns.map iV).all flatV=true:=by
 rw[N3]
 intro x hx
 obtain⟨n,_,rfl⟩:=Jp.mp hx
 rfl
noncomputable def ownN(rs:List Row):List Nat:=(rs.zipIdx.map fun p=>U6 p.1.mn.toNat p.2).flatten
theorem ke9(rs:List Row):(own rs).map V.int=(ownN rs).map iV:=by
 unfold own ownN
 generalize rs.zipIdx=l
 induction l with
 |nil=>rfl
 |cons p l ih=>
  rw[Ji,Jy,Jc,ih,Ji,Jy,Jc]
  congr 1
  simp[iV]
def kk5(rs:List Row){l:Nat}(h:l∈ownN rs):l<rs.length:=by
 unfold ownN at h
 obtain⟨xs,h1,h2⟩:=J9.mp h
 obtain⟨p,h3,rfl⟩:=Jp.mp h1
 have e:l=p.2:=(List.mem_replicate.mp h2).2
 have q:=List.mem_zipIdx h3
 omega
def kjF(rs:List Row)(h:∀r∈rs,r.Ok):(ownN rs).length≤60*rs.length:=by
 have e:(ownN rs).length=(own rs).length:=by
  have:=congrArg NV (ke9 rs)
  simpa using this.symm
 rw[e]
 exact kiu rs h
noncomputable def pV:Option Nat→V
 |none=>.non
 |some k=>.int (k:Int)
def eq_int(a b:Nat):decide (V.int (a:Int)=V.int (b:Int))=decide (a=b):=by
 by_cases h:a=b
 ·subst h;simp
 ·have:¬(V.int (a:Int)=V.int (b:Int)):=by
   intro e
   injection e with e
   omega
  simp[h,this]
theorem kjN{c:Int}{ws:List Int}(h:ws.sum=0):(dl c ws).map V.int=U6 ws.length (V.int 0):=by
 unfold dl
 rw[if_pos h]
 clear h
 induction ws with
 |nil=>rfl
 |cons w ws ih=>simpa[Nd] using ih
def kiE{c:Int}{ws:List Int}(h:¬ws.sum=0):dl c ws=(U5 ws.length).map (part c ws):=by
 unfold dl
 rw[if_neg h]
inductive kh7 (K:U1) (vs:List V) (H:Hp) (Q:VK) (E_:XK):Prop
 |ct (c:Int)(a:Addr)(ws:List Int)(_:vs=[.int c, .ref a])(_:SqL K H a (ws.map V.int))(_:Nn ws)(_:ws.sum<2 ^ 100)(_:0≤c)(_:c<2 ^ 64)(_:ws.length≤1000)(_:∀p,H p=none→Q (.ref p) (upd H p (.lst ((dl c ws).map V.int)))):kh7 K vs H Q E_
inductive khZ (K:U1) (vs:List V) (H:Hp) (Q:VK) (E_:XK):Prop
 |ct (a:Addr)(ps:List (Option Nat))(one other:Nat)(_:vs=[.ref a, .int one, .int other])(_:SqL K H a (ps.map pV))(_:Good ps)(_:one<ps.length)(_:Q (.bl (decide (other∈up ps one))) H):khZ K vs H Q E_
inductive kgf (C:Addr) (vs:List V) (H:Hp) (Q:VK) (E_:XK):Prop
 |ct (x dx:Addr)(r:Row)(_:vs=[.ref x, .int r.kd, .int r.pr, .int r.mn,oV r.ex])(_:H x=some (.ins C dx []))(_:∀H',But x H H'→LineAt C H' x r→Q .non H'):kgf C vs H Q E_
inductive kgg (K:U1) (C:Addr) (vs:List V) (H:Hp) (Q:VK) (E_:XK):Prop
 |ct (x dx l:Addr)(cg:Int)(m:Bool)(xs:List V)(_:vs=[.ref x, .ref l, .int cg, .bl m])(_:H x=some (.ins C dx []))(_:SqL K H l xs)(_:∀(H':Hp)(l':Addr),But x H H'→H l'=none→H' l'=some (.lst xs)→BaskAt C H' x l' cg m→Q .non H'):kgg K C vs H Q E_
inductive kh2 (CL:Addr) (vs:List V) (H:Hp) (Q:VK) (E_:XK):Prop
 |ct (x:Addr)(m:Bool)(r:Row)(_:vs=[.ref x, .bl m])(_:LineAt CL H x r)(_:Q (.int (prc m r)) H):kh2 CL vs H Q E_
inductive kcV (CL CB CS:Addr) (vs:List V) (H:Hp) (Q:VK) (E_:XK):Prop
 |ct (x dx b l:Addr)(cg:Int)(m:Bool)(ls:List Addr)(rs:List Row)(_:vs=[.ref x, .ref b])(_:H x=some (.ins CS dx []))(_:BaskAt CB H b l cg m)(_:H l=some (.lst (ls.map V.ref)))(_:Lines CL H ls rs)(_:rs.length≤12)(_:(∀r∈rs,r.Ok))(_:∀(H':Hp)(o p mk:Addr),But x H H'→H o=none→H p=none→H mk=none→StandAt CS H' x o p mk cg→H' o=some (.lst ((own rs).map V.int))→H' p=some (.lst ((prs m rs).map V.int))→H' mk=some (.lst (U6 rs.length (.bl false)))→(∃dx fs,H' x=some (.ins CS dx fs)∧fs.length≤10)→Q .non H'):kcV CL CB CS vs H Q E_
inductive khW (CS:Addr) (vs:List V) (H:Hp) (Q:VK) (E_:XK):Prop
 |ct (x o p mk:Addr)(cg:Int)(ns:List Int)(_:vs=[.ref x])(_:StandAt CS H x o p mk cg)(_:H p=some (.lst (ns.map V.int)))(_:Q (.int (ns.sum+cg)) H):khW CS vs H Q E_
structure S3 (H0:Hp) (x C dx:Addr) (fs:List (Str×V)) (o p mk:Addr) (a b c:List V) (H:Hp):Prop where
 bt:But x H0 H
 ob:H x=some (.ins C dx fs)
 ho:H o=some (.lst a)
 hp:H p=some (.lst b)
 hm:H mk=some (.lst c)
structure Ds (H0:Hp) (x o p mk:Addr):Prop where
 fo:H0 o=none
 fp:H0 p=none
 fm:H0 mk=none
 ox:o≠x
 px:p≠x
 mx:mk≠x
 op:o≠p
 om:o≠mk
 pm:p≠mk
section
variable {H0 H H':Hp} {x C dx o p mk:Addr} {fs:List (Str×V)} {a b c d:List V}
theorem S3.same(h:S3 H0 x C dx fs o p mk a b c H)(s:Same H H'):S3 H0 x C dx fs o p mk a b c H':=⟨h.bt.same s,s _ _ h.ob,s _ _ h.ho,s _ _ h.hp,s _ _ h.hm⟩
theorem S3.setO(h:S3 H0 x C dx fs o p mk a b c H)(D:Ds H0 x o p mk):S3 H0 x C dx fs o p mk d b c (upd H o (.lst d)):=
 ⟨fun y u n e=>kbq (h.bt y u n e) fun u' e'=>ev_eq (by rw[kaj (kah e D.fo)];exact e') fun t=>kcU t (kah e D.fo) (nx h.ho),by rw[kaj D.ox.symm];exact h.ob,kad,by rw[kaj D.op.symm];exact h.hp,by rw[kaj D.om.symm];exact h.hm⟩
theorem S3.setP(h:S3 H0 x C dx fs o p mk a b c H)(D:Ds H0 x o p mk):S3 H0 x C dx fs o p mk a d c (upd H p (.lst d)):=
 ⟨fun y u n e=>kbq (h.bt y u n e) fun u' e'=>ev_eq (by rw[kaj (kah e D.fp)];exact e') fun t=>kcU t (kah e D.fp) (nx h.hp),by rw[kaj D.px.symm];exact h.ob,by rw[kaj D.op];exact h.ho,kad,by rw[kaj D.pm.symm];exact h.hm⟩
theorem S3.setM(h:S3 H0 x C dx fs o p mk a b c H)(D:Ds H0 x o p mk):S3 H0 x C dx fs o p mk a b d (upd H mk (.lst d)):=
 ⟨fun y u n e=>kbq (h.bt y u n e) fun u' e'=>ev_eq (by rw[kaj (kah e D.fm)];exact e') fun t=>kcU t (kah e D.fm) (nx h.hm),by rw[kaj D.mx.symm];exact h.ob,by rw[kaj D.om];exact h.ho,by rw[kaj D.pm];exact h.hp,kad⟩
end
end Vs
namespace Vs
open PySem L2 War Kin Deal
noncomputable def MksIs(C:Addr)(H:Hp)(x:Addr)(M:Mks):Prop:=∃(dx:Addr)(fs:List (Str×V)),H x=some (.ins C dx fs)∧fs.lookup ("kind" :Str)=some (pV M.kind)∧fs.lookup ("needs" :Str)=some (.int M.needs)∧fs.lookup ("most" :Str)=some (oV M.most)∧fs.lookup ("member" :Str)=some (.bl M.member)∧fs.lookup ("once" :Str)=some (.bl M.once)∧fs.lookup ("lone" :Str)=some (.bl M.lone)
def MksIs.same{C:Addr}{H H':Hp}{x:Addr}{M:Mks}(s:Same H H'):MksIs C H x M→MksIs C H' x M:=fun⟨dx,fs,h,q⟩=>⟨dx,fs,s _ _ h,q⟩
noncomputable def SrtIs(fs:List (Str×V)):Srt→Prop
 | .off a=>fs.lookup ("amount" :Str)=some (.int a)
 | .share s b=>fs.lookup ("share" :Str)=some (.int s)∧fs.lookup ("by_line" :Str)=some (.bl b)
 | .cheap n=>fs.lookup ("many" :Str)=some (.int n)
 | .bund n p=>fs.lookup ("many" :Str)=some (.int n)∧fs.lookup ("price" :Str)=some (.int p)
 | .carr=>True
noncomputable def clsOf(d:D):Srt→Addr
 | .off _=>d.c_Off
 | .share _ _=>d.qh
 | .cheap _=>d.qj
 | .bund _ _=>d.qi
 | .carr=>d.qm
noncomputable def here:Srt→Bool
 | .off _=>true
 | .share _ _=>true
 | .cheap _=>true
 | .bund _ _=>true
 | .carr=>true
noncomputable def klv:Srt→Bool
 | .off _=>true
 | .share _ _=>false
 | .cheap _=>false
 | .bund _ _=>false
 | .carr=>false
noncomputable def kjj:Srt→Bool
 | .off _=>false
 | .share _ _=>true
 | .cheap _=>false
 | .bund _ _=>false
 | .carr=>false
noncomputable def kf8:Srt→Bool
 | .off _=>false
 | .share _ _=>false
 | .cheap _=>true
 | .bund _ _=>false
 | .carr=>false
noncomputable def khI:Srt→Bool
 | .off _=>false
 | .share _ _=>false
 | .cheap _=>false
 | .bund _ _=>true
 | .carr=>false
noncomputable def kbs:Srt→Bool
 | .off _=>false
 | .share _ _=>false
 | .cheap _=>false
 | .bund _ _=>false
 | .carr=>true
noncomputable def Tbs(d:D)(H:Hp):Prop:=TbAt d.tP_falling_groups H
def Tbs.same{d:D}{H H':Hp}(s:Same H H')(h:Tbs d H):Tbs d H':=s.tb h
inductive VchIs (d:D) (H:Hp) (v:Addr) (V:Vch):Prop
 |ct (mA dx:Addr)(fs:List (Str×L2.V))(_:H v=some (.ins (clsOf d V.so) dx fs))(_:fs.lookup ("marks" :Str)=some (.ref mA))(_:SrtIs fs V.so)(_:MksIs d.qf H mA V.ms)(_:here V.so=true)(_:Tbs d H):VchIs d H v V
def VchIs.same{d:D}{H H':Hp}{v:Addr}{V:Vch}(s:Same H H'):VchIs d H v V→VchIs d H' v V:=fun⟨mA,dx,fs,h1,h2,h3,h4,h5,h6⟩=>⟨mA,dx,fs,s _ _ h1,h2,h3,h4.same s,h5,h6.same s⟩
noncomputable def kds(B:Bask):List Nat:=B.rs.map fun r=>r.kd.toNat
structure Wf (ps:List (Option Nat)) (B:Bask) (S:Stnd):Prop where
 good:Good ps
 pl:ps.length≤20
 kd:∀r∈B.rs,0≤r.kd∧r.kd<(ps.length:Int)
 ok:∀r∈B.rs,r.Ok
 nl:B.rs.length≤12
 bc:0≤B.cg∧B.cg≤1000000000000
 ow:S.ow=ownN B.rs
 lp:S.pr.length=S.ow.length
 lm:S.mkd.length=B.rs.length
 pr:∀z∈S.pr,0≤z∧z≤1000000000000
 cg:0≤S.cg∧S.cg≤1000000000000
 n64:S.ow.length<64
def Wf.np{ps:List (Option Nat)}{B:Bask}{S:Stnd}(W:Wf ps B S):S.ow.length≤720:=by
 have:=kjF B.rs W.ok
 have:=W.nl
 rw[W.ow]
 omega
def Wf.line{ps:List (Option Nat)}{B:Bask}{S:Stnd}(W:Wf ps B S){i l:Nat}(h:S.ow[i]?=some l):l<B.rs.length:=by
 have hm:=U9 h
 rw[W.ow] at hm
 exact kk5 _ hm
structure MksOk (ps:List (Option Nat)) (M:Mks):Prop where
 kind:∀k,M.kind=some k→k<ps.length
 needs:0≤M.needs∧M.needs≤1000000000000
 most:∀m,M.most=some m→0≤m∧m≤1000000000000
noncomputable def mks0:Mks:=⟨none,0,none,false,false,false⟩
noncomputable def khU:Srt→List V
 | .off a=>[.int a]
 | .share s b=>[.int s, .bl b]
 | .cheap n=>[.int n]
 | .bund n p=>[.int n, .int p]
 | .carr=>[]
noncomputable def Mrk(CM:Addr)(H:Hp)(mv:V)(H':Hp)(mA:Addr):Prop:=mv=.ref mA∨(mv=.non∧H mA=none∧MksIs CM H' mA mks0)
def MksIs.but{C x mA:Addr}{H H':Hp}{M:Mks}(n:mA≠x)(b:But x H H'):MksIs C H mA M→MksIs C H' mA M:=fun⟨dx,fs,h,q⟩=>⟨dx,fs,b _ _ n h,q⟩
theorem Mrk.but{CM x mA:Addr}{H H1 H2:Hp}{mv:V}{o:HO}(hx:H x=some o)(b:But x H1 H2):Mrk CM H mv H1 mA→Mrk CM H mv H2 mA
 | .inl e=>.inl e
 | .inr ⟨e,f,h⟩=>.inr ⟨e,f,h.but (kah hx f).symm b⟩
inductive kdR (C:Addr) (vs:List V) (H:Hp) (Q:VK) (E_:XK):Prop
 |ct (x dx:Addr)(M:Mks)(_:vs=[.ref x,pV M.kind, .int M.needs,oV M.most, .bl M.member, .bl M.once, .bl M.lone])(_:H x=some (.ins C dx []))(_:∀H',But x H H'→MksIs C H' x M→Q .non H'):kdR C vs H Q E_
inductive keH (K:U1) (CM:Addr) (vs:List V) (H:Hp) (Q:VK) (E_:XK):Prop
 |ct (x C dx:Addr)(fs:List (Str×V))(mv:V)(_:vs=[.ref x,mv])(_:H x=some (.ins C dx fs))(_:Cls K C)(_:NoAttr K C "marks")(_:fs.length≤5)(_:(mv=.non∨∃mA,mv=.ref mA))(_:∀(H':Hp)(mA:Addr),But x H H'→Mrk CM H mv H' mA→H' x=some (.ins C dx (putF "marks" (.ref mA) fs))→Q .non H'):keH K CM vs H Q E_
inductive kdw (C CM:Addr) (is:Srt→Prop) (vs:List V) (H:Hp) (Q:VK) (E_:XK):Prop
 |ct (x dx:Addr)(so:Srt)(mv:V)(_:is so)(_:vs=.ref x::(khU so++[mv]))(_:H x=some (.ins C dx []))(_:(mv=.non∨∃mA,mv=.ref mA))(_:∀(H':Hp)(mA:Addr)(fs:List (Str×V)),But x H H'→Mrk CM H mv H' mA→H' x=some (.ins C dx fs)→fs.lookup ("marks" :Str)=some (.ref mA)→SrtIs fs so→Q .non H'):kdw C CM is vs H Q E_
theorem kg9{C:Addr}{H:Hp}{M:Mks}{R:Addr→Hp→Prop}{E:XK}(k:∀(H':Hp)(x:Addr),Same H H'→H x=none→MksIs C H' x M→R x H'):
  ∀x dx,H x=none→H dx=none→dx≠x→kdR C [.ref x,pV M.kind, .int M.needs,oV M.most, .bl M.member, .bl M.once, .bl M.lone] (upd (upd H dx (.own x)) x (.ins C dx [])) (fun v H2=>v=.non∧R x H2) E:=
 fun x dx nx nd _=>⟨x,dx,M,rfl,kad,fun H' b l=>⟨rfl,k H' x (kbr nx nd b) nx l⟩⟩
def kfR{d:D}{H:Hp}{so:Srt}{mA:Addr}{M:Mks}{is:Srt→Prop}{R:Addr→Hp→Prop}{E:XK}(hi:is so)(hh:here so=true)(hM:MksIs d.qf H mA M)(k:∀(H':Hp)(x:Addr),Same H H'→H x=none→VchIs d H' x ⟨so,M⟩→R x H')(htb:Tbs d H:=by assumption):
  ∀x dx,H x=none→H dx=none→dx≠x→kdw (clsOf d so) d.qf is (.ref x::(khU so++[.ref mA])) (upd (upd H dx (.own x)) x (.ins (clsOf d so) dx [])) (fun v H2=>v=.non∧R x H2) E:=
 fun x dx nx nd _=>⟨x,dx,so, .ref mA,hi,rfl,kad, .inr ⟨mA,rfl⟩,fun H' mA' fs b hm h1 h2 h3=>by
  have e:mA'=mA:=by
   rcases hm with e|⟨e,_⟩
   ·injection e with e
    exact e.symm
   ·cases e
  subst e
  exact⟨rfl,k H' x (kbr nx nd b) nx ⟨mA',dx,fs,h1,h2,h3,hM.same (kbr nx nd b),hh,htb.same (kbr nx nd b)⟩⟩⟩
inductive spMix (vs:List V) (H:Hp) (Q:VK) (E_:XK):Prop
 |ct (c f p:Int)(_:vs=[.int c, .int f, .int p])(_:(-(2 ^ 64)<f∧f<2 ^ 64))(_:0<p)(_:Q (.int (c*f%p)) H):spMix vs H Q E_
end Vs
namespace Vs
open PySem L2 War Kin Deal
def sN{t u:TS}{D:Ends}{σ:St}{H:Hp}(h:∀N:St→Hp→Prop,(∀σ' H',u D σ' H'→N σ' H')→t {D with nx:=N} σ H):tSeq t u D σ H:=h (u D) fun _ _ q=>q
theorem kld{CL:Addr}{H:Hp}{r:Row}{R:Addr→Hp→Prop}{E:XK}(k:∀(H':Hp)(x:Addr),Same H H'→H x=none→LineAt CL H' x r→R x H'):
  ∀x dx,H x=none→H dx=none→dx≠x→kgf CL [.ref x, .int r.kd, .int r.pr, .int r.mn,oV r.ex] (upd (upd H dx (.own x)) x (.ins CL dx [])) (fun v H2=>v=.non∧R x H2) E:=
 fun x dx nx nd _=>⟨x,dx,r,rfl,kad,fun H' b l=>⟨rfl,k H' x (kbr nx nd b) nx l⟩⟩
theorem klf{K:U1}{CB:Addr}{H:Hp}{l:Addr}{cg:Int}{m:Bool}{xs:List V}{R:Addr→Hp→Prop}{E:XK}(hl:SqL K H l xs)(k:∀(H':Hp)(x l':Addr),Same H H'→H x=none→H l'=none→H' l'=some (.lst xs)→BaskAt CB H' x l' cg m→R x H'):
  ∀x dx,H x=none→H dx=none→dx≠x→kgg K CB [.ref x, .ref l, .int cg, .bl m] (upd (upd H dx (.own x)) x (.ins CB dx [])) (fun v H2=>v=.non∧R x H2) E:=
 fun x dx nx nd _=>⟨x,dx,l,cg,m,xs,rfl,kad,(kbb nx nd).seq hl,fun H' l' b n h1 h2=>⟨rfl,k H' x l' (kbr nx nd b) nx (kc7 n) h1 h2⟩⟩
theorem kjM{CL CB CS:Addr}{H:Hp}{b l:Addr}{cg:Int}{m:Bool}{ls:List Addr}{rs:List Row}{R:Addr→Hp→Prop}{E:XK}(hb:BaskAt CB H b l cg m)(hl:H l=some (.lst (ls.map V.ref)))(hL:Lines CL H ls rs)(hn:rs.length≤12)(hok:∀r∈rs,r.Ok)
  (k:∀(H':Hp)(x o p mk:Addr),Same H H'→H x=none→H o=none→H p=none→H mk=none→StandAt CS H' x o p mk cg→H' o=some (.lst ((own rs).map V.int))→H' p=some (.lst ((prs m rs).map V.int))→H' mk=some (.lst (U6 rs.length (.bl false)))→R x H'):
  ∀x dx,H x=none→H dx=none→dx≠x→kcV CL CB CS [.ref x, .ref b] (upd (upd H dx (.own x)) x (.ins CS dx [])) (fun v H2=>v=.non∧R x H2) E:=
 fun x dx nx nd _=>⟨x,dx,b,l,cg,m,ls,rs,rfl,kad,hb.same (kbb nx nd),kfS nx nd hl,hL.same (kbb nx nd),hn,hok,fun H' o p mk bt n1 n2 n3 S h1 h2 h3 _=>⟨rfl,k H' x o p mk (kbr nx nd bt) nx (kc7 n1) (kc7 n2) (kc7 n3) S h1 h2 h3⟩⟩
structure VchOk (ps:List (Option Nat)) (V:Vch):Prop where
 so:SrtOk V.so
 ms:MksOk ps V.ms
noncomputable def stnd0(B:Bask):Stnd:=⟨ownN B.rs,prs B.m B.rs,B.cg,U6 B.rs.length false⟩
theorem klc{CL CB CS:Addr}{H:Hp}{b:Addr}{B:Bask}{R:Addr→Hp→Prop}{E:XK}(hb:BaskIs CL CB H b B)(hn:B.rs.length≤12)(hok:∀r∈B.rs,r.Ok)(k:∀(H':Hp)(x:Addr),Same H H'→H x=none→StndIs CS H' x (stnd0 B)→R x H'):
  ∀x dx,H x=none→H dx=none→dx≠x→kcV CL CB CS [.ref x, .ref b] (upd (upd H dx (.own x)) x (.ins CS dx [])) (fun v H2=>v=.non∧R x H2) E:=by
 obtain⟨l,ls,h1,h2,h3⟩:=hb
 refine kjM h1 h2 h3 hn hok fun H' x o p mk s f1 _ _ _ hS ho hp hm=>k H' x s f1 ⟨o,p,mk,hS,?_,hp,?_⟩
 ·rw[ho,ke9]
  rfl
 ·rw[hm]
  show _=some (HO.lst ((U6 B.rs.length false).map V.bl))
  rw[List.map_replicate]
def kko{m:Bool}{r:Row}(h:r.Ok):0≤prc m r∧prc m r≤1000000000000:=by
 unfold prc
 split
 ·cases e:r.ex with
  |none=>exact⟨h.pr0,h.pr1⟩
  |some z=>exact h.ex0 z e
 ·exact⟨h.pr0,h.pr1⟩
theorem kg2(m:Bool):∀(rs:List Row)(k:Nat),(rs.map fun r=>U6 r.mn.toNat (prc m r)).flatten.length=((rs.zipIdx k).map fun p=>U6 p.1.mn.toNat (p.2:Int)).flatten.length
 |[],_=>by simp
 |r::rs,k=>by
  rw[Mz,Ji,Jy,Jh,Nc,Ji,Jy,Jh,Nc,kg2 m rs (k+1)]
def kk2(m:Bool)(rs:List Row):(prs m rs).length=(ownN rs).length:=by
 have e:(ownN rs).length=(own rs).length:=by
  have:=congrArg NV (ke9 rs)
  simpa using this.symm
 rw[e]
 exact kg2 m rs 0
def Wf.start{ps:List (Option Nat)}{B:Bask}(g:Good ps)(pl:ps.length≤20)(kd:∀r∈B.rs,0≤r.kd∧r.kd<(ps.length:Int))(ok:∀r∈B.rs,r.Ok)(nl:B.rs.length≤12)(bc:0≤B.cg∧B.cg≤1000000000000)(n64:(ownN B.rs).length<64):Wf ps B (stnd0 B):=by
 refine⟨g,pl,kd,ok,nl,bc,rfl,kk2 _ _,by simp[stnd0],fun z hz=>?_,bc,n64⟩
 obtain⟨xs,h1,h2⟩:=J9.mp hz
 obtain⟨r,hr,rfl⟩:=Jp.mp h1
 rw[(List.mem_replicate.mp h2).2]
 exact kko (ok r hr)
def Wf.nn{ps:List (Option Nat)}{B:Bask}{S:Stnd}(W:Wf ps B S):Nn S.pr:=fun z hz=>(W.pr z hz).1
def Wf.after{ps:List (Option Nat)}{B:Bask}{S:Stnd}{V:Vch}(W:Wf ps B S)(O:VchOk ps V):Wf ps B (aftM V ps (kds B) S):=by
 have h:=kl5 (V:=V) (ps:=ps) (kk:=kds B) W.nn W.cg.1 O.so fun m e=>(O.ms.most m e).1
 refine⟨W.good,W.pl,W.kd,W.ok,W.nl,W.bc,W.ow,h.1.1.trans W.lp,by rw[←W.lm];simp[aftM],fun z hz=>?_,⟨h.2.1,Int.le_trans h.2.2 W.cg.2⟩,W.n64⟩
 obtain⟨j,e1⟩:=Nr.mp hz
 have hj:j<S.pr.length:=by
  rw[←h.1.1]
  exact(Ja.mp e1).1
 have e2:S.pr[j]?=some S.pr[j]:=by simp[hj]
 have b:=h.1.2 j z _ e1 e2
 have c:=W.pr _ (U9 e2)
 exact⟨b.1,Int.le_trans b.2 c.2⟩
inductive kia (K:U1) (d:D) (vs:List V) (H:Hp) (Q:VK) (E_:XK):Prop
 |ct (v a b x:Addr)(V:Vch)(ps:List (Option Nat))(B:Bask)(S:Stnd)(_:vs=[.ref v, .ref a, .ref b, .ref x])(_:VchIs d H v V)(_:SqL K H a (ps.map pV))(_:BaskIs d.qe d.qg H b B)(_:StndIs d.qc H x S)(_:Wf ps B S)(_:VchOk ps V)(_:∀(H':Hp)(p:Addr),Same H H'→H p=none→H' p=some (.lst ((abt ps (kds B) V.ms.kind V.ms.lone S).map iV))→Q (.ref p) H'):kia K d vs H Q E_
theorem cl_of{K:U1}{mg:Str→Option Value}{d:D}{base:Heap}(W:WB K mg d base):∀{so:Srt},here so=true→Cls K (clsOf d so)
 | .off _,h=>W.c_Off.cl
 | .share _ _,h=>W.qh.cl
 | .cheap _,h=>W.qj.cl
 | .bund _ _,h=>W.qi.cl
 | .carr,h=>W.qm.cl
theorem na_of{K:U1}{mg:Str→Option Value}{d:D}{base:Heap}(W:WB K mg d base):∀{so:Srt},here so=true→NoAttr K (clsOf d so) "marks"
 | .off _,h=>W.Zz
 | .share _ _,h=>W.ZD
 | .cheap _,h=>W.ZF
 | .bund _ _,h=>W.ZI
 | .carr,h=>W.ZJ
theorem kiP{K:U1}{mg:Str→Option Value}{d:D}{base:Heap}(W:WB K mg d base):∀{so:Srt},here so=true→Isi K (clsOf d so)
 | .off _,h=>W.c_Off.isi
 | .share _ _,h=>W.qh.isi
 | .cheap _,h=>W.qj.isi
 | .bund _ _,h=>W.qi.isi
 | .carr,h=>W.qm.isi
theorem kfT{K:U1}{mg:Str→Option Value}{d:D}{base:Heap}(W:WB K mg d base):∀{so:Srt},here so=true→Jl K (.ref (clsOf d so)) (.ref d.qm)=some (kbs so)
 | .off _,h=>W.Vb
 | .share _ _,h=>W.Vd
 | .cheap _,h=>W.Ve
 | .bund _ _,h=>W.Vf
 | .carr,h=>kcE _ _
theorem kiJ{K:U1}{mg:Str→Option Value}{d:D}{base:Heap}(W:WB K mg d base):∀{so:Srt},here so=true→Jl K (.ref (clsOf d so)) (.ref d.c_Off)=some (klv so)
 | .off _,h=>kcE _ _
 | .share _ _,h=>W.Vg
 | .cheap _,h=>W.Vh
 | .bund _ _,h=>W.Vi
 | .carr,h=>W.Vj
theorem kda{K:U1}{mg:Str→Option Value}{d:D}{base:Heap}(W:WB K mg d base):∀{so:Srt},here so=true→Jl K (.ref (clsOf d so)) (.ref d.qh)=some (kjj so)
 | .off _,h=>W.Vk
 | .share _ _,h=>kcE _ _
 | .cheap _,h=>W.Vl
 | .bund _ _,h=>W.Vm
 | .carr,h=>W.Vn
theorem kcz{K:U1}{mg:Str→Option Value}{d:D}{base:Heap}(W:WB K mg d base):∀{so:Srt},here so=true→Jl K (.ref (clsOf d so)) (.ref d.qj)=some (kf8 so)
 | .off _,h=>W.Vo
 | .share _ _,h=>W.Vp
 | .cheap _,h=>kcE _ _
 | .bund _ _,h=>W.Vq
 | .carr,h=>W.Vr
theorem keQ{K:U1}{mg:Str→Option Value}{d:D}{base:Heap}(W:WB K mg d base):∀{so:Srt},here so=true→Jl K (.ref (clsOf d so)) (.ref d.qi)=some (khI so)
 | .off _,h=>W.Vt
 | .share _ _,h=>W.Vu
 | .cheap _,h=>W.Vv
 | .bund _ _,h=>kcE _ _
 | .carr,h=>W.Vw
theorem kdf{b:Int}:∀{q:List Int},(∀z∈q,z≤b)→q.sum≤b*q.length
 |[],_=>by simp
 |z::q,h=>by
  have h1:=h z Jt
  have h2:=kdf (q:=q) fun x hx=>h x (Jo _ hx)
  rw[NN,Jw]
  have e:b*((q.length+1:Nat):Int)=b*q.length+b:=by rw[Int.natCast_add,Int.mul_add];simp
  omega
def kii{ps:List (Option Nat)}{B:Bask}{S:Stnd}(wf:Wf ps B S){ab:List Nat}(hl:ab.length≤720)(hb:∀i∈ab,i<S.pr.length):(qs S.pr ab).sum≤720000000000000:=by
 have h:=kdf (b:=1000000000000) (q:=qs S.pr ab) fun z hz=>by
  obtain⟨i,hi,rfl⟩:=Jp.mp hz
  obtain⟨w,ew⟩:=at_of (hb i hi)
  rw[Jn,ew]
  exact(wf.pr w (U9 ew)).2
 rw[kbS] at h
 omega
def ki6(xs:List V)(i k:Nat):cutV xs (some (i:Int)) (some ((i+k:Nat):Int))=(xs.drop i).take k:=by
 unfold cutV
 rw[HT.sIx_nat,HT.sIx_nat]
 by_cases h:i≤xs.length
 ·rw[NG h,MS,JW]
  omega
 ·rw[NZ (by omega),NZ (by omega)]
  simp
def kf7{α:Type}{xs:List α}{v: α}(h:xs[xs.length-1]?=some v)(h0:0<xs.length):atI xs (-1)=some v:=by
 unfold atI ixN
 rw[if_neg (by omega),if_pos (by omega)]
 show xs[(-1+(xs.length:Int)).toNat]?=some v
 rw[show(-1+(xs.length:Int)).toNat=xs.length-1 by omega]
 exact h
def kgY{H0 H1 H2:Hp}{x:Addr}(f:H0 x=none)(s:Same H0 H1)(b:But x H1 H2):Same H0 H2:=fun y u e=>kbq (s y u e) fun u' e'=>b y u' (kah e f) e'
noncomputable def hindM(V:Vch)(ps:List (Option Nat))(B:Bask)(S:Stnd):L2.V:=
 if(V.ms.member&& !B.m)=true then .str "member" else if(abt ps (kds B) V.ms.kind V.ms.lone S).length=0 then .str "nothing" else if(qs S.pr (abt ps (kds B) V.ms.kind V.ms.lone S)).sum<V.ms.needs then .str "needs" else .non
inductive kkf (K:U1) (d:D) (vs:List V) (H:Hp) (Q:VK) (E_:XK):Prop
 |ct (v a b x:Addr)(V:Vch)(ps:List (Option Nat))(B:Bask)(S:Stnd)(_:vs=[.ref v, .ref a, .ref b, .ref x])(_:VchIs d H v V)(_:SqL K H a (ps.map pV))(_:BaskIs d.qe d.qg H b B)(_:StndIs d.qc H x S)(_:Wf ps B S)(_:VchOk ps V)(_:∀(H':Hp),Same H H'→Q (hindM V ps B S) H'):kkf K d vs H Q E_
noncomputable def atM(m:Option Int)(n:Int):Int:=match m with
 |none=>n
 |some m=>min m n
def none_of{H H':Hp}(s:Same H H'){p:Addr}(h:H' p=none):H p=none:=s.free h
def kjf{x:Addr}{H H':Hp}(b:But x H H')(n:H x=none):Same H H':=fun y u e=>b y u (kah e n) e
theorem kiD{CL CB CS:Addr}{H:Hp}{b l:Addr}{cg:Int}{m:Bool}{ls:List Addr}{rs:List Row}{R:Addr→Hp→Prop}{E:XK}(hb:BaskAt CB H b l cg m)(hl:H l=some (.lst (ls.map V.ref)))(hL:Lines CL H ls rs)(hn:rs.length≤12)(hok:∀r∈rs,r.Ok)
  (k:∀(H':Hp)(x:Addr),Same H H'→H x=none→∀(dx:Addr)(fs:List (Str×V)),H' x=some (.ins CS dx fs)→fs.length≤10→fs.lookup ("whole" :Str)=none→R x H'):
  ∀x dx,H x=none→H dx=none→dx≠x→kcV CL CB CS [.ref x, .ref b] (upd (upd H dx (.own x)) x (.ins CS dx [])) (fun v H2=>v=.non∧R x H2) E:=
 fun x dx nx nd _=>⟨x,dx,b,l,cg,m,ls,rs,rfl,kad,hb.same (kbb nx nd),kfS nx nd hl,hL.same (kbb nx nd),hn,hok,fun H' o p mk bt n1 n2 n3 S h1 h2 h3 fw=>by
  obtain⟨dx',fs,e,hf⟩:=fw
  obtain⟨dx2,fs2,e2,_,_,_,_,hw⟩:=S
  rw[e] at e2
  injection e2 with e2
  injection e2 with _ e3 e4
  subst e4
  exact⟨rfl,k H' x (kbr nx nd bt) nx dx' fs e hf hw⟩⟩
theorem klo{V:Vch}{ps:List (Option Nat)}{kk:List Nat}{S:Stnd}(vo:VchOk ps V):(cutM V ps kk S).2=if kbs V.so=true then atM V.ms.most S.cg else 0:=by
 have hm:=vo.ms.most
 unfold cutM
 simp only
 cases e:V.ms.most with
 |none=>
  unfold cap atM
  simp only
  unfold fee kbs
  cases V.so <;> rfl
 | some m=>
  have h0:=(hm m e).1
  unfold cap atM
  simp only
  cases eso:V.so with
  | carr=>
   have hz:(want .carr S.mkd.length ((abt ps kk V.ms.kind V.ms.lone S).map fun i=>S.ow.getD i 0) (qs S.pr (abt ps kk V.ms.kind V.ms.lone S))).sum=0:=by
    unfold want
    simp
   show(if m<_+S.cg then _ else _:List Int×Int).2=min m S.cg
   rw[hz,Int.zero_add]
   split
   ·show min S.cg m=_
    omega
   ·show S.cg=_
    omega
  | _=>
   show(if m<_+0 then(_,min 0 m) else(_,0):List Int×Int).2=0
   split
   ·show min 0 m=0
    omega
   ·rfl
def klV{B:Bask}{l:Nat}{r:Row}(h:B.rs[l]?=some r):(kds B).getD l 0=r.kd.toNat:=by
 unfold kds
 rw[Jn,Jb,h]
 rfl
theorem kj9{ps:List (Option Nat)}{kk:List Nat}{kind:Option Nat}{lone:Bool}{S:Stnd}{i:Nat}:
  (U5 (i+1)).filter (fun i=>hits ps kk kind lone S.mkd (S.ow.getD i 0))=(U5 i).filter (fun i=>hits ps kk kind lone S.mkd (S.ow.getD i 0))++(if hits ps kk kind lone S.mkd (S.ow.getD i 0)=true then [i] else []):=by
 rw[JO,Nt]
 congr 1
 simp only[NK,MF]
noncomputable def GrpAt(H H':Hp)(pa:Addr)(t:Addr)(q:Int×List Nat):Prop:=∃ga,H' t=some (.tup [.int q.1, .ref ga])∧H' ga=some (.lst (q.2.map iV))∧(ga=pa∨H ga=none)
inductive kgL (d:D) (vs:List V) (H:Hp) (Q:VK) (E_:XK):Prop
 |ct (v x pa:Addr) (V:Vch) (ps:List (Option Nat)) (B:Bask) (S:Stnd) (_:vs=[.ref v, .ref x, .ref pa]) (_:VchIs d H v V) (_:StndIs d.qc H x S) (_:H pa=some (.lst ((abt ps (kds B) V.ms.kind V.ms.lone S).map iV))) (_:Wf ps B S) (_:VchOk ps V) (_:∀(H':Hp) (p:Addr) (tl:List Addr) (gl:List (Int×List Nat)),Same H H'→H p=none→H' p=some (.lst (tl.map L2.V.ref))→P2 (GrpAt H H' pa) tl gl→(∀c g,(c,g)∈gl→0≤c∧c≤(qs S.pr g).sum∧g.length≤720)→(gl.map Prod.snd).flatten.Nodup→(∀i∈(gl.map Prod.snd).flatten,i<S.pr.length)→gl.length≤720→
  spr S.pr.length (gl.map Prod.snd).flatten (gl.map fun p=>dl p.1 (qs S.pr p.2)).flatten=spr S.pr.length (abt ps (kds B) V.ms.kind V.ms.lone S) (want V.so S.mkd.length ((abt ps (kds B) V.ms.kind V.ms.lone S).map fun i=>S.ow.getD i 0) (qs S.pr (abt ps (kds B) V.ms.kind V.ms.lone S)))→Q (.ref p) H'):kgL d vs H Q E_
def kaB{H H':Hp}{p:Addr}{o:HO}(h:upd H p o=H')(f:H p=none):Same H H'∧H' p=some o:=by
 subst h
 exact⟨kam f,kad⟩
theorem But.free{x l:Addr}{H H':Hp}{o:HO}(b:But x H H')(hx:H' x=some o)(h:H' l=none):H l=none:=by
 cases q:H l with
 |none=>rfl
 |some u=>
  obtain⟨o',e'⟩:=kfl (b l u (kah hx h).symm q)
  rw[e'] at h
  cases h
structure Rul where
 w:Str
 a:Nat
 b:Nat
structure TillD where
 ps:List (Option Nat)
 vs:List Vch
 rs:List Rul
 bk:Str
noncomputable def RulIs(H:Hp)(a:Addr)(r:Rul):Prop:=H a=some (.tup [.str r.w,iV r.a,iV r.b])
inductive TillIs (d:D) (H:Hp) (t:Addr) (T:TillD):Prop
 |ct (dx:Addr)(fs:List (Str×V))(p vl rl:Addr)(va ra:List Addr)(_:H t=some (.ins d.qd dx fs))(_:fs.lookup ("parents" :Str)=some (.ref p))(_:fs.lookup ("vouchers" :Str)=some (.ref vl))(_:fs.lookup ("rules" :Str)=some (.ref rl))(_:fs.lookup ("back" :Str)=some (.str T.bk))(_:H p=some (.lst (T.ps.map pV)))(_:H vl=some (.lst (va.map V.ref)))(_:P2 (fun a V=>VchIs d H a V) va T.vs)(_:H rl=some (.lst (ra.map V.ref)))(_:P2 (fun a r=>RulIs H a r) ra T.rs):TillIs d H t T
def TillIs.same{d:D}{H H':Hp}{t:Addr}{T:TillD}(s:Same H H'):TillIs d H t T→TillIs d H' t T:=fun⟨dx,fs,p,vl,rl,va,ra,h1,h2,h3,h4,h5,h6,h7,h8,h9,h10⟩=>
 ⟨dx,fs,p,vl,rl,va,ra,s _ _ h1,h2,h3,h4,h5,s _ _ h6,s _ _ h7,h8.mono fun a V h=>h.same s,s _ _ h9,h10.mono fun a r h=>s _ _ h⟩
structure kcq (T:TillD):Prop where
 vs:∀V∈T.vs,VchOk T.ps V
 nv:T.vs.length≤8
inductive WayAt (d:D) (m:Nat) (H:Hp) (w t b x:Addr) (hand:List Int) (used:List Nat):Prop
 |ct (dx:Addr)(fs:List (Str×V))(h u:Addr)(_:H w=some (.ins d.c_Way dx fs))(_:fs.lookup ("till" :Str)=some (.ref t))(_:fs.lookup ("basket" :Str)=some (.ref b))(_:fs.lookup ("hand" :Str)=some (.ref h))(_:fs.lookup ("used" :Str)=some (.ref u))(_:fs.lookup ("standing" :Str)=some (.ref x))(_:fs.lookup ("word_for" :Str)=none)(_:fs.lookup ("behind" :Str)=none)(_:fs.lookup ("is_let_by" :Str)=none)(_:fs.lookup ("followers" :Str)=none)(_:fs.length≤m)(_:H h=some (.lst (hand.map V.int)))(_:H u=some (.lst (used.map iV))):WayAt d m H w t b x hand used
noncomputable abbrev WayIs(d:D)(H:Hp)(w t b x:Addr)(hand:List Int)(used:List Nat):Prop:=WayAt d 7 H w t b x hand used
def WayAt.most{d:D}{m m':Nat}{H:Hp}{w t b x:Addr}{hand:List Int}{used:List Nat}(hm:m≤m'):WayAt d m H w t b x hand used→WayAt d m' H w t b x hand used:=fun⟨dx,fs,h,u,h1,h2,h3,h4,h5,h6,h7,h8,h9,h10,h11,h12,h13⟩=>
 ⟨dx,fs,h,u,h1,h2,h3,h4,h5,h6,h7,h8,h9,h10,U4 h11 hm,h12,h13⟩
def WayAt.same{d:D}{m:Nat}{H H':Hp}{w t b x:Addr}{hand:List Int}{used:List Nat}(s:Same H H'):WayAt d m H w t b x hand used→WayAt d m H' w t b x hand used:=fun⟨dx,fs,h,u,h1,h2,h3,h4,h5,h6,h7,h8,h9,h10,h11,h12,h13⟩=>
 ⟨dx,fs,h,u,s _ _ h1,h2,h3,h4,h5,h6,h7,h8,h9,h10,h11,s _ _ h12,s _ _ h13⟩
noncomputable def nevR(used:List Nat)(n:Nat)(r:Rul):Bool:=decide (r.w=("never" :Str))&&((decide (r.a=n)&&used.contains r.b)||(decide (r.b=n)&&used.contains r.a))
noncomputable def keO(rs:List Rul)(used:List Nat)(n:Nat):Bool:=rs.any (nevR used n)
noncomputable def ahdR(used:List Nat)(n:Nat)(r:Rul):Bool:=decide (r.w=("ahead" :Str))&&(decide (r.a=n)&&used.contains r.b)
noncomputable def keU(rs:List Rul)(used:List Nat)(n:Nat):Bool:=rs.any (ahdR used n)
noncomputable def loneM(order:List Nat)(r:Rul):Bool:=decide (r.w=("only" :Str))&&(order.contains r.a&& !order.contains r.b)
noncomputable def onlyM(rs:List Rul)(order:List Nat):Option Nat:=(rs.find? (loneM order)).map Rul.a
noncomputable def sV:Option Str→V
 |none=>.non
 |some z=>.str z
noncomputable def wordM(V:Vch)(rs:List Rul)(hand:List Int)(used:List Nat)(n:Nat):Option Str:=
 if hand.getD n 0<(used.count n:Int)+1 then some "held" else if(V.ms.once&&used.contains n)=true then some "once" else if keO rs used n=true then some "never" else if keU rs used n=true then some "ahead" else none
noncomputable def dueM(V:Vch)(T:TillD)(B:Bask)(hand:List Int)(used:List Nat)(S:Stnd)(n:Nat):L2.V:=match wordM V T.rs hand used n with
 |some z=>.str z
 |none=>hindM V T.ps B S
theorem kch{n:Nat}:∀(l:List Nat),inV (iV n) (l.map iV)=l.contains n
 |[]=>rfl
 | m::l=>by
  have ih:=kch (n:=n) l
  unfold inV at ih⊢
  rw[Ji,JX,ih,List.contains_cons]
  congr 1
  show eqV (V.int (m:Int)) (V.int (n:Int))=(n==m)
  by_cases h:n=m
  ·subst h
   simp[eqV]
  ·have h1:¬((m:Int)=(n:Int)):=by omega
   have e2:(n==m)=false:=beq_eq_false_iff_ne.mpr h
   rw[e2]
   simp[eqV,h1]
theorem klr(l:List Nat)(n:Nat):(l.map fun(i:Nat)=>(i:Int)).count (n:Int)=l.count n:=by
 induction l with
 |nil=>rfl
 | cons m l ih=>
  rw[Ji,My,My,ih]
  congr 1
  by_cases h:m=n
  ·subst h;simp
  ·have h1:¬((m:Int)=(n:Int)):=by omega
   have e1:((m:Int)==(n:Int))=false:=beq_eq_false_iff_ne.mpr h1
   have e2:(m==n)=false:=beq_eq_false_iff_ne.mpr h
   rw[e1,e2]
def kfX(a b:Nat):decide (iV a=iV b)=decide (a=b):=by
 by_cases h:a=b
 ·subst h;simp
 ·have n:¬(iV a=iV b):=fun e=>h (by have:=V.int.inj e;omega)
  rw[decide_eq_false h,decide_eq_false n]
def eq_str(a b:Str):decide (V.str a=V.str b)=decide (a=b):=by
 by_cases h:a=b
 ·subst h;simp
 ·have n:¬(V.str a=V.str b):=fun e=>h (V.str.inj e)
  rw[decide_eq_false h,decide_eq_false n]
section
variable {P:Program} {w:World} {K:U1} {mg:Str→Option Value} {base:Heap} {d:D}
abbrev FO{K:U1}{mg:Str→Option Value}{d:D}{base:Heap}(P:Program)(w:World)(_:WB K mg d base):=FnOk P w K mg base CX0
theorem Q5:kao ["parents","one","other","kind"] ["parents","one","other"] (kae kgl):=by ac_rfl
theorem kjH(W:WB K mg d base):FO P w W 1 d.Xl d.Xm ["parents","one","other"] (khZ K):=by
 exists W.Y0.F,Q5
 ·obtain⟨a,ps,one,other,rfl,hS,hg,ho,k⟩:=h
  refine⟨_,kac (psl (i:=3) Q5.nd (pv 1))
   (kac (kjv PassesOwn.never (kaq kcS (pv 3) kaV (kav _))
   (kac (ps_if (kaq op_eq (pv 3) (pv 2) (kav _)) (kag (kan pe_bl)) (kas))
   (kag (psl (i:=3) Q5.nd (pe_ix (r:=rIxL K) kaK (pv 0) (pv 3) (fun _ _=>rfl))))))
   (kag (kan pe_bl))),?_⟩
  refine⟨_,rfl,?_⟩
  refine kjm (fun σ H'=>∃o:Option Nat,σ=[some (.ref a),some (.int one),some (.int other),some (pV o)]∧H'=H∧(∀i,o=some i→i<ps.length)∧decide (other∈up ps one)=decide (other∈rest ps o))
   (fun σ _=>match σ with|[_,_,_,some (.int i)]=>i.toNat+1|_=>0) ⟨some one,rfl,rfl,fun i e=>by cases e;exact ho,rfl⟩ ?_ ?_
  ·rintro σ H' ⟨o,rfl,rfl,hb,he⟩
   refine⟨_,rfl,rfl,_,rfl,?_⟩
   cases o with
   |none=>
    show if(!decide (V.non=V.non))=true then _ else _
    rw[kkt]
    refine iteF ?_
    show Q (.bl false) _
    have e:decide (other∈up ps one)=false:=by rw[he];simp[Kin.rest]
    rw[e] at k
    exact k
   | some i=>
    show if(!decide (V.int i=V.non))=true then _ else _
    rw[kku]
    refine iteT ?_
    have hi:=hb i rfl
    refine⟨_,rfl,_,rfl,rfl,_,rfl,?_⟩
    show if decide (V.int i=V.int other)=true then _ else _
    rw[eq_int]
    obtain⟨o,eo⟩:∃o,ps[i]?=some o:=⟨ps[i],by simp[hi]⟩
    refine ite2 (fun h=>?_) (fun h=>?_)
    ·have h':i=other:=of_decide_eq_true h
     subst h'
     have e:decide (i∈up ps one)=true:=by
      rw[he]
      show decide (i∈up ps i)=true
      rw[up_eq hg eo]
      simp
     rw[e] at k
     exact k
    ·have h':¬i=other:=fun z=>h (decide_eq_true z)
     refine⟨_,rfl,_,rfl,a,_,_,pV o,rfl,rfl,hS,kaW (by simp[eo]),?_⟩
     refine⟨⟨o,rfl,rfl,fun j e=>?_,?_⟩,?_⟩
     ·subst e
      have:=hg i j eo
      omega
     ·rw[he]
      show decide (other∈up ps i)=_
      rw[up_eq hg eo]
      have:¬other=i:=fun z=>h' z.symm
      simp[this]
     ·cases o with
      |none=>exact Nat.succ_pos _
      |some j=>
       have:=hg i j eo
       show((j:Int)).toNat+1<((i:Int)).toNat+1
       omega
  ·rintro σ H' Q' Q'' hq ⟨v,h1,h2,h3⟩
   exact⟨v,h1,h2,by obtain⟨b,e,q⟩:=h3;exact⟨b,e,hq _ _ q⟩⟩
theorem qy:kao ["cut","weights","total","parts","reached","given","weight","share"] ["cut","weights"] (kae kgm):=by ac_rfl
theorem kjI(W:WB K mg d base):FO P w W 1 d.Xj d.Xk ["cut","weights"] (kh7 K):=by
 exists W.QI.F,qy
 ·obtain⟨c,a,ws,rfl,hS,hn,hs,hc0,hc1,hl,k⟩:=h
  refine⟨_,kac (psl (i:=2) qy.nd (kaw (r:=rSum K) (kcm rfl) (by rfl) W.B.sum b_sum (kaa (pv 1) kaf)))
   (kac (ps_if (kaq op_eq (pv 2) kai (kav _)) (kag (kan (kb4 (N:=["weight"]) (CompScope.plain rfl (by decide +kernel) (by decide +kernel) (by decide +kernel) (nd1 _)) rfl (kaF (K:=K) (pv 1)) (fun _ _ _ _=>pgn (i:=0) (nd1 _)) (fun _ _ _ _=>kai)))) (kas))
   (kac (psl (i:=3) qy.nd (kaP kaf))
   (kac (psl (i:=4) qy.nd kai)
   (kac (psl (i:=5) qy.nd kai)
   (kac (ka4 PassesOwn.never rfl (kaF (K:=K) (pv 1)) (pgn (i:=6) qy.nd)
   (kac (klJ (i:=4) qy.nd rfl (Or.inl rfl) (pv 6) klX)
   (kac (psl (i:=7) qy.nd (pe_op kjG (pe_op kd9 (pv 0) (pv 4)) (pv 2)))
   (kac (ka7 (pe_bm JV Nu Nv kbN (pv 3) (kaa (pe_op kfH (pv 7) (pv 5)) kaf)))
   (kag (psl (i:=5) qy.nd (pv 7)))))))
   (kag (kan (pv 3)))))))),?_⟩
  refine⟨_,rfl,a,ws,rfl,hS,_,rfl,rfl,_,rfl,?_⟩
  refine ite2 (fun h=>?_) (fun h=>?_)
  ·have h0:ws.sum=0:=by
    have e:V.int ws.sum=V.int 0:=of_decide_eq_true h
    injection e
   refine⟨_,rfl,a,rfl,⟨_,hS⟩,ka5 (xs:=ws.map V.int) (fun i σ ys H'=>H'=H∧ys=U6 i (V.int 0)∧∃v,σ=[v]) ⟨rfl,rfl,none,rfl⟩ ?_ ?_ ?_ ?_⟩
   ·rw[U0]
    exact Jf (kap hl)
   ·rintro i σ ys H' hi ⟨rfl,rfl,v,rfl⟩
    exact⟨hS,by simp⟩
   ·rintro i x σ ys H' hx ⟨rfl,rfl,v,rfl⟩
    exact⟨rfl,by rw[MG],_,rfl⟩
   ·rintro σ ys H' ⟨rfl,rfl,v,rfl⟩ D hD
    have:=k D hD
    rw[kjN h0] at this
    rw[U0]
    exact this
  ·have h0:¬ws.sum=0:=fun e=>h (by rw[e];simp)
   have hpos:0<ws.sum:=by
    have:=kb6 hn
    omega
   refine⟨by decide,fun p hp=>?_⟩
   have s1:∀o,Same H (upd H p o):=fun o=>kam hp
   refine⟨_,rfl,a,rfl,⟨_,(s1 _).seq hS⟩,kbi (K:=K) (a:=a) (xs:=ws.map V.int) (fun i σ H'=>H'=upd H p (.lst (((U5 i).map (part c ws)).map V.int))∧
    ∃(v6 v7:Option V),σ=[some (.int c),some (.ref a),some (.int ws.sum),some (.ref p),some (.int (pre ws i)),some (.int (c*pre ws i/ws.sum)),v6,v7])
    ⟨rfl,none,none,by simp[kjx];rfl⟩ (fun i σ H' _ ⟨e,_⟩=>by rw[e];exact(s1 _).seq hS) ?_ ?_⟩
   ·rintro i x σ H' hi ⟨rfl,v6,v7,rfl⟩
    have hil:i<(ws.map V.int).length:=(Ja.mp hi).1
    rw[U0] at hil
    obtain⟨z,ez,rfl⟩:∃z,ws[i]?=some z∧x=V.int z:=by
     rw[Jb] at hi
     cases e:ws[i]? with
     |none=>rw[e] at hi;cases hi
     |some z=>rw[e] at hi;exact⟨z,rfl,(Option.some.inj hi).symm⟩
    have ep:=kdS ez
    refine⟨_,rfl,_,rfl,_,_,rfl,rfl,?_⟩
    refine⟨_,rfl,_,rfl,_,_,rfl,rfl, .inl ⟨by omega,by omega⟩,_,rfl,_,_,rfl,rfl,⟨hpos,by omega⟩,?_⟩
    refine⟨_,rfl, .inl ⟨rfl,_,SqL.of kad⟩,_,rfl,_,rfl,_,_,rfl,rfl,p,_,_,rfl,rfl,kad,kap (by simp;omega),?_⟩
    refine⟨_,rfl,?_,some (.int z),some (.int (c*(pre ws i+z)/ws.sum)),?_⟩
    ·rw[kkL,JO,Jc,Jc]
     show upd H p (.lst (_++[V.int (c*(pre ws i+z)/ws.sum-c*pre ws i/ws.sum)]))=upd H p (.lst (_++[V.int (part c ws i)]))
     unfold part
     rw[ep]
    ·rw[ep]
     rfl
   ·rintro σ H' ⟨rfl,v6,v7,rfl⟩
    refine⟨_,rfl,?_⟩
    have:=k p hp
    rw[kiE h0] at this
    rw[U0]
    exact this
theorem ke3:kao ["self","kind","needs","most","member","once","lone"] ["self","kind","needs","most","member","once","lone"] (kae kaS):=by ac_rfl
theorem kc5(W:WB K mg d base):FO P w W 1 d.YC d.qA ["self","kind","needs","most","member","once","lone"] (kdR d.qf):=by
 exists W.Qj.F,ke3
 ·obtain⟨x,dx,M,rfl,hx,k⟩:=h
  refine⟨_,kac (kaD (pv 0) (pv 1) rfl)
   (kac (kaD (pv 0) (pv 2) rfl)
   (kac (kaD (pv 0) (pv 3) rfl)
   (kac (kaD (pv 0) (pv 4) rfl)
   (kac (kaD (pv 0) (pv 5) rfl)
   (kag (kaD (pv 0) (pv 6) rfl)))))),?_⟩
  refine⟨_,rfl,_,rfl,x,d.qf,dx,[],rfl,hx,W.qf.cl,W.Qi,by decide,?_⟩
  refine⟨_,rfl,_,rfl,x,d.qf,dx,_,rfl,kad,W.qf.cl,W.Zw,few (U4 (kal (n:=0) (U2 _)) (by decide)),?_⟩
  refine⟨_,rfl,_,rfl,x,d.qf,dx,_,rfl,kad,W.qf.cl,W.QN,few (U4 (kal (kal (n:=0) (U2 _))) (by decide)),?_⟩
  refine⟨_,rfl,_,rfl,x,d.qf,dx,_,rfl,kad,W.qf.cl,W.Zx,few (U4 (kal (kal (kal (n:=0) (U2 _)))) (by decide)),?_⟩
  refine⟨_,rfl,_,rfl,x,d.qf,dx,_,rfl,kad,W.qf.cl,W.Zy,few (U4 (kal (kal (kal (kal (n:=0) (U2 _))))) (by decide)),?_⟩
  refine⟨_,rfl,_,rfl,x,d.qf,dx,_,rfl,kad,W.qf.cl,W.QO,few (U4 (kal (kal (kal (kal (kal (n:=0) (U2 _)))))) (by decide)),?_⟩
  refine k _ (But.trans (But.trans (But.trans (But.trans (But.trans kar kar) kar) kar) kar) kar) ⟨dx,_,kad,?_,?_,?_,?_,?_,?_⟩ <;> ac_nf
theorem kd1:kao ["self","marks"] ["self","marks"] (kae kaL):=by ac_rfl
theorem ka1(W:WB K mg d base):FO P w W 3 d.QA d.QB ["self","marks"] (keH K d.qf):=by
 exists W.qr.F,kd1
 ·obtain⟨x,C,dx,fs,mv,rfl,hx,hC,hN,hl,hm,k⟩:=h
  exists Q6,kc5,W
  refine⟨_,kag (kaD (pv 0) (kbp (kaq kfJ (pv 1) kaV (kav _)) (kjz (W.Qj.mk' W.qf) Q6 hr rfl W.qf.m W.b6_Marks_init (show Vals [.non, .int 0, .non, .bl false, .bl false, .bl false] [.none, .int 0 d.tok1_Marks_init, .none, .bool false, .bool false, .bool false] from(.cons rfl (.cons ⟨_,rfl⟩ (.cons rfl (.cons rfl (.cons rfl (.cons rfl .nil))))))) pass0) (pv 1)) rfl),?_⟩
  rcases hm with rfl|⟨mA,rfl⟩
  ·refine⟨_,rfl,rfl,_,rfl,iteT ?_⟩
   refine kg9 (M:=mks0) fun H1 mA s1 f1 hM=>?_
   refine⟨_,rfl,x,C,dx,fs,rfl,s1 _ _ hx,hC,hN,by omega,?_⟩
   have hne:mA≠x:=(kah hx f1).symm
   refine k _ mA ((But.of_same s1).trans (kar (nx (s1 _ _ hx)))) (.inr ⟨rfl,f1,?_⟩) kad
   exact hM.but hne (kar (nx (s1 _ _ hx)))
  ·refine⟨_,rfl,rfl,_,rfl,iteF ?_⟩
   refine⟨_,rfl,_,rfl,x,C,dx,fs,rfl,hx,hC,hN,by omega,?_⟩
   exact k _ mA kar (.inl rfl) kad
theorem kgk:kao ["self","amount","marks"] ["self","amount","marks"] (kae kba):=by ac_rfl
theorem kgs(W:WB K mg d base):FO P w W 4 d.YD d.QC ["self","amount","marks"] (kdw d.c_Off d.qf (fun so=>∃(a:Int),so=.off a)):=by
 refine FunD.ok W.QQ.F kgk (fun vs H Q E h=>?_) (fun cdv A outer s H vs Q E hr h=>?_)
 ·obtain⟨x,dx,so,mv,⟨a,rfl⟩,rfl,_⟩:=h
  rfl
 ·obtain⟨x,dx,so,mv,⟨a,rfl⟩,rfl,hx,hm,k⟩:=h
  exists qz,ka1,W
  refine⟨_,kac (ka7 (kd5 W.qT qz hr rfl W.qw.m W.qr.F.kp W.qr.b .nil pass0 (kaa (pv 0) (kaa (pv 2) kaf))))
   (kag (kaD (pv 0) (pv 1) rfl)),?_⟩
  refine⟨_,rfl,_,rfl,x,d.c_Off,dx,[],mv,rfl,hx,W.c_Off.cl,W.Zz,by decide,hm,fun H1 mA b1 hM h1=>?_⟩
  refine⟨_,rfl,_,rfl,x,d.c_Off,dx,_,rfl,h1,W.c_Off.cl,W.QP,few (U4 (kal (n:=0) (U2 _)) (by decide)),?_⟩
  refine k _ mA _ (b1.trans kar) ?_ kad ?_ ?_
  ·exact hM.but hx kar
  ·ac_nf
  ·show JR _ _=_
   ac_nf
theorem ke2:kao ["self","share","by_line","marks"] ["self","share","by_line","marks"] (kae kaR):=by ac_rfl
theorem kfe(W:WB K mg d base):FO P w W 4 d.YE d.Qc ["self","share","by_line","marks"] (kdw d.qh d.qf (fun so=>∃(sh:Int)(bb:Bool),so=.share sh bb)):=by
 refine FunD.ok W.QR.F ke2 (fun vs H Q E h=>?_) (fun cdv A outer s H vs Q E hr h=>?_)
 ·obtain⟨x,dx,so,mv,⟨sh,bb,rfl⟩,rfl,_⟩:=h
  rfl
 ·obtain⟨x,dx,so,mv,⟨sh,bb,rfl⟩,rfl,hx,hm,k⟩:=h
  exists qz,ka1,W
  refine⟨_,kac (ka7 (kd5 W.qT qz hr rfl W.qw.m W.qr.F.kp W.qr.b .nil pass0 (kaa (pv 0) (kaa (pv 3) kaf))))
   (kac (kaD (pv 0) (pv 1) rfl)
   (kag (kaD (pv 0) (pv 2) rfl))),?_⟩
  refine⟨_,rfl,_,rfl,x,d.qh,dx,[],mv,rfl,hx,W.qh.cl,W.ZD,by decide,hm,fun H1 mA b1 hM h1=>?_⟩
  refine⟨_,rfl,_,rfl,x,d.qh,dx,_,rfl,h1,W.qh.cl,W.ZA,few (U4 (kal (n:=0) (U2 _)) (by decide)),?_⟩
  refine⟨_,rfl,_,rfl,x,d.qh,dx,_,rfl,kad,W.qh.cl,W.ZC,few (U4 (kal (kal (n:=0) (U2 _))) (by decide)),?_⟩
  refine k _ mA _ ((b1.trans kar).trans kar) ?_ kad ?_ ?_
  ·exact hM.but hx (But.trans kar kar)
  ·ac_nf
  ·exact⟨by ac_nf,by ac_nf⟩
theorem kdH:kao ["self","many","marks"] ["self","many","marks"] (kae kaG):=by ac_rfl
theorem kdO(W:WB K mg d base):FO P w W 4 d.YF d.QD ["self","many","marks"] (kdw d.qj d.qf (fun so=>∃(n:Int),so=.cheap n)):=by
 refine FunD.ok W.QS.F kdH (fun vs H Q E h=>?_) (fun cdv A outer s H vs Q E hr h=>?_)
 ·obtain⟨x,dx,so,mv,⟨n,rfl⟩,rfl,_⟩:=h
  rfl
 ·obtain⟨x,dx,so,mv,⟨n,rfl⟩,rfl,hx,hm,k⟩:=h
  exists qz,ka1,W
  refine⟨_,kac (ka7 (kd5 W.qT qz hr rfl W.qw.m W.qr.F.kp W.qr.b .nil pass0 (kaa (pv 0) (kaa (pv 2) kaf))))
   (kag (kaD (pv 0) (pv 1) rfl)),?_⟩
  refine⟨_,rfl,_,rfl,x,d.qj,dx,[],mv,rfl,hx,W.qj.cl,W.ZF,by decide,hm,fun H1 mA b1 hM h1=>?_⟩
  refine⟨_,rfl,_,rfl,x,d.qj,dx,_,rfl,h1,W.qj.cl,W.ZE,few (U4 (kal (n:=0) (U2 _)) (by decide)),?_⟩
  refine k _ mA _ (b1.trans kar) ?_ kad ?_ ?_
  ·exact hM.but hx kar
  ·ac_nf
  ·show JR _ _=_
   ac_nf
theorem kez:kao ["self","many","price","marks"] ["self","many","price","marks"] (kae kaN):=by ac_rfl
theorem keD(W:WB K mg d base):FO P w W 4 d.YG d.QE ["self","many","price","marks"] (kdw d.qi d.qf (fun so=>∃(n:Int)(pp:Int),so=.bund n pp)):=by
 refine FunD.ok W.QT.F kez (fun vs H Q E h=>?_) (fun cdv A outer s H vs Q E hr h=>?_)
 ·obtain⟨x,dx,so,mv,⟨n,pp,rfl⟩,rfl,_⟩:=h
  rfl
 ·obtain⟨x,dx,so,mv,⟨n,pp,rfl⟩,rfl,hx,hm,k⟩:=h
  exists qz,ka1,W
  refine⟨_,kac (ka7 (kd5 W.qT qz hr rfl W.qw.m W.qr.F.kp W.qr.b .nil pass0 (kaa (pv 0) (kaa (pv 3) kaf))))
   (kac (kaD (pv 0) (pv 1) rfl)
   (kag (kaD (pv 0) (pv 2) rfl))),?_⟩
  refine⟨_,rfl,_,rfl,x,d.qi,dx,[],mv,rfl,hx,W.qi.cl,W.ZI,by decide,hm,fun H1 mA b1 hM h1=>?_⟩
  refine⟨_,rfl,_,rfl,x,d.qi,dx,_,rfl,h1,W.qi.cl,W.ZG,few (U4 (kal (n:=0) (U2 _)) (by decide)),?_⟩
  refine⟨_,rfl,_,rfl,x,d.qi,dx,_,rfl,kad,W.qi.cl,W.ZH,few (U4 (kal (kal (n:=0) (U2 _))) (by decide)),?_⟩
  refine k _ mA _ ((b1.trans kar).trans kar) ?_ kad ?_ ?_
  ·exact hM.but hx (But.trans kar kar)
  ·ac_nf
  ·exact⟨by ac_nf,by ac_nf⟩
theorem kdI:kao ["self","marks"] ["self","marks"] (kae kaH):=by ac_rfl
theorem kdP(W:WB K mg d base):FO P w W 4 d.YH d.QF ["self","marks"] (kdw d.qm d.qf (fun so=>so=.carr)):=by
 exists W.QU.F,kdI
 ·obtain⟨x,dx,so,mv,rfl,rfl,hx,hm,k⟩:=h
  exists qz,ka1,W
  refine⟨_,kag (ka7 (kd5 W.qT qz hr rfl W.qw.m W.qr.F.kp W.qr.b .nil pass0 (kaa (pv 0) (kaa (pv 1) kaf)))),?_⟩
  refine⟨_,rfl,_,rfl,x,d.qm,dx,[],mv,rfl,hx,W.qm.cl,W.ZJ,by decide,hm,fun H1 mA b1 hM h1=>?_⟩
  refine k _ mA _ b1 hM h1 ?_ trivial
  ac_nf
theorem kfE:kao ["self","kind","price","many","special"] ["self","kind","price","many","special"] (kae kaZ):=by ac_rfl
theorem kfQ(W:WB K mg d base):FO P w W 1 d.YI d.QG ["self","kind","price","many","special"] (kgf d.qe):=by
 exists W.QY.F,kfE
 ·obtain⟨x,dx,r,rfl,hx,k⟩:=h
  refine⟨_,kac (kaD (pv 0) (pv 1) rfl)
   (kac (kaD (pv 0) (pv 2) rfl)
   (kac (kaD (pv 0) (pv 3) rfl)
   (kag (kaD (pv 0) (pv 4) rfl)))),?_⟩
  refine⟨_,rfl,_,rfl,x,d.qe,dx,[],rfl,hx,W.qe.cl,W.ZK,by decide,?_⟩
  refine⟨_,rfl,_,rfl,x,d.qe,dx,_,rfl,kad,W.qe.cl,W.QV,few (U4 (kal (n:=0) (U2 _)) (by decide)),?_⟩
  refine⟨_,rfl,_,rfl,x,d.qe,dx,_,rfl,kad,W.qe.cl,W.QW,few (U4 (kal (kal (n:=0) (U2 _))) (by decide)),?_⟩
  refine⟨_,rfl,_,rfl,x,d.qe,dx,_,rfl,kad,W.qe.cl,W.QX,few (U4 (kal (kal (kal (n:=0) (U2 _)))) (by decide)),?_⟩
  refine k _ (But.trans (But.trans (But.trans kar kar) kar) kar) ⟨dx,_,kad,?_,?_,?_,?_⟩
  ·rw[kab,if_neg (by decide +kernel),kab,if_neg (by decide +kernel),kab,if_neg (by decide +kernel),kab,if_pos rfl]
  ·rw[kab,if_neg (by decide +kernel),kab,if_neg (by decide +kernel),kab,if_pos rfl]
  ·rw[kab,if_neg (by decide +kernel),kab,if_pos rfl]
  ·rw[kab,if_pos rfl]
theorem keA:kao ["self","lines","carriage","member"] ["self","lines","carriage","member"] (kae kaO):=by ac_rfl
theorem keE(W:WB K mg d base):FO P w W 1 d.YJ d.Qd ["self","lines","carriage","member"] (kgg K d.qg):=by
 exists W.Q1.F,keA
 ·obtain⟨x,dx,l,cg,m,xs,rfl,hx,hl,k⟩:=h
  refine⟨_,kac (kaD (pv 0) (kaQ (r:=kby K) kaE (by rfl) W.B.list kca (kaa (pv 1) kaf)) rfl)
   (kac (kaD (pv 0) (pv 2) rfl)
   (kag (kaD (pv 0) (pv 3) rfl))),?_⟩
  refine⟨_,rfl,l,_,rfl, .inl hl,fun l' hl'=>?_⟩
  have s1:=kam (o:=.lst xs) hl'
  have nlx:l'≠x:=fun e=>by
   rw[e,hx] at hl'
   cases hl'
  refine⟨_,rfl,x,d.qg,dx,[],rfl,s1 _ _ hx,W.qg.cl,W.QZ,by decide,?_⟩
  refine⟨_,rfl,_,rfl,x,d.qg,dx,_,rfl,kad,W.qg.cl,W.ZL,few (U4 (kal (n:=0) (U2 _)) (by decide)),?_⟩
  refine⟨_,rfl,_,rfl,x,d.qg,dx,_,rfl,kad,W.qg.cl,W.Q0,few (U4 (kal (kal (n:=0) (U2 _))) (by decide)),?_⟩
  refine k _ l' ((((But.of_same s1).trans kar).trans kar).trans kar) hl' ?_ ⟨dx,_,kad,?_,?_,?_⟩
  ·rw[kaj nlx,kaj nlx,kaj nlx,kad]
  ·rw[kab,if_neg (by decide +kernel),kab,if_neg (by decide +kernel),kab,if_pos rfl]
  ·rw[kab,if_neg (by decide +kernel),kab,if_pos rfl]
  ·rw[kab,if_pos rfl]
theorem kdg:kao ["line","member"] ["line","member"] (kae kbt):=by ac_rfl
theorem kdl(W:WB K mg d base):FO P w W 1 d.Xn d.Xo ["line","member"] (kh2 d.qe):=by
 exists W.Y1.F,kdg
 ·obtain⟨x,m,r,rfl,⟨dx,fs,hx,lk,lp,lm,ls⟩,k⟩:=h
  refine⟨_,kac (ps_if (PW.pt (kcn (ka0 (pv 1)) (kb3 (kaq kcS (kak (K:=K) (pv 0) rfl) kaV (kav _))))) (kag (kan (kak (K:=K) (pv 0) rfl))) (kas))
   (kag (kan (kak (K:=K) (pv 0) rfl))),?_⟩
  refine⟨_,rfl,m,rfl,?_⟩
  cases m with
  |false=>
   refine iteF (iteF ⟨_,rfl,x,d.qe,dx,fs,_,rfl,hx,W.qe.cl,W.QV,lp,?_⟩)
   exact k
  | true=>
   refine iteT ⟨_,rfl,x,d.qe,dx,fs,_,rfl,hx,W.qe.cl,W.QX,ls,rfl,_,rfl,?_⟩
   cases e:r.ex with
   | none=>
    rw[e] at ls
    show if(!decide (V.non=V.non))=true then _ else _
    rw[show(!decide (V.non=V.non))=false by simp]
    refine iteF ⟨_,rfl,x,d.qe,dx,fs,_,rfl,hx,W.qe.cl,W.QV,lp,?_⟩
    have ep:prc true r=r.pr:=by
     unfold prc
     rw[if_pos rfl,e]
     rfl
    rw[ep] at k
    exact k
   | some z=>
    rw[e] at ls
    show if(!decide (V.int z=V.non))=true then _ else _
    rw[show(!decide (V.int z=V.non))=true by simp]
    refine iteT ⟨_,rfl,x,d.qe,dx,fs,_,rfl,hx,W.qe.cl,W.QX,ls,?_⟩
    have ep:prc true r=z:=by
     unfold prc
     rw[if_pos rfl,e]
     rfl
    rw[ep] at k
    exact k
theorem Ql:kao ["self","basket","number","line","price"] ["self","basket"] (kae kbJ):=by ac_rfl
theorem kco(W:WB K mg d base):FO P w W 2 d.YK d.YL ["self","basket"] (kcV d.qe d.qg d.qc):=by
 exists W.qP.F,Ql
 ·obtain⟨x,dx,b,l,cg,m,ls,rs,rfl,hx,⟨dxb,fsb,hb,lbl,lbc,lbm⟩,hl,hL,hn,hok,k⟩:=h
  exists Vx,kdl,W
  refine⟨_,kac (kaD (pv 0) (kaP kaf) rfl)
   (kac (kaD (pv 0) (kaP kaf) rfl)
   (kac (kaD (pv 0) (kak (K:=K) (pv 1) rfl) rfl)
   (kac (kaD (pv 0) (kaP kaf) rfl)
   (kag (ka4 PassesOwn.never rfl (ke8 rfl W.B.enum (kaa (kak (K:=K) (pv 1) rfl) kaf)) (kbB (K:=K) (n:=2) rfl (kaz (pgn (i:=2) Ql.nd) (kaz (pgn (i:=3) Ql.nd) kbA)))
   (kac (psl (i:=4) Ql.nd (pcl Vx hr W.Y1 (kaa (pv 3) (kaa (kak (K:=K) (pv 1) rfl) kaf))))
   (kac (ka7 (pe_bm JV MH MI keh (kak (K:=K) (pv 0) rfl) (kaa (pe_op kkr (kaP (kaa (pv 2) kaf)) (kak (K:=K) (pv 3) rfl)) kaf)))
   (kac (ka7 (pe_bm JV MH MI keh (kak (K:=K) (pv 0) rfl) (kaa (pe_op kkr (kaP (kaa (pv 4) kaf)) (kak (K:=K) (pv 3) rfl)) kaf)))
   (kag (ka7 (pe_bm JV Nu Nv kbN (kak (K:=K) (pv 0) rfl) (kaa pe_bl kaf)))))))))))),?_⟩
  have nbx:b≠x:=ne_of hb hx (by
   intro z
   injection z with _ _ z
   rw[z] at lbl
   cases lbl)
  have nlx:l≠x:=ne_of hl hx (by intro z;cases z)
  exists Y4
  refine⟨by decide,fun o ho=>?_⟩
  have nox:o≠x:=(kah hx ho).symm
  symm
  exists Y4
  refine⟨_,rfl,x,d.qc,dx,[],rfl,kam ho _ _ hx,W.qc.cl,W.qE,by decide,?_⟩
  have b1:But x H (upd (upd H o (.lst [])) x (.ins d.qc dx (putF "owners" (.ref o) []))):=(But.of_same (kam ho)).trans kar
  symm
  exists Y4
  refine⟨by decide,fun p hp=>?_⟩
  have npx:p≠x:=fun e=>by
   rw[e,kad] at hp
   cases hp
  have nop:o≠p:=fun e=>by
   rw[←e,kaj nox,kad] at hp
   cases hp
  have hp0:H p=none:=by
   cases e:H p with
   |none=>rfl
   |some u=>
    obtain⟨u',e'⟩:=kfl (b1 p u npx e)
    rw[e'] at hp
    cases hp
  symm
  exists Y4
  refine⟨_,rfl,x,d.qc,dx,_,rfl,kam hp _ _ kad,W.qc.cl,W.qx,few (U4 (kal (n:=0) (U2 _)) (by decide)),?_⟩
  have b2:=(b1.same (kam (o:=.lst []) hp)).trans (kar (o:=.ins d.qc dx (putF "prices" (.ref p) (putF "owners" (.ref o) []))))
  symm
  exists Y4
  refine⟨_,rfl,b,d.qg,dxb,fsb,_,rfl,b2 b _ nbx hb,W.qg.cl,W.ZL,lbc,_,rfl,x,d.qc,dx,_,rfl,kad,W.qc.cl,W.qN,few (U4 (kal (kal (n:=0) (U2 _))) (by decide)),?_⟩
  have b3:=b2.trans (kar (o:=.ins d.qc dx (putF "carriage" (.int cg) (putF "prices" (.ref p) (putF "owners" (.ref o) [])))))
  symm
  exists Y4
  refine⟨by decide,fun mk hm=>?_⟩
  have nmx:mk≠x:=fun e=>by
   rw[e,kad] at hm
   cases hm
  have hm0:H mk=none:=by
   cases e:H mk with
   |none=>rfl
   |some u=>
    obtain⟨u',e'⟩:=kfl (b3 mk u nmx e)
    rw[e'] at hm
    cases hm
  have nom:o≠mk:=fun e=>by
   rw[←e,kaj nox,kaj nox,kaj nop,kaj nox,kad] at hm
   cases hm
  have npm:p≠mk:=fun e=>by
   rw[←e,kaj npx,kaj npx,kad] at hm
   cases hm
  symm
  exists Y4
  refine⟨_,rfl,x,d.qc,dx,_,rfl,kam hm _ _ kad,W.qc.cl,W.qO,few (U4 (kal (kal (kal (n:=0) (U2 _)))) (by decide)),?_⟩
  have b4:=(b3.same (kam (o:=.lst []) hm)).trans (kar (o:=.ins d.qc dx (putF "marked" (.ref mk) (putF "carriage" (.int cg) (putF "prices" (.ref p) (putF "owners" (.ref o) []))))))
  have Di:Ds H x o p mk:=⟨ho,hp0,hm0,nox,npx,nmx,nop,nom,npm⟩
  have Z0:S3 H x d.qc dx (putF "marked" (.ref mk) (putF "carriage" (.int cg) (putF "prices" (.ref p) (putF "owners" (.ref o) [])))) o p mk [] [] [] (upd (upd (upd (upd (upd (upd (upd H o (.lst [])) x (.ins d.qc dx (putF "owners" (.ref o) []))) p (.lst [])) x (.ins d.qc dx (putF "prices" (.ref p) (putF "owners" (.ref o) []))))
    x (.ins d.qc dx (putF "carriage" (.int cg) (putF "prices" (.ref p) (putF "owners" (.ref o) []))))) mk (.lst [])) x (.ins d.qc dx (putF "marked" (.ref mk) (putF "carriage" (.int cg) (putF "prices" (.ref p) (putF "owners" (.ref o) [])))))):=by
   symm
   exists Y6
   refine⟨b4,kad,?_,?_,?_⟩
   ·rw[kaj nox,kaj nom,kaj nox,kaj nox,kaj nop,kaj nox,kad]
   ·rw[kaj npx,kaj npm,kaj npx,kaj npx,kad]
   ·rw[kaj nmx,kad]
  have l1:(putF "marked" (.ref mk) (putF "carriage" (.int cg) (putF "prices" (.ref p) (putF "owners" (.ref o) [])))).lookup ("owners" :Str)=some (.ref o):=by
   rw[kab,if_neg (by decide +kernel),kab,if_neg (by decide +kernel),kab,if_neg (by decide +kernel),kab,if_pos rfl]
  have l2:(putF "marked" (.ref mk) (putF "carriage" (.int cg) (putF "prices" (.ref p) (putF "owners" (.ref o) [])))).lookup ("prices" :Str)=some (.ref p):=by
   rw[kab,if_neg (by decide +kernel),kab,if_neg (by decide +kernel),kab,if_pos rfl]
  have l3:(putF "marked" (.ref mk) (putF "carriage" (.int cg) (putF "prices" (.ref p) (putF "owners" (.ref o) [])))).lookup ("carriage" :Str)=some (.int cg):=by
   rw[kab,if_neg (by decide +kernel),kab,if_pos rfl]
  have l4:(putF "marked" (.ref mk) (putF "carriage" (.int cg) (putF "prices" (.ref p) (putF "owners" (.ref o) [])))).lookup ("marked" :Str)=some (.ref mk):=by
   rw[kab,if_pos rfl]
  have l5:(putF "marked" (.ref mk) (putF "carriage" (.int cg) (putF "prices" (.ref p) (putF "owners" (.ref o) [])))).lookup ("whole" :Str)=none:=by
   rw[kab,if_neg (by decide +kernel),kab,if_neg (by decide +kernel),kab,if_neg (by decide +kernel),kab,if_neg (by decide +kernel)]
   rfl
  have lfs:(putF "marked" (.ref mk) (putF "carriage" (.int cg) (putF "prices" (.ref p) (putF "owners" (.ref o) [])))).length≤10:=U4 (kal (kal (kal (kal (n:=0) (U2 _))))) (by decide)
  generalize putF "marked" (.ref mk) (putF "carriage" (.int cg) (putF "prices" (.ref p) (putF "owners" (.ref o) [])))=fs at *
  generalize (upd (upd (upd (upd (upd (upd (upd H o (.lst [])) x (.ins d.qc dx (putF "owners" (.ref o) []))) p (.lst [])) x (.ins d.qc dx (putF "prices" (.ref p) (putF "owners" (.ref o) []))))
    x (.ins d.qc dx (putF "carriage" (.int cg) (putF "prices" (.ref p) (putF "owners" (.ref o) []))))) mk (.lst [])) x (.ins d.qc dx fs))=Hs at *
  symm
  exists Y4
  refine⟨_,rfl,b,d.qg,dxb,fsb,_,rfl,Z0.bt b _ nbx hb,W.qg.cl,W.QZ,lbl,l,_,rfl,Z0.bt l _ nlx hl,kfk (xs:=ls.map V.ref) (fun i σ H'=>(∃v2 v3 v4:Option V,σ=[some (.ref x),some (.ref b),v2,v3,v4])∧
   S3 H x d.qc dx fs o p mk ((own (rs.take i)).map V.int) ((prs m (rs.take i)).map V.int) (U6 i (.bl false)) H') ⟨⟨none,none,none,rfl⟩,Z0⟩ (fun i σ H' _ ⟨_,Z⟩=>Z.bt l _ nlx hl) ?_ ?_⟩
  ·rintro i y t σ H1 hy ⟨⟨v2,v3,v4,rfl⟩,Z⟩ ht
   have hll:=hL.len
   have hil:i<(ls.map V.ref).length:=(Ja.mp hy).1
   rw[U0] at hil
   obtain⟨lx,el,rfl⟩:∃lx,ls[i]?=some lx∧y=V.ref lx:=by
    rw[Jb] at hy
    cases e:ls[i]? with
    |none=>rw[e] at hy;cases hy
    |some z=>rw[e] at hy;exact⟨z,rfl,(Option.some.inj hy).symm⟩
   obtain⟨r,er⟩:∃r,rs[i]?=some r:=⟨rs[i]'(by omega),by simp[show i<rs.length by omega]⟩
   have hr':r.Ok:=hok r (U9 er)
   obtain⟨dxl,fsl,hlx,lk1,lk2,lk3,lk4⟩:=hL.get el er
   have nlxx:lx≠x:=ne_of hlx hx (by
    intro z
    injection z with _ _ z
    rw[z] at lk1
    cases lk1)
   have hmn0:=hr'.mn0
   have hmn1:=hr'.mn1
   have Z1:=Z.same (kam (o:=.tup [.int (i:Nat),V.ref lx]) ht)
   have lo1:((own (rs.take i)).map V.int).length≤720:=by
    rw[U0]
    have:=kiu (rs.take i) fun r hr=>hok r (ME hr)
    rw[Jg] at this
    omega
   have lp1:((prs m (rs.take i)).map V.int).length≤720:=by
    rw[U0]
    have:=kil m (rs.take i) fun r hr=>hok r (ME hr)
    rw[Jg] at this
    omega
   symm
   exists Y6
   refine⟨t,_,rfl,SqT.of kad,rfl,_,_,rfl,_,_,rfl,rfl,?_⟩
   nofun
   exists Y6
   refine⟨_,rfl,_,rfl,b,d.qg,dxb,fsb,_,rfl,Z1.bt b _ nbx hb,W.qg.cl,W.Q0,lbm,lx,m,r,rfl,⟨dxl,fsl,Z1.bt lx _ nlxx hlx,lk1,lk2,lk3,lk4⟩,?_⟩
   nofun
   exists Y6
   refine⟨_,rfl,x,d.qc,dx,fs,_,rfl,Z1.ob,W.qc.cl,W.qE,l1, .inl ⟨rfl,_,SqL.of Z1.ho⟩,_,rfl,(by show 1≤sizeLine;decide),fun t1 ht1=>?_⟩
   have Z2:=Z1.same (kam (o:=.lst [V.int (i:Nat)]) ht1)
   nofun
   exists Y6
   refine⟨_,rfl,lx,d.qe,dxl,fsl,_,rfl,Z2.bt lx _ nlxx hlx,W.qe.cl,W.QW,lk3,t1,_,_,rfl,rfl,kad,by omega,by omega,Jf (kap (by simp;omega)),fun t2 ht2=>?_⟩
   have Z3:=Z2.same (kam (o:=.lst (U6 r.mn.toNat [V.int (i:Nat)]).flatten) ht2)
   nofun
   exists Y6
   refine⟨o,t2,_,_,rfl,rfl,Z3.ho,kad,Jf (kap (by rw[rep1,Nc];omega)),?_⟩
   have Z4:=Z3.setO (d:=(own (rs.take i)).map V.int++(U6 r.mn.toNat [V.int (i:Nat)]).flatten) Di
   nofun
   exists Y6
   refine⟨_,rfl,x,d.qc,dx,fs,_,rfl,Z4.ob,W.qc.cl,W.qx,l2, .inl ⟨rfl,_,SqL.of Z4.hp⟩,_,rfl,(by show 1≤sizeLine;decide),fun t3 ht3=>?_⟩
   have Z5:=Z4.same (kam (o:=.lst [V.int (prc m r)]) ht3)
   nofun
   exists Y6
   refine⟨_,rfl,lx,d.qe,dxl,fsl,_,rfl,Z5.bt lx _ nlxx hlx,W.qe.cl,W.QW,lk3,t3,_,_,rfl,rfl,kad,by omega,by omega,Jf (kap (by simp;omega)),fun t4 ht4=>?_⟩
   have Z6:=Z5.same (kam (o:=.lst (U6 r.mn.toNat [V.int (prc m r)]).flatten) ht4)
   nofun
   exists Y6
   refine⟨p,t4,_,_,rfl,rfl,Z6.hp,kad,Jf (kap (by rw[rep1,Nc];omega)),?_⟩
   have Z7:=Z6.setP (d:=(prs m (rs.take i)).map V.int++(U6 r.mn.toNat [V.int (prc m r)]).flatten) Di
   nofun
   exists Y6
   refine⟨_,rfl,x,d.qc,dx,fs,_,rfl,Z7.ob,W.qc.cl,W.qO,l4, .inl ⟨rfl,_,SqL.of Z7.hm⟩,mk,_,_,rfl,rfl,Z7.hm,kap (by simp;omega),?_⟩
   have Z8:=Z7.setM (d:=U6 i (V.bl false)++[V.bl false]) Di
   nofun
   exists Y6
   refine⟨⟨_,_,_,rfl⟩,?_⟩
   have e1:(own (rs.take i)).map V.int++(U6 r.mn.toNat [V.int (i:Nat)]).flatten=(own (rs.take (i+1))).map V.int:=by
    rw[take_snoc er,kjE,Jc,rep1,kig,Jg,NG (by omega)]
   have e2:(prs m (rs.take i)).map V.int++(U6 r.mn.toNat [V.int (prc m r)]).flatten=(prs m (rs.take (i+1))).map V.int:=by
    rw[take_snoc er,kjw,Jc,rep1,kig]
   have e3:U6 i (V.bl false)++[V.bl false]=U6 (i+1) (V.bl false):=by rw[MG]
   rw[←e1,←e2,←e3]
   nofun
   exact Z8
  ·rintro σ H' ⟨⟨v2,v3,v4,rfl⟩,Z⟩
   have hll:=hL.len
   have e:(ls.map V.ref).length=rs.length:=by rw[U0,hll]
   rw[e,JB] at Z
   nofun
   exact k H' o p mk Z.bt ho hp0 hm0 ⟨dx,fs,Z.ob,l1,l2,l3,l4,l5⟩ Z.ho Z.hp Z.hm ⟨dx,fs,Z.ob,lfs⟩
theorem kdh:kao ["self"] ["self"] (kae kbx):=by ac_rfl
theorem kdq(W:WB K mg d base):FO P w W 1 d.YM d.YN ["self"] (khW d.qc):=by
 exists W.qQ.F,kdh
 ·obtain⟨x,o,p,mk,cg,ns,rfl,⟨dx,fs,hx,l1,l2,l3,l4,l5⟩,hp,k⟩:=h
  refine⟨_,kag (kan (pe_op kbh (kaw (r:=rSum K) (kcm rfl) (by rfl) W.B.sum b_sum (kaa (kak (K:=K) (pv 0) rfl) kaf)) (kak (K:=K) (pv 0) rfl))),?_⟩
  exact⟨_,rfl,x,d.qc,dx,fs,_,rfl,hx,W.qc.cl,W.qx,l2,p,ns,rfl,SqL.of hp,_,rfl,x,d.qc,dx,fs,_,rfl,hx,W.qc.cl,W.qN,l3,_,_,rfl,rfl,k⟩
inductive kkg (K:U1) (CM:Addr) (vs:List V) (H:Hp) (Q:VK) (E_:XK):Prop
 |ct (mA a:Addr)(M:Mks)(ps:List (Option Nat))(kn:Nat)(mk:Bool)(_:vs=[.ref mA, .ref a, .int kn, .bl mk])(_:MksIs CM H mA M)(_:SqL K H a (ps.map pV))(_:Good ps)(_:kn<ps.length)(_:Q (.bl (kHit ps M.kind kn&&(!M.lone|| !mk))) H):kkg K CM vs H Q E_
theorem kkS:kao ["marks","parents","kind","marked"] ["marks","parents","kind","marked"] (kae kie):=by ac_rfl
theorem kk8(W:WB K mg d base):FO P w W 2 d.Xr d.Xs ["marks","parents","kind","marked"] (kkg K d.qf):=by
 exists W.Y2.F,kkS
 ·obtain⟨mA,a,M,ps,kn,mk,rfl,⟨dx,fs,hm,l1,l2,l3,l4,l5,l6⟩,hS,hg,hk,k⟩:=h
  exists Vy,kjH,W
  refine⟨_,kac (kkm (ps_if (PW.pt (kcn (ka0 (kak (K:=K) (pv 0) rfl)) (kb3 (ka0 (pv 3))))) (kag (kan pe_bl)) (kas)))
   (kag (kan (pe_or (kcg kfJ (kak (K:=K) (pv 0) rfl) kaV (kav _)) (klM (pcl Vy hr W.Y0 (kaa (pv 1) (kaa (pv 2) (kaa (kak (K:=K) (pv 0) rfl) kaf)))))))),?_⟩
  refine⟨fun σ' H'=>σ'=[some (.ref mA),some (.ref a),some (.int kn),some (.bl mk)]∧H'=H∧(!M.lone|| !mk)=true,⟨_,rfl,mA,d.qf,dx,fs,_,rfl,hm,W.qf.cl,W.QO,l6,M.lone,rfl,?_⟩,?_⟩
  ·cases e:M.lone with
   |false=>exact iteF (iteF ⟨rfl,rfl,rfl⟩)
   | true=>
    refine iteT ⟨_,rfl,mk,rfl,?_⟩
    cases mk with
    |false=>exact iteF ⟨rfl,rfl,rfl⟩
    |true=>
     refine iteT ?_
     rw[e,show(kHit ps M.kind kn&&(!true|| !true))=false by simp] at k
     exact k
  ·rintro σ' H' ⟨rfl,rfl,hh⟩
   rw[hh,Bool.and_true] at k
   cases ek:M.kind with
   |none=>
    rw[ek] at l1 k
    refine⟨_,rfl,mA,d.qf,dx,fs,_,rfl,hm,W.qf.cl,W.Qi,l1,rfl,_,rfl,?_⟩
    show if decide (V.non=V.non)=true then _ else _
    rw[show decide (V.non=V.non)=true by simp]
    exact iteT k
   |some kk=>
    rw[ek] at l1 k
    refine⟨_,rfl,mA,d.qf,dx,fs,_,rfl,hm,W.qf.cl,W.Qi,l1,rfl,_,rfl,?_⟩
    show if decide (V.int (kk:Nat)=V.non)=true then _ else _
    rw[show decide (V.int (kk:Nat)=V.non)=false by simp]
    exact iteF ⟨_,rfl,_,rfl,_,rfl,mA,d.qf,dx,fs,_,rfl,hm,W.qf.cl,W.Qi,l1,a,ps,kn,kk,rfl,hS,hg,hk,k⟩
theorem ZN:kao ["voucher","parents","basket","standing","fitting"] ["voucher","parents","basket","standing"] (kae kd3):=by ac_rfl
theorem kfb(W:WB K mg d base):FO P w W 3 d.Xp d.Xq ["voucher","parents","basket","standing"] (kia K d):=by
 exists W.Qe.F,ZN
 ·obtain⟨v,a,b,x,Vc,ps,B,S,rfl,hV,hA,hB,hS,wf,vo,k⟩:=h
  obtain⟨mA,dxv,fsv,hv,lvm,_,hM,hh,htb⟩:=id hV
  obtain⟨l,ls,⟨dxb,fsb,hb,lb1,lb2,lb3⟩,hl,hL⟩:=id hB
  obtain⟨o,p,mk,⟨dxs,fss,hx,l1,l2,l3,l4,l5⟩,ho,hp,hmk⟩:=id hS
  exists Vz,kk8,W
  refine⟨_,kac (psl (i:=4) ZN.nd (kb4 (N:=["line","marked","voucher","parents"]) (CompScope.of (N:=["line","marked","voucher","parents"]) (cap:=[none,none,some 0,some 1]) (kae kd3).names ["voucher","parents","basket","standing","fitting"] rfl rfl (by decide +kernel)) rfl (ke7 rfl W.B.zip (kaa (kak (K:=K) (pv 2) rfl) (kaa (kak (K:=K) (pv 3) rfl) kaf))) (fun _ _ _ _=>kbB (K:=K) (n:=2) rfl (kaz (pgn (i:=0) (show(["line","marked","voucher","parents"]:List Str).Nodup by decide +kernel)) (kaz (pgn (i:=1) (show(["line","marked","voucher","parents"]:List Str).Nodup by decide +kernel)) kbA))) (fun _ _ _ _=>(pcl Vz hr W.Y2 (kaa (kak (K:=K) (pv 2) rfl) (kaa (pv 3) (kaa (kak (K:=K) (pv 0) rfl) (kaa (pv 1) kaf))))))))
   (kag (kan (kg4 (N:=["piece","owner","fitting"]) (CompScope.of (N:=["piece","owner","fitting"]) (cap:=[none,none,some 4]) (kae kd3).names ["voucher","parents","basket","standing","fitting"] rfl rfl (by decide +kernel)) rfl (ke8 rfl W.B.enum (kaa (kak (K:=K) (pv 3) rfl) kaf)) (fun _ _ _ _=>kbB (K:=K) (n:=2) rfl (kaz (pgn (i:=0) (show(["piece","owner","fitting"]:List Str).Nodup by decide +kernel)) (kaz (pgn (i:=1) (show(["piece","owner","fitting"]:List Str).Nodup by decide +kernel)) kbA))) (fun _ _ _ _=>kip (ka0 (pe_ix (r:=rIxL K) kaK (pv 2) (pv 1) (fun _ _=>rfl)))) (fun _ _ _ _=>(pv 0))))),?_⟩
  have np:=wf.np
  have nl:=wf.nl
  have lenL:=hL.len
  have lenM:=wf.lm
  have emin:min (ls.map V.ref).length (S.mkd.map V.bl).length=B.rs.length:=by rw[U0,U0,lenL,lenM,NI]
  refine⟨_,rfl,b,d.qg,dxb,fsb,_,rfl,hb,W.qg.cl,W.QZ,lb1,_,rfl,x,d.qc,dxs,fss,_,rfl,hx,W.qc.cl,W.qO,l4,l,mk,_,_,rfl,hl,hmk,
   khl (xs:=ls.map V.ref) (ys:=S.mkd.map V.bl) (fun i σ zs H'=>Same H H'∧zs=((U5 i).map fun l=>hits ps (kds B) Vc.ms.kind Vc.ms.lone S.mkd l).map V.bl∧∃v0 v1:Option V,σ=[v0,v1,some (.ref v),some (.ref a)])
    ⟨Same.refl _,rfl,none,none,rfl⟩ (by rw[emin];exact Jf (kap (by omega))) (fun i σ zs H' _ h=>⟨h.1 _ _ hl,h.1 _ _ hmk,by rw[h.2.1];simp⟩) ?_ ?_⟩
  ·rintro i y m t σ zs H1 hy hm ⟨s1,rfl,v0,v1,rfl⟩ ht
   obtain⟨lx,elx,rfl⟩:=kbK hy
   obtain⟨mv,emv,rfl⟩:=kbO hm
   obtain⟨r,er,hr⟩:=hL.at elx
   have s2:=s1.trans (kam (o:=.tup [V.ref lx,V.bl mv]) ht)
   obtain⟨dxl,fsl,hlx,lk1,_⟩:=hr.same s2
   have hkd:=wf.kd r (U9 er)
   obtain⟨kn,ekn⟩:=Int.eq_ofNat_of_zero_le hkd.1
   have hkn:kn<ps.length:=by omega
   refine⟨t,_,rfl,SqT.of kad,rfl,_,_,rfl,_,_,rfl,rfl,?_⟩
   refine⟨_,rfl,v,clsOf d Vc.so,dxv,fsv,_,rfl,s2 _ _ hv,cl_of W hh,na_of W hh,lvm,_,rfl,_,rfl,lx,d.qe,dxl,fsl,_,rfl,hlx,W.qe.cl,W.ZK,lk1,_,rfl,mA,a,Vc.ms,ps,kn,mv,by rw[ekn];rfl,hM.same s2,s2.seq hA,wf.good,hkn,s2,?_,_,_,rfl⟩
   have e1:hits ps (kds B) Vc.ms.kind Vc.ms.lone S.mkd i=(kHit ps Vc.ms.kind kn&&(!Vc.ms.lone|| !mv)):=by
    unfold hits
    have e2:S.mkd.getD i false=mv:=by rw[Jn,emv];rfl
    rw[e2,klV er,ekn,Int.toNat_natCast]
   rw[JO,Jc,Jc,←e1]
   rfl
  rintro σ zs H1 ⟨s1,rfl,v0,v1,rfl⟩ D hD
  rw[emin]
  have s2:=s1.trans (kam (o:=.lst (((U5 B.rs.length).map fun l=>hits ps (kds B) Vc.ms.kind Vc.ms.lone S.mkd l).map V.bl)) hD)
  have eD:(upd H1 D (.lst (((U5 B.rs.length).map fun l=>hits ps (kds B) Vc.ms.kind Vc.ms.lone S.mkd l).map V.bl))) D=some (.lst (((U5 B.rs.length).map fun l=>hits ps (kds B) Vc.ms.kind Vc.ms.lone S.mkd l).map V.bl)):=kad
  generalize upd H1 D (.lst (((U5 B.rs.length).map fun l=>hits ps (kds B) Vc.ms.kind Vc.ms.lone S.mkd l).map V.bl))=H2 at *
  refine⟨_,rfl,x,d.qc,dxs,fss,_,rfl,s2 _ _ hx,W.qc.cl,W.qE,l1,o,_,rfl,s2 _ _ ho,
   khH (xs:=S.ow.map iV) (fun i σ ys H'=>Same H2 H'∧ys=((U5 i).filter fun i=>hits ps (kds B) Vc.ms.kind Vc.ms.lone S.mkd (S.ow.getD i 0)).map iV∧∃v0 v1:Option V,σ=[v0,v1,some (.ref D)])
    ⟨Same.refl _,rfl,none,none,rfl⟩ (by rw[U0];exact Jf (kap (by omega))) (fun i σ zs H' _ h=>⟨h.1 _ _ (s2 _ _ ho),by rw[h.2.1,U0];have:=NL (fun i=>hits ps (kds B) Vc.ms.kind Vc.ms.lone S.mkd (S.ow.getD i 0)) (U5 i);simpa using this⟩) ?_ ?_⟩
  ·rintro i y t σ zs H3 hy ⟨s3,rfl,v0,v1,rfl⟩ ht
   obtain⟨ln,eln,rfl⟩:=kbO hy
   have hln:=wf.line eln
   have s4:=s3.trans (kam (o:=.tup [V.int (i:Nat),iV ln]) ht)
   refine⟨t,_,rfl,SqT.of kad,rfl,_,_,rfl,_,_,rfl,rfl,?_⟩
   refine⟨_,rfl,_,rfl,D,_,_,_,rfl,rfl,SqL.of (s4 _ _ eD),kaW (v:=.bl (hits ps (kds B) Vc.ms.kind Vc.ms.lone S.mkd ln)) (by rw[Jb,Jb,Mf hln];rfl),_,rfl,?_⟩
   have e1:S.ow.getD i 0=ln:=by rw[Jn,eln];rfl
   have st:=kj9 (ps:=ps) (kk:=kds B) (kind:=Vc.ms.kind) (lone:=Vc.ms.lone) (S:=S) (i:=i)
   rw[e1] at st
   cases hh2:hits ps (kds B) Vc.ms.kind Vc.ms.lone S.mkd ln with
   |false=>exact iteF ⟨s4,by rw[st,hh2];simp,_,_,rfl⟩
   |true=>exact iteT ⟨_,rfl,s4,by rw[st,hh2,if_pos rfl,Jc];rfl,_,_,rfl⟩
  ·rintro σ zs H3 ⟨s3,rfl,v0,v1,rfl⟩ D2 hD2
   rw[U0]
   have s4:=(s2.trans s3).trans (kam (o:=.lst ((abt ps (kds B) Vc.ms.kind Vc.ms.lone S).map iV)) hD2)
   exact k _ D2 s4 (none_of (s2.trans s3) hD2) kad
inductive keI (CS:Addr) (vs:List V) (H:Hp) (Q:VK) (E_:XK):Prop
 |ct (x g:Addr)(S:Stnd)(is:List Nat)(_:vs=[.ref x, .ref g])(_:StndIs CS H x S)(_:H g=some (.lst (is.map iV)))(_:(∀i∈is,i<S.pr.length))(_:is.length≤720)(_:∀p,H p=none→Q (.ref p) (upd H p (.lst ((qs S.pr is).map V.int)))):keI CS vs H Q E_
theorem kfB:kao ["standing","pieces"] ["standing","pieces"] (kae kcc):=by ac_rfl
theorem kdx(W:WB K mg d base):FO P w W 1 d.XJ d.XM ["standing","pieces"] (keI d.qc):=by
 exists W.QK.F,kfB
 ·obtain⟨x,g,S,is,rfl,⟨o,p,mk,⟨dxs,fss,hx,l1,l2,l3,l4,l5⟩,ho,hp,hmk⟩,hg,hi,hl,k⟩:=h
  refine⟨_,kag (kan (kb4 (N:=["piece","standing"]) (CompScope.of (N:=["piece","standing"]) (cap:=[none,some 0]) (kae kcc).names ["standing","pieces"] rfl rfl (by decide +kernel)) rfl (kaF (K:=K) (pv 1)) (fun _ _ _ _=>pgn (i:=0) (show(["piece","standing"]:List Str).Nodup by decide +kernel)) (fun _ _ _ _=>(pe_ix (r:=rIxL K) kaK (kak (K:=K) (pv 1) rfl) (pv 0) (fun _ _=>rfl))))),?_⟩
  refine⟨_,rfl,g,rfl,⟨_,SqL.of hg⟩,ka5 (xs:=is.map iV) (fun j σ ys H'=>H'=H∧ys=(qs S.pr (is.take j)).map V.int∧∃v,σ=[v,some (.ref x)]) ⟨rfl,rfl,none,rfl⟩ ?_ ?_ ?_ ?_⟩
  ·rw[U0]
   exact Jf (kap (by omega))
  ·rintro j σ ys H' hj ⟨rfl,rfl,_⟩
   exact⟨SqL.of hg,by rw[U0,kbS,Jg];rw[U0] at hj;omega⟩
  ·rintro j y σ ys H' hy ⟨rfl,rfl,v,rfl⟩
   obtain⟨n,en,rfl⟩:∃n,is[j]?=some n∧y=iV n:=kbO hy
   obtain⟨z,ez⟩:=at_of (hi n (U9 en))
   refine⟨_,rfl,x,d.qc,dxs,fss,_,rfl,hx,W.qc.cl,W.qx,l2,_,rfl,p,_,_,_,rfl,rfl,SqL.of hp,kaW (by rw[Jb,ez];rfl),rfl,?_,_,rfl⟩
   rw[J0,en]
   simp[qs,ez]
  ·rintro σ ys H' ⟨rfl,rfl,v,rfl⟩ D hD
   rw[U0,JB]
   exact k D hD
inductive kh1 (CS:Addr) (vs:List V) (H:Hp) (Q:VK) (E_:XK):Prop
 |ct (x g:Addr)(S:Stnd)(is:List Nat)(_:vs=[.ref x, .ref g])(_:StndIs CS H x S)(_:H g=some (.lst (is.map iV)))(_:(∀i∈is,i<S.pr.length))(_:is.length≤720)(_:∀H',Same H H'→Q (.int (qs S.pr is).sum) H'):kh1 CS vs H Q E_
theorem kdE:kao ["standing","pieces"] ["standing","pieces"] (kae kbG):=by ac_rfl
theorem kbC(W:WB K mg d base):FO P w W 2 d.XO d.XQ ["standing","pieces"] (kh1 d.qc):=by
 exists W.qH.F,kdE
 ·obtain⟨x,g,S,is,rfl,hS,hg,hi,hl,k⟩:=h
  exists Q7,kdx,W
  refine⟨_,kag (kan (kaw (r:=rSum K) (kcm rfl) (by rfl) W.B.sum b_sum (kaa (pcl Q7 hr W.QK (kaa (pv 0) (kaa (pv 1) kaf))) kaf))),?_⟩
  exact⟨_,rfl,_,rfl,x,g,S,is,rfl,hS,hg,hi,hl,fun p hp=>⟨p,_,rfl,SqL.of kad,k _ (kam hp)⟩⟩
theorem Q8:kao ["voucher","parents","basket","standing","marks","pieces"] ["voucher","parents","basket","standing"] (kae kcN):=by ac_rfl
theorem kfL(W:WB K mg d base):FO P w W 4 d.Xu d.Xv ["voucher","parents","basket","standing"] (kkf K d):=by
 exists W.Y3.F,Q8
 ·obtain⟨v,a,b,x,Vc,ps,B,S,rfl,hV,hA,hB,hS,wf,vo,k⟩:=h
  obtain⟨mA,dxv,fsv,hv,lvm,_,hM,hh,htb⟩:=id hV
  obtain⟨dxm,fsm,hm,m1,m2,m3,m4,m5,m6⟩:=id hM
  obtain⟨l,ls,⟨dxb,fsb,hb,lb1,lb2,lb3⟩,hl,hL⟩:=id hB
  exists qU,kfb,W
  exists qG,kbC,W
  exists hr2,2,hr,0
  refine⟨_,kac (psl (i:=4) Q8.nd (kak (K:=K) (pv 0) rfl))
   (kac (kkm (ps_if (PW.pt (kcn (ka0 (kak (K:=K) (pv 4) rfl)) (kb3 (kik (ka0 (kak (K:=K) (pv 2) rfl)))))) (kag (kan kbT)) (kas)))
   (kac (psl (i:=5) Q8.nd (pcl qU hr W.Qe (kaa (pv 0) (kaa (pv 1) (kaa (pv 2) (kaa (pv 3) kaf))))))
   (kac (ps_if (kaq op_eq (kaw (r:=kbL K) kaI (by rfl) W.B.len b_len (kaa (pv 5) kaf)) kai (kav _)) (kag (kan kbT)) (kas))
   (kac (ps_if (kaq op_lt (pcl qG hr2 W.qH (kaa (pv 3) (kaa (pv 5) kaf))) (kak (K:=K) (pv 4) rfl) (kav _)) (kag (kan kbT)) (kas))
   (kag (kan kaV)))))),?_⟩
  have np:=wf.np
  have habl:∀i∈abt ps (kds B) Vc.ms.kind Vc.ms.lone S,i<S.pr.length:=fun i hi=>by rw[wf.lp];exact kga hi
  have lab:(abt ps (kds B) Vc.ms.kind Vc.ms.lone S).length≤720:=U4 (kdv _ _ _ _ _) np
  refine⟨_,rfl,v,clsOf d Vc.so,dxv,fsv,_,rfl,hv,cl_of W hh,na_of W hh,lvm,?_⟩
  refine⟨fun σ' H'=>σ'=[some (.ref v),some (.ref a),some (.ref b),some (.ref x),some (.ref mA),none]∧H'=H∧(Vc.ms.member&& !B.m)=false,⟨_,rfl,mA,d.qf,dxm,fsm,_,rfl,hm,W.qf.cl,W.Zx,m4,Vc.ms.member,rfl,?_⟩,?_⟩
  ·cases e:Vc.ms.member with
   |false=>exact iteF (iteF ⟨rfl,rfl,rfl⟩)
   | true=>
    refine iteT ⟨_,rfl,b,d.qg,dxb,fsb,_,rfl,hb,W.qg.cl,W.Q0,lb3,B.m,rfl,?_⟩
    cases e2:B.m with
    |true=>exact iteF ⟨rfl,rfl,rfl⟩
    |false=>
     refine iteT ?_
     have z:=k H (Same.refl _)
     unfold hindM at z
     rw[e,e2,if_pos (by decide)] at z
     exact z
  ·rintro σ' H' ⟨rfl,rfl,hh2⟩
   refine⟨_,rfl,_,rfl,_,rfl,_,rfl,v,a,b,x,Vc,ps,B,S,rfl,hV,hA,hB,hS,wf,vo,fun H1 pa s1 f1 h1=>?_⟩
   refine⟨_,rfl,pa,_,rfl, .inl (SqL.of h1),rfl,_,rfl,?_⟩
   have ed:decide (V.int (((abt ps (kds B) Vc.ms.kind Vc.ms.lone S).map iV).length:Nat)=V.int 0)=decide ((abt ps (kds B) Vc.ms.kind Vc.ms.lone S).length=0):=by
    rw[U0]
    by_cases h0:(abt ps (kds B) Vc.ms.kind Vc.ms.lone S).length=0
    ·rw[h0]
     rfl
    ·rw[decide_eq_false h0]
     refine decide_eq_false fun z=>h0 ?_
     injection z with z
     omega
   show if decide (V.int (((abt ps (kds B) Vc.ms.kind Vc.ms.lone S).map iV).length:Nat)=V.int 0)=true then _ else _
   rw[ed]
   by_cases h0:(abt ps (kds B) Vc.ms.kind Vc.ms.lone S).length=0
   ·rw[decide_eq_true h0]
    refine iteT ?_
    have z:=k H1 s1
    unfold hindM at z
    rw[hh2,if_neg (by decide),if_pos h0] at z
    exact z
   ·rw[decide_eq_false h0]
    refine iteF ⟨_,rfl,_,rfl,x,pa,S,_,rfl,hS.same s1,h1,habl,lab,fun H2 s2=>?_⟩
    have z:=k H2 (s1.trans s2)
    unfold hindM at z
    rw[hh2,if_neg (by decide),if_neg h0] at z
    refine⟨_,rfl,mA,d.qf,dxm,fsm,_,rfl,(s1.trans s2) _ _ hm,W.qf.cl,W.Zw,m2,_,_,rfl,rfl,_,rfl,?_⟩
    by_cases h2:(qs S.pr (abt ps (kds B) Vc.ms.kind Vc.ms.lone S)).sum<Vc.ms.needs
    ·rw[if_pos h2] at z
     rw[decide_eq_true h2]
     exact iteT z
    ·rw[if_neg h2] at z
     rw[decide_eq_false h2]
     exact iteF z
inductive kgW (vs:List V) (H:Hp) (Q:VK) (E_:XK):Prop
 |ct (m:Option Int)(n:Int)(_:vs=[oV m, .int n])(_:Q (.int (atM m n)) H):kgW vs H Q E_
theorem kht:kao ["most","number"] ["most","number"] (kae kd2):=by ac_rfl
theorem khz(W:WB K mg d base):FO P w W 1 d.XR d.XS ["most","number"] kgW:=by
 exists W.Zd.F,kht
 ·obtain⟨m,n,rfl,k⟩:=h
  refine⟨_,kac (ps_if (kaq kfJ (pv 0) kaV (kav _)) (kag (kan (pv 1))) (kas))
   (kag (kan (kaw (kf1 rfl) (by rfl) W.B.min b_min (kaa (pv 0) (kaa (pv 1) kaf))))),?_⟩
  cases m with
  |none=>
   refine⟨_,rfl,rfl,_,rfl,?_⟩
   show if decide (V.non=V.non)=true then _ else _
   rw[show decide (V.non=V.non)=true by simp]
   exact iteT ⟨_,rfl,k⟩
  | some z=>
   refine⟨_,rfl,rfl,_,rfl,?_⟩
   show if decide (V.int z=V.non)=true then _ else _
   rw[show decide (V.int z=V.non)=false by simp]
   refine iteF ⟨_,rfl,_,rfl,_,_,rfl,?_⟩
   have e:atM (some z) n=if n<z then n else z:=by
    show min z n=_
    split <;> omega
   rw[e] at k
   exact k
inductive kfx (d:D) (vs:List V) (H:Hp) (Q:VK) (E_:XK):Prop
 |ct (v x:Addr)(V:Vch)(S:Stnd)(_:vs=[.ref v, .ref x])(_:VchIs d H v V)(_:StndIs d.qc H x S)(_:Q (.int (if kbs V.so=true then atM V.ms.most S.cg else 0)) H):kfx d vs H Q E_
theorem kcW:kao ["voucher","standing"] ["voucher","standing"] (kae kbk):=by ac_rfl
theorem kc2(W:WB K mg d base):FO P w W 2 d.XA d.XB ["voucher","standing"] (kfx d):=by
 exists W.Y9.F,kcW
 ·obtain⟨v,x,Vc,S,rfl,⟨mA,dxv,fsv,hv,lvm,_,⟨dxm,fsm,hm,m1,m2,m3,m4,m5,m6⟩,hh,htb⟩,⟨o,p,mk,⟨dxs,fss,hx,l1,l2,l3,l4,l5⟩,ho,hp,hmk⟩,k⟩:=h
  exists VA,khz,W
  refine⟨_,kac (ps_if (ka0 (kaw (r:=rIsi K) ka2 (by rfl) W.B.isi b_isi (kaa (pv 0) (kaa (kcf (v:=.ref d.qm) (by rfl) W.Z9 rfl) kaf)))) (kag (kan (pcl VA hr W.Zd (kaa (kak (K:=K) (kak (K:=K) (pv 0) rfl) rfl) (kaa (kak (K:=K) (pv 1) rfl) kaf))))) (kas))
   (kag (kan kai)),?_⟩
  have I:=kiP W hh
  refine⟨_,rfl,_,_,_,_,rfl, .inr ⟨_,rfl⟩,TyOf.ins hv (cl_of W hh) I.ha I.hn I.ht I.hm,kfT W hh,_,rfl,?_⟩
  cases e:kbs Vc.so with
  |false=>
   rw[e,if_neg U8] at k
   exact iteF k
  |true=>
   rw[e,if_pos rfl] at k
   exact iteT ⟨_,rfl,v,clsOf d Vc.so,dxv,fsv,_,rfl,hv,cl_of W hh,na_of W hh,lvm,mA,d.qf,dxm,fsm,_,rfl,hm,W.qf.cl,W.QN,m3,_,rfl,x,d.qc,dxs,fss,_,rfl,hx,W.qc.cl,W.qN,l3,_,_,rfl,k⟩
noncomputable def kvOf(G:List (Nat×List Nat))(gl:List Addr):List (Key×V):=JJ (fun p r=>(Sum.inl (p.1:Int),V.ref r)) G gl
theorem khd:∀{G:List (Nat×List Nat)}{gl:List Addr},gl.length=G.length→(kvOf G gl).map Prod.snd=gl.map V.ref
 |[],[],_=>rfl
 |[],r::gl,h=>by cases h
 |p::G,[],h=>by cases h
 |p::G,r::gl,h=>by
  have ih:=khd (G:=G) (gl:=gl) (by simpa using h)
  show V.ref r::(kvOf G gl).map Prod.snd=V.ref r::gl.map V.ref
  rw[ih]
theorem kgz:∀{G:List (Nat×List Nat)}{gl:List Addr}(o a:Nat),gl.length=G.length→
  (atK (kvOf G gl) (Sum.inl (o:Int))=none∧ins G o a=G++[(o,[a])])∨∃(j:Nat)(g:List Nat)(r:Addr),G[j]?=some (o,g)∧gl[j]?=some r∧atK (kvOf G gl) (Sum.inl (o:Int))=some (.ref r)∧ins G o a=G.set j (o,g++[a])
 |[],gl,o,a,h=>.inl ⟨rfl,rfl⟩
 |(l,g)::G,[],o,a,h=>by cases h
 | (l,g)::G,r::gl,o,a,h=>by
  have hl:gl.length=G.length:=by simpa using h
  unfold ins
  by_cases e:l=o
  ·subst e
   exact .inr ⟨0,g,r,rfl,rfl,by simp[kvOf,atK],by rw[if_pos rfl];rfl⟩
  ·rw[if_neg e]
   have e':¬((l:Int)=(o:Int)):=fun z=>e (by omega)
   have ea:atK (kvOf ((l,g)::G) (r::gl)) (Sum.inl (o:Int))=atK (kvOf G gl) (Sum.inl (o:Int)):=by
    simp[kvOf,atK,JN,e']
   rcases kgz o a hl with⟨h1,h2⟩|⟨j,g',r',h1,h2,h3,h4⟩
   ·exact .inl ⟨by rw[ea];exact h1,by rw[h2];rfl⟩
   ·exact .inr ⟨j+1,g',r',by simpa using h1,by simpa using h2,by rw[ea];exact h3,by rw[h4];rfl⟩
theorem kjR{G:List (Nat×List Nat)}{gl:List Addr}{j o:Nat}{g g':List Nat}(h:G[j]?=some (o,g)):kvOf (G.set j (o,g')) gl=kvOf G gl:=by
 unfold kvOf
 apply List.ext_getElem?
 intro i
 rw[Me,Me]
 by_cases e:j=i
 ·subst e
  have hj:=at_lt h
  rw[NQ hj,h]
  cases gl[j]? <;> rfl
 ·rw[NR e]
theorem kiI{G:List (Nat×List Nat)}{gl:List Addr}{o:Nat}{g:List Nat}{e:Addr}(h:gl.length=G.length):kvOf (G++[(o,g)]) (gl++[e])=kvOf G gl++[(Sum.inl (o:Int), .ref e)]:=by
 unfold kvOf
 rw[List.zipWith_append h.symm]
 rfl
structure Ptd (H H':Hp) (dd:Addr) (gl:List Addr) (G:List (Nat×List Nat)):Prop where
 sm:Same H H'
 nd:gl.Nodup
 fg:∀r∈gl,H r=none∧r≠dd
 dk:H' dd=some (.dK (kvOf G gl))
 ls:P2 (fun r p=>H' r=some (.lst (p.2.map iV))) gl G
theorem Ptd.more{H H':Hp}{dd e:Addr}{gl:List Addr}{G:List (Nat×List Nat)}(h:Ptd H H' dd gl G)(fd:H dd=none)(he:H' e=none){o a:Nat}:
  Ptd H (upd (upd (upd H' e (.lst [])) dd (.dK (kvOf G gl++[(Sum.inl (o:Int), .ref e)]))) e (.lst [iV a])) dd (gl++[e]) (G++[(o,[a])]):=by
 have e0:H e=none:=none_of h.sm he
 have ned:e≠dd:=fun z=>by rw[z,h.dk] at he;cases he
 refine⟨kat e0 (kat fd (h.sm.trans (kam he)) (kcJ (nx h.dk)))  (kcJ (nx kad)),?_,fun r hr=>?_,?_,?_⟩
 ·refine N8.mpr ⟨h.nd,by simp,fun x hx y hy z=>?_⟩
  rw[JU] at hy
  subst hy z
  obtain⟨i,hi⟩:=Nr.mp hx
  obtain⟨p,_,hp⟩:=h.ls.at hi
  rw[hp] at he
  cases he
 ·rcases JE.mp hr with hr|hr
  ·exact h.fg r hr
  ·rw[JU] at hr
   subst hr
   exact⟨e0,ned⟩
 ·rw[kaj ned.symm,kad,kiI h.ls.len]
 ·refine P2.snoc (P2.of h.ls.len fun i r p e1 e2=>?_) kad
  have hp:=h.ls.get e1 e2
  rw[kaj (kah hp he),kaj (h.fg r (U9 e1)).2,kaj (kah hp he)]
  exact hp
theorem Ptd.put{H H':Hp}{dd e r:Addr}{gl:List Addr}{G:List (Nat×List Nat)}(h:Ptd H H' dd gl G)(he:H' e=none){j o a:Nat}{g:List Nat}(h1:G[j]?=some (o,g))(h2:gl[j]?=some r):
  Ptd H (upd (upd H' e (.lst [])) r (.lst (g.map iV++[iV a]))) dd gl (G.set j (o,g++[a])):=by
 have hr:=h.fg r (U9 h2)
 have hrv:=h.ls.get h2 h1
 refine⟨kat hr.1 (h.sm.trans (kam he)),h.nd,h.fg,?_,P2.of (by rw[List.length_set];exact h.ls.len) fun i r' p e1 e2=>?_⟩
 ·rw[kaj hr.2.symm,kaj (kah h.dk he),h.dk,kjR h1]
 ·by_cases eji:j=i
  ·subst eji
   rw[h2] at e1
   cases e1
   rw[NQ (at_lt h1)] at e2
   cases e2
   rw[kad,Jc]
   rfl
  ·rw[NR eji] at e2
   have hp:=h.ls.get e1 e2
   have hne:r'≠r:=fun z=>by
    subst z
    exact eji ((List.getElem?_inj (at_lt h2) h.nd).mp (h2.trans e1.symm))
   rw[kaj hne,kaj (kah hp he)]
   exact hp
inductive kgP (CS:Addr) (vs:List V) (H:Hp) (Q:VK) (E_:XK):Prop
 |ct (x pa:Addr)(S:Stnd)(is:List Nat)(_:vs=[.ref x, .ref pa])(_:StndIs CS H x S)(_:H pa=some (.lst (is.map iV)))(_:(∀i∈is,i<S.ow.length))(_:is.length≤720)(_:∀(H':Hp)(p:Addr)(gl:List Addr),Same H H'→H p=none→H' p=some (.lst (gl.map V.ref))→P2 (fun r g=>H' r=some (.lst (g.map iV))) gl ((parted (fun i=>S.ow.getD i 0) is).map Prod.snd)→(∀r∈gl,H r=none)→Q (.ref p) H'):kgP CS vs H Q E_
theorem P2.mapR{α β γ:Type}{R: α→γ→Prop}{f: β→γ}{as:List α}{bs:List β}(h:P2 (fun a b=>R a (f b)) as bs):P2 R as (bs.map f):=by
 induction h with
 |nil=>exact .nil
 |cons r t ih=>exact .cons r ih
theorem Q9:kao ["standing","pieces","by_line","piece"] ["standing","pieces"] (kae kbv):=by ac_rfl
theorem kdn(W:WB K mg d base):FO P w W 1 d.XE d.XF ["standing","pieces"] (kgP d.qc):=by
 exists W.Zb.F,Q9
 ·obtain⟨x,pa,S,is,rfl,⟨o,p,mk,⟨dxs,fss,hx,l1,l2,l3,l4,l5⟩,ho,hp,hmk⟩,hpa,hi,hl,k⟩:=h
  refine⟨_,kac (psl (i:=2) Q9.nd kjB)
   (kac (ka4 PassesOwn.never rfl (kaF (K:=K) (pv 1)) (pgn (i:=3) Q9.nd)
   (kag (ka7 (pe_bm JV Nu Nv kbN (pe_bm Mv N5 M1 kfg (pv 2) (kaa (pe_ix (r:=rIxL K) kaK (kak (K:=K) (pv 0) rfl) (pv 3) (fun _ _=>rfl)) (kaa (kaP kaf) kaf))) (kaa (pv 3) kaf)))))
   (kag (kan (kgq rfl (by rfl) W.B.list (pv 2))))),?_⟩
  refine fun dd hd=>?_
  have s1:=kam (o:=.dK []) hd
  refine⟨_,rfl,pa,rfl,⟨_,SqL.of (s1 _ _ hpa)⟩,kbi (K:=K) (a:=pa) (xs:=is.map iV) (fun i σ H'=>(∃v3:Option V,σ=[some (.ref x),some (.ref pa),some (.ref dd),v3])∧∃gl,Ptd H H' dd gl (parted (fun i=>S.ow.getD i 0) (is.take i)))
   ⟨⟨none,rfl⟩,[],s1,by simp,fun r hr=>by simp at hr,kad, .nil⟩ (fun i σ H' _ h=>SqL.of (h.2.choose_spec.sm _ _ hpa)) ?_ ?_⟩
  ·rintro i y σ H1 hy ⟨⟨v3,rfl⟩,gl,Z⟩
   obtain⟨a,ea,rfl⟩:=kbO hy
   have hil:=at_lt ea
   obtain⟨ln,eln⟩:=at_of (hi a (U9 ea))
   have eg:S.ow.getD a 0=ln:=by rw[Jn,eln];rfl
   have enext:parted (fun i=>S.ow.getD i 0) (is.take (i+1))=ins (parted (fun i=>S.ow.getD i 0) (is.take i)) ln a:=by
    rw[kbU ea,kd7,eg]
   have lenG:=keM (fun i=>S.ow.getD i 0) (is.take i)
   rw[Jg] at lenG
   have lenK:(kvOf (parted (fun i=>S.ow.getD i 0) (is.take i)) gl).length<sizeLine:=by
    refine kap ?_
    unfold kvOf
    rw[Md]
    omega
   refine⟨_,rfl, .inr (.inr (.inl ⟨rfl, .inl ⟨_,Z.dk⟩⟩)),_,rfl,x,d.qc,dxs,fss,_,rfl,Z.sm _ _ hx,W.qc.cl,W.qE,l1,_,rfl,o,_,_,_,rfl,rfl,SqL.of (Z.sm _ _ ho),kaW (v:=.int (ln:Nat)) (by rw[Jb,eln];rfl),by decide,fun e he=>?_⟩
   have ned:dd≠e:=kah Z.dk he
   refine⟨dd,kvOf (parted (fun i=>S.ow.getD i 0) (is.take i)) gl,(ln:Nat), .ref e,rfl,rfl,by rw[kaj ned];exact Z.dk,lenK,fun v hv=>?_,fun hn=>?_⟩
   ·rcases kgz (G:=parted (fun i=>S.ow.getD i 0) (is.take i)) ln a Z.ls.len with⟨h1,_⟩|⟨j,g,r,h1,h2,h3,h4⟩
    ·rw[h1] at hv
     cases hv
    ·rw[h3] at hv
     cases hv
     have hrv:=Z.ls.get h2 h1
     have gl20:g.length≤720:=by
      have eg':=(kcx (fun i=>S.ow.getD i 0) (is.take i)).gs ln g (U9 h1)
      rw[eg']
      refine U4 (NL _ _) ?_
      rw[Jg]
      omega
     have hr2:(upd H1 e (.lst [])) r=some (.lst (g.map iV)):=by rw[kaj (kah hrv he)];exact hrv
     refine⟨.inl ⟨rfl,_,SqL.of hr2⟩,_,rfl,r,_,_,rfl,rfl,hr2,kap (by rw[U0];omega),⟨_,rfl⟩,gl,?_⟩
     rw[enext,h4]
     exact Z.put he h1 h2
   ·rcases kgz (G:=parted (fun i=>S.ow.getD i 0) (is.take i)) ln a Z.ls.len with⟨_,h4⟩|⟨j,g,r,h1,h2,h3,h4⟩
    ·have he2:(upd (upd H1 e (.lst [])) dd (.dK (kvOf (parted (fun i=>S.ow.getD i 0) (is.take i)) gl++[(Sum.inl ((ln:Nat):Int), .ref e)]))) e=some (.lst []):=by rw[kaj ned.symm,kad]
     refine⟨.inl ⟨rfl,_,SqL.of he2⟩,_,rfl,e,[],_,rfl,rfl,he2,by decide,⟨_,rfl⟩,gl++[e],?_⟩
     rw[enext,h4]
     exact Z.more hd he
    ·rw[h3] at hn
     cases hn
  ·rintro σ H1 ⟨⟨v3,rfl⟩,gl,Z⟩
   rw[U0,JB] at Z
   refine⟨_,rfl,dd,_,rfl,Z.dk,fun l hl2=>?_⟩
   rw[khd Z.ls.len]
   refine k _ l gl (Z.sm.trans (kam hl2)) (none_of Z.sm hl2) kad (P2.mapR (f:=Prod.snd) (R:=fun r g=>(upd H1 l (.lst (gl.map V.ref))) r=some (.lst (g.map iV))) (Z.ls.mono fun r p h=>kam hl2 _ _ h)) fun r hr=>(Z.fg r hr).1
inductive kfw (d:D) (vs:List V) (H:Hp) (Q:VK) (E_:XK):Prop
 |ct (x pa:Addr)(S:Stnd)(is:List Nat)(m:Nat)(_:vs=[.ref x, .ref pa, .int m])(_:StndIs d.qc H x S)(_:H pa=some (.lst (is.map iV)))(_:is.Pairwise (· < ·))(_:(∀i∈is,i<S.pr.length))(_:is.length<64)(_:2≤m)(_:m≤20)(_:Tbs d H)(_:∀(H':Hp)(p:Addr)(gl:List Addr),Same H H'→H p=none→H' p=some (.lst (gl.map V.ref))→P2 (fun r g=>H' r=some (.lst (g.map iV))) gl (grp m (fallP S.pr is))→(∀r∈gl,H r=none)→Q (.ref p) H'):kfw d vs H Q E_
theorem klh{pr:List Int}{is:List Nat}{ms:List Int}(hs:is.Pairwise (· < ·))(hp:ms.Perm (is.map fun(i:Nat)=>(i:Int)))(hk:ms.Pairwise fun a b=> -(pr.getD a.toNat 0)< -(pr.getD b.toNat 0)∨(-(pr.getD a.toNat 0)= -(pr.getD b.toNat 0)∧a<b)):ms.map V.int=(fallP pr is).map iV:=by
 have e:ms=(ms.map Int.toNat).map fun(i:Nat)=>(i:Int):=by
  rw[Jm]
  conv=>lhs;rw[←List.map_id ms]
  refine JL fun z hz=>?_
  obtain⟨i,_,rfl⟩:=Jp.mp (hp.mem_iff.mp hz)
  simp
 have hp2:(ms.map Int.toNat).Perm is:=by
  have:=hp.map Int.toNat
  rw[Jm] at this
  have e2:is.map (Int.toNat∘fun(i:Nat)=>(i:Int))=is:=by
   conv=>rhs;rw[←List.map_id is]
   exact JL fun i _=>rfl
  rwa [e2] at this
 have hk2:(ms.map Int.toNat).Pairwise (befP pr):=by
  rw[MD]
  refine hk.imp_of_mem fun {a b} ha hb h=>?_
  obtain⟨i,_,rfl⟩:=Jp.mp (hp.mem_iff.mp ha)
  obtain⟨j,_,rfl⟩:=Jp.mp (hp.mem_iff.mp hb)
  unfold befP
  simp only[Int.toNat_natCast] at h⊢
  omega
 rw[e,khG hs hp2 hk2,Jm]
 rfl
theorem ZO:kao ["standing","pieces","many","falling"] ["standing","pieces","many"] (kae kay):=by ac_rfl
theorem kdo(W:WB K mg d base):FO P w W 1 d.XG d.Qy ["standing","pieces","many"] (kfw d):=by
 refine FunD.okC W.QJ.F ZO (fun vs H Q E h=>?_) (fun A outer s H vs Q E hr h=>?_)
 ·obtain⟨x,pa,S,is,m,rfl,_⟩:=h
  rfl
 ·obtain⟨x,pa,S,is,m,rfl,hS,hpa,hs,hi,h64,hm2,hm20,htb,k⟩:=h
  obtain⟨o,p,mk,⟨dxs,fss,hx,l1,l2,l3,l4,l5⟩,ho,hp,hmk⟩:=id hS
  refine⟨_,kac (psl (i:=3) ZO.nd (khw (N:=["piece","standing"]) (cap:=[some 0]) (pv 1) ⟨CompScope.of (N:=["piece","standing"]) (cap:=[none,some 0]) (kae kay).names ["standing","pieces","many","falling"] rfl rfl (by decide +kernel),rfl,rfl,rfl,rfl,by decide +kernel⟩ rfl hr.depth W.code_falling_groups W.ck_falling_groups W.blt (by rfl) W.B.sorted (fun _ _ _ _ _=>rfl) (fun _ _ _ _ _=>(pe_un kft (pe_ix (r:=rIxL K) kaK (kak (K:=K) (pv 1) rfl) (pv 0) (fun _ _=>rfl)))) (by rfl)))
   (kag (kan (kb4 (N:=["start","falling","many"]) (CompScope.of (N:=["start","falling","many"]) (cap:=[none,some 3,some 2]) (kae kay).names ["standing","pieces","many","falling"] rfl rfl (by decide +kernel)) rfl (keK rfl W.B.range (kaa kai (kaa (pe_op kbh (pe_op kfH (kaw (r:=kbL K) kaI (by rfl) W.B.len b_len (kaa (pv 3) kaf)) (pv 2)) kai) (kaa (pv 2) kaf)))) (fun _ _ _ _=>pgn (i:=0) (show(["start","falling","many"]:List Str).Nodup by decide +kernel)) (fun _ _ _ _=>(kbo (r:=rSlL K) kcb (pv 1) (kbz (pv 0)) (kbz (pe_op kbh (pv 0) (pv 2)))))))),?_⟩
  have htb':TbAt d.tP_falling_groups H:=htb
  obtain⟨qs0,eT,_⟩:=id htb'
  have npT:∀{b:Addr}{u:HO},H b=some u→(∀ps,u≠.tbl ps)→b≠d.tP_falling_groups:=fun {b u} e hn z=>by
   rw[z,eT] at e
   cases e
   exact hn _ rfl
  have ei:is.map iV=(is.map fun(i:Nat)=>(i:Int)).map V.int:=by rw[Jm];rfl
  refine⟨_,rfl,pa,is.map fun(i:Nat)=>(i:Int),fun a=> -(S.pr.getD a.toNat 0),rfl,SqL.of (by rw[←ei];exact hpa),by rw[U0];exact h64,?_,htb',npT hpa (fun ps z=>by cases z),fun H2 G n hn=>?_,fun H2 l ms G f1 f2 hpm hpw=>?_⟩
  ·rw[MD]
   exact hs.imp fun {a b} h=>by omega
  ·obtain⟨i,hin,rfl⟩:=Jp.mp hn
   obtain⟨z,ez⟩:=at_of (hi i hin)
   have hx2:=G.kp _ _ (npT hx (fun ps z=>by cases z)) hx
   have hp2:=G.kp _ _ (npT hp (fun ps z=>by cases z)) hp
   refine⟨_,rfl,x,d.qc,dxs,fss,_,rfl,hx2,W.qc.cl,W.qx,l2,_,rfl,p,_,_,_,rfl,rfl,SqL.of hp2,kaW (v:=.int z) (by rw[Jb,ez];rfl),_,rfl,?_,rfl⟩
   show V.int (-z)=V.int (-(S.pr.getD ((i:Int)).toNat 0))
   rw[Int.toNat_natCast,Jn,ez]
   rfl
  have s2:=G.same htb'
  rw[klh hs hpm hpw]
  have lf:(fallP S.pr is).length=is.length:=(kbm S.pr is).length_eq
  have s3:=s2.trans (kam (o:=.lst ((fallP S.pr is).map iV)) f2)
  have el:(upd H2 l (.lst ((fallP S.pr is).map iV))) l=some (.lst ((fallP S.pr is).map iV)):=kad
  generalize upd H2 l (.lst ((fallP S.pr is).map iV))=H3 at *
  have ecnt:(Builtin.Range.rangeSize 0 ((((fallP S.pr is).map iV).length:Int)-(m:Int)+1) (m:Int)).toNat=(fallP S.pr is).length/m:=by
   rw[U0]
   exact kgh (by omega)
  have lg:=kgA m (fallP S.pr is)
  refine⟨_,rfl,l,_,rfl, .inl (SqL.of el),_,rfl,_,_,rfl,rfl,_,_,rfl,rfl,_,rfl,0,_,_,rfl,by omega,?_,by omega,by omega,?_⟩
  ·rw[U0]
   omega
  rw[ecnt]
  refine ki7 (n:=(fallP S.pr is).length/m) (fun i σ ys H'=>Same H3 H'∧(∃v0:Option V,σ=[v0,some (.ref l),some (.int m)])∧∃gl,ys=gl.map V.ref∧P2 (fun r g=>H' r=some (.lst (g.map iV))) gl ((grp m (fallP S.pr is)).take i)∧∀r∈gl,H r=none)
   ⟨Same.refl _,⟨none,rfl⟩,[],rfl, .nil,fun r hr=>by simp at hr⟩ ?_ ?_ ?_ ?_
  ·have:(grp m (fallP S.pr is)).length=(fallP S.pr is).length/m:=by simp[grp]
   exact Jf (kap (by omega))
  ·rintro i σ ys H' hi' ⟨_,_,gl,rfl,hP,_⟩
   rw[U0,hP.len,Jg]
   have:(grp m (fallP S.pr is)).length=(fallP S.pr is).length/m:=by simp[grp]
   omega
  ·rintro i σ ys H' hi' ⟨s4,⟨v0,rfl⟩,gl,rfl,hP,hfr⟩
   have eg:(grp m (fallP S.pr is))[i]?=some (((fallP S.pr is).drop (i*m)).take m):=by
    unfold grp
    rw[Jb,Mf hi']
    rfl
   have ecut:cutV ((fallP S.pr is).map iV) (some (0+(i:Int)*(m:Int))) (some (0+(i:Int)*(m:Int)+(m:Int)))=(((fallP S.pr is).drop (i*m)).take m).map iV:=by
    have:=ki6 ((fallP S.pr is).map iV) (i*m) m
    rw[show(0:Int)+(i:Int)*(m:Int)=((i*m:Nat):Int) by rw[Int.zero_add,Int.natCast_mul],show((i*m:Nat):Int)+(m:Int)=((i*m+m:Nat):Int) by rw[Int.natCast_add],this,J8,NH]
   refine⟨_,rfl,_,rfl,_,rfl,_,rfl,_,rfl,_,_,rfl,rfl,_,rfl,l,_,rfl,SqL.of (s4 _ _ el),fun r hr=>?_⟩
   refine⟨s4.trans (kam hr),⟨_,rfl⟩,gl++[r],by rw[Jc];rfl,?_,fun r' hr'=>?_⟩
   ·rw[kbU eg,ecut]
    exact P2.snoc (hP.mono fun r' g e=>kam hr _ _ e) kad
   ·rcases JE.mp hr' with h|h
    ·exact hfr r' h
    ·rw[JU] at h
     rw[h]
     exact(s3.trans s4).free hr
  ·rintro σ ys H' ⟨s4,⟨v0,rfl⟩,gl,rfl,hP,hfr⟩ D hD
   have el2:(grp m (fallP S.pr is)).length=(fallP S.pr is).length/m:=by simp[grp]
   rw[J7 (by omega)] at hP
   exact k _ D gl ((s3.trans s4).trans (kam hD)) ((s3.trans s4).free hD) kad (hP.mono fun r g e=>kam hD _ _ e) hfr
theorem Qm:kao ["voucher","standing","pieces","groups","lasts"] ["voucher","standing","pieces"] (kae ka3):=by ac_rfl
theorem keB(W:WB K mg d base):FO P w W 3 d.XC d.XD ["voucher","standing","pieces"] (kgL d):=by
 exists W.Za.F,Qm
 ·obtain⟨v,x,pa,⟨so,ms⟩,ps,B,S,rfl,⟨mA,dxv,fsv,hv,lvm,hso,hM,hh,htb⟩,hS,hpa,wf,vo,k⟩:=h
  exists qG,kbC,W
  exists VB,kdn,W
  exists ZP,kdo,W
  exists hr1,1,hr,0
  refine⟨_,kac (ps_if (ka0 (kaw (r:=rIsi K) ka2 (by rfl) W.B.isi b_isi (kaa (pv 0) (kaa (kcf (v:=.ref d.c_Off) (by rfl) W.g_Off rfl) kaf)))) (kag (kan (kaP (kaa (kcI (kaa (kaw (kf1 rfl) (by rfl) W.B.min b_min (kaa (kak (K:=K) (pv 0) rfl) (kaa (pcl qG hr W.qH (kaa (pv 1) (kaa (pv 2) kaf))) kaf))) (kaa (pv 2) kaf))) kaf)))) (kas))
   (kac (ps_if (ka0 (kaw (r:=rIsi K) ka2 (by rfl) W.B.isi b_isi (kaa (pv 0) (kaa (kcf (v:=.ref d.qh) (by rfl) W.ZX rfl) kaf)))) (kac (psl (i:=3) Qm.nd (kcY (kbp (ka0 (kak (K:=K) (pv 0) rfl)) (pcl VB hr1 W.Zb (kaa (pv 1) (kaa (pv 2) kaf))) (kaP (kaa (pv 2) kaf)))))
   (kag (kan (kb4 (N:=["group","standing","voucher"]) (CompScope.of (N:=["group","standing","voucher"]) (cap:=[none,some 1,some 0]) (kae ka3).names ["voucher","standing","pieces","groups","lasts"] rfl rfl (by decide +kernel)) rfl (kaF (K:=K) (pv 3)) (fun _ _ _ _=>pgn (i:=0) (show(["group","standing","voucher"]:List Str).Nodup by decide +kernel)) (fun _ _ _ _=>(kcI (kaa (pe_op kaC (pe_op kd9 (pcl qG hr W.qH (kaa (pv 1) (kaa (pv 0) kaf))) (kak (K:=K) (pv 2) rfl)) kai) (kaa (pv 0) kaf)))))))) (kas))
   (kac (ps_if (ka0 (kaw (r:=rIsi K) ka2 (by rfl) W.B.isi b_isi (kaa (pv 0) (kaa (kcf (v:=.ref d.qj) (by rfl) W.ZY rfl) kaf)))) (kac (kgo (N:=["group"]) (CompScope.plain rfl (by decide +kernel) (by decide +kernel) (by decide +kernel) (nd1 _)) rfl (kaF (K:=K) (pcl ZP hr1 W.QJ (kaa (pv 1) (kaa (pv 2) (kaa (kak (K:=K) (pv 0) rfl) kaf))))) (fun _ _ _ _=>pgn (i:=0) (nd1 _)) (fun _ _ _ _=>(pe_ix (r:=rIxL K) kaK (pv 0) (pe_un kft kai) (fun _ _=>rfl))) (pgn (i:=4) Qm.nd))
   (kag (kan (kb4 (N:=["last","standing"]) (CompScope.of (N:=["last","standing"]) (cap:=[none,some 1]) (kae ka3).names ["voucher","standing","pieces","groups","lasts"] rfl rfl (by decide +kernel)) rfl (kaF (K:=K) (pv 4)) (fun _ _ _ _=>pgn (i:=0) (show(["last","standing"]:List Str).Nodup by decide +kernel)) (fun _ _ _ _=>(kcI (kaa (pe_ix (r:=rIxL K) kaK (kak (K:=K) (pv 1) rfl) (pv 0) (fun _ _=>rfl)) (kaa (kaP (kaa (pv 0) kaf)) kaf)))))))) (kas))
   (kac (ps_if (ka0 (kaw (r:=rIsi K) ka2 (by rfl) W.B.isi b_isi (kaa (pv 0) (kaa (kcf (v:=.ref d.qi) (by rfl) W.ZZ rfl) kaf)))) (kac (psl (i:=3) Qm.nd (pcl ZP hr1 W.QJ (kaa (pv 1) (kaa (pv 2) (kaa (kak (K:=K) (pv 0) rfl) kaf)))))
   (kag (kan (kb4 (N:=["group","standing","voucher"]) (CompScope.of (N:=["group","standing","voucher"]) (cap:=[none,some 1,some 0]) (kae ka3).names ["voucher","standing","pieces","groups","lasts"] rfl rfl (by decide +kernel)) rfl (kaF (K:=K) (pv 3)) (fun _ _ _ _=>pgn (i:=0) (show(["group","standing","voucher"]:List Str).Nodup by decide +kernel)) (fun _ _ _ _=>(kcI (kaa (kaw (kje rfl) (by rfl) W.B.max b_max (kaa (pe_op kfH (pcl qG hr W.qH (kaa (pv 1) (kaa (pv 0) kaf))) (kak (K:=K) (pv 2) rfl)) (kaa kai kaf))) (kaa (pv 0) kaf)))))))) (kas))
   (kag (kan (kaP kaf)))))),?_⟩
  have I:=kiP W hh
  exists Y4
  refine⟨_,rfl,_,_,_,_,rfl, .inr ⟨_,rfl⟩,TyOf.ins hv (cl_of W hh) I.ha I.hn I.ht I.hm,kiJ W hh,_,rfl,?_⟩
  have lp:=wf.lp
  have np:=wf.np
  have habl:∀i∈abt ps (kds B) ms.kind ms.lone S,i<S.pr.length:=fun i hi=>by rw[lp];exact kga hi
  have habo:∀i∈abt ps (kds B) ms.kind ms.lone S,i<S.ow.length:=fun i hi=>kga hi
  have hand:=kf9 ps (kds B) ms.kind ms.lone S
  have lab:(abt ps (kds B) ms.kind ms.lone S).length≤720:=U4 (kdv _ _ _ _ _) np
  cases so with
  | off am=>
   have qn:=kb6 (qs_nn wf.nn (abt ps (kds B) ms.kind ms.lone S))
   have ha:0≤am∧am≤1000000000000:=vo.so
   refine iteT ?_
   symm
   exists Y6
   refine⟨_,rfl,v,d.c_Off,dxv,fsv,_,rfl,hv,W.c_Off.cl,W.QP,hso,_,rfl,_,rfl,x,pa,S,_,rfl,hS,hpa,habl,lab,fun H1 s1=>?_⟩
   nofun
   exists Y6
   refine⟨_,_,rfl,_,rfl,(by show 2≤sizeLine;decide),fun t ht=>⟨(by show 1≤sizeLine;decide),fun l hl=>?_⟩⟩
   have emin:(if(qs S.pr (abt ps (kds B) ms.kind ms.lone S)).sum<am then(qs S.pr (abt ps (kds B) ms.kind ms.lone S)).sum else am)=min am (qs S.pr (abt ps (kds B) ms.kind ms.lone S)).sum:=by
    split <;> omega
   rw[emin] at hl⊢
   have s2:=s1.trans (kam (o:=.tup [.int (min am (qs S.pr (abt ps (kds B) ms.kind ms.lone S)).sum), .ref pa]) ht)
   have s3:=s2.trans (kam (o:=.lst [.ref t]) hl)
   nofun
   refine k _ l [t] [(min am (qs S.pr (abt ps (kds B) ms.kind ms.lone S)).sum,abt ps (kds B) ms.kind ms.lone S)] s3 (none_of s2 hl) kad (.cons ⟨pa,kam hl _ _ kad,s3 _ _ hpa, .inl rfl⟩ .nil) ?_ ?_ ?_ (by simp) ?_
   ·intro c g hc
    rw[JU] at hc
    cases hc
    nofun
    exact⟨by omega,by omega,lab⟩
   ·simpa using hand
   ·simpa using habl
   ·simp[want]
  | share sh bl=>
   have hsh:1≤sh∧sh≤1000:=vo.so
   refine iteF ?_
   symm
   exists Y6
   refine⟨_,rfl,_,_,_,_,rfl, .inr ⟨_,rfl⟩,TyOf.ins hv (cl_of W hh) I.ha I.hn I.ht I.hm,kda W hh,_,rfl,iteT ?_⟩
   nofun
   exists Y6
   refine⟨fun gv H1=>∃(gp:Addr)(gl:List Addr)(gs:List (List Nat)),gv=.ref gp∧Same H H1∧H gp=none∧H1 gp=some (.lst (gl.map V.ref))∧P2 (fun r g=>H1 r=some (.lst (g.map iV))) gl gs∧(∀r∈gl,r=pa∨H r=none)∧gs.length≤720∧(∀g∈gs,g.length≤720)∧gs.flatten.Nodup∧(∀i∈gs.flatten,i<S.pr.length)∧
    spr S.pr.length gs.flatten (gs.map fun g=>dl ((qs S.pr g).sum*sh/1000) (qs S.pr g)).flatten=spr S.pr.length (abt ps (kds B) ms.kind ms.lone S) (want (.share sh bl) S.mkd.length ((abt ps (kds B) ms.kind ms.lone S).map fun i=>S.ow.getD i 0) (qs S.pr (abt ps (kds B) ms.kind ms.lone S))),?_,?_⟩
   ·refine⟨_,rfl,v,d.qh,dxv,fsv,_,rfl,hv,W.qh.cl,W.ZC,hso.2,bl,rfl,?_⟩
    cases bl with
    | true=>
     refine iteT ?_
     nofun
     exists Y10
     refine⟨_,rfl,_,rfl,x,pa,S,_,rfl,hS,hpa,habo,lab,fun H1 p gl s1 f1 h1 hP hg=>⟨p,gl,_,rfl,s1,f1,h1,hP,fun r hr=>.inr (hg r hr),?_,?_,?_,?_,?_⟩⟩
     ·rw[U0]
      exists 5
      exact U4 (keM _ _) lab
     ·intro g hg'
      rw[(kcx (fun i=>S.ow.getD i 0) (abt ps (kds B) ms.kind ms.lone S)).snds] at hg'
      obtain⟨l,_,rfl⟩:=Jp.mp hg'
      exists 5
      exact U4 (NL _ _) lab
     ·have ok:=kcx (fun i=>S.ow.getD i 0) (abt ps (kds B) ms.kind ms.lone S)
      rw[ok.snds]
      exists 5
      exact kd6 (f:=fun i=>S.ow.getD i 0) hand ok.nd
     ·intro i hi
      rw[(kcx (fun i=>S.ow.getD i 0) (abt ps (kds B) ms.kind ms.lone S)).snds] at hi
      obtain⟨g,hg',hi'⟩:=J9.mp hi
      obtain⟨l,_,rfl⟩:=Jp.mp hg'
      exists 5
      exact habl i (JM.mp hi').1
     ·refine khy (fun z=>z*sh/1000) hand fun i hi=>?_
      obtain⟨ln,eln⟩:=at_of (habo i hi)
      rw[Jn,eln,wf.lm]
      exists 5
      exact wf.line eln
    |false=>
     refine iteF ?_
     nofun
     exists Y10
     refine⟨_,rfl,(by show 1≤sizeLine;decide),fun p hp=>⟨p,[pa],[abt ps (kds B) ms.kind ms.lone S],rfl,kam hp,hp,kad, .cons (kam hp _ _ hpa) .nil,fun r hr=>.inl (by simpa using hr),by simp,fun g hg=>?_,by simpa using hand,by simpa using habl,by simp[want]⟩⟩
     rw[JU] at hg
     rw[hg]
     exists 5
     exact lab
   rintro gv H1 ⟨gp,gl,gs,rfl,s1,f1,h1,hP,hor,lgs,lg,gnd,glt,gsp⟩
   have lgl:=hP.len
   have gok:∀g∈gs,∀i∈g,i<S.pr.length:=fun g hg i hi=>glt i (J9.mpr ⟨g,hg,hi⟩)
   nofun
   exists Y6
   refine⟨_,rfl,gp,rfl,⟨_,SqL.of h1⟩,ka5 (xs:=gl.map V.ref) (fun i σ ys H'=>Same H1 H'∧(∃v0:Option V,σ=[v0,some (.ref x),some (.ref v)])∧∃tl,ys=tl.map V.ref∧P2 (GrpAt H H' pa) tl ((gs.take i).map fun g=>((qs S.pr g).sum*sh/1000,g)))
    ⟨Same.refl _,⟨none,rfl⟩,[],rfl, .nil⟩ (by rw[U0];exact Jf (kap (by omega))) ?_ ?_ ?_⟩
   ·rintro i σ ys H2 hi ⟨s2,_,tl,rfl,hT⟩
    nofun
    exists Y8
    refine⟨SqL.of (s2 _ _ h1),?_⟩
    rw[U0,hT.len,U0,Jg]
    rw[U0] at hi
    omega
   ·rintro i y σ ys H2 hy ⟨s2,⟨v0,rfl⟩,tl,rfl,hT⟩
    obtain⟨r,er,rfl⟩:=kbK hy
    obtain⟨g,eg,hr⟩:=hP.at er
    have s12:=s1.trans s2
    have hg:=U9 eg
    have sn:=kb6 (qs_nn wf.nn g)
    have sl:=kii wf (lg g hg) (gok g hg)
    exists 3
    exists Y8
    refine⟨_,rfl,_,rfl,x,r,S,g,rfl,hS.same s12,s2 _ _ hr,gok g hg,lg g hg,fun H3 s3=>?_⟩
    have s13:=s12.trans s3
    exists 3
    exists Y8
    refine⟨_,rfl,v,d.qh,dxv,fsv,_,rfl,s13 _ _ hv,W.qh.cl,W.ZA,hso.1,_,_,rfl,rfl, .inl ⟨by omega,by omega⟩,_,_,rfl,rfl,⟨by decide,by decide⟩,_,rfl,(by show 2≤sizeLine;decide),fun t ht=>?_⟩
    have s4:=kam (o:=.tup [.int ((qs S.pr g).sum*sh/1000), .ref r]) ht
    exists 3
    exists Y8
    refine⟨(s2.trans s3).trans s4,⟨_,rfl⟩,tl++[t],by rw[Jc];rfl,?_⟩
    rw[kbU eg,Jc]
    exists 3
    refine P2.snoc (hT.mono fun t' q ⟨ga,a1,a2,a3⟩=>⟨ga,(s3.trans s4) _ _ a1,(s3.trans s4) _ _ a2,a3⟩) ⟨r,kad,((s2.trans s3).trans s4) _ _ hr,hor r (U9 er)⟩
   ·rintro σ ys H2 ⟨s2,⟨v0,rfl⟩,tl,rfl,hT⟩ D hD
    rw[U0,lgl,JB] at hT
    have s3:=kam (o:=.lst (tl.map V.ref)) hD
    have e1:(gs.map fun g=>((qs S.pr g).sum*sh/1000,g)).map Prod.snd=gs:=by
     rw[Jm]
     exists 3
     exact List.map_id' gs
    exists 3
    refine k _ D tl _ ((s1.trans s2).trans s3) (none_of (s1.trans s2) hD) kad (hT.mono fun t' q ⟨ga,a1,a2,a3⟩=>⟨ga,s3 _ _ a1,s3 _ _ a2,a3⟩) ?_ (by rw[e1];exact gnd) (by rw[e1];exact glt) (by rw[U0];exact lgs) ?_
    ·intro c g hc
     obtain⟨g',hg',e⟩:=Jp.mp hc
     cases e
     have sn:=kb6 (qs_nn wf.nn g)
     have:=ke0 sn hsh.1 hsh.2
     exists 3
     exact⟨this.1,this.2,lg g hg'⟩
    ·rw[e1,Jm]
     exists 3
     exact gsp
  | cheap n=>
   have hn:2≤n∧n≤20:=vo.so
   obtain⟨m,rfl⟩:∃m:Nat,n=m:=⟨n.toNat,by omega⟩
   refine iteF ?_
   symm
   refine⟨_,rfl,_,_,_,_,rfl, .inr ⟨_,rfl⟩,TyOf.ins hv (cl_of W hh) I.ha I.hn I.ht I.hm,kda W hh,_,rfl,iteF ⟨_,rfl,_,_,_,_,rfl, .inr ⟨_,rfl⟩,TyOf.ins hv (cl_of W hh) I.ha I.hn I.ht I.hm,kcz W hh,_,rfl,iteT ?_⟩⟩
   have hpw:(abt ps (kds B) ms.kind ms.lone S).Pairwise (· < ·):=Ny.filter _ MA
   have l64:(abt ps (kds B) ms.kind ms.lone S).length<64:=JY (kdv _ _ _ _ _) wf.n64
   symm
   exists Y6
   refine⟨_,rfl,_,rfl,_,rfl,v,d.qj,dxv,fsv,_,rfl,hv,W.qj.cl,W.ZE,hso,x,pa,S,_,m,rfl,hS,hpa,hpw,habl,l64,by omega,by omega,htb,fun H1 gp gl s1 f1 h1 hP0 hg=>?_⟩
   have hP:P2 (fun r g=>H1 r=some (.lst (g.map iV))) gl (grp m (fallP S.pr (abt ps (kds B) ms.kind ms.lone S))):=hP0
   clear hP0
   have lgl:=hP.len
   have lG:=kgA m (fallP S.pr (abt ps (kds B) ms.kind ms.lone S))
   have lf:(fallP S.pr (abt ps (kds B) ms.kind ms.lone S)).length=(abt ps (kds B) ms.kind ms.lone S).length:=(kbm _ _).length_eq
   have hgr:∀{i:Nat}{g:List Nat},(grp m (fallP S.pr (abt ps (kds B) ms.kind ms.lone S)))[i]?=some g→0<g.length∧g[g.length-1]?=some (g.getLastD 0)∧g.getLastD 0∈abt ps (kds B) ms.kind ms.lone S:=fun {i g} eg=>by
    obtain⟨h1,h2,h3⟩:=khe eg
    have h4:=kgy (by omega) eg
    nofun
    exists Y8
    refine⟨by omega,?_,(kbm _ _).mem_iff.mp (U9 h4)⟩
    rw[h2,h3 _ (by omega)]
    exists 3
    exact h4
   have hla:∀a∈lasts (grp m (fallP S.pr (abt ps (kds B) ms.kind ms.lone S))),a∈abt ps (kds B) ms.kind ms.lone S:=fun a ha=>by
    obtain⟨g,hg',rfl⟩:=Jp.mp ha
    obtain⟨j,hj⟩:=Nr.mp hg'
    nofun
    exact(hgr hj).2.2
   nofun
   exists Y6
   refine⟨gp,rfl,⟨_,SqL.of h1⟩,ka5 (xs:=gl.map V.ref) (fun i σ ys H'=>Same H1 H'∧(∃v0:Option V,σ=[v0])∧ys=((lasts (grp m (fallP S.pr (abt ps (kds B) ms.kind ms.lone S)))).take i).map iV)
    ⟨Same.refl _,⟨none,rfl⟩,rfl⟩ (by rw[U0];exact Jf (kap (by omega))) ?_ ?_ ?_⟩
   ·rintro i σ ys H2 hi ⟨s2,_,rfl⟩
    nofun
    exists Y8
    refine⟨SqL.of (s2 _ _ h1),?_⟩
    rw[U0,Jg,kc9]
    rw[U0] at hi
    omega
   ·rintro i y σ ys H2 hy ⟨s2,⟨v0,rfl⟩,rfl⟩
    obtain⟨r,er,rfl⟩:=kbK hy
    obtain⟨g,eg,hr⟩:=hP.at er
    obtain⟨g0,g1,g2⟩:=hgr eg
    have al:atI (g.map iV) (-1)=some (iV (g.getLastD 0)):=kf7 (by rw[U0,Jb,g1];rfl) (by rw[U0];exact g0)
    exists 3
    exists Y8
    refine⟨_,rfl,1,rfl,r,_,_,_,rfl,rfl,SqL.of (s2 _ _ hr),al,s2,⟨_,rfl⟩,?_⟩
    rw[kbU (r:=g.getLastD 0) (by unfold lasts;rw[Jb,eg];rfl),Jc]
    rfl
   rintro σ ys H2 ⟨s2,⟨v0,rfl⟩,rfl⟩ D hD
   rw[U0,lgl,J7 (by rw[kc9];exact U2 _)]
   have s3:=s2.trans (kam (o:=.lst ((lasts (grp m (fallP S.pr (abt ps (kds B) ms.kind ms.lone S)))).map iV)) hD)
   have fD:H D=none:=none_of (s1.trans s2) hD
   have eD:(upd H2 D (.lst ((lasts (grp m (fallP S.pr (abt ps (kds B) ms.kind ms.lone S)))).map iV))) D=some (.lst ((lasts (grp m (fallP S.pr (abt ps (kds B) ms.kind ms.lone S)))).map iV)):=kad
   generalize upd H2 D (.lst ((lasts (grp m (fallP S.pr (abt ps (kds B) ms.kind ms.lone S)))).map iV))=H3 at *
   obtain⟨o,p,mk,⟨dxs,fss,hx,l1,l2,l3,l4,l5⟩,ho,hp,hmk⟩:=id hS
   have s13:=s1.trans s3
   have lL:=kc9 (grp m (fallP S.pr (abt ps (kds B) ms.kind ms.lone S)))
   nofun
   exists Y6
   refine⟨_,rfl,D,rfl,⟨_,SqL.of eD⟩,ka5 (xs:=(lasts (grp m (fallP S.pr (abt ps (kds B) ms.kind ms.lone S)))).map iV) (fun i σ ys H'=>Same H3 H'∧(∃v0:Option V,σ=[v0,some (.ref x)])∧∃tl,ys=tl.map V.ref∧P2 (GrpAt H H' pa) tl (((lasts (grp m (fallP S.pr (abt ps (kds B) ms.kind ms.lone S)))).take i).map fun a=>(S.pr.getD a 0,[a])))
    ⟨Same.refl _,⟨none,rfl⟩,[],rfl, .nil⟩ (by rw[U0];exact Jf (kap (by omega))) ?_ ?_ ?_⟩
   ·rintro i σ ys H4 hi ⟨s4,_,tl,rfl,hT⟩
    nofun
    exists Y8
    refine⟨SqL.of (s4 _ _ eD),?_⟩
    rw[U0,hT.len,U0,Jg]
    rw[U0] at hi
    omega
   ·rintro i y σ ys H4 hy ⟨s4,⟨v0,rfl⟩,tl,rfl,hT⟩
    obtain⟨a,ea,rfl⟩:=kbO hy
    have ha:=hla a (U9 ea)
    obtain⟨z,ez⟩:=at_of (habl a ha)
    have ez':S.pr.getD a 0=z:=by rw[Jn,ez];rfl
    have s14:=s13.trans s4
    exists 3
    exists Y8
    refine⟨_,rfl,x,d.qc,dxs,fss,_,rfl,s14 _ _ hx,W.qc.cl,W.qx,l2,_,rfl,p,_,_,_,rfl,rfl,SqL.of (s14 _ _ hp),kaW (v:=.int z) (by rw[Jb,ez];rfl),_,rfl,(by show 1≤sizeLine;decide),fun q hq=>⟨(by show 2≤sizeLine;decide),fun t ht=>?_⟩⟩
    have s5:=(kam (o:=.lst [iV a]) hq).trans (kam (o:=.tup [.int z, .ref q]) ht)
    exists 3
    exists Y8
    refine⟨s4.trans s5,⟨_,rfl⟩,tl++[t],by rw[Jc];rfl,?_⟩
    rw[kbU ea,Jc]
    exists 3
    exact P2.snoc (hT.mono fun t' q' ⟨ga,a1,a2,a3⟩=>⟨ga,s5 _ _ a1,s5 _ _ a2,a3⟩) ⟨q,by show upd _ _ _ _=some (.tup [.int (S.pr.getD a 0), .ref q]);rw[ez'];exact kad,kam ht _ _ kad, .inr (none_of s14 hq)⟩
   ·rintro σ ys H4 ⟨s4,⟨v0,rfl⟩,tl,rfl,hT⟩ D2 hD2
    rw[U0,JB] at hT
    have s5:=kam (o:=.lst (tl.map V.ref)) hD2
    have e1:((lasts (grp m (fallP S.pr (abt ps (kds B) ms.kind ms.lone S)))).map fun a=>(S.pr.getD a 0,[a])).map Prod.snd=(lasts (grp m (fallP S.pr (abt ps (kds B) ms.kind ms.lone S)))).map fun a=>[a]:=by
     rw[Jm]
     rfl
    have e2:=kib (fun i=>S.pr.getD i 0) (lasts (grp m (fallP S.pr (abt ps (kds B) ms.kind ms.lone S))))
    exists 3
    refine k _ D2 tl _ ((s13.trans s4).trans s5) (none_of (s13.trans s4) hD2) kad (hT.mono fun t' q ⟨ga,a1,a2,a3⟩=>⟨ga,s5 _ _ a1,s5 _ _ a2,a3⟩) ?_ (by rw[e1,e2.1];exact kgx (by omega) (keq hand)) (by rw[e1,e2.1];exact fun i hi=>habl i (hla i hi)) (by rw[U0];omega) ?_
    ·intro c g hc
     obtain⟨a,ha,e⟩:=Jp.mp hc
     cases e
     have q0:(qs S.pr [a]).sum=S.pr.getD a 0:=by simp[qs]
     have q1:=kb6 (qs_nn wf.nn [a])
     rw[q0] at q1⊢
     exists 3
     exact⟨q1,Int.le_refl _,by simp⟩
    ·rw[e1,e2.1,Jm]
     have e3:(lasts (grp m (fallP S.pr (abt ps (kds B) ms.kind ms.lone S)))).map ((fun p=>dl p.1 (qs S.pr p.2))∘fun a=>(S.pr.getD a 0,[a]))=(lasts (grp m (fallP S.pr (abt ps (kds B) ms.kind ms.lone S)))).map fun a=>[S.pr.getD a 0]:=
      JL fun a _=>kl1 _
     rw[e3,e2.2]
     exists 3
     exact(kjc (by omega) hand).symm
  | bund n pc=>
   have hn:2≤n∧n≤20∧0≤pc∧pc≤1000000000000:=vo.so
   obtain⟨m,rfl⟩:∃m:Nat,n=m:=⟨n.toNat,by omega⟩
   refine iteF ?_
   symm
   refine⟨_,rfl,_,_,_,_,rfl, .inr ⟨_,rfl⟩,TyOf.ins hv (cl_of W hh) I.ha I.hn I.ht I.hm,kda W hh,_,rfl,iteF ⟨_,rfl,_,_,_,_,rfl, .inr ⟨_,rfl⟩,TyOf.ins hv (cl_of W hh) I.ha I.hn I.ht I.hm,kcz W hh,_,rfl,iteF ⟨_,rfl,_,_,_,_,rfl, .inr ⟨_,rfl⟩,TyOf.ins hv (cl_of W hh) I.ha I.hn I.ht I.hm,keQ W hh,_,rfl,iteT ?_⟩⟩⟩
   have hpw:(abt ps (kds B) ms.kind ms.lone S).Pairwise (· < ·):=Ny.filter _ MA
   have l64:(abt ps (kds B) ms.kind ms.lone S).length<64:=JY (kdv _ _ _ _ _) wf.n64
   symm
   exists Y6
   refine⟨_,rfl,_,rfl,_,rfl,v,d.qi,dxv,fsv,_,rfl,hv,W.qi.cl,W.ZG,hso.1,x,pa,S,_,m,rfl,hS,hpa,hpw,habl,l64,by omega,by omega,htb,fun H1 gp gl s1 f1 h1 hP0 hg=>?_⟩
   have hP:P2 (fun r g=>H1 r=some (.lst (g.map iV))) gl (grp m (fallP S.pr (abt ps (kds B) ms.kind ms.lone S))):=hP0
   clear hP0
   have lgl:=hP.len
   have lG:=kgA m (fallP S.pr (abt ps (kds B) ms.kind ms.lone S))
   have lf:(fallP S.pr (abt ps (kds B) ms.kind ms.lone S)).length=(abt ps (kds B) ms.kind ms.lone S).length:=(kbm _ _).length_eq
   have gin:∀g∈grp m (fallP S.pr (abt ps (kds B) ms.kind ms.lone S)),∀i∈g,i∈abt ps (kds B) ms.kind ms.lone S:=fun g hg' i hi=>(kbm _ _).mem_iff.mp (kiW hg' i hi)
   have gok:∀g∈grp m (fallP S.pr (abt ps (kds B) ms.kind ms.lone S)),∀i∈g,i<S.pr.length:=fun g hg' i hi=>habl i (gin g hg' i hi)
   have lg:∀g∈grp m (fallP S.pr (abt ps (kds B) ms.kind ms.lone S)),g.length≤720:=fun g hg'=>by
    obtain⟨j,hj⟩:=Nr.mp hg'
    have:=(khe hj).2.1
    omega
   generalize egs:grp m (fallP S.pr (abt ps (kds B) ms.kind ms.lone S))=gs at *
   nofun
   exists Y6
   refine⟨_,rfl,gp,rfl,⟨_,SqL.of h1⟩,ka5 (xs:=gl.map V.ref) (fun i σ ys H'=>Same H1 H'∧(∃v0:Option V,σ=[v0,some (.ref x),some (.ref v)])∧∃tl,ys=tl.map V.ref∧P2 (GrpAt H H' pa) tl ((gs.take i).map fun g=>(max 0 ((qs S.pr g).sum-pc),g)))
    ⟨Same.refl _,⟨none,rfl⟩,[],rfl, .nil⟩ (by rw[U0];exact Jf (kap (by omega))) ?_ ?_ ?_⟩
   ·rintro i σ ys H2 hi ⟨s2,_,tl,rfl,hT⟩
    nofun
    exists Y8
    refine⟨SqL.of (s2 _ _ h1),?_⟩
    rw[U0,hT.len,U0,Jg]
    rw[U0] at hi
    omega
   ·rintro i y σ ys H2 hy ⟨s2,⟨v0,rfl⟩,tl,rfl,hT⟩
    obtain⟨r,er,rfl⟩:=kbK hy
    obtain⟨g,eg,hr⟩:=hP.at er
    have s12:=s1.trans s2
    have hg':=U9 eg
    have sn:=kb6 (qs_nn wf.nn g)
    exists 3
    exists Y8
    refine⟨_,rfl,_,rfl,x,r,S,g,rfl,hS.same s12,s2 _ _ hr,gok g hg',lg g hg',fun H3 s3=>?_⟩
    have s13:=s12.trans s3
    exists 3
    exists Y8
    refine⟨_,rfl,v,d.qi,dxv,fsv,_,rfl,s13 _ _ hv,W.qi.cl,W.ZH,hso.2,_,_,rfl,rfl,?_⟩
    exists 3
    exists Y8
    refine⟨_,_,rfl,_,rfl,(by show 2≤sizeLine;decide),fun t ht=>?_⟩
    have emax:(if(0:Int) > (qs S.pr g).sum-pc then 0 else(qs S.pr g).sum-pc)=max 0 ((qs S.pr g).sum-pc):=by
     split <;> omega
    rw[emax]
    have s4:=kam (o:=.tup [.int (max 0 ((qs S.pr g).sum-pc)), .ref r]) ht
    exists 3
    exists Y8
    refine⟨(s2.trans s3).trans s4,⟨_,rfl⟩,tl++[t],by rw[Jc];rfl,?_⟩
    rw[kbU eg,Jc]
    exists 3
    refine P2.snoc (hT.mono fun t' q ⟨ga,a1,a2,a3⟩=>⟨ga,(s3.trans s4) _ _ a1,(s3.trans s4) _ _ a2,a3⟩) ⟨r,kad,((s2.trans s3).trans s4) _ _ hr, .inr (hg r (U9 er))⟩
   ·rintro σ ys H2 ⟨s2,⟨v0,rfl⟩,tl,rfl,hT⟩ D hD
    rw[U0,lgl,JB] at hT
    have s3:=kam (o:=.lst (tl.map V.ref)) hD
    have e1:(gs.map fun g=>(max 0 ((qs S.pr g).sum-pc),g)).map Prod.snd=gs:=by
     rw[Jm]
     exists 3
     exact List.map_id' gs
    exists 3
    refine k _ D tl _ ((s1.trans s2).trans s3) (none_of (s1.trans s2) hD) kad (hT.mono fun t' q ⟨ga,a1,a2,a3⟩=>⟨ga,s3 _ _ a1,s3 _ _ a2,a3⟩) ?_ (by rw[e1,←egs];exact kiV (keq hand)) (by rw[e1];intro i hi;obtain⟨g,hg',hi'⟩:=J9.mp hi;exact gok g hg' i hi') (by rw[U0];omega) ?_
    ·intro c g hc
     obtain⟨g',hg',e⟩:=Jp.mp hc
     cases e
     have sn:=kb6 (qs_nn wf.nn g)
     exists 3
     exact⟨by omega,by omega,lg g hg'⟩
    ·rw[e1,Jm,←egs]
     exists 3
     exact(kj5 (fun z=>max 0 (z-pc)) hand).symm
  |carr=>
   refine iteF ?_
   symm
   refine⟨_,rfl,_,_,_,_,rfl, .inr ⟨_,rfl⟩,TyOf.ins hv (cl_of W hh) I.ha I.hn I.ht I.hm,kda W hh,_,rfl,iteF ⟨_,rfl,_,_,_,_,rfl, .inr ⟨_,rfl⟩,TyOf.ins hv (cl_of W hh) I.ha I.hn I.ht I.hm,kcz W hh,_,rfl,iteF ⟨_,rfl,_,_,_,_,rfl, .inr ⟨_,rfl⟩,TyOf.ins hv (cl_of W hh) I.ha I.hn I.ht I.hm,keQ W hh,_,rfl,iteF ?_⟩⟩⟩
   symm
   refine⟨by decide,fun l hl=>?_⟩
   symm
   refine k _ l [] [] (kam hl) hl kad .nil (fun c g hc=>by simp at hc) (by simp) (by simp) (by simp) ?_
   symm
   exact(spr_zero (k:=0)).trans spr_zero.symm
inductive kh8 (K:U1) (d:D) (vs:List V) (H:Hp) (Q:VK) (E_:XK):Prop
 |ct (v a b x:Addr)(V:Vch)(ps:List (Option Nat))(B:Bask)(S:Stnd)(_:vs=[.ref v, .ref a, .ref b, .ref x])(_:VchIs d H v V)(_:SqL K H a (ps.map pV))(_:BaskIs d.qe d.qg H b B)(_:StndIs d.qc H x S)(_:Wf ps B S)(_:VchOk ps V)(_:∀(H':Hp)(p:Addr),Same H H'→H p=none→H' p=some (.lst ((cutM V ps (kds B) S).1.map L2.V.int))→Q (.ref p) H'):kh8 K d vs H Q E_
theorem qD:kao ["voucher","parents","basket","standing","pieces","wanted","cut","group","piece","part","most"] ["voucher","parents","basket","standing"] (kae kbw):=by ac_rfl
theorem kdp(W:WB K mg d base):FO P w W 4 d.Xy d.Xz ["voucher","parents","basket","standing"] (kh8 K d):=by
 exists W.Y7.F,qD
 ·obtain⟨v,a,b,x,Vc,ps,B,S,rfl,hV,hA,hB,hS,wf,vo,k⟩:=h
  exists qU,kfb,W
  exists VC,keB,W
  exists ZQ,kjI,W
  exists Q7,kdx,W
  exists hr1,1,hr,0
  refine⟨_,kac (psl (i:=4) qD.nd (pcl qU hr W.Qe (kaa (pv 0) (kaa (pv 1) (kaa (pv 2) (kaa (pv 3) kaf))))))
   (kac (kgo (N:=["price"]) (CompScope.plain rfl (by decide +kernel) (by decide +kernel) (by decide +kernel) (nd1 _)) rfl (kaF (K:=K) (kak (K:=K) (pv 3) rfl)) (fun _ _ _ _=>pgn (i:=0) (nd1 _)) (fun _ _ _ _=>kai) (pgn (i:=5) qD.nd))
   (kac (ka4 PassesOwn.never rfl (kaF (K:=K) (pcl VC hr W.Za (kaa (pv 0) (kaa (pv 3) (kaa (pv 4) kaf))))) (kbB (K:=K) (n:=2) rfl (kaz (pgn (i:=6) qD.nd) (kaz (pgn (i:=7) qD.nd) kbA)))
   (kag (ka4 PassesOwn.never rfl (ke7 rfl W.B.zip (kaa (pv 7) (kaa (pcl ZQ hr1 W.QI (kaa (pv 6) (kaa (pcl Q7 hr1 W.QK (kaa (pv 3) (kaa (pv 7) kaf))) kaf))) kaf))) (kbB (K:=K) (n:=2) rfl (kaz (pgn (i:=8) qD.nd) (kaz (pgn (i:=9) qD.nd) kbA)))
   (kag (kkn (pv 9) (kkp (pv 5) (pv 8) set_list))))))
   (kac (psl (i:=10) qD.nd (kak (K:=K) (kak (K:=K) (pv 0) rfl) rfl))
   (kac (ps_if (PW.pt (kcn (kaq kcS (pv 10) kaV (kav _)) (kb3 (kaq op_gt (kaw (r:=rSum K) (kcm rfl) (by rfl) W.B.sum b_sum (kaa (pv 5) kaf)) (pv 10) (kav _))))) (kag (kan (pcl ZQ hr1 W.QI (kaa (pv 10) (kaa (pv 5) kaf))))) (kas))
   (kag (kan (pv 5))))))),?_⟩
  have np:=wf.np
  have lp:=wf.lp
  exists Y4
  refine⟨_,rfl,_,rfl,_,rfl,_,rfl,v,a,b,x,Vc,ps,B,S,rfl,hV,hA,hB,hS,wf,vo,fun H1 pa s1 f1 h1=>?_⟩
  have habl:∀i∈abt ps (kds B) Vc.ms.kind Vc.ms.lone S,i<S.pr.length:=fun i hi=>by rw[lp];exact kga hi
  have hand:=kf9 ps (kds B) Vc.ms.kind Vc.ms.lone S
  have lab:(abt ps (kds B) Vc.ms.kind Vc.ms.lone S).length≤720:=U4 (kdv _ _ _ _ _) np
  obtain⟨o,p,mk,⟨dxs,fss,hx,l1,l2,l3,l4,l5⟩,ho,hp,hmk⟩:=id (hS.same s1)
  symm
  exists Y4
  refine⟨_,rfl,x,d.qc,dxs,fss,_,rfl,hx,W.qc.cl,W.qx,l2,p,rfl,⟨_,SqL.of hp⟩,ka5 (xs:=S.pr.map V.int) (fun i σ ys H'=>H'=H1∧ys=(U6 i (0:Int)).map V.int∧∃v,σ=[v]) ⟨rfl,rfl,none,rfl⟩ ?_ ?_ ?_ ?_⟩
  ·rw[U0]
   symm
   exact Jf (kap (by omega))
  ·rintro i σ ys H' hi ⟨rfl,rfl,_⟩
   symm
   exact⟨SqL.of hp,by simp⟩
  ·rintro i y σ ys H' hy ⟨rfl,rfl,v,rfl⟩
   symm
   exact⟨rfl,by rw[MG,Jc];rfl,_,rfl⟩
  rintro σ ys H' ⟨rfl,rfl,v0,rfl⟩ w hw
  rw[U0]
  have s2:=s1.trans (kam (o:=.lst ((U6 S.pr.length (0:Int)).map V.int)) hw)
  have hw0:H w=none:=none_of s1 hw
  have ew:(upd H' w (.lst ((U6 S.pr.length (0:Int)).map V.int))) w=some (.lst ((U6 S.pr.length (0:Int)).map V.int)):=kad
  have h1o:=h1
  have h1:=kam (o:=.lst ((U6 S.pr.length (0:Int)).map V.int)) hw _ _ h1
  have nw:pa≠w:=kah h1o hw
  generalize upd H' w (.lst ((U6 S.pr.length (0:Int)).map V.int))=H2 at *
  symm
  exists Y4
  refine⟨_,rfl,_,rfl,_,rfl,v,x,pa,Vc,ps,B,S,rfl,hV.same s2,hS.same s2,h1,wf,vo,fun H3 gp tl gl s3 f3 h3 hP hc hnd hlt hgl hsp=>?_⟩
  have s03:=s2.trans s3
  have e3:=s3 _ _ ew
  have ngw:gp≠w:=fun e=>by rw[e,ew] at f3;cases f3
  symm
  exists Y4
  refine⟨gp,rfl,⟨_,SqL.of h3⟩,kbi (K:=K) (a:=gp) (xs:=tl.map V.ref) (fun i σ H'=>(∃v8 v9 v10 v11 v12:Option V,σ=[some (.ref v),some (.ref a),some (.ref b),some (.ref x),some (.ref pa),some (.ref w),v8,v9,v10,v11,v12])∧But w H3 H'∧
    H' w=some (.lst ((spr S.pr.length ((gl.take i).map Prod.snd).flatten ((gl.take i).map fun p=>dl p.1 (qs S.pr p.2)).flatten).map V.int)))
   ⟨⟨none,none,none,none,none,rfl⟩,But.refl,by rw[e3];simp[kkQ]⟩ (fun i σ H' _ h=>SqL.of (h.2.1 _ _ ngw h3)) ?_ ?_⟩
  ·rintro i y σ H4 hy ⟨⟨v8,v9,v10,v11,v12,rfl⟩,b4,h4⟩
   obtain⟨t,et,rfl⟩:=kbK hy
   obtain⟨⟨c,g⟩,eg,ga,ht,hga,hor⟩:=hP.at et
   have hcg:=hc c g (U9 eg)
   have hgl':∀i∈g,i<S.pr.length:=fun j hj=>hlt j (J9.mpr ⟨g,Jp.mpr ⟨(c,g),U9 eg,rfl⟩,hj⟩)
   have ngaw:ga≠w:=by
    rcases hor with rfl|hor
    ·exact nw
    ·exact fun e=>by rw[e,ew] at hor;cases hor
   have ntw:t≠w:=ne_of ht e3 (by intro z;cases z)
   have htt:H4 t=some (.tup [.int c, .ref ga]):=b4 _ _ ntw ht
   have hgg:H4 ga=some (.lst (g.map iV)):=b4 _ _ ngaw hga
   symm
   exists Y6
   refine⟨t,_,rfl,SqT.of htt,rfl,_,_,rfl,_,_,rfl,rfl,?_⟩
   have hS4:StndIs d.qc H4 x S:=by
    nofun
    exact StndIs.same (H:=H) (kgY hw0 s03 b4) hS
   have gnn:=qs_nn wf.nn g
   have gsum:=kii wf hcg.2.2 hgl'
   have hg720:=hcg.2.2
   nofun
   exists Y6
   refine⟨_,rfl,_,rfl,_,rfl,_,rfl,x,ga,S,g,rfl,hS4,hgg,hgl',hg720,fun p5 hp5=>?_⟩
   have s5:=kam (o:=.lst ((qs S.pr g).map V.int)) hp5
   nofun
   exists Y6
   refine⟨c,p5,qs S.pr g,rfl,SqL.of kad,gnn,by omega,hcg.1,by omega,by rw[kbS];omega,fun p6 hp6=>?_⟩
   have s6:=s5.trans (kam (o:=.lst ((dl c (qs S.pr g)).map V.int)) hp6)
   have h6:(upd (upd H4 p5 (.lst ((qs S.pr g).map V.int))) p6 (.lst ((dl c (qs S.pr g)).map V.int))) p6=some (.lst ((dl c (qs S.pr g)).map V.int)):=kad
   have n6:H4 p6=none:=none_of s5 hp6
   generalize upd (upd H4 p5 (.lst ((qs S.pr g).map V.int))) p6 (.lst ((dl c (qs S.pr g)).map V.int))=H6 at *
   have b6:=b4.same s6
   have w6:=s6 _ _ h4
   have n6w:p6≠w:=fun e=>by rw[e,h4] at n6;cases n6
   have ldl:(dl c (qs S.pr g)).length=g.length:=by rw[keS,kbS]
   have emin:min (g.map iV).length ((dl c (qs S.pr g)).map V.int).length=g.length:=by rw[U0,U0,ldl,NI]
   have ndt:∀(j n:Nat),g[j]?=some n→(((gl.take i).map Prod.snd).flatten++g.take j++[n]).Nodup:=fun j n hj=>by
    rw[J8]
    nofun
    exact kdX hnd (i:=i) (by rw[Jb,eg];rfl) hj
   have lfl:((gl.take i).map Prod.snd).flatten.length=((gl.take i).map fun p=>dl p.1 (qs S.pr p.2)).flatten.length:=by
    rw[List.length_flatten,List.length_flatten,Jm,Jm]
    congr 1
    nofun
    refine JL fun q _=>?_
    show q.2.length=(dl q.1 (qs S.pr q.2)).length
    rw[keS,kbS]
   nofun
   exists Y6
   refine⟨ga,p6,_,_,rfl,s6 _ _ hgg,h6,ki0 (xs:=g.map iV) (ys:=(dl c (qs S.pr g)).map V.int) (fun j σ H'=>(∃v8 v9 v10 v11 v12:Option V,σ=[some (.ref v),some (.ref a),some (.ref b),some (.ref x),some (.ref pa),some (.ref w),v8,v9,v10,v11,v12])∧But w H3 H'∧H' ga=some (.lst (g.map iV))∧H' p6=some (.lst ((dl c (qs S.pr g)).map V.int))∧
     H' w=some (.lst ((spr S.pr.length (((gl.take i).map Prod.snd).flatten++g.take j) (((gl.take i).map fun p=>dl p.1 (qs S.pr p.2)).flatten++(dl c (qs S.pr g)).take j)).map V.int)))
    ⟨⟨_,_,_,_,_,rfl⟩,b6,s6 _ _ hgg,h6,by rw[w6];simp⟩ (fun j σ H' _ h=>⟨h.2.2.1,h.2.2.2.1⟩) ?_ ?_⟩
   ·rintro j y1 y2 t2 σ H7 hy1 hy2 ⟨⟨v8,v9,v10,v11,v12,rfl⟩,b7,g7,d7,w7⟩ ht2
    obtain⟨n,en,rfl⟩:=kbO hy1
    obtain⟨z,ez,rfl⟩:=kbO hy2
    have hn:=hgl' n (U9 en)
    have s8:=kam (o:=.tup [iV n,V.int z]) ht2
    nofun
    exists Y8
    refine⟨t2,_,rfl,SqT.of kad,rfl,_,_,rfl,_,_,rfl,rfl,?_⟩
    exists 3
    exists Y8
    refine⟨_,rfl,_,rfl,_,rfl,w,_,_,n,rfl,rfl,s8 _ _ w7,kiN (by rw[U0,kcL];exact hn),⟨_,_,_,_,_,rfl⟩,(b7.same s8).trans kar,?_,?_,?_⟩
    ·rw[kaj ngaw]
     exists 3
     exact s8 _ _ g7
    ·rw[kaj n6w]
     exists 3
     exact s8 _ _ d7
    ·rw[kad,←List.map_set,kbU en,kbU ez,←Nm,←Nm]
     rw[kjr (by rw[Jh,Jh,lfl,Jg,Jg,ldl]) (ndt j n en) hn]
   ·rintro σ H7 ⟨⟨v8,v9,v10,v11,v12,rfl⟩,b7,g7,d7,w7⟩
    exists 3
    exists Y8
    refine⟨⟨_,_,_,_,_,rfl⟩,b7,?_⟩
    rw[w7,emin,JB,J7 (NU ldl),kbU eg]
    simp
  rintro σ H4 ⟨⟨v8,v9,v10,v11,v12,rfl⟩,b4,h4⟩
  have ltl:(tl.map V.ref).length=gl.length:=by rw[U0,hP.len]
  rw[ltl,JB,hsp] at h4
  have s04:Same H H4:=kgY hw0 s03 b4
  obtain⟨mA,dxv,fsv,hv,lvm,_,⟨dxm,fsm,hm,m1,m2,m3,m4,m5,m6⟩,hh,htb⟩:=id (hV.same s04)
  symm
  exists Y4
  refine⟨_,rfl,v,clsOf d Vc.so,dxv,fsv,_,rfl,hv,cl_of W hh,na_of W hh,lvm,mA,d.qf,dxm,fsm,_,rfl,hm,W.qf.cl,W.QN,m3,?_⟩
  have wle:=khL (so:=Vc.so) (n:=S.mkd.length) (lines:=(abt ps (kds B) Vc.ms.kind Vc.ms.lone S).map fun i=>S.ow.getD i 0) (qs_nn wf.nn (abt ps (kds B) Vc.ms.kind Vc.ms.lone S)) vo.so
  have cn:=kj3 (V:=Vc) (ps:=ps) (kk:=kds B) (S:=S)
  have cs:=fun(m:Int)(e:Vc.ms.most=some m)(h0:0≤m)=>kj2 (V:=Vc) (ps:=ps) (kk:=kds B) (S:=S) lp wle e h0
  have sabs:=kii wf lab habl
  generalize ewant:want Vc.so S.mkd.length ((abt ps (kds B) Vc.ms.kind Vc.ms.lone S).map fun i=>S.ow.getD i 0) (qs S.pr (abt ps (kds B) Vc.ms.kind Vc.ms.lone S))=wn at *
  have fnn:Nn (spr S.pr.length (abt ps (kds B) Vc.ms.kind Vc.ms.lone S) wn):=(kfu wf.nn wle).nn
  have fsum:(spr S.pr.length (abt ps (kds B) Vc.ms.kind Vc.ms.lone S) wn).sum≤720000000000000:=by
   have h:=(kfu wf.nn wle).sum
   have h2:=kdf (b:=1000000000000) (q:=S.pr) fun z hz=>(wf.pr z hz).2
   omega
  cases em:Vc.ms.most with
  |none=>
   symm
   refine⟨_,rfl,rfl,_,rfl,?_⟩
   show if(!decide (V.non=V.non))=true then _ else _
   rw[kkt]
   refine iteF (iteF ⟨_,rfl,k _ w s04 hw0 ?_⟩)
   rw[h4,cn em]
  | some m=>
   have hm0:=vo.ms.most m em
   symm
   refine⟨_,rfl,rfl,_,rfl,?_⟩
   show if(!decide (V.int m=V.non))=true then _ else _
   rw[kku]
   refine iteT ?_
   symm
   exists Y6
   refine⟨_,rfl,w,_,rfl,SqL.of h4,_,rfl,_,_,rfl,rfl,_,rfl,?_⟩
   by_cases hgt:(spr S.pr.length (abt ps (kds B) Vc.ms.kind Vc.ms.lone S) wn).sum > m
   ·rw[decide_eq_true hgt]
    refine iteT ?_
    nofun
    exists Y8
    refine⟨_,rfl,_,rfl,m,w,_,rfl,SqL.of h4,fnn,by omega,hm0.1,by omega,by rw[kcL];omega,fun p7 hp7=>?_⟩
    exists 3
    refine k _ p7 (s04.trans (kam hp7)) (none_of s04 hp7) ?_
    rw[kad,cs m em hm0.1,if_pos hgt]
   ·rw[decide_eq_false hgt]
    refine iteF ?_
    exists 3
    refine⟨_,rfl,k _ w s04 hw0 ?_⟩
    rw[h4,cs m em hm0.1,if_neg hgt]
theorem kj7{l:List Nat}{f g:Nat→Bool}(h:∀x∈l,f x=g x):l.any f=l.any g:=by
 induction l with
 |nil=>rfl
 |cons a l ih=>rw[JX,JX,h a Jt,ih fun x hx=>h x (Jo _ hx)]
theorem kgD{ow:List Nat}{cs:List Int}{i o l:Nat}(h:ow[i]?=some o):kdb (ow.take (i+1)) cs l=(kdb (ow.take i) cs l||(o==l&&decide (0<cs.getD i 0))):=by
 have hi:=at_lt h
 unfold kdb
 rw[Jg,Jg,NG (by omega),NG (by omega),JO,List.any_append]
 congr 1
 ·refine kj7 fun j hj=>?_
  have hj':j<i:=by simpa using hj
  simp only[Jn,List.getElem?_take]
  rw[if_pos (by omega),if_pos hj']
 ·simp only[JX,List.any_nil,Bool.or_false]
  rw[Jn,List.getElem?_take,if_pos (by omega),h]
  rfl
inductive kcH (d:D) (vs:List V) (H:Hp) (Q:VK) (E_:XK):Prop
 |ct (v x c:Addr)(V:Vch)(S:Stnd)(cs:List Int)(_:vs=[.ref v, .ref x, .ref c])(_:VchIs d H v V)(_:StndIs d.qc H x S)(_:H c=some (.lst (cs.map L2.V.int)))(_:cs.length=S.ow.length)(_:S.ow.length≤720)(_:S.mkd.length≤12)(_:(∀l∈S.ow,l<S.mkd.length))(_:∀(H':Hp)(p:Addr),Same H H'→H p=none→H' p=some (.lst (((U5 S.mkd.length).map fun l=>S.mkd.getD l false||(V.ms.lone&&kdb S.ow cs l)).map L2.V.bl))→Q (.ref p) H'):kcH d vs H Q E_
theorem Qn:kao ["voucher","standing","piece_cuts","marked","owner","cut"] ["voucher","standing","piece_cuts"] (kae kbH):=by ac_rfl
theorem kdL(W:WB K mg d base):FO P w W 1 d.XH d.XI ["voucher","standing","piece_cuts"] (kcH d):=by
 exists W.Zc.F,Qn
 ·obtain⟨v,x,c,Vc,S,cs,rfl,⟨mA,dxv,fsv,hv,lvm,_,⟨dxm,fsm,hm,m1,m2,m3,m4,m5,m6⟩,hh,htb⟩,⟨o,p,mk,⟨dxs,fss,hx,l1,l2,l3,l4,l5⟩,ho,hp,hmk⟩,hc,lc,lo,lmk,hw,k⟩:=h
  refine⟨_,kac (psl (i:=3) Qn.nd (kaQ (r:=kby K) kaE (by rfl) W.B.list kca (kaa (kak (K:=K) (pv 1) rfl) kaf)))
   (kac (ps_if (ka0 (kak (K:=K) (kak (K:=K) (pv 0) rfl) rfl)) (kag (ka4 PassesOwn.never rfl (ke7 rfl W.B.zip (kaa (kak (K:=K) (pv 1) rfl) (kaa (pv 2) kaf))) (kbB (K:=K) (n:=2) rfl (kaz (pgn (i:=4) Qn.nd) (kaz (pgn (i:=5) Qn.nd) kbA)))
   (kag (ps_if (kaq op_gt (pv 5) kai (kav _)) (kag (kkn pe_bl (kkp (pv 3) (pv 4) set_list))) (kas))))) (kas))
   (kag (kan (pv 3)))),?_⟩
  have e0:S.mkd.map V.bl=((U5 S.mkd.length).map fun l=>S.mkd.getD l false||kdb (S.ow.take 0) cs l).map V.bl:=by
   congr 1
   apply Nh
   ·simp
   ·intro j h1 h2
    simp[kdb,h1]
  exists Y4
  refine⟨_,rfl,x,d.qc,dxs,fss,_,rfl,hx,W.qc.cl,W.qO,l4,mk,_,rfl, .inl (SqL.of hmk),fun q hq=>?_⟩
  have s1:=kam (o:=.lst (S.mkd.map V.bl)) hq
  symm
  exists Y4
  refine⟨_,rfl,v,clsOf d Vc.so,dxv,fsv,_,rfl,s1 _ _ hv,cl_of W hh,na_of W hh,lvm,mA,d.qf,dxm,fsm,_,rfl,s1 _ _ hm,W.qf.cl,W.QO,m6,_,rfl,?_⟩
  cases e:Vc.ms.lone with
  |false=>
   refine iteF ?_
   symm
   exists Y6
   refine⟨_,rfl,k _ q s1 hq ?_⟩
   rw[e0]
   simp only[e,Mm,Bool.or_false]
   rw[kad]
   congr 2
   simp[kdb]
  | true=>
   refine iteT ?_
   have emin:min (S.ow.map iV).length (cs.map V.int).length=S.ow.length:=by rw[U0,U0,lc,NI]
   symm
   exists Y6
   refine⟨_,rfl,x,d.qc,dxs,fss,_,rfl,s1 _ _ hx,W.qc.cl,W.qE,l1,_,rfl,o,c,_,_,rfl,s1 _ _ ho,s1 _ _ hc,
    ki0 (xs:=S.ow.map iV) (ys:=cs.map V.int) (fun i σ H'=>(∃v4 v5:Option V,σ=[some (.ref v),some (.ref x),some (.ref c),some (.ref q),v4,v5])∧But q H H'∧H' q=some (.lst (((U5 S.mkd.length).map fun l=>S.mkd.getD l false||kdb (S.ow.take i) cs l).map V.bl)))
     ⟨⟨none,none,rfl⟩,But.of_same s1,by rw[kad,e0]⟩ (fun i σ H' _ h=>⟨h.2.1 _ _ (kah ho hq) ho,h.2.1 _ _ (kah hc hq) hc⟩) ?_ ?_⟩
   ·rintro i y z t σ H1 hy hz ⟨⟨v4,v5,rfl⟩,b1,h1⟩ ht
    obtain⟨ln,eln,rfl⟩:=kbO hy
    obtain⟨cz,ecz,rfl⟩:=kbO hz
    have hln:=hw ln (U9 eln)
    have st:=fun l=>kgD (cs:=cs) (l:=l) eln
    have eg:cs.getD i 0=cz:=by rw[Jn,ecz];rfl
    have tq:q≠t:=kah h1 ht
    have b2:=b1.same (kam (o:=.tup [iV ln,V.int cz]) ht)
    have h2:=kam (o:=.tup [iV ln,V.int cz]) ht _ _ h1
    nofun
    exists Y8
    refine⟨t,_,rfl,SqT.of kad,rfl,_,_,rfl,_,_,rfl,rfl,?_⟩
    exists 3
    exists Y8
    refine⟨_,rfl,_,_,rfl,rfl,_,rfl,?_⟩
    by_cases hc0:cz > 0
    ·rw[decide_eq_true hc0]
     refine iteT ?_
     exists 3
     exists Y10
     refine⟨_,rfl,_,rfl,q,_,_,ln,rfl,rfl,h2,kiN (by simpa using hln),⟨_,_,rfl⟩,b2.trans kar,?_⟩
     rw[kad,←List.map_set]
     congr 3
     apply Nh
     ·simp
     ·intro j g1 g2
      have hj:j<S.mkd.length:=by simpa using g1
      rw[List.getElem_set]
      simp only[NJ,Mb]
      rw[st j,eg]
      by_cases hjl:ln=j
      ·subst hjl
       simp[hc0]
      ·rw[if_neg hjl,show(ln==j)=false by simpa using hjl]
       simp
    ·rw[decide_eq_false hc0]
     refine iteF ?_
     exists 4
     exists Y10
     refine⟨⟨_,_,rfl⟩,b2,?_⟩
     rw[h2]
     congr 3
     exists 4
     refine JL fun l _=>?_
     rw[st l,eg,show decide (0<cz)=false by simpa using hc0]
     simp
   ·rintro σ H1 ⟨⟨v4,v5,rfl⟩,b1,h1⟩
    rw[emin,JB] at h1
    exists 3
    exists Y8
    refine⟨_,rfl,k _ q (kjf b1 hq) hq ?_⟩
    rw[h1]
    simp only[e,Bool.true_and]
noncomputable def rmv(x:Addr)(H:Hp):Hp:=fun a=>if a=x then none else H a
theorem kif{x:Addr}{H:Hp}:rmv x H x=none:=if_pos rfl
theorem kfG{x a:Addr}{H:Hp}(n:a≠x):rmv x H a=H a:=if_neg n
theorem ke5{x a:Addr}{H:Hp}{o:HO}(h:rmv x H a=some o):H a=some o:=by
 by_cases e:a=x
 ·subst e
  rw[kif] at h
  cases h
 ·rw[kfG e] at h
  exact h
theorem kkV{x:Addr}{H:Hp}(hx:NX H x):But x H (rmv x H):=fun b u n e=>ev_eq (by rw[kfG n];exact e) fun⟨ps,e1,t,hor⟩=>⟨ps,by rw[kfG n];exact e1,t,fun pos c ec=>by
 obtain⟨c',rfl,z2⟩:=hor pos c ec
 exact⟨c',rfl,by rw[kfG fun e=>hx _ (e▸z2)];exact z2⟩⟩
theorem kkU{x:Addr}{H:Hp}:Same (rmv x H) H:=fun b u e=>ev_eq (ke5 e) fun⟨ps,e1,t,hor⟩=>⟨ps,ke5 e1,t,fun pos c ec=>by
 obtain⟨c',rfl,z2⟩:=hor pos c ec
 exact⟨c',rfl,ke5 z2⟩⟩
theorem khp{Hs H H':Hp}{x:Addr}(s:Same Hs H)(b:But x H H')(f:Hs x=none):Same Hs H':=fun c u e=>kbq (s c u e) fun u' e'=>b c u' (kah e f) e'
inductive StndN (C:Addr) (H0 H:Hp) (x:Addr) (S:Stnd):Prop
 |ct (_:H0 x=none)(o p mk:Addr)(_:StandAt C H x o p mk S.cg)(_:H0 o=none)(_:H0 p=none)(_:H0 mk=none)(_:H o=some (.lst (S.ow.map iV)))(_:H p=some (.lst (S.pr.map V.int)))(_:H mk=some (.lst (S.mkd.map V.bl))):StndN C H0 H x S
theorem StndN.is{C x:Addr}{H0 H:Hp}{S:Stnd}:StndN C H0 H x S→StndIs C H x S:=fun⟨_,o,p,mk,h,_,_,_,h1,h2,h3⟩=>⟨o,p,mk,h,h1,h2,h3⟩
theorem kbR{H0 H:Hp}{q a:Addr}(hq:H0 q≠none)(f:H0 a=none):rmv q H a=H a:=kfG fun e=>hq (e▸f)
theorem StndN.rmv{C x q:Addr}{H0 H:Hp}{S:Stnd}(hq:H0 q≠none):StndN C H0 H x S→StndIs C (rmv q H) x S:=fun⟨f,o,p,mk,⟨dx,fs,hx,r⟩,f1,f2,f3,h1,h2,h3⟩=>⟨o,p,mk,⟨dx,fs,(kbR hq f).trans hx,r⟩,(kbR hq f1).trans h1,(kbR hq f2).trans h2,(kbR hq f3).trans h3⟩
inductive WayN (d:D) (m:Nat) (H0 H:Hp) (w t b x:Addr) (hand:List Int) (used:List Nat):Prop
 |ct (_:H0 w=none)(dx:Addr)(fs:List (Str×V))(h u:Addr)(_:H0 h=none)(_:H0 u=none)(_:H w=some (.ins d.c_Way dx fs))(_:fs.lookup ("till" :Str)=some (.ref t))(_:fs.lookup ("basket" :Str)=some (.ref b))(_:fs.lookup ("hand" :Str)=some (.ref h))(_:fs.lookup ("used" :Str)=some (.ref u))(_:fs.lookup ("standing" :Str)=some (.ref x))(_:fs.lookup ("word_for" :Str)=none)(_:fs.lookup ("behind" :Str)=none)(_:fs.lookup ("is_let_by" :Str)=none)(_:fs.lookup ("followers" :Str)=none)(_:fs.length≤m)(_:H h=some (.lst (hand.map V.int)))(_:H u=some (.lst (used.map iV))):WayN d m H0 H w t b x hand used
theorem WayN.at{d:D}{m:Nat}{H0 H:Hp}{w t b x:Addr}{hand:List Int}{used:List Nat}:WayN d m H0 H w t b x hand used→WayAt d m H w t b x hand used:=fun⟨_,dx,fs,h,u,_,_,h1,h2,h3,h4,h5,h6,h7,h8,h9,h10,h11,h12,h13⟩=>⟨dx,fs,h,u,h1,h2,h3,h4,h5,h6,h7,h8,h9,h10,h11,h12,h13⟩
theorem WayN.rmv{d:D}{m:Nat}{H0 H:Hp}{w t b x q:Addr}{hand:List Int}{used:List Nat}(hq:H0 q≠none):WayN d m H0 H w t b x hand used→WayAt d m (rmv q H) w t b x hand used:=fun⟨f,dx,fs,h,u,f1,f2,g,h2,h3,h4,h5,h6,h7,h8,h9,h10,h11,h12,h13⟩=>⟨dx,fs,h,u,(kbR hq f).trans g,h2,h3,h4,h5,h6,h7,h8,h9,h10,h11,(kbR hq f1).trans h12,(kbR hq f2).trans h13⟩
inductive kgX (K:U1) (d:D) (vs:List V) (H:Hp) (Q:VK) (E_:XK):Prop
 |ct (v a b x:Addr)(V:Vch)(ps:List (Option Nat))(B:Bask)(S:Stnd)(_:vs=[.ref v, .ref a, .ref b, .ref x])(_:VchIs d H v V)(_:SqL K H a (ps.map pV))(_:BaskIs d.qe d.qg H b B)(_:StndIs d.qc H x S)(_:Wf ps B S)(_:VchOk ps V)(_:∀(H':Hp)(x':Addr),Same H H'→H x'=none→StndN d.qc H H' x' (aftM V ps (kds B) S)→Q (.ref x') H'):kgX K d vs H Q E_
theorem Xa:kao ["voucher","parents","basket","standing","piece_cuts","left"] ["voucher","parents","basket","standing"] (kae kgn):=by ac_rfl
theorem kjJ(W:WB K mg d base):FO P w W 5 d.Xw d.Xx ["voucher","parents","basket","standing"] (kgX K d):=by
 exists W.Y5.F,Xa
 ·obtain⟨v,a,b,x,Vc,ps,B,S,rfl,hV,hA,hB,hS,wf,vo,k⟩:=h
  exists VD,kdp,W
  exists Xb,kco,W
  exists VE,kc2,W
  exists VF,kdL,W
  exists hr1,1,hr,0
  exists hr2,2,hr,0
  exists hr3,3,hr,0
  refine⟨_,kac (psl (i:=4) Xa.nd (pcl VD hr W.Y7 (kaa (pv 0) (kaa (pv 1) (kaa (pv 2) (kaa (pv 3) kaf))))))
   (kac (psl (i:=5) Xa.nd (kbg (W.qP.mk' W.qc) Xb hr3 rfl W.qc.m W.qP.b .nil pass0 (kaa (pv 2) kaf)))
   (kac (kaD (pv 5) (kaQ (r:=kby K) kaE (by rfl) W.B.list kca (kaa (kak (K:=K) (pv 3) rfl) kaf)) rfl)
   (kac (kaD (pv 5) (kb4 (N:=["price","cut"]) (CompScope.plain rfl (by decide +kernel) (by decide +kernel) (by decide +kernel) (show(["price","cut"]:List Str).Nodup by decide +kernel)) rfl (ke7 rfl W.B.zip (kaa (kak (K:=K) (pv 3) rfl) (kaa (pv 4) kaf))) (fun _ _ _ _=>kbB (K:=K) (n:=2) rfl (kaz (pgn (i:=0) (show(["price","cut"]:List Str).Nodup by decide +kernel)) (kaz (pgn (i:=1) (show(["price","cut"]:List Str).Nodup by decide +kernel)) kbA))) (fun _ _ _ _=>(pe_op kfH (pv 0) (pv 1)))) rfl)
   (kac (kaD (pv 5) (pe_op kfH (kak (K:=K) (pv 3) rfl) (pcl VE hr2 W.Y9 (kaa (pv 0) (kaa (pv 3) kaf)))) rfl)
   (kac (kaD (pv 5) (pcl VF hr1 W.Zc (kaa (pv 0) (kaa (pv 3) (kaa (pv 4) kaf)))) rfl)
   (kag (kan (pv 5)))))))),?_⟩
  have np:=wf.np
  have lp:=wf.lp
  have lcut:(cutM Vc ps (kds B) S).1.length=S.pr.length:=(kkF wf.nn wf.cg.1 vo.so fun m e=>(vo.ms.most m e).1).1.1
  exists Y4
  refine⟨_,rfl,_,rfl,_,rfl,_,rfl,v,a,b,x,Vc,ps,B,S,rfl,hV,hA,hB,hS,wf,vo,fun H1 pc s1 f1 h1=>?_⟩
  obtain⟨l,ls,hb1,hl1,hL1⟩:=id (hB.same s1)
  symm
  exists Y4
  refine⟨_,rfl,kiD hb1 hl1 hL1 wf.nl wf.ok fun H2 y s2 f2 dxy fsy hy ly lyw=>?_⟩
  have fy:H y=none:=none_of s1 f2
  have s02:=s1.trans s2
  obtain⟨o,p,mk,⟨dxs,fss,hx,l1,l2,l3,l4,l5⟩,ho,hp,hmk⟩:=id hS
  symm
  exists Y4
  refine⟨_,rfl,x,d.qc,dxs,fss,_,rfl,s02 _ _ hx,W.qc.cl,W.qE,l1,o,_,rfl, .inl (SqL.of (s02 _ _ ho)),fun q1 hq1=>?_⟩
  have n1:q1≠y:=(kah hy hq1).symm
  symm
  exists Y4
  refine⟨_,rfl,y,d.qc,dxy,fsy,rfl,kam hq1 _ _ hy,W.qc.cl,W.qE,few (by omega),?_⟩
  have s3:Same H (upd (upd H2 q1 (.lst (S.ow.map iV))) y (.ins d.qc dxy (putF "owners" (.ref q1) fsy))):=kat fy (s02.trans (kam hq1))
  have e3:(upd (upd H2 q1 (.lst (S.ow.map iV))) y (.ins d.qc dxy (putF "owners" (.ref q1) fsy))) q1=some (.lst (S.ow.map iV)):=by rw[kaj n1,kad]
  have y3:(upd (upd H2 q1 (.lst (S.ow.map iV))) y (.ins d.qc dxy (putF "owners" (.ref q1) fsy))) y=some (.ins d.qc dxy (putF "owners" (.ref q1) fsy)):=kad
  have c3:(upd (upd H2 q1 (.lst (S.ow.map iV))) y (.ins d.qc dxy (putF "owners" (.ref q1) fsy))) pc=some (.lst ((cutM Vc ps (kds B) S).1.map V.int)):=by
   rw[kaj (kah h1 f2)]
   symm
   exact kam hq1 _ _ (s2 _ _ h1)
  have f3:=U4 (kal (f:="owners") (v:=.ref q1) ly) (by decide:11≤20)
  generalize upd (upd H2 q1 (.lst (S.ow.map iV))) y (.ins d.qc dxy (putF "owners" (.ref q1) fsy))=H3 at *
  have emin:min (S.pr.map V.int).length ((cutM Vc ps (kds B) S).1.map V.int).length=S.pr.length:=by rw[U0,U0,lcut,NI]
  symm
  exists Y4
  refine⟨_,rfl,x,d.qc,dxs,fss,_,rfl,s3 _ _ hx,W.qc.cl,W.qx,l2,_,rfl,p,pc,_,_,rfl,s3 _ _ hp,c3,
   khl (xs:=S.pr.map V.int) (ys:=(cutM Vc ps (kds B) S).1.map V.int) (fun i σ zs H'=>Same H3 H'∧zs=((JJ (· - ·) S.pr (cutM Vc ps (kds B) S).1).take i).map V.int∧∃v0 v1:Option V,σ=[v0,v1])
    ⟨Same.refl _,rfl,none,none,rfl⟩ (by rw[emin];exact Jf (kap (by omega))) (fun i σ zs H' hi h=>⟨h.1 _ _ (s3 _ _ hp),h.1 _ _ c3,by rw[h.2.1,U0,Jg,Md,lcut];rw[emin] at hi;omega⟩) ?_ ?_⟩
  ·rintro i y1 y2 t σ zs H4 hy1 hy2 ⟨s4,rfl,v0,v1,rfl⟩ ht
   obtain⟨z1,ez1,rfl⟩:=kbO hy1
   obtain⟨z2,ez2,rfl⟩:=kbO hy2
   symm
   exists Y6
   refine⟨t,_,rfl,SqT.of kad,rfl,_,_,rfl,_,_,rfl,rfl,_,rfl,_,rfl,_,_,rfl,rfl,s4.trans (kam ht),?_,_,_,rfl⟩
   rw[kbU (r:=z1-z2) (by rw[Me,ez1,ez2]),Jc]
   rfl
  rintro σ zs H4 ⟨s4,rfl,v0,v1,rfl⟩ q2 hq2
  rw[emin,J7 (by rw[Md,lcut];omega)]
  have n2:q2≠y:=(kah (s4 _ _ y3) hq2).symm
  have n12:q1≠q2:=kah (s4 _ _ e3) hq2
  have s5:=kam (o:=.lst ((JJ (· - ·) S.pr (cutM Vc ps (kds B) S).1).map V.int)) hq2
  symm
  exists Y4
  refine⟨_,rfl,y,d.qc,dxy,_,rfl,s5 _ _ (s4 _ _ y3),W.qc.cl,W.qx,few f3,?_⟩
  have s6:Same H (upd (upd H4 q2 (.lst ((JJ (· - ·) S.pr (cutM Vc ps (kds B) S).1).map V.int))) y (.ins d.qc dxy (putF "prices" (.ref q2) (putF "owners" (.ref q1) fsy)))):=kat fy ((s3.trans s4).trans s5) (nx (s5 _ _ (s4 _ _ y3)))
  have e6:(upd (upd H4 q2 (.lst ((JJ (· - ·) S.pr (cutM Vc ps (kds B) S).1).map V.int))) y (.ins d.qc dxy (putF "prices" (.ref q2) (putF "owners" (.ref q1) fsy)))) q1=some (.lst (S.ow.map iV)):=by
   rw[kaj n1]
   symm
   exact s5 _ _ (s4 _ _ e3)
  have p6:(upd (upd H4 q2 (.lst ((JJ (· - ·) S.pr (cutM Vc ps (kds B) S).1).map V.int))) y (.ins d.qc dxy (putF "prices" (.ref q2) (putF "owners" (.ref q1) fsy)))) q2=some (.lst ((JJ (· - ·) S.pr (cutM Vc ps (kds B) S).1).map V.int)):=by rw[kaj n2,kad]
  have y6:(upd (upd H4 q2 (.lst ((JJ (· - ·) S.pr (cutM Vc ps (kds B) S).1).map V.int))) y (.ins d.qc dxy (putF "prices" (.ref q2) (putF "owners" (.ref q1) fsy)))) y=some (.ins d.qc dxy (putF "prices" (.ref q2) (putF "owners" (.ref q1) fsy))):=kad
  have c6:(upd (upd H4 q2 (.lst ((JJ (· - ·) S.pr (cutM Vc ps (kds B) S).1).map V.int))) y (.ins d.qc dxy (putF "prices" (.ref q2) (putF "owners" (.ref q1) fsy)))) pc=some (.lst ((cutM Vc ps (kds B) S).1.map V.int)):=by
   rw[kaj (kah h1 f2)]
   symm
   exact s5 _ _ (s4 _ _ c3)
  have f6:=U4 (kal (f:="prices") (v:=.ref q2) (kal (f:="owners") (v:=.ref q1) ly)) (by decide:12≤20)
  generalize upd (upd H4 q2 (.lst ((JJ (· - ·) S.pr (cutM Vc ps (kds B) S).1).map V.int))) y (.ins d.qc dxy (putF "prices" (.ref q2) (putF "owners" (.ref q1) fsy)))=H6 at *
  symm
  exists Y4
  refine⟨_,rfl,x,d.qc,dxs,fss,_,rfl,s6 _ _ hx,W.qc.cl,W.qN,l3,_,rfl,_,rfl,v,x,Vc,S,rfl,hV.same s6,hS.same s6,_,_,rfl,rfl,?_⟩
  rw[←klo (ps:=ps) (kk:=kds B) (S:=S) vo]
  symm
  exists Y4
  refine⟨_,rfl,y,d.qc,dxy,_,rfl,y6,W.qc.cl,W.qN,few f6,?_⟩
  have s7:Same H (upd H6 y (.ins d.qc dxy (putF "carriage" (.int (S.cg-(cutM Vc ps (kds B) S).2)) (putF "prices" (.ref q2) (putF "owners" (.ref q1) fsy))))):=kat fy s6
  have e7:(upd H6 y (.ins d.qc dxy (putF "carriage" (.int (S.cg-(cutM Vc ps (kds B) S).2)) (putF "prices" (.ref q2) (putF "owners" (.ref q1) fsy))))) q1=some (.lst (S.ow.map iV)):=by rw[kaj n1];exact e6
  have p7:(upd H6 y (.ins d.qc dxy (putF "carriage" (.int (S.cg-(cutM Vc ps (kds B) S).2)) (putF "prices" (.ref q2) (putF "owners" (.ref q1) fsy))))) q2=some (.lst ((JJ (· - ·) S.pr (cutM Vc ps (kds B) S).1).map V.int)):=by rw[kaj n2];exact p6
  have y7:(upd H6 y (.ins d.qc dxy (putF "carriage" (.int (S.cg-(cutM Vc ps (kds B) S).2)) (putF "prices" (.ref q2) (putF "owners" (.ref q1) fsy))))) y=some (.ins d.qc dxy (putF "carriage" (.int (S.cg-(cutM Vc ps (kds B) S).2)) (putF "prices" (.ref q2) (putF "owners" (.ref q1) fsy)))):=kad
  have c7:(upd H6 y (.ins d.qc dxy (putF "carriage" (.int (S.cg-(cutM Vc ps (kds B) S).2)) (putF "prices" (.ref q2) (putF "owners" (.ref q1) fsy))))) pc=some (.lst ((cutM Vc ps (kds B) S).1.map V.int)):=by rw[kaj (kah h1 f2)];exact c6
  have f7:=U4 (kal (f:="carriage") (v:=.int (S.cg-(cutM Vc ps (kds B) S).2)) (kal (f:="prices") (v:=.ref q2) (kal (f:="owners") (v:=.ref q1) ly))) (by decide:13≤20)
  generalize upd H6 y (.ins d.qc dxy (putF "carriage" (.int (S.cg-(cutM Vc ps (kds B) S).2)) (putF "prices" (.ref q2) (putF "owners" (.ref q1) fsy))))=H7 at *
  symm
  exists Y4
  refine⟨_,rfl,_,rfl,_,rfl,v,x,pc,Vc,S,_,rfl,hV.same s7,hS.same s7,c7,by rw[lcut,lp],np,by rw[wf.lm];exact wf.nl,fun l hl=>?_,fun H8 q3 s8 f8 h8=>?_⟩
  ·obtain⟨i,hi⟩:=Nr.mp hl
   rw[wf.lm]
   symm
   exact wf.line hi
  have n3:q3≠y:=(kah y7 f8).symm
  symm
  exists Y4
  refine⟨_,rfl,y,d.qc,dxy,_,rfl,s8 _ _ y7,W.qc.cl,W.qO,few f7,?_⟩
  symm
  exists Y4
  refine⟨_,rfl,k _ y (kat fy (s7.trans s8) (nx (s8 _ _ y7))) fy ⟨fy,q1,q2,q3,⟨dxy,_,kad,?_,?_,?_,?_,?_⟩,none_of s02 hq1,none_of (s3.trans s4) hq2,none_of s7 f8,?_,?_,?_⟩⟩
  ·ac_nf
  ·ac_nf
  ·ac_nf
   rfl
  ·ac_nf
  ·rw[kab,if_neg (by decide +kernel),kab,if_neg (by decide +kernel),kab,if_neg (by decide +kernel),kab,if_neg (by decide +kernel)]
   symm
   exact lyw
  ·rw[kaj n1]
   symm
   exact s8 _ _ e7
  ·rw[kaj n2]
   symm
   exact s8 _ _ p7
  ·rw[kaj n3]
   symm
   exact h8
inductive kgd (d:D) (vs:List V) (H:Hp) (Q:VK) (E_:XK):Prop
 |ct (H0:Hp)(x dx p vl rl:Addr)(ps vs' rs:List V)(bk:Str)(_:vs=[.ref x, .ref p, .ref vl, .ref rl, .str bk])(_:H0 x=none)(_:Same H0 H)(_:H x=some (.ins d.qd dx []))(_:H0 p=some (.lst ps))(_:H0 vl=some (.lst vs'))(_:H0 rl=some (.lst rs))(_:∀(H':Hp)(p' vl' rl':Addr)(fs:List (Str×V)),Same H0 H'→H0 p'=none→H0 vl'=none→H0 rl'=none→H' p'=some (.lst ps)→H' vl'=some (.lst vs')→H' rl'=some (.lst rs)→H' x=some (.ins d.qd dx fs)→fs.lookup ("parents" :Str)=some (.ref p')→fs.lookup ("vouchers" :Str)=some (.ref vl')→fs.lookup ("rules" :Str)=some (.ref rl')→fs.lookup ("back" :Str)=some (.str bk)→Q .non H'):kgd d vs H Q E_
theorem kfD:kao ["self","parents","vouchers","rules","back"] ["self","parents","vouchers","rules","back"] (kae kaY):=by ac_rfl
theorem kfP(W:WB K mg d base):FO P w W 1 d.YZ d.QH ["self","parents","vouchers","rules","back"] (kgd d):=by
 exists W.ZM.F,kfD
 ·obtain⟨H0,x,dx,p,vl,rl,ps,vs',rs,bk,rfl,fx,s0,hx,hp,hvl,hrl,k⟩:=h
  refine⟨_,kac (kaD (pv 0) (kaQ (r:=kby K) kaE (by rfl) W.B.list kca (kaa (pv 1) kaf)) rfl)
   (kac (kaD (pv 0) (kaQ (r:=kby K) kaE (by rfl) W.B.list kca (kaa (pv 2) kaf)) rfl)
   (kac (kaD (pv 0) (kaQ (r:=kby K) kaE (by rfl) W.B.list kca (kaa (pv 3) kaf)) rfl)
   (kag (kaD (pv 0) (pv 4) rfl)))),?_⟩
  exists Y4
  refine⟨_,rfl,p,_,rfl, .inl (SqL.of (s0 _ _ hp)),fun p' hp'=>?_⟩
  have n1:=kam (o:=.lst ps) hp'
  have fp:=s0.free hp'
  have np:p'≠x:=(kah hx hp').symm
  have e1:(upd H p' (.lst ps)) p'=some (.lst ps):=kad
  have s1:=s0.trans n1
  have hx1:=n1 _ _ hx
  clear n1
  generalize upd H p' (.lst ps)=H1 at *
  symm
  exists Y4
  refine⟨_,rfl,x,d.qd,dx,[],rfl,hx1,W.qd.cl,W.qS,by decide,?_⟩
  have s2:Same H0 (upd H1 x (.ins d.qd dx (putF "parents" (.ref p') []))):=kat fx s1 (nx hx1)
  have e2:(upd H1 x (.ins d.qd dx (putF "parents" (.ref p') []))) p'=some (.lst ps):=by rw[kaj np];exact e1
  have hx2:(upd H1 x (.ins d.qd dx (putF "parents" (.ref p') []))) x=some (.ins d.qd dx (putF "parents" (.ref p') [])):=kad
  generalize upd H1 x (.ins d.qd dx (putF "parents" (.ref p') []))=H2 at *
  symm
  exists Y4
  refine⟨_,rfl,vl,_,rfl, .inl (SqL.of (s2 _ _ hvl)),fun v' hv'=>?_⟩
  have n3:=kam (o:=.lst vs') hv'
  have fv:=s2.free hv'
  have nv:v'≠x:=(kah hx2 hv').symm
  have s3:=s2.trans n3
  have e3:=n3 _ _ e2
  have ev3:(upd H2 v' (.lst vs')) v'=some (.lst vs'):=kad
  have hx3:=n3 _ _ hx2
  clear n3
  generalize upd H2 v' (.lst vs')=H3 at *
  symm
  exists Y4
  refine⟨_,rfl,x,d.qd,dx,_,rfl,hx3,W.qd.cl,W.qC,few (U4 (kal (n:=0) (U2 _)) (by decide)),?_⟩
  have s4:Same H0 (upd H3 x (.ins d.qd dx (putF "vouchers" (.ref v') (putF "parents" (.ref p') [])))):=kat fx s3 (nx hx3)
  have e4:(upd H3 x (.ins d.qd dx (putF "vouchers" (.ref v') (putF "parents" (.ref p') [])))) p'=some (.lst ps):=by rw[kaj np];exact e3
  have ev4:(upd H3 x (.ins d.qd dx (putF "vouchers" (.ref v') (putF "parents" (.ref p') [])))) v'=some (.lst vs'):=by rw[kaj nv];exact ev3
  have hx4:(upd H3 x (.ins d.qd dx (putF "vouchers" (.ref v') (putF "parents" (.ref p') [])))) x=some (.ins d.qd dx (putF "vouchers" (.ref v') (putF "parents" (.ref p') []))):=kad
  generalize upd H3 x (.ins d.qd dx (putF "vouchers" (.ref v') (putF "parents" (.ref p') [])))=H4 at *
  symm
  exists Y4
  refine⟨_,rfl,rl,_,rfl, .inl (SqL.of (s4 _ _ hrl)),fun r' hr'=>?_⟩
  have n5:=kam (o:=.lst rs) hr'
  have fr:=s4.free hr'
  have nr:r'≠x:=(kah hx4 hr').symm
  have s5:=s4.trans n5
  have e5:=n5 _ _ e4
  have ev5:=n5 _ _ ev4
  have er5:(upd H4 r' (.lst rs)) r'=some (.lst rs):=kad
  have hx5:=n5 _ _ hx4
  clear n5
  generalize upd H4 r' (.lst rs)=H5 at *
  symm
  exists Y4
  refine⟨_,rfl,x,d.qd,dx,_,rfl,hx5,W.qd.cl,W.qJ,few (U4 (kal (kal (n:=0) (U2 _))) (by decide)),?_⟩
  have s6:Same H0 (upd H5 x (.ins d.qd dx (putF "rules" (.ref r') (putF "vouchers" (.ref v') (putF "parents" (.ref p') []))))):=kat fx s5 (nx hx5)
  have hx6:(upd H5 x (.ins d.qd dx (putF "rules" (.ref r') (putF "vouchers" (.ref v') (putF "parents" (.ref p') []))))) x=some (.ins d.qd dx (putF "rules" (.ref r') (putF "vouchers" (.ref v') (putF "parents" (.ref p') [])))):=kad
  symm
  exists Y4
  refine⟨_,rfl,_,rfl,x,d.qd,dx,_,rfl,hx6,W.qd.cl,W.Va,few (U4 (kal (kal (kal (n:=0) (U2 _)))) (by decide)),?_⟩
  symm
  refine k _ p' v' r' _ (kat fx s6 (nx hx6)) fp fv fr ?_ ?_ ?_ kad ?_ ?_ ?_ ?_
  ·rw[kaj np,kaj np];exact e5
  ·rw[kaj nv,kaj nv];exact ev5
  ·rw[kaj nr,kaj nr];exact er5
  ·ac_nf
  ·ac_nf
  ·ac_nf
  ·ac_nf
theorem klb{d:D}{H:Hp}{p vl rl:Addr}{T:TillD}{va ra:List Addr}{R:Addr→Hp→Prop}{E:XK}(hp:H p=some (.lst (T.ps.map pV)))(hvl:H vl=some (.lst (va.map V.ref)))(hv:P2 (fun a V=>VchIs d H a V) va T.vs)(hrl:H rl=some (.lst (ra.map V.ref)))(hr:P2 (fun a r=>RulIs H a r) ra T.rs)
  (k:∀(H':Hp)(x:Addr),Same H H'→H x=none→TillIs d H' x T→R x H'):
  ∀x dx,H x=none→H dx=none→dx≠x→kgd d [.ref x, .ref p, .ref vl, .ref rl, .str T.bk] (upd (upd H dx (.own x)) x (.ins d.qd dx [])) (fun v H2=>v=.non∧R x H2) E:=
 fun x dx nx nd _=>⟨H,x,dx,p,vl,rl,_,_,_,_,rfl,nx,kbb nx nd,kad,hp,hvl,hrl,fun H' p' vl' rl' fs s f1 f2 f3 h1 h2 h3 hx l1 l2 l3 l4=>⟨rfl,k H' x s nx ⟨dx,fs,p',vl',rl',va,ra,hx,l1,l2,l3,l4,h1,h2,hv.mono fun a V h=>h.same s,h3,hr.mono fun a r h=>s _ _ h⟩⟩⟩
inductive kge (f:List Rul→List Nat→Nat→Bool) (vs:List V) (H:Hp) (Q:VK) (E_:XK):Prop
 |ct (rl u:Addr)(ra:List Addr)(rs:List Rul)(used:List Nat)(n:Nat)(_:vs=[.ref rl, .ref u,iV n])(_:H rl=some (.lst (ra.map V.ref)))(_:P2 (fun a r=>RulIs H a r) ra rs)(_:H u=some (.lst (used.map iV)))(_:Q (.bl (f rs used n)) H):kge f vs H Q E_
theorem kjk{f:Rul→Bool}{rs:List Rul}{i:Nat}{r:Rul}(e:rs[i]?=some r)(h:f r=true):rs.any f=true:=List.any_eq_true.mpr ⟨r,U9 e,h⟩
theorem kkJ{f:Rul→Bool}{rs:List Rul}{n:Nat}(hn:n=rs.length)(h:∀r∈rs.take n,f r=false):rs.any f=false:=by
 rw[hn,JB] at h
 cases e:rs.any f with
 |false=>rfl
 |true=>
  obtain⟨r,hr,e2⟩:=List.any_eq_true.mp e
  rw[h r hr] at e2
  cases e2
theorem kbM{f:Rul→Bool}{rs:List Rul}{i:Nat}{r:Rul}(e:rs[i]?=some r)(h:∀q∈rs.take i,f q=false)(hr:f r=false):∀q∈rs.take (i+1),f q=false:=fun q hq=>by
 rw[J0,e] at hq
 rcases JE.mp hq with z|z
 ·exact h q z
 ·have e2:q=r:=by simpa using z
  rw[e2]
  exact hr
theorem Qo:kao ["rules","used","number","word","one","other"] ["rules","used","number"] (kae kbW):=by ac_rfl
theorem keb(W:WB K mg d base):FO P w W 1 d.XW d.XX ["rules","used","number"] (kge keO):=by
 exists W.Zf.F,Qo
 ·obtain⟨rl,u,ra,rs,used,n,rfl,hrl,hr,hu,k⟩:=h
  refine⟨_,kac (ka4 PassesOwn.never rfl (kaF (K:=K) (pv 0)) (kbB (K:=K) (n:=3) rfl (kaz (pgn (i:=3) Qo.nd) (kaz (pgn (i:=4) Qo.nd) (kaz (pgn (i:=5) Qo.nd) kbA))))
   (kag (ps_if (PW.pt (kcn (kaq op_eq (pv 3) kbT (kav _)) (kb3 (PW.pt (pw_or (PW.pt (kcn (kaq op_eq (pv 4) (pv 2) (kav _)) (kb3 (kaq kb8 (pv 5) (pv 1) (by with_unfolding_all rfl))))) (kg1 (PW.pt (kcn (kaq op_eq (pv 5) (pv 2) (kav _)) (kb3 (kaq kb8 (pv 4) (pv 1) (by with_unfolding_all rfl))))))))))) (kag (kan pe_bl)) (kas))))
   (kag (kan pe_bl)),?_⟩
  refine⟨_,rfl,rl,rfl,⟨_,SqL.of hrl⟩,kbi (xs:=ra.map V.ref) (fun i σ H'=>H'=H∧(∀r∈rs.take i,nevR used n r=false)∧∃v3 v4 v5:Option V,σ=[some (.ref rl),some (.ref u),some (iV n),v3,v4,v5])
   ⟨rfl,(fun r hr=>by simp at hr),none,none,none,rfl⟩ (fun i σ H' _ h=>by rw[h.1];exact SqL.of hrl) ?_ ?_⟩
  ·rintro i y σ H' hy ⟨rfl,hno,v3,v4,v5,rfl⟩
   obtain⟨a,ea,rfl⟩:=kbK hy
   obtain⟨r,er,hra⟩:=hr.at ea
   have yes:nevR used n r=true→Q (.bl true) H':=fun e=>by
    have z:=kjk (f:=nevR used n) er e
    unfold keO at k
    rw[z] at k
    exact k
   refine⟨a,_,rfl,SqT.of hra,rfl,_,_,rfl,_,_,rfl,_,_,rfl,rfl,?_⟩
   refine⟨_,rfl,rfl,_,rfl,?_⟩
   show if decide (V.str r.w=V.str "never")=true then _ else _
   rw[eq_str]
   by_cases hw:r.w=("never" :Str)
   ·rw [decide_eq_true hw]
    refine iteT ⟨_,rfl,_,rfl,rfl,_,rfl,?_⟩
    show if decide (iV r.a=iV n)=true then _ else _
    rw[kfX]
    by_cases ha:r.a=n
    ·rw[decide_eq_true ha]
     refine iteT ⟨_,rfl,_,rfl,u,_,rfl, .inl (SqL.of hu),rfl,kci _,_,rfl,?_⟩
     rw[if_neg U8,kch]
     cases hb:used.contains r.b with
     |true=>exact iteT (iteT (yes (by unfold nevR;rw[decide_eq_true hw,decide_eq_true ha,hb];rfl)))
     | false=>
      refine iteF ⟨_,rfl,_,rfl,rfl,_,rfl,?_⟩
      show if decide (iV r.b=iV n)=true then _ else _
      rw[kfX]
      by_cases hc:r.b=n
      ·rw[decide_eq_true hc]
       refine iteT ⟨_,rfl,_,rfl,u,_,rfl, .inl (SqL.of hu),rfl,kci _,_,rfl,?_⟩
       rw[if_neg U8,kch]
       cases hd:used.contains r.a with
       |true=>exact iteT (yes (by unfold nevR;rw[decide_eq_true hw,decide_eq_true ha,hb,decide_eq_true hc,hd];rfl))
       |false=>exact iteF ⟨rfl,kbM er hno (by unfold nevR;rw[decide_eq_true hw,decide_eq_true ha,hb,decide_eq_true hc,hd];rfl),_,_,_,rfl⟩
      ·rw[decide_eq_false hc]
       exact iteF (iteF ⟨rfl,kbM er hno (by unfold nevR;rw[decide_eq_true hw,decide_eq_true ha,hb,decide_eq_false hc];rfl),_,_,_,rfl⟩)
    ·rw[decide_eq_false ha]
     refine iteF (iteF ⟨_,rfl,_,rfl,rfl,_,rfl,?_⟩)
     show if decide (iV r.b=iV n)=true then _ else _
     rw[kfX]
     by_cases hc:r.b=n
     ·rw[decide_eq_true hc]
      refine iteT ⟨_,rfl,_,rfl,u,_,rfl, .inl (SqL.of hu),rfl,kci _,_,rfl,?_⟩
      rw[if_neg U8,kch]
      cases hd:used.contains r.a with
      |true=>exact iteT (yes (by unfold nevR;rw[decide_eq_true hw,decide_eq_false ha,decide_eq_true hc,hd];rfl))
      |false=>exact iteF ⟨rfl,kbM er hno (by unfold nevR;rw[decide_eq_true hw,decide_eq_false ha,decide_eq_true hc,hd];rfl),_,_,_,rfl⟩
     ·rw[decide_eq_false hc]
      exact iteF (iteF ⟨rfl,kbM er hno (by unfold nevR;rw[decide_eq_true hw,decide_eq_false ha,decide_eq_false hc];rfl),_,_,_,rfl⟩)
   ·rw[decide_eq_false hw]
    refine iteF (iteF ⟨rfl,kbM er hno ?_,_,_,_,rfl⟩)
    unfold nevR
    rw[decide_eq_false hw]
    rfl
  ·rintro σ H' ⟨rfl,hno,v3,v4,v5,rfl⟩
   have z:=kkJ (by rw[U0];exact hr.len) hno
   unfold keO at k
   rw[z] at k
   exact k
theorem Qp:kao ["rules","used","number","word","one","other"] ["rules","used","number"] (kae kbX):=by ac_rfl
theorem kec(W:WB K mg d base):FO P w W 1 d.XY d.XZ ["rules","used","number"] (kge keU):=by
 exists W.Zg.F,Qp
 ·obtain⟨rl,u,ra,rs,used,n,rfl,hrl,hr,hu,k⟩:=h
  refine⟨_,kac (ka4 PassesOwn.never rfl (kaF (K:=K) (pv 0)) (kbB (K:=K) (n:=3) rfl (kaz (pgn (i:=3) Qp.nd) (kaz (pgn (i:=4) Qp.nd) (kaz (pgn (i:=5) Qp.nd) kbA))))
   (kag (ps_if (PW.pt (kcn (kaq op_eq (pv 3) kbT (kav _)) (kcn (kaq op_eq (pv 4) (pv 2) (kav _)) (kb3 (kaq kb8 (pv 5) (pv 1) (by with_unfolding_all rfl)))))) (kag (kan pe_bl)) (kas))))
   (kag (kan pe_bl)),?_⟩
  refine⟨_,rfl,rl,rfl,⟨_,SqL.of hrl⟩,kbi (xs:=ra.map V.ref) (fun i σ H'=>H'=H∧(∀r∈rs.take i,ahdR used n r=false)∧∃v3 v4 v5:Option V,σ=[some (.ref rl),some (.ref u),some (iV n),v3,v4,v5])
   ⟨rfl,(fun r hr=>by simp at hr),none,none,none,rfl⟩ (fun i σ H' _ h=>by rw[h.1];exact SqL.of hrl) ?_ ?_⟩
  ·rintro i y σ H' hy ⟨rfl,hno,v3,v4,v5,rfl⟩
   obtain⟨a,ea,rfl⟩:=kbK hy
   obtain⟨r,er,hra⟩:=hr.at ea
   have yes:ahdR used n r=true→Q (.bl true) H':=fun e=>by
    have z:=kjk (f:=ahdR used n) er e
    unfold keU at k
    rw[z] at k
    exact k
   refine⟨a,_,rfl,SqT.of hra,rfl,_,_,rfl,_,_,rfl,_,_,rfl,rfl,?_⟩
   refine⟨_,rfl,rfl,_,rfl,?_⟩
   show if decide (V.str r.w=V.str "ahead")=true then _ else _
   rw[eq_str]
   by_cases hw:r.w=("ahead" :Str)
   ·rw[decide_eq_true hw]
    refine iteT ⟨_,rfl,_,rfl,rfl,_,rfl,?_⟩
    show if decide (iV r.a=iV n)=true then _ else _
    rw[kfX]
    by_cases ha:r.a=n
    ·rw[decide_eq_true ha]
     refine iteT ⟨_,rfl,_,rfl,u,_,rfl, .inl (SqL.of hu),rfl,kci _,_,rfl,?_⟩
     rw[if_neg U8,kch]
     cases hb:used.contains r.b with
     |true=>exact iteT (yes (by unfold ahdR;rw[decide_eq_true hw,decide_eq_true ha,hb];rfl))
     |false=>exact iteF ⟨rfl,kbM er hno (by unfold ahdR;rw[decide_eq_true hw,decide_eq_true ha,hb];rfl),_,_,_,rfl⟩
    ·rw[decide_eq_false ha]
     exact iteF (iteF ⟨rfl,kbM er hno (by unfold ahdR;rw[decide_eq_true hw,decide_eq_false ha];rfl),_,_,_,rfl⟩)
   ·rw[decide_eq_false hw]
    refine iteF (iteF ⟨rfl,kbM er hno ?_,_,_,_,rfl⟩)
    unfold ahdR
    rw[decide_eq_false hw]
    rfl
  ·rintro σ H' ⟨rfl,hno,v3,v4,v5,rfl⟩
   have z:=kkJ (by rw[U0];exact hr.len) hno
   unfold keU at k
   rw[z] at k
   exact k
inductive kfy (vs:List V) (H:Hp) (Q:VK) (E_:XK):Prop
 |ct (rl u:Addr)(ra:List Addr)(rs:List Rul)(order:List Nat)(_:vs=[.ref rl, .ref u])(_:H rl=some (.lst (ra.map V.ref)))(_:P2 (fun a r=>RulIs H a r) ra rs)(_:H u=some (.lst (order.map iV)))(_:Q (pV (onlyM rs order)) H):kfy vs H Q E_
theorem khg{f:Rul→Bool}:∀{rs:List Rul}{i:Nat}{r:Rul},rs[i]?=some r→f r=true→(∀q∈rs.take i,f q=false)→rs.find? f=some r
 |[],i,r,e,_,_=>by simp at e
 |q::rs,0,r,e,h,_=>by
  have e2:q=r:=by simpa using e
  subst e2
  simp[h]
 |q::rs,i+1,r,e,h,hno=>by
  have h1:=hno q (by simp)
  rw[List.find?_cons_of_neg (by rw[h1];simp)]
  exact khg (by simpa using e) h fun z hz=>hno z (by simp[hz])
theorem kln{f:Rul→Bool}{rs:List Rul}{n:Nat}(hn:n=rs.length)(h:∀r∈rs.take n,f r=false):rs.find? f=none:=by
 rw[hn,JB] at h
 exact List.find?_eq_none.mpr fun r hr=>by rw[h r hr];simp
theorem Qq:kao ["rules","order","word","one","other"] ["rules","order"] (kae kbj):=by ac_rfl
theorem kc1(W:WB K mg d base):FO P w W 1 d.X0 d.X1 ["rules","order"] kfy:=by
 exists W.Zh.F,Qq
 ·obtain⟨rl,u,ra,rs,order,rfl,hrl,hr,hu,k⟩:=h
  refine⟨_,kac (ka4 PassesOwn.never rfl (kaF (K:=K) (pv 0)) (kbB (K:=K) (n:=3) rfl (kaz (pgn (i:=2) Qq.nd) (kaz (pgn (i:=3) Qq.nd) (kaz (pgn (i:=4) Qq.nd) kbA))))
   (kag (ps_if (PW.pt (kcn (kaq op_eq (pv 2) kbT (kav _)) (kcn (kaq kb8 (pv 3) (pv 1) (by with_unfolding_all rfl)) (kb3 (kaq kfI (pv 4) (pv 1) (by with_unfolding_all rfl)))))) (kag (kan (pv 3))) (kas))))
   (kag (kan kaV)),?_⟩
  refine⟨_,rfl,rl,rfl,⟨_,SqL.of hrl⟩,kbi (xs:=ra.map V.ref) (fun i σ H'=>H'=H∧(∀r∈rs.take i,loneM order r=false)∧∃v3 v4 v5:Option V,σ=[some (.ref rl),some (.ref u),v3,v4,v5])
   ⟨rfl,(fun r hr=>by simp at hr),none,none,none,rfl⟩ (fun i σ H' _ h=>by rw[h.1];exact SqL.of hrl) ?_ ?_⟩
  ·rintro i y σ H' hy ⟨rfl,hno,v3,v4,v5,rfl⟩
   obtain⟨a,ea,rfl⟩:=kbK hy
   obtain⟨r,er,hra⟩:=hr.at ea
   refine⟨a,_,rfl,SqT.of hra,rfl,_,_,rfl,_,_,rfl,_,_,rfl,rfl,?_⟩
   refine⟨_,rfl,rfl,_,rfl,?_⟩
   show if decide (V.str r.w=V.str "only")=true then _ else _
   rw[eq_str]
   by_cases hw:r.w=("only" :Str)
   ·rw[decide_eq_true hw]
    refine iteT ⟨_,rfl,_,rfl,u,_,rfl, .inl (SqL.of hu),rfl,kci _,_,rfl,?_⟩
    rw[if_neg U8,kch]
    cases ha:order.contains r.a with
    | true=>
     refine iteT ⟨_,rfl,_,rfl,u,_,rfl, .inl (SqL.of hu),rfl,kci _,_,rfl,?_⟩
     rw[if_pos rfl,kch]
     cases hb:order.contains r.b with
     |true=>exact iteF ⟨rfl,kbM er hno (by unfold loneM;rw[decide_eq_true hw,ha,hb];rfl),_,_,_,rfl⟩
     |false=>
      refine iteT ⟨_,rfl,?_⟩
      have z:=khg (f:=loneM order) er (by unfold loneM;rw[decide_eq_true hw,ha,hb];rfl) hno
      unfold onlyM at k
      rw[z] at k
      exact k
    |false=>exact iteF (iteF ⟨rfl,kbM er hno (by unfold loneM;rw[decide_eq_true hw,ha];rfl),_,_,_,rfl⟩)
   ·rw[decide_eq_false hw]
    refine iteF (iteF ⟨rfl,kbM er hno ?_,_,_,_,rfl⟩)
    unfold loneM
    rw[decide_eq_false hw]
    rfl
  ·rintro σ H' ⟨rfl,hno,v3,v4,v5,rfl⟩
   have z:=kln (by rw[U0];exact hr.len) hno
   unfold onlyM at k
   rw[z] at k
   exact k
inductive kgK (d:D) (vs:List V) (H:Hp) (Q:VK) (E_:XK):Prop
 |ct (t h u:Addr)(T:TillD)(hand:List Int)(used:List Nat)(n:Nat)(V:Vch)(_:vs=[.ref t, .ref h, .ref u,iV n])(_:TillIs d H t T)(_:H h=some (.lst (hand.map L2.V.int)))(_:H u=some (.lst (used.map iV)))(_:T.vs[n]?=some V)(_:hand.length=T.vs.length)(_:Q (sV (wordM V T.rs hand used n)) H):kgK d vs H Q E_
theorem kdD:kao ["till","hand","used","number"] ["till","hand","used","number"] (kae kbE):=by ac_rfl
theorem kdJ(W:WB K mg d base):FO P w W 2 d.XT d.XU ["till","hand","used","number"] (kgK d):=by
 exists W.Ze.F,kdD
 ·obtain⟨t,h,u,T,hand,used,n,Vc,rfl,hT,hh,hu,hn,hl,k⟩:=h
  obtain⟨dx,fs,p,vl,rl,va,ra,ht,t1,t2,t3,t4,hp,hvl,hva,hrl,hra⟩:=hT
  exists VG,keb,W
  exists VH,kec,W
  refine⟨_,kac (ps_if (kaq op_gt (pe_op kbh (pe_bm JV PySem.F.slot_list_count PySem.F.type_list_count kjL (pv 2) (kaa (pv 3) kaf)) kai) (pe_ix (r:=rIxL K) kaK (pv 1) (pv 3) (fun _ _=>rfl)) (kav _)) (kag (kan kbT)) (kas))
   (kac (ps_if (PW.pt (kcn (ka0 (kak (K:=K) (kak (K:=K) (pe_ix (r:=rIxL K) kaK (kak (K:=K) (pv 0) rfl) (pv 3) (fun _ _=>rfl)) rfl) rfl)) (kb3 (kaq kb8 (pv 3) (pv 2) (by with_unfolding_all rfl))))) (kag (kan kbT)) (kas))
   (kac (ps_if (ka0 (pcl VG hr W.Zf (kaa (kak (K:=K) (pv 0) rfl) (kaa (pv 2) (kaa (pv 3) kaf))))) (kag (kan kbT)) (kas))
   (kac (ps_if (ka0 (pcl VH hr W.Zg (kaa (kak (K:=K) (pv 0) rfl) (kaa (pv 2) (kaa (pv 3) kaf))))) (kag (kan kbT)) (kas))
   (kag (kan kaV))))),?_⟩
  obtain⟨v,ev⟩:=at_of (xs:=va) (i:=n) (by rw[hva.len];exact at_lt hn)
  obtain⟨Vc',eV',hV⟩:=hva.at ev
  rw[hn] at eV'
  cases eV'
  obtain⟨mA,dxv,fsv,hv,lvm,_,⟨dxm,fsm,hm,m1,m2,m3,m4,m5,m6⟩,hh',_⟩:=id hV
  obtain⟨z,ez⟩:=at_of (xs:=hand) (i:=n) (by rw[hl];exact at_lt hn)
  have eu:H u=some (.lst ((used.map fun(i:Nat)=>(i:Int)).map V.int)):=by rw[hu,Jm];rfl
  have eg:hand.getD n 0=z:=by rw[Jn,ez];rfl
  refine⟨_,rfl, .inl ⟨rfl,_,SqL.of hu⟩,_,rfl,u,_,_,rfl,rfl,eu,_,_,rfl,rfl,_,rfl,_,rfl,h,_,_,_,rfl,rfl,SqL.of hh,kaW (v:=.int z) (by rw[Jb,ez];rfl),_,_,rfl,rfl,_,rfl,?_⟩
  rw[klr]
  unfold wordM at k
  rw[eg] at k
  by_cases c1:z<(used.count n:Int)+1
  ·rw[if_pos c1] at k
   rw[show decide ((used.count n:Int)+1 > z)=true from decide_eq_true c1]
   exact iteT k
  rw[if_neg c1] at k
  rw[show decide ((used.count n:Int)+1 > z)=false from decide_eq_false c1]
  refine iteF ?_
  refine⟨_,rfl,t,d.qd,dx,fs,_,rfl,ht,W.qd.cl,W.qC,t2,_,rfl,vl,_,_,_,rfl,rfl,SqL.of hvl,kaW (v:=.ref v) (by rw[Jb,ev];rfl),v,clsOf d Vc.so,dxv,fsv,_,rfl,hv,cl_of W hh',na_of W hh',lvm,mA,d.qf,dxm,fsm,_,rfl,hm,W.qf.cl,W.Zy,m5,Vc.ms.once,rfl,?_⟩
  cases ho:Vc.ms.once with
  | true=>
   rw[ho,Bool.true_and] at k
   refine iteT ⟨_,rfl,_,rfl,u,_,rfl, .inl (SqL.of hu),rfl,kci _,_,rfl,?_⟩
   rw[if_neg U8,kch]
   cases hc:used.contains n with
   |true=>
    rw[hc,if_pos rfl] at k
    exact iteT k
   | false=>
    rw[hc,if_neg U8] at k
    refine iteF ?_
    refine⟨_,rfl,t,d.qd,dx,fs,_,rfl,ht,W.qd.cl,W.qJ,t3,_,rfl,_,rfl,rl,u,ra,T.rs,used,n,rfl,hrl,hra,hu,_,rfl,?_⟩
    cases h1:keO T.rs used n with
    |true=>
     rw[h1,if_pos rfl] at k
     exact iteT k
    | false=>
     rw[h1,if_neg U8] at k
     refine iteF ⟨_,rfl,t,d.qd,dx,fs,_,rfl,ht,W.qd.cl,W.qJ,t3,_,rfl,_,rfl,rl,u,ra,T.rs,used,n,rfl,hrl,hra,hu,_,rfl,?_⟩
     cases h2:keU T.rs used n with
     |true=>
      rw[h2,if_pos rfl] at k
      exact iteT k
     |false=>
      rw[h2,if_neg U8] at k
      exact iteF k
  | false=>
   rw[ho,Mm,if_neg U8] at k
   refine iteF (iteF ?_)
   refine⟨_,rfl,t,d.qd,dx,fs,_,rfl,ht,W.qd.cl,W.qJ,t3,_,rfl,_,rfl,rl,u,ra,T.rs,used,n,rfl,hrl,hra,hu,_,rfl,?_⟩
   cases h1:keO T.rs used n with
   |true=>
    rw[h1,if_pos rfl] at k
    exact iteT k
   | false=>
    rw[h1,if_neg U8] at k
    refine iteF ⟨_,rfl,t,d.qd,dx,fs,_,rfl,ht,W.qd.cl,W.qJ,t3,_,rfl,_,rfl,rl,u,ra,T.rs,used,n,rfl,hrl,hra,hu,_,rfl,?_⟩
    cases h2:keU T.rs used n with
    |true=>
     rw[h2,if_pos rfl] at k
     exact iteT k
    |false=>
     rw[h2,if_neg U8] at k
     exact iteF k
inductive khY (d:D) (vs:List V) (H:Hp) (Q:VK) (E_:XK):Prop
 |ct (H0:Hp)(w dx t b h:Addr)(hand:List Int)(B:Bask)(_:vs=[.ref w, .ref t, .ref b, .ref h])(_:H0 w=none)(_:Same H0 H)(_:H w=some (.ins d.c_Way dx []))(_:H0 h=some (.lst (hand.map V.int)))(_:BaskIs d.qe d.qg H0 b B)(_:B.rs.length≤12)(_:(∀r∈B.rs,r.Ok))(_:∀(H':Hp)(x:Addr),Same H0 H'→H0 x=none→WayN d 5 H0 H' w t b x hand []→StndIs d.qc H' x (stnd0 B)→Q .non H'):khY d vs H Q E_
theorem kgj:kao ["self","till","basket","hand"] ["self","till","basket","hand"] (kae kdk):=by ac_rfl
theorem kcT(W:WB K mg d base):FO P w W 4 d.YO d.YQ ["self","till","basket","hand"] (khY d):=by
 exists W.qF.F,kgj
 ·obtain⟨H0,wy,dx,t,b,h,hand,B,rfl,fw,s0,hw,hh,hb,hB,hok,k⟩:=h
  exists Xb,kco,W
  refine⟨_,kac (kaD (pv 0) (pv 1) rfl)
   (kac (kaD (pv 0) (pv 2) rfl)
   (kac (kaD (pv 0) (kaQ (r:=kby K) kaE (by rfl) W.B.list kca (kaa (pv 3) kaf)) rfl)
   (kac (kaD (pv 0) (kaP kaf) rfl)
   (kag (kaD (pv 0) (kbg (W.qP.mk' W.qc) Xb hr rfl W.qc.m W.qP.b .nil pass0 (kaa (pv 2) kaf)) rfl))))),?_⟩
  exists Y4
  refine⟨_,rfl,_,rfl,wy,d.c_Way,dx,[],rfl,hw,W.c_Way.cl,W.qp,by decide,?_⟩
  have s1:Same H0 (upd H wy (.ins d.c_Way dx (putF "till" (.ref t) []))):=kat fw s0 (nx hw)
  have hw1:(upd H wy (.ins d.c_Way dx (putF "till" (.ref t) []))) wy=some (.ins d.c_Way dx (putF "till" (.ref t) [])):=kad
  generalize upd H wy (.ins d.c_Way dx (putF "till" (.ref t) []))=H1 at *
  symm
  exists Y4
  refine⟨_,rfl,_,rfl,wy,d.c_Way,dx,_,rfl,hw1,W.c_Way.cl,W.qI,few (U4 (kal (n:=0) (U2 _)) (by decide)),?_⟩
  have s2:Same H0 (upd H1 wy (.ins d.c_Way dx (putF "basket" (.ref b) (putF "till" (.ref t) [])))):=kat fw s1 (nx hw1)
  have hw2:(upd H1 wy (.ins d.c_Way dx (putF "basket" (.ref b) (putF "till" (.ref t) [])))) wy=some (.ins d.c_Way dx (putF "basket" (.ref b) (putF "till" (.ref t) []))):=kad
  generalize upd H1 wy (.ins d.c_Way dx (putF "basket" (.ref b) (putF "till" (.ref t) [])))=H2 at *
  symm
  exists Y4
  refine⟨_,rfl,h,_,rfl, .inl (SqL.of (s2 _ _ hh)),fun h' hh'=>?_⟩
  have n3:=kam (o:=.lst (hand.map V.int)) hh'
  have nh:h'≠wy:=(kah hw2 hh').symm
  have s3:=s2.trans n3
  have e3:(upd H2 h' (.lst (hand.map V.int))) h'=some (.lst (hand.map V.int)):=kad
  have hw3:=n3 _ _ hw2
  clear n3
  generalize upd H2 h' (.lst (hand.map V.int))=H3 at *
  symm
  exists Y4
  refine⟨_,rfl,wy,d.c_Way,dx,_,rfl,hw3,W.c_Way.cl,W.Qk,few (U4 (kal (kal (n:=0) (U2 _))) (by decide)),?_⟩
  have s4:Same H0 (upd H3 wy (.ins d.c_Way dx (putF "hand" (.ref h') (putF "basket" (.ref b) (putF "till" (.ref t) []))))):=kat fw s3 (nx hw3)
  have e4:(upd H3 wy (.ins d.c_Way dx (putF "hand" (.ref h') (putF "basket" (.ref b) (putF "till" (.ref t) []))))) h'=some (.lst (hand.map V.int)):=by rw[kaj nh];exact e3
  have hw4:(upd H3 wy (.ins d.c_Way dx (putF "hand" (.ref h') (putF "basket" (.ref b) (putF "till" (.ref t) []))))) wy=some (.ins d.c_Way dx (putF "hand" (.ref h') (putF "basket" (.ref b) (putF "till" (.ref t) [])))):=kad
  generalize upd H3 wy (.ins d.c_Way dx (putF "hand" (.ref h') (putF "basket" (.ref b) (putF "till" (.ref t) []))))=H4 at *
  symm
  exists Y4
  refine⟨by decide,fun u hu=>?_⟩
  have n5:=kam (o:=.lst []) hu
  have nu:u≠wy:=(kah hw4 hu).symm
  have s5:=s4.trans n5
  have e5:=n5 _ _ e4
  have eu5:(upd H4 u (.lst [])) u=some (.lst (([]:List Nat).map iV)):=kad
  have hw5:=n5 _ _ hw4
  clear n5
  generalize upd H4 u (.lst [])=H5 at *
  symm
  exists Y4
  refine⟨_,rfl,wy,d.c_Way,dx,_,rfl,hw5,W.c_Way.cl,W.qq,few (U4 (kal (kal (kal (n:=0) (U2 _)))) (by decide)),?_⟩
  have s6:Same H0 (upd H5 wy (.ins d.c_Way dx (putF "used" (.ref u) (putF "hand" (.ref h') (putF "basket" (.ref b) (putF "till" (.ref t) [])))))):=kat fw s5 (nx hw5)
  have e6:(upd H5 wy (.ins d.c_Way dx (putF "used" (.ref u) (putF "hand" (.ref h') (putF "basket" (.ref b) (putF "till" (.ref t) [])))))) h'=some (.lst (hand.map V.int)):=by rw[kaj nh];exact e5
  have eu6:(upd H5 wy (.ins d.c_Way dx (putF "used" (.ref u) (putF "hand" (.ref h') (putF "basket" (.ref b) (putF "till" (.ref t) [])))))) u=some (.lst (([]:List Nat).map iV)):=by rw[kaj nu];exact eu5
  have hw6:(upd H5 wy (.ins d.c_Way dx (putF "used" (.ref u) (putF "hand" (.ref h') (putF "basket" (.ref b) (putF "till" (.ref t) [])))))) wy=some (.ins d.c_Way dx (putF "used" (.ref u) (putF "hand" (.ref h') (putF "basket" (.ref b) (putF "till" (.ref t) []))))):=kad
  generalize upd H5 wy (.ins d.c_Way dx (putF "used" (.ref u) (putF "hand" (.ref h') (putF "basket" (.ref b) (putF "till" (.ref t) [])))))=H6 at *
  symm
  exists Y4
  refine⟨_,rfl,klc (hb.same s6) hB hok fun H7 x s7 f7 hx=>?_⟩
  have hw7:=s7 _ _ hw6
  have fx:H0 x=none:=s6.free f7
  have nxw:x≠wy:=(kah hw6 f7).symm
  symm
  exists Y4
  refine⟨_,rfl,wy,d.c_Way,dx,_,rfl,hw7,W.c_Way.cl,W.qB,few (U4 (kal (kal (kal (kal (n:=0) (U2 _))))) (by decide)),?_⟩
  symm
  refine k _ x (kat fw (s6.trans s7) (nx hw7)) fx ⟨fw,dx,_,h',u,none_of s2 hh',none_of s4 hu,kad,?_,?_,?_,?_,?_,?_,?_,?_,?_,?_,?_,?_⟩ ?_
  ·ac_nf
  ·ac_nf
  ·ac_nf
  ·ac_nf
  ·ac_nf
  ·ac_nf
   rfl
  ·ac_nf
   rfl
  ·ac_nf
   rfl
  ·ac_nf
   rfl
  ·exact U4 (kal (kal (kal (kal (kal (n:=0) (U2 _)))))) (by decide)
  ·rw[kaj nh];exact s7 _ _ e6
  ·rw[kaj nu];exact s7 _ _ eu6
  ·obtain⟨o,pp,mm,⟨dxs,fss,hxs,q⟩,ho,hpp,hmm⟩:=hx
   symm
   exact⟨o,pp,mm,⟨dxs,fss,by rw[kaj nxw];exact hxs,q⟩,by rw[kaj (ne_of ho hw7 (by intro z;cases z))];exact ho,by rw[kaj (ne_of hpp hw7 (by intro z;cases z))];exact hpp,by rw[kaj (ne_of hmm hw7 (by intro z;cases z))];exact hmm⟩
theorem kiC{d:D}{H:Hp}{t b h:Addr}{hand:List Int}{B:Bask}{R:Addr→Hp→Prop}{E:XK}(hh:H h=some (.lst (hand.map V.int)))(hb:BaskIs d.qe d.qg H b B)(hB:B.rs.length≤12)(hok:∀r∈B.rs,r.Ok)
  (k:∀(H':Hp)(w x:Addr),Same H H'→H w=none→H x=none→WayN d 5 H H' w t b x hand []→StndIs d.qc H' x (stnd0 B)→R w H'):
  ∀w dx,H w=none→H dx=none→dx≠w→khY d [.ref w, .ref t, .ref b, .ref h] (upd (upd H dx (.own w)) w (.ins d.c_Way dx [])) (fun v H2=>v=.non∧R w H2) E:=
 fun w dx nw nd _=>⟨H,w,dx,t,b,h,hand,B,rfl,nw,kbb nw nd,kad,hh,hb,hB,hok,fun H' x s f hW hx=>⟨rfl,k H' w x s nw f hW hx⟩⟩
inductive kfv (d:D) (vs:List V) (H:Hp) (Q:VK) (E_:XK):Prop
 |ct (wy t b x:Addr)(T:TillD)(B:Bask)(S:Stnd)(hand:List Int)(used:List Nat)(n:Nat)(V:Vch)(_:vs=[.ref wy,iV n])(_:WayIs d H wy t b x hand used)(_:TillIs d H t T)(_:BaskIs d.qe d.qg H b B)(_:StndIs d.qc H x S)(_:Wf T.ps B S)(_:VchOk T.ps V)(_:T.vs[n]?=some V)(_:hand.length=T.vs.length)(_:∀(H':Hp),Same H H'→Q (dueM V T B hand used S n) H'):kfv d vs H Q E_
theorem ZR:kao ["self","number","word"] ["self","number"] (kae kb0):=by ac_rfl
theorem keg(W:WB K mg d base):FO P w W 5 d.YR d.YS ["self","number"] (kfv d):=by
 exists W.Q2.F,ZR
 ·obtain⟨wy,t,b,x,T,B,S,hand,used,n,Vc,rfl,hW,hT,hB,hS,wf,vo,hn,hl,k⟩:=h
  obtain⟨dxw,fsw,h,u,hw,w1,w2,w3,w4,w5,w6,w7,w8,w9,w10,hh,hu⟩:=id hW
  obtain⟨dx,fs,p,vl,rl,va,ra,ht,t1,t2,t3,t4,hp,hvl,hva,hrl,hra⟩:=id hT
  exists VI,kdJ,W
  exists VJ,kfL,W
  exists hr2,2,hr,0
  refine⟨_,kac (psl (i:=2) ZR.nd (pcl VI hr2 W.Ze (kaa (kak (K:=K) (pv 0) rfl) (kaa (kak (K:=K) (pv 0) rfl) (kaa (kak (K:=K) (pv 0) rfl) (kaa (pv 1) kaf))))))
   (kac (ps_if (kaq kcS (pv 2) kaV (kav _)) (kag (kan (pv 2))) (kas))
   (kag (kan (pcl VJ hr W.Y3 (kaa (pe_ix (r:=rIxL K) kaK (kak (K:=K) (kak (K:=K) (pv 0) rfl) rfl) (pv 1) (fun _ _=>rfl)) (kaa (kak (K:=K) (kak (K:=K) (pv 0) rfl) rfl) (kaa (kak (K:=K) (pv 0) rfl) (kaa (kak (K:=K) (pv 0) rfl) kaf)))))))),?_⟩
  obtain⟨v,ev⟩:=at_of (xs:=va) (i:=n) (by rw[hva.len];exact at_lt hn)
  obtain⟨Vc',eV',hV⟩:=hva.at ev
  rw[hn] at eV'
  cases eV'
  refine⟨_,rfl,wy,d.c_Way,dxw,fsw,_,rfl,hw,W.c_Way.cl,W.qp,w1,_,rfl,wy,d.c_Way,dxw,fsw,_,rfl,hw,W.c_Way.cl,W.Qk,w3,_,rfl,wy,d.c_Way,dxw,fsw,_,rfl,hw,W.c_Way.cl,W.qq,w4,_,rfl,t,h,u,T,hand,used,n,Vc,rfl,hT,hh,hu,hn,hl,?_⟩
  unfold dueM at k
  cases e:wordM Vc T.rs hand used n with
  |some z=>
   rw[e] at k
   refine⟨_,rfl,rfl,_,rfl,?_⟩
   show if(!decide (V.str z=V.non))=true then _ else _
   rw[show(!decide (V.str z=V.non))=true by simp]
   exact iteT ⟨_,rfl,k H (Same.refl _)⟩
  |none=>
   rw[e] at k
   refine⟨_,rfl,rfl,_,rfl,?_⟩
   show if(!decide (V.non=V.non))=true then _ else _
   rw[show(!decide (V.non=V.non))=false by simp]
   refine iteF ⟨_,rfl,wy,d.c_Way,dxw,fsw,_,rfl,hw,W.c_Way.cl,W.qp,w1,t,d.qd,dx,fs,_,rfl,ht,W.qd.cl,W.qC,t2,_,rfl,vl,_,_,_,rfl,rfl,SqL.of hvl,kaW (v:=.ref v) (by rw[Jb,ev];rfl),?_⟩
   refine⟨_,rfl,wy,d.c_Way,dxw,fsw,_,rfl,hw,W.c_Way.cl,W.qp,w1,t,d.qd,dx,fs,_,rfl,ht,W.qd.cl,W.qS,t1,_,rfl,wy,d.c_Way,dxw,fsw,_,rfl,hw,W.c_Way.cl,W.qI,w2,_,rfl,wy,d.c_Way,dxw,fsw,_,rfl,hw,W.c_Way.cl,W.qB,w5,?_⟩
   exact⟨v,p,b,x,Vc,T.ps,B,S,rfl,hV,SqL.of hp,hB,hS,wf,vo,k⟩
inductive kgU (d:D) (vs:List V) (H:Hp) (Q:VK) (E_:XK):Prop
 |ct (wy t b x:Addr)(T:TillD)(B:Bask)(S:Stnd)(hand:List Int)(used:List Nat)(n:Nat)(V:Vch)(_:vs=[.ref wy,iV n])(_:WayIs d H wy t b x hand used)(_:TillIs d H t T)(_:BaskIs d.qe d.qg H b B)(_:StndIs d.qc H x S)(_:Wf T.ps B S)(_:VchOk T.ps V)(_:T.vs[n]?=some V)(_:used.length<64)(_:∀(H':Hp)(wy' x':Addr),Same H H'→H wy'=none→WayN d 7 H H' wy' t b x' hand (used++[n])→StndN d.qc H H' x' (aftM V T.ps (kds B) S)→Q (.ref wy') H'):kgU d vs H Q E_
theorem ZS:kao ["self","number","further"] ["self","number"] (kae kcv):=by ac_rfl
theorem kc4(W:WB K mg d base):FO P w W 6 d.YT d.YU ["self","number"] (kgU d):=by
 exists W.qR.F,ZS
 ·obtain⟨wy,t,b,x,T,B,S,hand,used,n,Vc,rfl,hW,hT,hB,hS,wf,vo,hn,hl,k⟩:=h
  obtain⟨dxw,fsw,h,u,hw,w1,w2,w3,w4,w5,w6,w7,w8,w9,w10,hh,hu⟩:=id hW
  obtain⟨dx,fs,p,vl,rl,va,ra,ht,t1,t2,t3,t4,hp,hvl,hva,hrl,hra⟩:=id hT
  exists qV,kcT,W
  exists VL,kjJ,W
  refine⟨_,kac (psl (i:=2) ZS.nd (kbg (W.qF.mk' W.c_Way) qV hr rfl W.c_Way.m W.qF.b .nil pass0 (kaa (kak (K:=K) (pv 0) rfl) (kaa (kak (K:=K) (pv 0) rfl) (kaa (kak (K:=K) (pv 0) rfl) kaf)))))
   (kac (kaD (pv 2) (pe_op kiy (kak (K:=K) (pv 0) rfl) (kaP (kaa (pv 1) kaf))) rfl)
   (kac (kaD (pv 2) (pcl VL hr W.Y5 (kaa (pe_ix (r:=rIxL K) kaK (kak (K:=K) (kak (K:=K) (pv 0) rfl) rfl) (pv 1) (fun _ _=>rfl)) (kaa (kak (K:=K) (kak (K:=K) (pv 0) rfl) rfl) (kaa (kak (K:=K) (pv 0) rfl) (kaa (kak (K:=K) (pv 0) rfl) kaf))))) rfl)
   (kag (kan (pv 2))))),?_⟩
  obtain⟨v,ev⟩:=at_of (xs:=va) (i:=n) (by rw[hva.len];exact at_lt hn)
  obtain⟨Vc',eV',hV⟩:=hva.at ev
  rw[hn] at eV'
  cases eV'
  exists Y4
  refine⟨_,rfl,wy,d.c_Way,dxw,fsw,_,rfl,hw,W.c_Way.cl,W.qp,w1,_,rfl,wy,d.c_Way,dxw,fsw,_,rfl,hw,W.c_Way.cl,W.qI,w2,_,rfl,wy,d.c_Way,dxw,fsw,_,rfl,hw,W.c_Way.cl,W.Qk,w3,kiC hh hB wf.nl wf.ok fun H1 y x1 s1 fy fx1 hy hx1=>?_⟩
  obtain⟨_,dxy,fsy,h1,u1,fh1,_,hyy,y1,y2,y3,y4,y5,y6,y7,y8,y9,y10,hh1,hu1⟩:=hy
  symm
  exists Y4
  refine⟨_,rfl,wy,d.c_Way,dxw,fsw,_,rfl,s1 _ _ hw,W.c_Way.cl,W.qq,w4,_,rfl,(by show 1≤sizeLine;decide),fun q1 hq1=>?_⟩
  have n2:=kam (o:=.lst [iV n]) hq1
  have eq1:(upd H1 q1 (.lst [iV n])) q1=some (.lst [iV n]):=kad
  have s2:=s1.trans n2
  have hy2:=n2 _ _ hyy
  have hh2:=n2 _ _ hh1
  clear n2
  generalize upd H1 q1 (.lst [iV n])=H2 at *
  symm
  exists Y4
  refine⟨u,q1,_,_,rfl,rfl,s2 _ _ hu,eq1,Jf (kap (by rw[U0];show _+1≤1000;omega)),fun q2 hq2=>?_⟩
  have n3:=kam (o:=.lst (used.map iV++[iV n])) hq2
  have eq2:(upd H2 q2 (.lst (used.map iV++[iV n]))) q2=some (.lst ((used++[n]).map iV)):=by rw[kad,Jc];rfl
  have s3:=s2.trans n3
  have hy3:=n3 _ _ hy2
  have hh3:=n3 _ _ hh2
  have nq2:q2≠y:=(kah hy2 hq2).symm
  clear n3
  generalize upd H2 q2 (.lst (used.map iV++[iV n]))=H3 at *
  have nh1:h1≠y:=ne_of hh3 hy3 (by intro z;cases z)
  symm
  exists Y4
  refine⟨_,rfl,y,d.c_Way,dxy,fsy,rfl,hy3,W.c_Way.cl,W.qq,few (U4 y10 (by decide)),?_⟩
  have s4:Same H (upd H3 y (.ins d.c_Way dxy (putF "used" (.ref q2) fsy))):=kat fy s3 (nx hy3)
  have eq4:(upd H3 y (.ins d.c_Way dxy (putF "used" (.ref q2) fsy))) q2=some (.lst ((used++[n]).map iV)):=by rw[kaj nq2];exact eq2
  have hh4:(upd H3 y (.ins d.c_Way dxy (putF "used" (.ref q2) fsy))) h1=some (.lst (hand.map V.int)):=by rw[kaj nh1];exact hh3
  have hy4:(upd H3 y (.ins d.c_Way dxy (putF "used" (.ref q2) fsy))) y=some (.ins d.c_Way dxy (putF "used" (.ref q2) fsy)):=kad
  generalize upd H3 y (.ins d.c_Way dxy (putF "used" (.ref q2) fsy))=H4 at *
  symm
  exists Y4
  refine⟨_,rfl,wy,d.c_Way,dxw,fsw,_,rfl,s4 _ _ hw,W.c_Way.cl,W.qp,w1,t,d.qd,dx,fs,_,rfl,s4 _ _ ht,W.qd.cl,W.qC,t2,_,rfl,vl,_,_,_,rfl,rfl,SqL.of (s4 _ _ hvl),kaW (v:=.ref v) (by rw[Jb,ev];rfl),?_⟩
  symm
  exists Y4
  refine⟨_,rfl,wy,d.c_Way,dxw,fsw,_,rfl,s4 _ _ hw,W.c_Way.cl,W.qp,w1,t,d.qd,dx,fs,_,rfl,s4 _ _ ht,W.qd.cl,W.qS,t1,_,rfl,wy,d.c_Way,dxw,fsw,_,rfl,s4 _ _ hw,W.c_Way.cl,W.qI,w2,_,rfl,wy,d.c_Way,dxw,fsw,_,rfl,s4 _ _ hw,W.c_Way.cl,W.qB,w5,?_⟩
  symm
  exists Y4
  refine⟨v,p,b,x,Vc,T.ps,B,S,rfl,hV.same s4,SqL.of (s4 _ _ hp),hB.same s4,hS.same s4,wf,vo,fun H5 x' s5 f5 ⟨_,o,pp,mm,⟨dxs,fss,hxs,q⟩,fo,fpp,fmm,ho,hpp,hmm⟩=>?_⟩
  have hy5:=s5 _ _ hy4
  have hh5:=s5 _ _ hh4
  have eq5:=s5 _ _ eq4
  have nx':x'≠y:=(kah hy4 f5).symm
  symm
  exists Y4
  refine⟨_,rfl,y,d.c_Way,dxy,_,rfl,hy5,W.c_Way.cl,W.qB,few (U4 (kal y10) (by decide)),?_⟩
  symm
  exists Y4
  refine⟨_,rfl,k _ y x' (kat fy (s4.trans s5) (nx hy5)) fy ⟨fy,dxy,_,h1,q2,fh1,none_of s2 hq2,kad,?_,?_,?_,?_,?_,?_,?_,?_,?_,?_,?_,?_⟩ ?_⟩
  ·ac_nf
   symm
   exact y1
  ·ac_nf
   symm
   exact y2
  ·ac_nf
   symm
   exact y3
  ·ac_nf
  ·ac_nf
  ·ac_nf
   symm
   exact y6
  ·ac_nf
   symm
   exact y7
  ·ac_nf
   symm
   exact y8
  ·ac_nf
   symm
   exact y9
  ·exact U4 (kal (kal y10)) (by decide)
  ·rw[kaj nh1];exact hh5
  ·rw[kaj nq2];exact eq5
  ·exact⟨none_of s4 f5,o,pp,mm,⟨dxs,fss,by rw[kaj nx'];exact hxs,q⟩,none_of s4 fo,none_of s4 fpp,none_of s4 fmm,by rw[kaj (ne_of ho hy5 (by intro z;cases z))];exact ho,by rw[kaj (ne_of hpp hy5 (by intro z;cases z))];exact hpp,by rw[kaj (ne_of hmm hy5 (by intro z;cases z))];exact hmm⟩
inductive kh5 (d:D) (vs:List V) (H:Hp) (Q:VK) (E_:XK):Prop
 |ct (wy t b x:Addr)(T:TillD)(hand:List Int)(used:List Nat)(_:vs=[.ref wy])(_:WayIs d H wy t b x hand used)(_:TillIs d H t T)(_:Q (.bl (onlyM T.rs used).isNone) H):kh5 d vs H Q E_
theorem kdF:kao ["self"] ["self"] (kae kbI):=by ac_rfl
theorem kdM(W:WB K mg d base):FO P w W 2 d.YX d.YY ["self"] (kh5 d):=by
 exists W.Q4.F,kdF
 ·obtain⟨wy,t,b,x,T,hand,used,rfl,hW,hT,k⟩:=h
  obtain⟨dxw,fsw,h,u,hw,w1,w2,w3,w4,w5,w6,w7,w8,w9,w10,hh,hu⟩:=id hW
  obtain⟨dx,fs,p,vl,rl,va,ra,ht,t1,t2,t3,t4,hp,hvl,hva,hrl,hra⟩:=id hT
  exists VM,kc1,W
  refine⟨_,kag (kan (kcg kfJ (pcl VM hr W.Zh (kaa (kak (K:=K) (kak (K:=K) (pv 0) rfl) rfl) (kaa (kak (K:=K) (pv 0) rfl) kaf))) kaV (kav _))),?_⟩
  refine⟨_,rfl,wy,d.c_Way,dxw,fsw,_,rfl,hw,W.c_Way.cl,W.qp,w1,t,d.qd,dx,fs,_,rfl,ht,W.qd.cl,W.qJ,t3,_,rfl,wy,d.c_Way,dxw,fsw,_,rfl,hw,W.c_Way.cl,W.qq,w4,rl,u,ra,T.rs,used,rfl,hrl,hra,hu,rfl,?_⟩
  cases e:onlyM T.rs used with
  |none=>
   rw[e] at k
   show Q (.bl (decide (V.non=V.non))) H
   rw[show decide (V.non=V.non)=true by simp]
   exact k
  |some z=>
   rw[e] at k
   show Q (.bl (decide (V.int (z:Int)=V.non))) H
   rw[show decide (V.int (z:Int)=V.non)=false by simp]
   exact k
noncomputable def canM(T:TillD)(B:Bask)(hand:List Int)(used:List Nat)(S:Stnd)(n:Nat):Bool:=match T.vs[n]? with
 |none=>false
 |some V=>decide (dueM V T B hand used S n=.non)
noncomputable def folM(T:TillD)(B:Bask)(hand:List Int)(used:List Nat)(S:Stnd):List Nat:=(U5 T.vs.length).filter (canM T B hand used S)
theorem khu{p:Nat→Bool}{i:Nat}:(U5 (i+1)).filter p=(U5 i).filter p++(if p i=true then [i] else []):=by
 rw[JO,Nt,NK,MF]
inductive kgS (d:D) (vs:List V) (H:Hp) (Q:VK) (E_:XK):Prop
 |ct (wy t b x:Addr)(T:TillD)(B:Bask)(S:Stnd)(hand:List Int)(used:List Nat)(_:vs=[.ref wy])(_:WayIs d H wy t b x hand used)(_:TillIs d H t T)(_:kcq T)(_:BaskIs d.qe d.qg H b B)(_:StndIs d.qc H x S)(_:Wf T.ps B S)(_:hand.length=T.vs.length)(_:∀(H':Hp)(p:Addr),Same H H'→H p=none→H' p=some (.lst ((folM T B hand used S).map iV))→Q (.ref p) H'):kgS d vs H Q E_
theorem kdG:kao ["self"] ["self"] (kae kbf):=by ac_rfl
theorem kdN(W:WB K mg d base):FO P w W 6 d.YV d.YW ["self"] (kgS d):=by
 exists W.Q3.F,kdG
 ·obtain⟨wy,t,b,x,T,B,S,hand,used,rfl,hW,hT,tok,hB,hS,wf,hl,kk⟩:=h
  obtain⟨dxw,fsw,h,u,hw,w1,w2,w3,w4,w5,w6,w7,w8,w9,w10,hh,hu⟩:=id hW
  obtain⟨dx,fs,p,vl,rl,va,ra,ht,t1,t2,t3,t4,hp,hvl,hva,hrl,hra⟩:=id hT
  exists VN,keg,W
  refine⟨_,kag (kan (kg4 (N:=["number","self"]) (CompScope.of (N:=["number","self"]) (cap:=[none,some 0]) (kae kbf).names ["self"] rfl rfl (by decide +kernel)) rfl (kb7 rfl W.B.range (kaa (kaw (r:=kbL K) kaI (by rfl) W.B.len b_len (kaa (kak (K:=K) (kak (K:=K) (pv 0) rfl) rfl) kaf)) kaf)) (fun _ _ _ _=>pgn (i:=0) (show(["number","self"]:List Str).Nodup by decide +kernel)) (fun _ _ _ _=>kip (kaq kfJ (kgp (pv 1) W.c_Way.cl W.Q2.me VN hr W.Q2.b .nil pass0 (kaa (pv 0) kaf)) kaV (kav _))) (fun _ _ _ _=>(pv 0)))),?_⟩
  have nv:=tok.nv
  have lva:=hva.len
  refine⟨_,rfl,wy,d.c_Way,dxw,fsw,_,rfl,hw,W.c_Way.cl,W.qp,w1,t,d.qd,dx,fs,_,rfl,ht,W.qd.cl,W.qC,t2,vl,_,rfl, .inl (SqL.of hvl),_,rfl,by omega,by rw[U0];omega,?_⟩
  rw[show(((va.map V.ref).length:Nat):Int).toNat=T.vs.length by rw[U0];omega]
  refine kgE (fun i σ ys H'=>Same H H'∧ys=((U5 i).filter (canM T B hand used S)).map iV∧∃v0:Option V,σ=[v0,some (.ref wy)]) ⟨Same.refl _,rfl,none,rfl⟩ (Jf (kap (by omega))) ?_ ?_ ?_
  ·rintro i σ ys H' hi ⟨_,rfl,_⟩
   rw[U0]
   exact U4 (NL _ _) (by rw[List.length_range];exact U2 _)
  ·rintro i σ ys H' hi ⟨s1,rfl,v0,rfl⟩
   rw[Int.zero_add]
   obtain⟨Vc,hV⟩:=at_of (xs:=T.vs) (i:=i) hi
   have vo:=tok.vs Vc (U9 hV)
   refine⟨_,rfl,wy,dxw,fsw,rfl,s1 _ _ hw,w6,_,rfl,wy,t,b,x,T,B,S,hand,used,i,Vc,rfl,hW.same s1,hT.same s1,hB.same s1,hS.same s1,wf,vo,hV,hl,fun H2 s2=>⟨rfl,_,rfl,?_⟩⟩
   have ec:canM T B hand used S i=decide (dueM Vc T B hand used S i=.non):=by unfold canM;rw[hV]
   rw[khu,ec]
   by_cases hn:dueM Vc T B hand used S i=.non
   ·rw[decide_eq_true hn]
    refine iteT ⟨_,rfl,s1.trans s2,?_,_,rfl⟩
    rw[if_pos rfl,Jc]
    rfl
   ·rw[decide_eq_false hn]
    refine iteF ⟨s1.trans s2,?_,_,rfl⟩
    rw[if_neg U8,J6]
  ·rintro σ ys H' ⟨s1,rfl,v0,rfl⟩ q hq
   exact kk _ q (s1.trans (kam hq)) (s1.free hq) kad
noncomputable def remM(hand:List Int)(used:List Nat):Nat:=((U5 hand.length).map fun m=>(hand.getD m 0-(used.count m:Int)).toNat).sum
theorem kgJ{f g:Nat→Nat}{n:Nat}:∀{L:Nat},n<L→f n=g n+1→(∀m,m≠n→f m=g m)→((U5 L).map f).sum=((U5 L).map g).sum+1
 |0,h,_,_=>by omega
 | L+1,h,h1,h2=>by
  rw[JO,Jc,Jc,NO,NO]
  simp only[Ji,Nl,NN,MJ]
  by_cases e:n=L
  ·subst e
   have:(U5 n).map f=(U5 n).map g:=JL fun m hm=>h2 m (by have:=Mj.mp hm;omega)
   rw[this,h1]
   omega
  ·rw[kgJ (by omega) h1 h2,h2 L (Ne.symm e)]
   omega
theorem kg0{hand:List Int}{used:List Nat}{n:Nat}(hn:n<hand.length)(h:(used.count n:Int)+1≤hand.getD n 0):remM hand used=remM hand (used++[n])+1:=by
 unfold remM
 refine kgJ hn ?_ fun m hm=>?_
 ·rw[List.count_append,show List.count n [n]=1 by simp]
  generalize hand.getD n 0=g at *
  omega
 ·rw[List.count_append]
  have:List.count m [n]=0:=by simp[Ne.symm hm]
  rw[this]
  simp
theorem kkW:∀(hand:List Int),(∀z∈hand,0≤z)→(remM hand []:Int)=hand.sum:=by
 intro hand h
 have key:∀(L:Nat),L≤hand.length→((((U5 L).map fun m=>(hand.getD m 0-((([]:List Nat).count m:Nat):Int)).toNat).sum:Nat):Int)=(hand.take L).sum:=by
  intro L
  induction L with
  |zero=>intro _;rfl
  |succ L ih=>
   intro hL
   have hz:hand[L]?=some hand[L]:=JZ (by omega)
   have e:hand.take (L+1)=hand.take L++[hand[L]]:=by rw[J0,hz];rfl
   have h0:=h hand[L] (List.getElem_mem _)
   rw[JO,Jc,NO,e,NO]
   simp only[Ji,Nl,NN,MJ,List.count_nil]
   have eg:hand.getD L 0=hand[L]:=by rw[Jn,hz];rfl
   rw[eg]
   have:=ih (by omega)
   simp only[List.count_nil] at this
   omega
 have:=key hand.length (U2 _)
 rw[JB] at this
 exact this
theorem kkI{p:Nat→Bool}{f:Nat→Nat}(h:∀m,p m=true→1≤f m):∀L:Nat,((U5 L).filter p).length≤((U5 L).map f).sum
 |0=>U2 _
 | L+1=>by
  have ih:=kkI h L
  rw[JO,Nt,Jh,Jc,NO]
  simp only[Ji,Nl,NN,MJ,NK,MF]
  by_cases e:p L=true
  ·have:=h L e
   rw[if_pos e]
   simp
   omega
  ·rw[if_neg e]
   simp
   omega
noncomputable def fan:Nat→Nat
 |0=>1
 |r+1=>1+(r+1)*fan r
theorem khf{α:Type}{f:Nat→List α}{k:Nat}:∀{l:List Nat},(∀n∈l,(f n).length≤k)→(l.flatMap f).length≤l.length*k
 |[],_=>by simp
 |a::l,h=>by
  have ih:=khf (f:=f) (k:=k) (l:=l) fun n hn=>h n (Jo _ hn)
  rw[List.flatMap_cons,Jh,Jw,Nat.add_mul,Nat.one_mul]
  have:=h a Jt
  omega
theorem khh:∀{r s:Nat},r≤s→fan r≤fan s
 |r,0,h=>by rw[Nat.le_zero.mp h];exact U2 _
 | r,s+1,h=>by
  by_cases e:r=s+1
  ·rw[e];exact U2 _
  ·have:=khh (r:=r) (s:=s) (by omega)
   show fan r≤1+(s+1)*fan s
   have h2:fan s≤(s+1)*fan s:=Nat.le_mul_of_pos_left _ (by omega)
   omega
variable {T:TillD}{B:Bask}{hand:List Int}
theorem kfn{used:List Nat}{S:Stnd}{n:Nat}(h:canM T B hand used S n=true):n<T.vs.length∧(used.count n:Int)+1≤hand.getD n 0:=by
 unfold canM at h
 cases e:T.vs[n]? with
 |none=>rw[e] at h;cases h
 | some V=>
  rw[e] at h
  refine⟨at_lt e,?_⟩
  have h1:dueM V T B hand used S n=.non:=of_decide_eq_true h
  unfold dueM wordM at h1
  by_cases c1:hand.getD n 0<(used.count n:Int)+1
  ·rw[if_pos c1] at h1
   cases h1
  ·omega
theorem kkA{used:List Nat}{S:Stnd}(hl:hand.length=T.vs.length):(folM T B hand used S).length≤remM hand used:=by
 unfold folM remM
 rw[←hl]
 refine kkI (fun m hm=>?_) _
 have:=(kfn hm).2
 omega
noncomputable def waysM(T:TillD)(B:Bask)(hand:List Int):Nat→List Nat→Stnd→List (List Nat×Stnd)
 |0,_,_=>[]
 |k+1,used,S=>(if(onlyM T.rs used).isNone=true then [(used,S)] else [])++(folM T B hand used S).flatMap fun n=>match T.vs[n]? with
  |none=>[]
  |some V=>waysM T B hand k (used++[n]) (aftM V T.ps (kds B) S)
noncomputable def Deep(T:TillD)(B:Bask)(hand:List Int):Nat→List Nat→Stnd→Prop
 |0,_,_=>False
 |k+1,used,S=>∀n∈folM T B hand used S,∀V,T.vs[n]?=some V→Deep T B hand k (used++[n]) (aftM V T.ps (kds B) S)
theorem WayN.same{d:D}{m:Nat}{H0 H H':Hp}{w t b x:Addr}{hand:List Int}{used:List Nat}(s:Same H H'):WayN d m H0 H w t b x hand used→WayN d m H0 H' w t b x hand used:=fun⟨f,dx,fs,h,u,f1,f2,h1,h2,h3,h4,h5,h6,h7,h8,h9,h10,h11,h12,h13⟩=>
 ⟨f,dx,fs,h,u,f1,f2,s _ _ h1,h2,h3,h4,h5,h6,h7,h8,h9,h10,h11,s _ _ h12,s _ _ h13⟩
theorem StndN.same{C x:Addr}{H0 H H':Hp}{S:Stnd}(s:Same H H'):StndN C H0 H x S→StndN C H0 H' x S:=fun⟨f,o,p,mk,⟨dx,fs,hx,r⟩,f1,f2,f3,h1,h2,h3⟩=>⟨f,o,p,mk,⟨dx,fs,s _ _ hx,r⟩,f1,f2,f3,s _ _ h1,s _ _ h2,s _ _ h3⟩
noncomputable def WayQ(d:D)(t b:Addr)(hand:List Int)(H0 H:Hp)(w:Addr)(q:List Nat×Stnd):Prop:=∃x,WayN d 7 H0 H w t b x hand q.1∧StndN d.qc H0 H x q.2
theorem WayQ.same{d:D}{t b w:Addr}{hand:List Int}{H0 H H':Hp}{q:List Nat×Stnd}(s:Same H H'):WayQ d t b hand H0 H w q→WayQ d t b hand H0 H' w q:=fun⟨x,h1,h2⟩=>⟨x,h1.same s,h2.same s⟩
theorem WayQ.rmv{d:D}{t b w z:Addr}{hand:List Int}{H0 H1 H:Hp}{q:List Nat×Stnd}(s:Same H0 H1)(hz:H1 z≠none):WayQ d t b hand H1 H w q→WayQ d t b hand H0 (Vs.rmv z H) w q:=fun⟨x,⟨f,dx,fs,h,u,f1,f2,g,h2,h3,h4,h5,h6,h7,h8,h9,h10,h11,h12,h13⟩,⟨e,o,p,mk,⟨dy,gs,hx,r⟩,e1,e2,e3,k1,k2,k3⟩⟩=>
 ⟨x,⟨none_of s f,dx,fs,h,u,none_of s f1,none_of s f2,(kbR hz f).trans g,h2,h3,h4,h5,h6,h7,h8,h9,h10,h11,(kbR hz f1).trans h12,(kbR hz f2).trans h13⟩,
  ⟨none_of s e,o,p,mk,⟨dy,gs,(kbR hz e).trans hx,r⟩,none_of s e1,none_of s e2,none_of s e3,(kbR hz e1).trans k1,(kbR hz e2).trans k2,(kbR hz e3).trans k3⟩⟩
inductive keG (d:D) (n:Nat) (vs:List V) (H:Hp) (Q:VK) (E_:XK):Prop
 |ct (H0:Hp)(wy t b:Addr)(T:TillD)(B:Bask)(S:Stnd)(hand:List Int)(used:List Nat)(_:vs=[.ref wy])(_:Same H0 H)(_:WayQ d t b hand H0 H wy (used,S))(_:TillIs d H t T)(_:kcq T)(_:BaskIs d.qe d.qg H b B)(_:Wf T.ps B S)(_:hand.length=T.vs.length)(_:Deep T B hand n used S)(_:used.length+n<64)(_:(waysM T B hand n used S).length≤1000)(_:∀(H':Hp)(p:Addr)(wl:List Addr),Same H H'→H p=none→H' p=some (.lst (wl.map V.ref))→P2 (fun w q=>WayQ d t b hand H0 H' w q) wl (waysM T B hand n used S)→Q (.ref p) H'):keG d n vs H Q E_
theorem khX{d:D}{vs:List V}{H:Hp}{Q:VK}{E:XK}(h:keG d 0 vs H Q E):False:=by
 obtain⟨_,_,_,_,_,_,_,_,_,_,_,_,_,_,_,_,_,h,_⟩:=h
 exact h
theorem kfW{α β:Type}{f: α→List β}{l:List α}{i:Nat}{a: α}(h:l[i]?=some a):(l.take (i+1)).flatMap f=(l.take i).flatMap f++f a:=by
 rw[take_snoc h,List.flatMap_append,List.flatMap_cons,MK,J6]
theorem klk{α β:Type}{f: α→List β}{l:List α}{i:Nat}:((l.take i).flatMap f).length≤(l.flatMap f).length:=by
 conv=>rhs;rw[←MC i l,List.flatMap_append,Jh]
 omega
theorem Xc:kao ["way","found","number"] ["way"] (kae kcM):=by ac_rfl
theorem kew(W:WB K mg d base)(n:Nat)(G_rec:FO P w W (6+n) d.qK d.qL ["way"] ((keG d) n)):FO P w W (6+n+1) d.qK d.qL ["way"] ((keG d) (n+1)):=by
 refine FunD.ok W.qM.F Xc (fun vs H Q E h=>?_) (fun cdv A outer s H vs Q E hr h=>?_)
 ·obtain⟨H0,wy,t,b,T,B,S,hand,used,rfl,_⟩:=h
  rfl
 ·obtain⟨H0,wy,t,b,T,B,S,hand,used,rfl,s0,hq,hT,tok,hB,wf,hl,hdp,h64,hlen,kk⟩:=h
  exists VO,kdM,W
  exists VP,kdN,W
  exists Xd,kc4,W
  have hr2:Room 2 _:=hr.mono (by omega)
  have hr6:Room 6 _:=hr.mono (by omega)
  refine⟨_,kac (psl (i:=1) Xc.nd (kcY (kbp (ka0 (kdT (pv 0) W.c_Way.cl W.Q4.me VO hr2 W.Q4.b .nil pass0)) (kaP (kaa (pv 0) kaf)) (kaP kaf))))
   (kac (ka4 PassesOwn.never rfl (kaF (K:=K) (kdT (pv 0) W.c_Way.cl W.Q3.me VP hr6 W.Q3.b .nil pass0)) (pgn (i:=2) Xc.nd)
   (kag (ka7 (pe_bm JV MH MI keh (pv 1) (kaa (kir G_rec hr rfl W.qM.m W.qM.F.kp W.qM.b .nil pass0 (kaa (kgp (pv 0) W.c_Way.cl W.qR.me Xd hr6 W.qR.b .nil pass0 (kaa (pv 2) kaf)) kaf)) kaf)))))
   (kag (kan (pv 1)))),?_⟩
  obtain⟨x,hY,hS⟩:=id hq
  have hYI:=hY.at
  have hSI:=hS.is
  obtain⟨dxw,fsw,hd,u,hw,w1,w2,w3,w4,w5,w6,w7,w8,w9,w10,hh,hu⟩:=id hYI
  have hws:waysM T B hand (n+1) used S=(if(onlyM T.rs used).isNone=true then [(used,S)] else [])++(folM T B hand used S).flatMap fun m=>match T.vs[m]? with
   |none=>[]
   |some V=>waysM T B hand n (used++[m]) (aftM V T.ps (kds B) S):=rfl
  generalize hpre:(if(onlyM T.rs used).isNone=true then [(used,S)] else [])=pre at hws
  have hdp':∀m∈folM T B hand used S,∀V,T.vs[m]?=some V→Deep T B hand n (used++[m]) (aftM V T.ps (kds B) S):=hdp
  generalize hfm:(fun m=>match T.vs[m]? with
   |none=>[]
   |some V=>waysM T B hand n (used++[m]) (aftM V T.ps (kds B) S))=fm at hws
  refine⟨fun v H1=>∃(fo:Addr)(wl:List Addr),v=.ref fo∧Same H H1∧H fo=none∧H1 fo=some (.lst (wl.map V.ref))∧P2 (fun w q=>WayQ d t b hand H0 H w q) wl pre,?_,?_⟩
  ·refine⟨_,rfl,wy,dxw,fsw,rfl,hw,w8,wy,t,b,x,T,hand,used,rfl,hYI,hT,_,rfl,?_⟩
   cases e:(onlyM T.rs used).isNone with
   |true=>
    rw[e,if_pos rfl] at hpre
    subst hpre
    exact iteT ⟨_,rfl,(by show 1≤sizeLine;decide),fun fo ffo=>⟨fo,[wy],rfl,kam ffo,ffo,kad, .cons hq .nil⟩⟩
   |false=>
    rw[e,if_neg U8] at hpre
    subst hpre
    exact iteF ⟨(by show 0≤sizeLine;decide),fun fo ffo=>⟨fo,[],rfl,kam ffo,ffo,kad, .nil⟩⟩
  rintro v H1 ⟨fo,wl0,rfl,s1,ffo,efo0,hwl0⟩
  refine⟨_,rfl,wy,dxw,fsw,rfl,s1 _ _ hw,w9,wy,t,b,x,T,B,S,hand,used,rfl,hYI.same s1,hT.same s1,tok,hB.same s1,hSI.same s1,wf,hl,fun H2 fl s2 ffl efl=>?_⟩
  have s02:=s1.trans s2
  refine⟨fl,rfl,⟨_,SqL.of efl⟩,kbi (xs:=(folM T B hand used S).map iV) (fun i σ H'=>Same H H'∧H' fl=some (.lst ((folM T B hand used S).map iV))∧∃(Hw:Hp)(wl:List Addr)(v2:Option V),Same Hw H'∧Same H0 Hw∧Hw fo=none∧H' fo=some (.lst (wl.map V.ref))∧P2 (fun w q=>WayQ d t b hand H0 Hw w q) wl (pre++((folM T B hand used S).take i).flatMap fm)∧σ=[some (.ref wy),some (.ref fo),v2])
   ⟨s02,efl,H,wl0,none,s02,s0,ffo,s2 _ _ efo0,by rw[List.take_zero,MK,J6];exact hwl0,rfl⟩ (fun i σ H' _ h=>SqL.of h.2.1) ?_ ?_⟩
  ·rintro i y σ H' hy ⟨sI,efl',Hw,wl,v2,sw,s0w,fwo,efo,hwl,rfl⟩
   obtain⟨m,em,rfl⟩:∃m,(folM T B hand used S)[i]?=some m∧y=iV m:=kbO hy
   have hmem:=U9 em
   have hm:m<T.vs.length:=by
    unfold folM at hmem
    exact Mj.mp (JM.mp hmem).1
   obtain⟨Vc,hV⟩:=at_of hm
   have vo:=tok.vs Vc (U9 hV)
   have efm:fm m=waysM T B hand n (used++[m]) (aftM Vc T.ps (kds B) S):=by rw[←hfm];simp only[hV]
   have hle:=klk (f:=fm) (l:=folM T B hand used S) (i:=i+1)
   rw[kfW em,Jh] at hle
   rw[hws,Jh] at hlen
   have lwl:=hwl.len
   rw[Jh] at lwl
   refine⟨_,rfl, .inl ⟨rfl,_,SqL.of efo⟩,_,rfl,wy,dxw,fsw,rfl,sI _ _ hw,w7,_,rfl,wy,t,b,x,T,B,S,hand,used,m,Vc,rfl,hYI.same sI,hT.same sI,hB.same sI,hSI.same sI,wf,vo,hV,by omega,fun H4 wy' x' s4 f4 hY' hx'=>?_⟩
   have s04:=sI.trans s4
   refine⟨H',wy',t,b,T,B,aftM Vc T.ps (kds B) S,hand,used++[m],rfl,s4,⟨x',hY',hx'⟩,hT.same s04,tok,hB.same s04,wf.after vo,hl,hdp' m hmem Vc hV,(by rw[Jh,Nx];omega),(by rw[←efm];omega),fun H5 p5 wl5 s5 f5 e5 hwl5=>?_⟩
   have s15:=s4.trans s5
   have efo5:=s15 _ _ efo
   rw[←efm] at hwl5
   have l5:=hwl5.len
   refine⟨fo,p5,_,_,rfl,rfl,efo5,e5,Jf (kap (by rw[U0,U0];omega)),?_⟩
   rw[←Jc]
   have hfo':H' fo≠none:=by rw[efo];intro z;cases z
   have nfl:fl≠fo:=fun e=>by
    rw[e] at ffl
    rw[efo0] at ffl
    cases ffl
   have bw:=kkV (x:=fo) (H:=H5) (nx efo5)
   have sw5:=khp (sw.trans s15) bw fwo
   have s0H':Same H0 H':=s0.trans sI
   refine⟨kat ffo (sI.trans s15) (nx efo5),by rw[kaj nfl];exact s15 _ _ efl',Vs.rmv fo H5,wl++wl5,_,khp kkU (kar (nx efo5)) kif,s0w.trans sw5,kif,kad,?_,rfl⟩
   rw[kfW em,←Nm]
   exact P2.append (hwl.mono fun w q h=>h.same sw5) (hwl5.mono fun w q h=>h.rmv s0H' hfo')
  ·rintro σ H' ⟨sI,_,Hw,wl,v2,sw,s0w,fwo,efo,hwl,rfl⟩
   rw[U0,JB,←hws] at hwl
   exact⟨_,rfl,kk H' fo wl sI ffo efo (hwl.mono fun w q h=>h.same sw)⟩
theorem kc0(W:WB K mg d base):∀n:Nat,FO P w W (6+n) d.qK d.qL ["way"] ((keG d) n)
 |0=>⟨fun _ _ _ _ h=>(khX h).elim,fun _ _ _ _ _ _ _ _ _ _ _ _ _ h=>(khX h).elim⟩
 |n+1=>kew W n (kc0 W n)
theorem kfK(W:WB K mg d base):FO P w W 16 d.qK d.qL ["way"] ((keG d) 10):=kc0 W 10
theorem ki3(hl:hand.length=T.vs.length):∀(k:Nat)(used:List Nat)(S:Stnd),remM hand used<k→Deep T B hand k used S
 |0,_,_,h=>by omega
 |k+1,used,S,h=>fun n hn V _=>by
  have hc:=(JM.mp hn).2
  obtain⟨h1,h2⟩:=kfn hc
  have:=kg0 (hand:=hand) (used:=used) (n:=n) (by omega) h2
  exact ki3 hl k _ _ (by omega)
theorem kgH{T:TillD}{B:Bask}{hand:List Int}(hl:hand.length=T.vs.length):∀(k:Nat)(used:List Nat)(S:Stnd),(waysM T B hand k used S).length≤fan (remM hand used)
 |0,_,_=>by unfold waysM;exact Jv _
 | k+1,used,S=>by
  have h0:(if(onlyM T.rs used).isNone=true then [(used,S)] else []).length≤1:=by split <;> simp
  unfold waysM
  rw[Jh]
  cases er:remM hand used with
  |zero=>
   have hf:=kkA (T:=T) (B:=B) (used:=used) (S:=S) hl
   rw[er] at hf
   have:folM T B hand used S=[]:=List.length_eq_zero_iff.mp (Nat.le_zero.mp hf)
   rw[this,MK]
   show _+0≤1
   omega
  | succ r=>
   have hf:=kkA (T:=T) (B:=B) (used:=used) (S:=S) hl
   rw[er] at hf
   show _≤1+(r+1)*fan r
   refine U4 (Nat.add_le_add h0 (khf (k:=fan r) (fun n hn=>?_))) (Nat.add_le_add_left (Nat.mul_le_mul_right _ hf) 1)
   cases e:T.vs[n]? with
   |none=>exact Jv _
   |some V=>
    have hc:=(JM.mp hn).2
    obtain⟨h1,h2⟩:=kfn hc
    have hd:=kg0 (hand:=hand) (used:=used) (n:=n) (by omega) h2
    have hi:=kgH (B:=B) hl k (used++[n]) (aftM V T.ps (kds B) S)
    rw[show remM hand (used++[n])=r by omega] at hi
    exact hi
theorem kiU{S:Stnd}(hl:hand.length=T.vs.length)(hn:∀z∈hand,0≤z)(h5:hand.sum≤5):Deep T B hand 10 [] S∧(waysM T B hand 10 [] S).length≤1000:=by
 have e:=kkW hand hn
 have h:remM hand []≤5:=by omega
 exact⟨ki3 hl 10 [] S (by omega),U4 (kgH hl 10 [] S) (U4 (khh h) (by decide))⟩
noncomputable def khV(V:Vch)(ps:List (Option Nat))(B:Bask)(S:Stnd):Bool:=match V.so with
 | .off a=>decide ((qs S.pr (abt ps (kds B) V.ms.kind V.ms.lone S)).sum<a)
 |_=>false
inductive kgN (d:D) (vs:List V) (H:Hp) (Q:VK) (E_:XK):Prop
 |ct (wy t b x v:Addr)(T:TillD)(B:Bask)(S:Stnd)(hand:List Int)(used:List Nat)(V:Vch)(_:vs=[.ref wy, .ref v])(_:WayIs d H wy t b x hand used)(_:TillIs d H t T)(_:BaskIs d.qe d.qg H b B)(_:StndIs d.qc H x S)(_:Wf T.ps B S)(_:VchIs d H v V)(_:VchOk T.ps V)(_:∀(H':Hp),Same H H'→Q (.bl (khV V T.ps B S)) H'):kgN d vs H Q E_
theorem ZT:kao ["way","voucher","pieces"] ["way","voucher"] (kae ke4):=by ac_rfl
theorem kiA(W:WB K mg d base):FO P w W 4 d.Yd d.Ye ["way","voucher"] (kgN d):=by
 exists W.Zn.F,ZT
 ·obtain⟨wy,t,b,x,v,T,B,S,hand,used,⟨so,ms⟩,rfl,hW,hT,hB,hS,wf,hV,vo,kk⟩:=h
  obtain⟨mA,dxv,fsv,hv,lvm,hso,hM,hh,htb⟩:=id hV
  obtain⟨dxw,fsw,h,u,hw,w1,w2,w3,w4,w5,w6,w7,w8,w9,w10,hh',hu⟩:=id hW
  obtain⟨dx,fs,p,vl,rl,va,ra,ht,t1,t2,t3,t4,hp,hvl,hva,hrl,hra⟩:=id hT
  have I:=kiP W hh
  have lp:=wf.lp
  have np:=wf.np
  have habl:∀i∈abt T.ps (kds B) ms.kind ms.lone S,i<S.pr.length:=fun i hi=>by rw[lp];exact kga hi
  have lab:(abt T.ps (kds B) ms.kind ms.lone S).length≤720:=U4 (kdv _ _ _ _ _) np
  exists qU,kfb,W
  exists qG,kbC,W
  exists hr2,2,hr,0
  refine⟨_,kac (ps_if (kik (ka0 (kaw (r:=rIsi K) ka2 (by rfl) W.B.isi b_isi (kaa (pv 1) (kaa (kcf (v:=.ref d.c_Off) (by rfl) W.g_Off rfl) kaf))))) (kag (kan pe_bl)) (kas))
   (kac (psl (i:=2) ZT.nd (pcl qU hr W.Qe (kaa (pv 1) (kaa (kak (K:=K) (kak (K:=K) (pv 0) rfl) rfl) (kaa (kak (K:=K) (pv 0) rfl) (kaa (kak (K:=K) (pv 0) rfl) kaf))))))
   (kag (kan (kcg op_gt (kak (K:=K) (pv 1) rfl) (pcl qG hr2 W.qH (kaa (kak (K:=K) (pv 0) rfl) (kaa (pv 2) kaf))) (kav _))))),?_⟩
  refine⟨_,rfl,_,_,_,_,rfl, .inr ⟨_,rfl⟩,TyOf.ins hv (cl_of W hh) I.ha I.hn I.ht I.hm,kiJ W hh,_,rfl,?_⟩
  cases so with
  |off am=>
   refine iteF ⟨_,rfl,_,rfl,wy,d.c_Way,dxw,fsw,_,rfl,hw,W.c_Way.cl,W.qp,w1,t,d.qd,dx,fs,_,rfl,ht,W.qd.cl,W.qS,t1,_,rfl,wy,d.c_Way,dxw,fsw,_,rfl,hw,W.c_Way.cl,W.qI,w2,_,rfl,wy,d.c_Way,dxw,fsw,_,rfl,hw,W.c_Way.cl,W.qB,w5,v,p,b,x,⟨.off am,ms⟩,T.ps,B,S,rfl,hV,SqL.of hp,hB,hS,wf,vo,fun H1 g s1 fg eg=>?_⟩
   refine⟨_,rfl,v,d.c_Off,dxv,fsv,_,rfl,s1 _ _ hv,W.c_Off.cl,W.QP,hso,_,rfl,wy,d.c_Way,dxw,fsw,_,rfl,s1 _ _ hw,W.c_Way.cl,W.qB,w5,_,rfl,x,g,S,_,rfl,hS.same s1,eg,habl,lab,fun H2 s2=>⟨_,_,rfl,rfl,?_⟩⟩
   exact kk H2 (s1.trans s2)
  |share a b=>exact iteT (kk H (Same.refl _))
  |cheap a=>exact iteT (kk H (Same.refl _))
  |bund a b=>exact iteT (kk H (Same.refl _))
  |carr=>exact iteT (kk H (Same.refl _))
noncomputable def kdY(T:TillD)(B:Bask):List Nat→Stnd→Nat→Option Nat
 |[],_,_=>none
 |n::ns,S,i=>match T.vs[n]? with
  |none=>none
  |some V=>if khV V T.ps B S=true then some i else kdY T B ns (aftM V T.ps (kds B) S) (i+1)
inductive kh3 (d:D) (vs:List V) (H:Hp) (Q:VK) (E_:XK):Prop
 |ct (wy t b x:Addr)(T:TillD)(B:Bask)(S:Stnd)(hand:List Int)(used:List Nat)(_:vs=[.ref wy])(_:WayIs d H wy t b x hand used)(_:TillIs d H t T)(_:kcq T)(_:BaskIs d.qe d.qg H b B)(_:Wf T.ps B (stnd0 B))(_:hand.length=T.vs.length)(_:(∀n∈used,n<T.vs.length))(_:used.length<64)(_:∀(H':Hp),Same H H'→Q (pV (kdY T B used (stnd0 B) 0)) H'):kh3 d vs H Q E_
theorem qW:kao ["way","so_far","place","number"] ["way"] (kae kbu):=by ac_rfl
theorem kdm(W:WB K mg d base):FO P w W 7 d.Yb d.Yc ["way"] (kh3 d):=by
 exists W.Zm.F,qW
 ·obtain⟨wy,t,b,x,T,B,S,hand,used,rfl,hW,hT,tok,hB,wf0,hl,hlt,h64,kk⟩:=h
  obtain⟨dxw,fsw,h,u,hw,w1,w2,w3,w4,w5,w6,w7,w8,w9,w10,hh',hu⟩:=id hW
  obtain⟨dx,fs,p,vl,rl,va,ra,ht,t1,t2,t3,t4,hp,hvl,hva,hrl,hra⟩:=id hT
  exists qV,kcT,W
  exists VQ,kiA,W
  exists Xd,kc4,W
  exists hr4,4,hr,0
  exists hr5,5,hr,0
  refine⟨_,kac (psl (i:=1) qW.nd (kbg (W.qF.mk' W.c_Way) qV hr5 rfl W.c_Way.m W.qF.b .nil pass0 (kaa (kak (K:=K) (pv 0) rfl) (kaa (kak (K:=K) (pv 0) rfl) (kaa (kak (K:=K) (pv 0) rfl) kaf)))))
   (kac (ka4 PassesOwn.never rfl (ke8 rfl W.B.enum (kaa (kak (K:=K) (pv 0) rfl) kaf)) (kbB (K:=K) (n:=2) rfl (kaz (pgn (i:=2) qW.nd) (kaz (pgn (i:=3) qW.nd) kbA)))
   (kac (ps_if (ka0 (pcl VQ hr4 W.Zn (kaa (pv 1) (kaa (pe_ix (r:=rIxL K) kaK (kak (K:=K) (kak (K:=K) (pv 0) rfl) rfl) (pv 3) (fun _ _=>rfl)) kaf)))) (kag (kan (pv 2))) (kas))
   (kag (psl (i:=1) qW.nd (kgp (pv 1) W.c_Way.cl W.qR.me Xd hr W.qR.b .nil pass0 (kaa (pv 3) kaf))))))
   (kag (kan kaV))),?_⟩
  refine⟨_,rfl,wy,d.c_Way,dxw,fsw,_,rfl,hw,W.c_Way.cl,W.qp,w1,_,rfl,wy,d.c_Way,dxw,fsw,_,rfl,hw,W.c_Way.cl,W.qI,w2,_,rfl,wy,d.c_Way,dxw,fsw,_,rfl,hw,W.c_Way.cl,W.Qk,w3,kiC hh' hB wf0.nl wf0.ok fun H1 y0 x0 s1 fy0 fx0 hy0N hx0=>?_⟩
  have hy0:=hy0N.at
  generalize eR:kdY T B used (stnd0 B) 0=R at kk
  refine⟨_,rfl,wy,d.c_Way,dxw,fsw,_,rfl,s1 _ _ hw,W.c_Way.cl,W.qq,w4,u,_,rfl,s1 _ _ hu,kfk (xs:=used.map iV) (fun i σ H'=>Same H H'∧∃(y x:Addr)(us:List Nat)(S:Stnd)(v2 v3:Option V),WayIs d H' y t b x hand us∧StndIs d.qc H' x S∧Wf T.ps B S∧us.length=i∧kdY T B (used.drop i) S i=R∧σ=[some (.ref wy),some (.ref y),v2,v3])
   ⟨s1,y0,x0,[],_,none,none,hy0.most (by decide),hx0,wf0,rfl,eR,rfl⟩ (fun i σ H' _ h=>h.1 _ _ hu) ?_ ?_⟩
  ·rintro i yv tp σ H2 hyv ⟨s2,y,x',us,S',v2,v3,hY,hX,wf,hul,hR,rfl⟩ ftp
   obtain⟨n,en,rfl⟩:∃n,used[i]?=some n∧yv=iV n:=kbO hyv
   have hi:=at_lt en
   obtain⟨Vc,hV⟩:=at_of (hlt n (U9 en))
   have vo:=tok.vs Vc (U9 hV)
   have ed:used.drop i=n::used.drop (i+1):=by
    obtain⟨h1,h2⟩:=Ja.mp en
    rw[NA h1,h2]
   rw[ed] at hR
   unfold kdY at hR
   rw[hV] at hR
   simp only at hR
   exists H2,tp,H3,n3,e3,ftp
   have s3:=s2.trans n3
   obtain⟨v,ev⟩:=at_of (xs:=va) (i:=n) (by rw[hva.len];exact at_lt hV)
   obtain⟨Vc',eV',hVv⟩:=hva.at ev
   rw[hV] at eV'
   cases eV'
   obtain⟨dxy,fsy,hd,uy,hy,y1,y2,y3,y4,y5,y6,y7,y8,y9,y10,hhy,huy⟩:=id (hY.same n3)
   refine⟨tp,_,rfl,SqT.of e3,rfl,_,_,rfl,_,_,rfl,rfl,?_⟩
   refine⟨_,rfl,_,rfl,wy,d.c_Way,dxw,fsw,_,rfl,s3 _ _ hw,W.c_Way.cl,W.qp,w1,t,d.qd,dx,fs,_,rfl,s3 _ _ ht,W.qd.cl,W.qC,t2,_,rfl,vl,_,_,_,rfl,rfl,SqL.of (s3 _ _ hvl),kaW (v:=V.ref v) (by rw[Jb,ev];rfl),y,t,b,x',v,T,B,S',hand,us,Vc,rfl,hY.same n3,hT.same s3,hB.same s3,hX.same n3,wf,hVv.same s3,vo,fun H4 s4=>?_⟩
   have s04:=s3.trans s4
   cases cs:khV Vc T.ps B S' with
   |true=>
    rw[cs,if_pos rfl] at hR
    refine⟨_,rfl,iteT ⟨_,rfl,?_⟩⟩
    have:=kk H4 s04
    rw[←hR] at this
    exact this
   |false=>
    rw[cs,if_neg U8] at hR
    refine⟨_,rfl,iteF ?_⟩
    refine⟨_,rfl,y,dxy,fsy,rfl,s4 _ _ hy,y7,_,rfl,y,t,b,x',T,B,S',hand,us,n,Vc,rfl,(hY.same n3).same s4,hT.same s04,hB.same s04,(hX.same n3).same s4,wf,vo,hV,by omega,fun H5 y' x'' s5 fy' hY1 hx1=>?_⟩
    exact⟨s04.trans s5,y',x'',us++[n],_,_,_,hY1.at,hx1.is,wf.after vo,by rw[Jh,hul];rfl,hR,rfl⟩
  ·rintro σ H2 ⟨s2,y,x',us,S',v2,v3,hY,hX,wf,hul,hR,rfl⟩
   rw[U0,NB] at hR
   have:=kk H2 s2
   rw[←hR] at this
   exact this
noncomputable def keF(T:TillD)(B:Bask):List (List Nat×Stnd)→Option (List Nat×Nat)
 |[]=>none
 |q::qs=>match kdY T B q.1 (stnd0 B) 0 with
  |some i=>some (q.1,i)
  |none=>keF T B qs
noncomputable def LkIs(H H':Hp)(v:V):Option (List Nat×Nat)→Prop
 |none=>v=.non
 |some (o,i)=>∃p l,v=.ref p∧H l=none∧H' p=some (.tup [.ref l,iV i])∧H' l=some (.lst (o.map iV))
inductive kgQ (d:D) (vs:List V) (H:Hp) (Q:VK) (E_:XK):Prop
 |ct (wl t b:Addr)(wa:List Addr)(T:TillD)(B:Bask)(hand:List Int)(qs:List (List Nat×Stnd))(_:vs=[.ref wl])(_:H wl=some (.lst (wa.map V.ref)))(_:P2 (fun wy q=>∃x,WayIs d H wy t b x hand q.1) wa qs)(_:TillIs d H t T)(_:kcq T)(_:BaskIs d.qe d.qg H b B)(_:Wf T.ps B (stnd0 B))(_:hand.length=T.vs.length)(_:(∀q∈qs,(∀n∈q.1,n<T.vs.length)∧q.1.length<64))(_:∀(H':Hp)(v:V),Same H H'→LkIs H H' v (keF T B qs)→Q v H'):kgQ d vs H Q E_
theorem Xe:kao ["ways","way","place"] ["ways"] (kae ka6):=by ac_rfl
theorem kcG(W:WB K mg d base):FO P w W 8 d.Qa d.Qb ["ways"] (kgQ d):=by
 exists W.Qh.F,Xe
 ·obtain⟨wl,t,b,wa,T,B,hand,qs,rfl,hwl,hwa,hT,tok,hB,wf0,hl,hqs,kk⟩:=h
  have lwa:=hwa.len
  exists VR,kdm,W
  refine⟨_,kac (ka4 PassesOwn.never rfl (kaF (K:=K) (pv 0)) (pgn (i:=1) Xe.nd)
   (kac (psl (i:=2) Xe.nd (pcl VR hr W.Zm (kaa (pv 1) kaf)))
   (kag (ps_if (kaq kcS (pv 2) kaV (kav _)) (kag (kan (kcI (kaa (kaQ (r:=kby K) kaE (by rfl) W.B.list kca (kaa (kak (K:=K) (pv 1) rfl) kaf)) (kaa (pv 2) kaf))))) (kas)))))
   (kag (kan kaV)),?_⟩
  generalize eR:keF T B qs=R at kk
  refine⟨_,rfl,wl,rfl,⟨_,SqL.of hwl⟩,kbi (xs:=wa.map V.ref) (fun i σ H'=>Same H H'∧∃(v1 v2:Option V),keF T B (qs.drop i)=R∧σ=[some (.ref wl),v1,v2])
   ⟨Same.refl _,none,none,eR,rfl⟩ (fun i σ H' _ h=>SqL.of (h.1 _ _ hwl)) ?_ ?_⟩
  ·rintro i y σ H1 hy ⟨s1,v1,v2,hR,rfl⟩
   obtain⟨wy,ew,rfl⟩:=kbK hy
   obtain⟨q,eq,x,hW⟩:=hwa.at ew
   obtain⟨hq1,hq2⟩:=hqs q (U9 eq)
   have ed:qs.drop i=q::qs.drop (i+1):=by
    obtain⟨h1,h2⟩:=Ja.mp eq
    rw[NA h1,h2]
   rw[ed] at hR
   unfold keF at hR
   obtain⟨dxw,fsw,h,u,hw,w1,w2,w3,w4,w5,w6,w7,w8,w9,w10,hh',hu⟩:=id hW
   refine⟨_,rfl,wy,t,b,x,T,B,stnd0 B,hand,q.1,rfl,hW.same s1,hT.same s1,tok,hB.same s1,wf0,hl,hq1,hq2,fun H2 s2=>?_⟩
   have s02:=s1.trans s2
   cases cs:kdY T B q.1 (stnd0 B) 0 with
   |none=>
    rw[cs] at hR
    refine⟨_,rfl,rfl,_,rfl,?_⟩
    rw[show(!decide (pV (none:Option Nat)=V.non))=false by simp[pV]]
    exact iteF ⟨s02,_,_,hR,rfl⟩
   |some k=>
    rw[cs] at hR
    refine⟨_,rfl,rfl,_,rfl,?_⟩
    rw[show(!decide (pV (some k)=V.non))=true by simp[pV]]
    refine iteT ⟨_,rfl,wy,d.c_Way,dxw,fsw,_,rfl,s02 _ _ hw,W.c_Way.cl,W.qq,w4,u,_,rfl, .inl (SqL.of (s02 _ _ hu)),fun l fl=>?_⟩
    exists H2,l,H3,n3,e3,fl
    refine⟨_,rfl,(by show 2≤sizeLine;decide),fun p fp=>?_⟩
    exists H3,p,H4,n4,e4,fp
    refine kk H4 (.ref p) ((s02.trans n3).trans n4) ?_
    rw[←hR]
    exact⟨p,l,rfl,s02.free fl,e4,n4 _ _ e3⟩
  ·rintro σ H1 ⟨s1,v1,v2,hR,rfl⟩
   rw[U0,lwa,NB] at hR
   refine kk H1 .non s1 ?_
   rw[←hR]
   rfl
noncomputable def withW(n:Nat):List (List Nat×Stnd)→Option (List Nat)
 |[]=>none
 |q::qs=>if q.1.contains n=true then some q.1 else withW n qs
noncomputable def LkW(H H':Hp)(v:V):Option (List Nat)→Prop
 |none=>v=.non
 |some o=>∃p l,v=.ref p∧H l=none∧H' p=some (.tup [.ref l])∧H' l=some (.lst (o.map iV))
inductive spOW (d:D) (vs:List V) (H:Hp) (Q:VK) (E_:XK):Prop
 |ct (wl t b:Addr)(wa:List Addr)(hand:List Int)(qs:List (List Nat×Stnd))(n:Nat)(_:vs=[.ref wl,iV n])(_:H wl=some (.lst (wa.map V.ref)))(_:P2 (fun wy q=>∃x,WayIs d H wy t b x hand q.1) wa qs)(_:∀(H':Hp)(v:V),Same H H'→LkW H H' v (withW n qs)→Q v H'):spOW d vs H Q E_
theorem ZU:kao ["ways","voucher","way"] ["ways","voucher"] (kae kcr):=by ac_rfl
theorem kfa(W:WB K mg d base):FO P w W 1 d.X9 d.Ya ["ways","voucher"] (spOW d):=by
 exists W.Zl.F,ZU
 ·obtain⟨wl,t,b,wa,hand,qs,n,rfl,hwl,hwa,kk⟩:=h
  have lwa:=hwa.len
  refine⟨_,kac (ka4 PassesOwn.never rfl (kaF (K:=K) (pv 0)) (pgn (i:=2) ZU.nd)
   (kag (ps_if (kaq kb8 (pv 1) (kak (K:=K) (pv 2) rfl) (by with_unfolding_all rfl)) (kag (kan (kcI (kaa (kaQ (r:=kby K) kaE (by rfl) W.B.list kca (kaa (kak (K:=K) (pv 2) rfl) kaf)) kaf)))) (kas))))
   (kag (kan kaV)),?_⟩
  generalize eR:withW n qs=R at kk
  refine⟨_,rfl,wl,rfl,⟨_,SqL.of hwl⟩,kbi (xs:=wa.map V.ref) (fun i σ H'=>H'=H∧∃(v2:Option V),withW n (qs.drop i)=R∧σ=[some (.ref wl),some (iV n),v2])
   ⟨rfl,none,eR,rfl⟩ (fun i σ H' _ h=>by rw[h.1];exact SqL.of hwl) ?_ ?_⟩
  ·rintro i y σ H1 hy ⟨rfl,v2,hR,rfl⟩
   obtain⟨wy,ew,rfl⟩:=kbK hy
   obtain⟨q,eq,x,hW⟩:=hwa.at ew
   have ed:qs.drop i=q::qs.drop (i+1):=by
    obtain⟨h1,h2⟩:=Ja.mp eq
    rw[NA h1,h2]
   rw[ed] at hR
   unfold withW at hR
   obtain⟨dxw,fsw,h,u,hw,w1,w2,w3,w4,w5,w6,w7,w8,w9,w10,hh',hu⟩:=id hW
   refine⟨_,rfl,_,rfl,wy,d.c_Way,dxw,fsw,_,rfl,hw,W.c_Way.cl,W.qq,w4,u,_,rfl, .inl (SqL.of hu),rfl,kci _,_,rfl,?_⟩
   rw[if_neg U8,kch]
   cases hc:q.1.contains n with
   |true=>
    rw[hc,if_pos rfl] at hR
    refine iteT ⟨_,rfl,wy,d.c_Way,dxw,fsw,_,rfl,hw,W.c_Way.cl,W.qq,w4,u,_,rfl, .inl (SqL.of hu),fun l fl=>?_⟩
    exists H1,l,H3,n3,e3,fl
    refine⟨(by show 1≤sizeLine;decide),fun p fp=>?_⟩
    exists H3,p,H4,n4,e4,fp
    refine kk H4 (.ref p) (n3.trans n4) ?_
    rw[←hR]
    exact⟨p,l,rfl,fl,e4,n4 _ _ e3⟩
   |false=>
    rw[hc,if_neg U8] at hR
    exact iteF ⟨rfl,_,hR,rfl⟩
  ·rintro σ H1 ⟨rfl,v2,hR,rfl⟩
   rw[U0,lwa,NB] at hR
   refine kk H1 .non (Same.refl _) ?_
   rw[←hR]
   rfl
noncomputable def unlW(qs:List (List Nat×Stnd)):List (List Nat×Stnd)→Option (List Nat×List Nat)
 |[]=>none
 |q::rs=>match qs.find? (fun r=>r.1.isPerm q.1) with
  |none=>unlW qs rs
  |some r=>if r.2.pr.sum+r.2.cg=q.2.pr.sum+q.2.cg then unlW qs rs else some (r.1,q.1)
noncomputable def KeyOf(u:List Nat)(k:List Key):Prop:=∃ms:List Int,k=ms.map Sum.inl∧ms.Perm (u.map fun(n:Nat)=>(n:Int))∧ms.Pairwise (·≤·)
theorem kjs:∀{xs ys:List Int},xs.Perm ys→xs.Pairwise (·≤·)→ys.Pairwise (·≤·)→xs=ys:=fun h p q=>NM.eq_of_pairwise (fun a b _ _ h1 h2=>Int.le_antisymm h1 h2) p q h
theorem kjK{u v:List Nat}(h:(u.map fun(n:Nat)=>(n:Int)).Perm (v.map fun(n:Nat)=>(n:Int))):u.Perm v:=by
 have:=h.map Int.toNat
 rw[Jm,Jm] at this
 simpa[Function.comp_def] using this
theorem KeyOf.perm{u v:List Nat}{k:List Key}:KeyOf u k→KeyOf v k→u.Perm v:=fun⟨m1,e1,p1,_⟩ ⟨m2,e2,p2,_⟩=>by
 have e:m1=m2:=(List.map_inj_right (fun _ _ h=>by injection h)).mp (e1.symm.trans e2)
 subst e
 exact kjK (p1.symm.trans p2)
theorem KeyOf.of{u v:List Nat}{k:List Key}(h:u.Perm v):KeyOf u k→KeyOf v k:=fun⟨m,e,p,s⟩=>⟨m,e,p.trans (h.map _),s⟩
theorem ki1{α:Type}{p: α→Bool}:∀{l:List α}{j:Nat}{q: α},l[j]?=some q→p q=true→(∀j' q',j'<j→l[j']?=some q'→p q'=false)→l.find? p=some q
 |[],j,q,h,_,_=>by simp at h
 |a::l,0,q,h,hp,_=>by
  have e:a=q:=by simpa using h
  rw[JN,e,hp]
 |a::l,j+1,q,h,hp,hn=>by
  rw[JN,hn 0 a (by omega) rfl]
  exact ki1 (l:=l) (j:=j) (by simpa using h) hp fun j' q' hj e=>hn (j'+1) q' (by omega) (by simpa using e)
noncomputable def Fst(wa:List Addr)(qs:List (List Nat×Stnd))(i:Nat)(kvs:List (List Key×V)):Prop:=∀k:List Key,
 (valV kvs k=none∧∀j q,j<i→qs[j]?=some q→¬KeyOf q.1 k)∨
 ∃(j:Nat)(q:List Nat×Stnd)(w:Addr),j<i∧qs[j]?=some q∧wa[j]?=some w∧KeyOf q.1 k∧valV kvs k=some (.ref w)∧∀j' q',j'<j→qs[j']?=some q'→¬KeyOf q'.1 k
theorem Fst.find{qs:List (List Nat×Stnd)}{j:Nat}{q r:List Nat×Stnd}{k:List Key}(hk:KeyOf q.1 k)(e:qs[j]?=some r)(hr:KeyOf r.1 k)(hn:∀j' q',j'<j→qs[j']?=some q'→¬KeyOf q'.1 k):qs.find? (fun r=>r.1.isPerm q.1)=some r:=
 ki1 e (List.isPerm_iff.mpr (hr.perm hk)) fun j' q' hj e'=>by
  cases c:q'.1.isPerm q.1 with
  |false=>rfl
  |true=>exact(hn j' q' hj e' (hk.of (List.isPerm_iff.mp c).symm)).elim
theorem Fst.old{wa:List Addr}{qs:List (List Nat×Stnd)}{i:Nat}{kvs:List (List Key×V)}{q:List Nat×Stnd}{k0:List Key}{v:V}(h:Fst wa qs i kvs)(eq:qs[i]?=some q)(hk:KeyOf q.1 k0)(hv:valV kvs k0=some v):
  ∃(j:Nat)(r:List Nat×Stnd)(w:Addr),wa[j]?=some w∧qs[j]?=some r∧v=.ref w∧qs.find? (fun r=>r.1.isPerm q.1)=some r∧Fst wa qs (i+1) kvs:=by
 rcases h k0 with⟨hn,_⟩|⟨j,r,w,hj,e1,e2,hr,e3,hn⟩
 ·rw[hn] at hv;cases hv
 ·rw[hv] at e3
  cases e3
  refine⟨j,r,w,e2,e1,rfl,Fst.find hk e1 hr hn,fun k=>?_⟩
  rcases h k with⟨g1,g2⟩|⟨j2,r2,w2,hj2,g⟩
  ·refine .inl ⟨g1,fun j3 q3 hj3 e=>?_⟩
   rcases M3.mp hj3 with c|c
   ·exact g2 j3 q3 c e
   ·subst c
    rw[eq] at e
    cases e
    intro z
    exact g2 j r hj e1 (KeyOf.of (hk.perm hr) z)
  ·exact .inr ⟨j2,r2,w2,by omega,g⟩
theorem Fst.new{wa:List Addr}{qs:List (List Nat×Stnd)}{i:Nat}{kvs:List (List Key×V)}{q:List Nat×Stnd}{w:Addr}{k0:List Key}(h:Fst wa qs i kvs)(eq:qs[i]?=some q)(ew:wa[i]?=some w)(hk:KeyOf q.1 k0)(hv:valV kvs k0=none):
  qs.find? (fun r=>r.1.isPerm q.1)=some q∧Fst wa qs (i+1) (putK kvs k0 (.ref w)):=by
 rcases h k0 with⟨_,hn⟩|⟨j,r,w,hj,e1,e2,hr,e3,hn⟩
 ·refine⟨Fst.find hk eq hk hn,fun k=>?_⟩
  rw[kjn]
  by_cases c:k=k0
  ·subst c
   rw[if_pos rfl]
   exact .inr ⟨i,q,w,by omega,eq,ew,hk,rfl,hn⟩
  ·rw[if_neg c]
   rcases h k with⟨g1,g2⟩|⟨j2,r2,w2,hj2,g⟩
   ·refine .inl ⟨g1,fun j3 q3 hj3 e=>?_⟩
    rcases M3.mp hj3 with c3|c3
    ·exact g2 j3 q3 c3 e
    ·subst c3
     rw[eq] at e
     cases e
     rintro⟨m1,rfl,p1,s1⟩
     obtain⟨m2,rfl,p2,s2⟩:=hk
     exact c (by rw[kjs (p1.trans p2.symm) s1 s2])
   ·exact .inr ⟨j2,r2,w2,by omega,g⟩
 ·rw[hv] at e3;cases e3
noncomputable def LkU(H H':Hp)(v:V):Option (List Nat×List Nat)→Prop
 |none=>v=.non
 |some (o,o2)=>∃p l l2,v=.ref p∧H l=none∧H l2=none∧l2≠l∧H' p=some (.tup [.ref l, .ref l2])∧H' l=some (.lst (o.map iV))∧H' l2=some (.lst (o2.map iV))
inductive spUnl (d:D) (vs:List V) (H:Hp) (Q:VK) (E_:XK):Prop
 |ct (wl t b:Addr)(wa:List Addr)(hand:List Int)(qs:List (List Nat×Stnd))(_:vs=[.ref wl])(_:H wl=some (.lst (wa.map V.ref)))(_:P2 (fun wy q=>∃x,WayIs d H wy t b x hand q.1∧StndIs d.qc H x q.2) wa qs)(_:(∀q∈qs,q.1.length<64))(_:qs.length≤1000)(_:∀(H':Hp)(v:V),Same H H'→LkU H H' v (unlW qs qs)→Q v H'):spUnl d vs H Q E_
theorem Qr:kao ["ways","firsts","way","first"] ["ways"] (kae kbF):=by ac_rfl
theorem kdK(W:WB K mg d base):FO P w W 2 d.qZ d.q9 ["ways"] (spUnl d):=by
 exists W.Qg.F,Qr
 ·obtain⟨wl,t,b,wa,hand,qs,rfl,hwl,hwa,hqs,lqs,kk⟩:=h
  have lwa:=hwa.len
  exists ZV,kdq,W
  refine⟨_,kac (psl (i:=1) Qr.nd kjA)
   (kac (ka4 PassesOwn.never rfl (kaF (K:=K) (pv 0)) (pgn (i:=2) Qr.nd)
   (kac (psl (i:=3) Qr.nd (pe_bm Mv N5 M1 (kla (hu_of hr)) (pv 1) (kaa (kaQ (r:=kkk K) kjd (by rfl) W.B.tuple kjh (kaa (kaw (r:=kkl K) kf0 (by rfl) W.B.sorted kho (kaa (kak (K:=K) (pv 2) rfl) kaf)) kaf)) (kaa (pv 2) kaf))))
   (kag (ps_if (kaq op_ne (kdT (kak (K:=K) (pv 3) rfl) W.qc.cl W.qQ.me ZV hr W.qQ.b .nil pass0) (kdT (kak (K:=K) (pv 2) rfl) W.qc.cl W.qQ.me ZV hr W.qQ.b .nil pass0) (kav _)) (kag (kan (kcI (kaa (kaQ (r:=kby K) kaE (by rfl) W.B.list kca (kaa (kak (K:=K) (pv 3) rfl) kaf)) (kaa (kaQ (r:=kby K) kaE (by rfl) W.B.list kca (kaa (kak (K:=K) (pv 2) rfl) kaf)) kaf))))) (kas)))))
   (kag (kan kaV))),?_⟩
  generalize eR:unlW qs qs=R at kk
  refine fun f ff=>?_
  exists H,f,H1,n1,e1,ff
  refine⟨_,rfl,wl,rfl,⟨_,SqL.of (n1 _ _ hwl)⟩,kbi (xs:=wa.map V.ref) (fun i σ H'=>Same H H'∧∃(kvs:List (List Key×V))(v2 v3:Option V),H' f=some (.dT kvs)∧kvs.length≤i∧Fst wa qs i kvs∧unlW qs (qs.drop i)=R∧σ=[some (.ref wl),some (.ref f),v2,v3])
   ⟨n1,[],none,none,e1,U2 _,fun k=>.inl ⟨rfl,fun j q hj=>by omega⟩,eR,rfl⟩ (fun i σ H' _ h=>SqL.of (h.1 _ _ hwl)) ?_ ?_⟩
  ·rintro i y σ H2 hy ⟨s2,kvs,v2,v3,ef,lk,hF,hR,rfl⟩
   obtain⟨wy,ew,rfl⟩:=kbK hy
   obtain⟨q,eq,x,hW,hX⟩:=hwa.at ew
   have hi:=at_lt eq
   have hq1:=hqs q (U9 eq)
   have ed:qs.drop i=q::qs.drop (i+1):=by
    obtain⟨h1,h2⟩:=Ja.mp eq
    rw[NA h1,h2]
   rw[ed] at hR
   unfold unlW at hR
   obtain⟨dxw,fsw,h,u,hw,w1,w2,w3,w4,w5,w6,w7,w8,w9,w10,hh',hu⟩:=id hW
   have hu2:=s2 _ _ hu
   rw[show q.1.map iV=(q.1.map fun(n:Nat)=>(n:Int)).map V.int by rw[Jm];rfl] at hu2
   refine sN fun A1 hA1=>?_
   have go:∀(H5:Hp)(wf:Addr)(r:List Nat×Stnd)(kv2:List (List Key×V))(j:Nat),Same H H5→H5 f=some (.dT kv2)→kv2.length≤i+1→Fst wa qs (i+1) kv2→wa[j]?=some wf→qs[j]?=some r→qs.find? (fun r=>r.1.isPerm q.1)=some r→A1 [some (.ref wl),some (.ref f),some (.ref wy),some (.ref wf)] H5:=by
    intro H5 wf r kv2 j s5 ef5 lk2 hF2 ewf er hfd
    rw[hfd] at hR
    simp only at hR
    obtain⟨r',er',xr,hWr,hXr⟩:=hwa.at ewf
    rw[er] at er'
    cases er'
    obtain⟨dxr,fsr,hr9,ur,hwr,r1,r2,r3,r4,r5,r6,r7,r8,r9,r10,hhr,hur⟩:=id hWr
    obtain⟨ow,pp,mm,⟨dxs,fss,hxs,l1,l2,l3,l4,l5⟩,how,hpp,hmm⟩:=id hX
    obtain⟨ow2,pp2,mm2,⟨dxs2,fss2,hxs2,k1,k2,k3,k4,k5⟩,how2,hpp2,hmm2⟩:=id hXr
    refine hA1 _ _ ?_
    refine⟨_,rfl,wf,d.c_Way,dxr,fsr,_,rfl,s5 _ _ hwr,W.c_Way.cl,W.qB,r5,xr,dxs2,fss2,rfl,s5 _ _ hxs2,k5,xr,ow2,pp2,mm2,r.2.cg,r.2.pr,rfl,⟨dxs2,fss2,s5 _ _ hxs2,k1,k2,k3,k4,k5⟩,s5 _ _ hpp2,?_⟩
    refine⟨_,rfl,wy,d.c_Way,dxw,fsw,_,rfl,s5 _ _ hw,W.c_Way.cl,W.qB,w5,x,dxs,fss,rfl,s5 _ _ hxs,l5,x,ow,pp,mm,q.2.cg,q.2.pr,rfl,⟨dxs,fss,s5 _ _ hxs,l1,l2,l3,l4,l5⟩,s5 _ _ hpp,rfl,_,rfl,?_⟩
    by_cases c:r.2.pr.sum+r.2.cg=q.2.pr.sum+q.2.cg
    ·rw[if_pos c] at hR
     rw[show(!decide (V.int (r.2.pr.sum+r.2.cg)=V.int (q.2.pr.sum+q.2.cg)))=false by rw[c];simp]
     exact iteF ⟨s5,kv2,_,_,ef5,lk2,hF2,hR,rfl⟩
    ·rw[if_neg c] at hR
     rw[show(!decide (V.int (r.2.pr.sum+r.2.cg)=V.int (q.2.pr.sum+q.2.cg)))=true by simp[c]]
     refine iteT ⟨_,rfl,wf,d.c_Way,dxr,fsr,_,rfl,s5 _ _ hwr,W.c_Way.cl,W.qq,r4,ur,_,rfl, .inl (SqL.of (s5 _ _ hur)),fun l6 fl6=>?_⟩
     exists H5,l6,H6,n6,e6,fl6
     refine⟨_,rfl,wy,d.c_Way,dxw,fsw,_,rfl,(s5.trans n6) _ _ hw,W.c_Way.cl,W.qq,w4,u,_,rfl, .inl (SqL.of ((s5.trans n6) _ _ hu)),fun l7 fl7=>?_⟩
     exists H6,l7,H7,n7,e7,fl7
     refine⟨(by show 2≤sizeLine;decide),fun p8 fp8=>?_⟩
     exists H7,p8,H8,n8,e8,fp8
     have s6:=s5.trans n6
     refine kk H8 (.ref p8) ((s6.trans n7).trans n8) ?_
     rw[←hR]
     exact⟨p8,l6,l7,rfl,s5.free fl6,s6.free fl7,(kah e6 fl7).symm,e8,(n7.trans n8) _ _ e6,n8 _ _ e7⟩
   clear hA1
   refine⟨_,rfl, .inr (.inr (.inl ⟨rfl, .inr ⟨_,ef⟩⟩)),_,rfl,wy,d.c_Way,dxw,fsw,_,rfl,s2 _ _ hw,W.c_Way.cl,W.qq,w4,u,_,rfl,SqL.of hu2,(by rw[U0];exact hq1),fun l3 ms fl3 hpm hso=>?_⟩
   exists H2,l3,H3,n3,e3,fl3
   refine⟨l3,_,rfl,SqL.of e3,fun l4 fl4=>?_⟩
   exists H3,l4,H4,n4,e4,fl4
   have hk:KeyOf q.1 (ms.map Sum.inl):=⟨ms,rfl,hpm,hso⟩
   have s34:=n3.trans n4
   have s4:=s2.trans s34
   refine⟨_,rfl,f,l4,kvs,ms.map Sum.inl, .ref wy,rfl,rfl,s34 _ _ ef,(by rw[e4,Jm];rfl),kap (by omega),fun v hv=>?_,fun hn=>?_⟩
   ·obtain⟨j,r,w',g1,g2,rfl,g3,g4⟩:=hF.old eq hk hv
    exact go H4 w' r kvs j s4 (s34 _ _ ef) (by omega) g4 g1 g2 g3
   ·obtain⟨g1,g2⟩:=hF.new eq ew hk hn
    exact go _ wy q _ i (kat ff s4 (nx (s34 _ _ ef))) kad (U4 (kek _ _ _) (by omega)) g2 ew eq g1
  ·rintro σ H2 ⟨s2,kvs,v2,v3,ef,lk,hF,hR,rfl⟩
   rw[U0,lwa,NB] at hR
   refine kk H2 .non s2 ?_
   rw[←hR]
   rfl
theorem wayF{d:D}{m:Nat}{H:Hp}{w t b x:Addr}{hand:List Int}{used:List Nat}(hm:m≤7):WayAt d m H w t b x hand used→WayN d 7 (fun _=>none) H w t b x hand used:=fun⟨dx,fs,h,u,h1,h2,h3,h4,h5,h6,h7,h8,h9,h10,h11,h12,h13⟩=>
 ⟨rfl,dx,fs,h,u,rfl,rfl,h1,h2,h3,h4,h5,h6,h7,h8,h9,h10,U4 h11 hm,h12,h13⟩
theorem stndF{C x:Addr}{H:Hp}{S:Stnd}:StndIs C H x S→StndN C (fun _=>none) H x S:=fun⟨o,p,mk,h,h1,h2,h3⟩=>⟨rfl,o,p,mk,h,rfl,rfl,rfl,h1,h2,h3⟩
theorem sameF{H:Hp}:Same (fun _=>none) H:=fun b u e=>by cases e
noncomputable def ones(T:TillD):List Int:=T.vs.map fun _=>(1:Int)
inductive Itm where
 |l (o:List Nat)
 |n (k:Nat)
noncomputable def ItmAt(H H':Hp)(v:V):Itm→Prop
 | .l o=>∃a,v=.ref a∧H a=none∧H' a=some (.lst (o.map iV))
 | .n k=>v=iV k
theorem ItmAt.same{H0 H H':Hp}{v:V}(s:Same H H'):∀{i:Itm},ItmAt H0 H v i→ItmAt H0 H' v i
 | .l _,⟨a,e,f,h⟩=>⟨a,e,f,s _ _ h⟩
 | .n _,h=>h
theorem ItmAt.free{H0 H H':Hp}{v:V}(s:Same H0 H):∀{i:Itm},ItmAt H H' v i→ItmAt H0 H' v i
 | .l _,⟨a,e,f,h⟩=>⟨a,e,s.free f,h⟩
 | .n _,h=>h
noncomputable def LkG(H H':Hp)(v:V):Option (List Itm)→Prop
 |none=>v=.non
 |some is=>∃p vs,v=.ref p∧H' p=some (.tup vs)∧P2 (fun v i=>ItmAt H H' v i) vs is∧vs.length≤2∧vs≠[]
noncomputable def kbD(R:Bask→List (List Nat×Stnd)→Option (List Itm))(T:TillD):List Bask→Nat→Option (Nat×List Itm)
 |[],_=>none
 |B::bs,i=>match R B (waysM T B (ones T) 10 [] (stnd0 B)) with
  |some is=>some (i,is)
  |none=>kbD R T bs (i+1)
noncomputable def FdG(H H':Hp)(v:V):Option (Nat×List Itm)→Prop
 |none=>v=.non
 |some (i,is)=>∃p vs,v=.ref p∧H' p=some (.tup (iV i::vs))∧P2 (fun v i=>ItmAt H H' v i) vs is∧vs.length≤2∧vs≠[]
inductive spLkG (d:D) (T:TillD) (Xt:Hp→Prop) (R:Bask→List (List Nat×Stnd)→Option (List Itm)) (vs:List V) (H:Hp) (Q:VK) (E_:XK):Prop
 |ct (wl t b:Addr)(wa:List Addr)(B:Bask)(qs:List (List Nat×Stnd))(_:vs=[.ref wl])(_:Xt H)(_:H wl=some (.lst (wa.map V.ref)))(_:P2 (fun wy q=>∃x,WayIs d H wy t b x (ones T) q.1∧StndIs d.qc H x q.2) wa qs)(_:TillIs d H t T)(_:kcq T)(_:BaskIs d.qe d.qg H b B)(_:Wf T.ps B (stnd0 B))(_:(∀q∈qs,(∀n∈q.1,n<T.vs.length)∧q.1.length<64))(_:qs.length≤1000)(_:∀(H':Hp)(v:V),Same H H'→LkG H H' v (R B qs)→Q v H'):spLkG d T Xt R vs H Q E_
theorem kg6:∀(l:List Vch),(l.map fun _=>(1:Int)).sum=l.length
 |[]=>rfl
 |_::l=>by
  rw[Ji,NN,kg6 l,Jw]
  omega
theorem kiz{T:TillD}{B:Bask}(h:T.vs.length≤5):Deep T B (ones T) 10 [] (stnd0 B)∧(waysM T B (ones T) 10 [] (stnd0 B)).length≤1000:=by
 refine kiU (by unfold ones;rw[U0]) (fun z hz=>?_) (by unfold ones;rw[kg6];omega)
 unfold ones at hz
 obtain⟨_,_,rfl⟩:=Jp.mp hz
 decide
theorem khK:∀(k:Nat)(used:List Nat)(S:Stnd),(∀n∈used,n<T.vs.length)→∀q∈waysM T B hand k used S,(∀n∈q.1,n<T.vs.length)∧q.1.length≤used.length+k
 |0,used,S,_,q,h=>by simp[waysM] at h
 | k +1,used,S,hu,q,h=>by
  unfold waysM at h
  rcases JE.mp h with h|h
  ·split at h
   ·rw[JU.mp h]
    exact⟨hu,by show used.length≤_;omega⟩
   ·simp at h
  ·obtain⟨n,hn,h2⟩:=List.mem_flatMap.mp h
   cases eV:T.vs[n]? with
   |none=>rw[eV] at h2;simp at h2
   | some V=>
    rw[eV] at h2
    obtain⟨g1,g2⟩:=khK k (used++[n]) _ (fun m hm=>by
     rcases JE.mp hm with h'|h'
     ·exact hu m h'
     ·have e:m=n:=by simpa using h'
      rw[e]
      exact at_lt eV) q h2
    rw[Jh,Nx] at g2
    exact⟨g1,by omega⟩
inductive kh6 (P:Program) (w:World) (K:U1) (mg:Str→Option Value) (base:Heap) (d:D) (k:Nat) (vs:List V) (H:Hp) (Q:VK) (E_:XK):Prop
 |ct (t bl f:Addr)(fo:Obj)(fd:FuncData)(ba:List Addr)(T:TillD)(bs:List Bask)(Xt:Hp→Prop)(R:Bask→List (List Nat×Stnd)→Option (List Itm))(_:vs=[.ref t, .ref bl, .ref f])(_:FnOk P w K mg base (CX0) k f fd ["ways"] (spLkG d T Xt R))(_:fo.data=.func fd)(_:Binds K fd ["ways"] [])(_:Xt H)(_:(∀H1 H2,Same H1 H2→Xt H1→Xt H2))(_:(∀H1,Xt H1→Jd K (.ref f)=true∨H1 f=some (Fz f fo)))(_:TillIs d H t T)(_:kcq T)(_:T.vs.length≤5)(_:H bl=some (.lst (ba.map V.ref)))(_:P2 (fun a B=>BaskIs d.qe d.qg H a B∧Wf T.ps B (stnd0 B)) ba bs)(_:∀(H':Hp)(v:V),Same H H'→FdG H H' v (kbD R T bs 0)→Q v H'):kh6 P w K mg base d k vs H Q E_
theorem Qs:kao ["till","baskets","look","number","basket","found"] ["till","baskets","look"] (kae kce):=by ac_rfl
theorem kb5(W:WB K mg d base):FO P w W 20 d.X7 d.X8 ["till","baskets","look"] (kh6 P w K mg base d 19):=by
 exists W.Qf.F,Qs
 ·obtain⟨t,bl,f,fo,fd,ba,T,bs,Xt,R9,rfl,Gl,hfo,bl9,hXt,hXs,hXk,hT,tok,h5,hbl,hba,kk⟩:=h
  obtain⟨dx,fs,p,vl,rl,va,ra,ht,t1,t2,t3,t4,hp,hvl,hva,hrl,hra⟩:=id hT
  have lba:=hba.len
  have lva:=hva.len
  exists VS,kfK,W
  exists qV,kcT,W
  exists hr5,5,hr,0
  exists hr16,16,hr,0
  refine⟨_,kac (ka4 PassesOwn.never rfl (ke8 rfl W.B.enum (kaa (pv 1) kaf)) (kbB (K:=K) (n:=2) rfl (kaz (pgn (i:=3) Qs.nd) (kaz (pgn (i:=4) Qs.nd) kbA)))
   (kac (psl (i:=5) Qs.nd (kjC (pv 2) Gl hr hfo bl9 (kaa (pcl VS hr16 W.qM (kaa (kbg (W.qF.mk' W.c_Way) qV hr5 rfl W.c_Way.m W.qF.b .nil pass0 (kaa (pv 0) (kaa (pv 4) (kaa (kb4 (N:=["voucher"]) (CompScope.plain rfl (by decide +kernel) (by decide +kernel) (by decide +kernel) (nd1 _)) rfl (kaF (K:=K) (kak (K:=K) (pv 0) rfl)) (fun _ _ _ _=>pgn (i:=0) (nd1 _)) (fun _ _ _ _=>kai)) kaf)))) kaf)) kaf)))
   (kag (ps_if (kaq kcS (pv 5) kaV (kav _)) (kag (kan (pe_op kix (kcI (kaa (pv 3) kaf)) (pv 5)))) (kas)))))
   (kag (kan kaV)),?_⟩
  generalize eR:kbD R9 T bs 0=R at kk
  refine⟨_,rfl,bl,_,rfl,hbl,kfk (xs:=ba.map V.ref) (fun i σ H'=>Same H H'∧∃(v3 v4 v5:Option V),kbD R9 T (bs.drop i) i=R∧σ=[some (.ref t),some (.ref bl),some (.ref f),v3,v4,v5])
   ⟨Same.refl _,none,none,none,eR,rfl⟩ (fun i σ H' _ h=>h.1 _ _ hbl) ?_ ?_⟩
  ·rintro i yv tp σ H1 hyv ⟨s1,v3,v4,v5,hR,rfl⟩ ftp
   obtain⟨b,eb,rfl⟩:=kbK hyv
   obtain⟨B,eB,hB,wf0⟩:=hba.at eb
   have ed:bs.drop i=B::bs.drop (i+1):=by
    obtain⟨h1,h2⟩:=Ja.mp eB
    rw[NA h1,h2]
   rw[ed] at hR
   unfold kbD at hR
   exists H1,tp,H2,n2,e2,ftp
   have s2:=s1.trans n2
   refine⟨tp,_,rfl,SqT.of e2,rfl,_,_,rfl,_,_,rfl,rfl,?_⟩
   have lon:(ones T).length=T.vs.length:=by unfold ones;rw[U0]
   have nv:=tok.nv
   refine⟨rfl,_,rfl,_,rfl,_,rfl,t,d.qd,dx,fs,_,rfl,s2 _ _ ht,W.qd.cl,W.qC,t2,vl,rfl,⟨_,SqL.of (s2 _ _ hvl)⟩,ka5 (xs:=va.map V.ref) (fun j σ ys H'=>H'=H2∧ys=((ones T).take j).map V.int∧∃v,σ=[v]) ⟨rfl,rfl,none,rfl⟩ (by rw[U0,lva];exact Jf (kap (by omega))) ?_ ?_ ?_⟩
   ·rintro j σ ys H' hj ⟨rfl,rfl,_⟩
    rw[U0] at hj
    exact⟨SqL.of (s2 _ _ hvl),by rw[U0,Jg];omega⟩
   ·rintro j y σ ys H' hy ⟨rfl,rfl,v,rfl⟩
    have hj:j<T.vs.length:=by have:=at_lt hy;rw[U0,lva] at this;exact this
    have e1:(ones T)[j]?=some 1:=by
     unfold ones
     rw[Jb]
     obtain⟨V,eV⟩:=at_of hj
     rw[eV]
     rfl
    refine⟨rfl,?_,_,rfl⟩
    rw[take_snoc e1,Jc]
    rfl
   rintro σ ys H' ⟨rfl,rfl,v,rfl⟩ hh fhh
   rw[U0,lva,←lon,JB]
   exists H',hh,H3,n3,e3,fhh
   have s3:=s2.trans n3
   refine kiC e3 (hB.same s3) wf0.nl wf0.ok fun H4 y x s4 fy fx hy hx=>?_
   have s04:=s3.trans s4
   obtain⟨hdp,hlen⟩:=kiz (B:=B) h5
   refine⟨fun _=>none,y,t,b,T,B,stnd0 B,ones T,[],rfl,sameF,⟨x,wayF (by decide) hy.at,stndF hx⟩,hT.same s04,tok,hB.same s04,wf0,lon,hdp,by decide,hlen,fun H5 p5 wl s5 fp ep hwl=>?_⟩
   have s05:=s04.trans s5
   have hX5:=hXs _ _ s05 hXt
   refine⟨hXk _ hX5,p5,t,b,wl,B,waysM T B (ones T) 10 [] (stnd0 B),rfl,hX5,ep,hwl.mono (fun w q ⟨x,h1,h2⟩=>⟨x,h1.at,h2.is⟩),hT.same s05,tok,hB.same s05,wf0,fun q hq=>?_,hlen,fun H6 v6 s6 hlk=>?_⟩
   ·obtain⟨g1,g2⟩:=khK 10 [] (stnd0 B) (fun n hn=>by simp at hn) q hq
    rw[List.length_nil] at g2
    exact⟨g1,by omega⟩
   have s06:=s05.trans s6
   cases cs:R9 B (waysM T B (ones T) 10 [] (stnd0 B)) with
   |none=>
    rw[cs] at hR hlk
    have ev:v6=.non:=hlk
    subst ev
    refine⟨_,rfl,rfl,_,rfl,?_⟩
    rw[show(!decide (V.non=V.non))=false by simp]
    exact iteF ⟨s06,_,_,_,hR,rfl⟩
   |some is=>
    rw[cs] at hR hlk
    obtain⟨p7,vs7,rfl,ep7,hi7,l7,ne7⟩:=hlk
    refine⟨_,rfl,rfl,_,rfl,?_⟩
    rw[show(!decide (V.ref p7=V.non))=true by simp]
    refine iteT ⟨_,rfl,(by show 1≤sizeLine;decide),fun t8 ft8=>?_⟩
    exists H6,t8,H8,n8,e8,ft8
    refine⟨_,rfl,t8,p7,_,_,rfl,rfl,SqT.of e8,SqT.of (n8 _ _ ep7),(fun z=>by cases z),Jf (kap (by show(1+vs7.length)≤1000;omega)),(fun z=>absurd z ne7),fun _ r9 fr9=>?_⟩
    exists H8,r9,H9,n9,e9,fr9
    refine kk H9 (.ref r9) ((s06.trans n8).trans n9) ?_
    rw[←hR]
    exact⟨r9,vs7,rfl,e9,hi7.mono fun v i h=>(h.same (n8.trans n9)).free s05,l7,ne7⟩
  ·rintro σ H1 ⟨s1,v3,v4,v5,hR,rfl⟩
   rw[U0,lba,NB] at hR
   refine kk H1 .non s1 ?_
   rw[←hR]
   rfl
noncomputable def lkUse(n:Nat):Bask→List (List Nat×Stnd)→Option (List Itm):=fun _ qs=>(withW n qs).map fun o=>[.l o]
theorem LkW.g{H H':Hp}{v:V}:∀{r:Option (List Nat)},LkW H H' v r→LkG H H' v (r.map fun o=>[.l o])
 |none,h=>h
 |some _,⟨p,l,e,f,h1,h2⟩=>⟨p,[.ref l],e,h1, .cons ⟨l,rfl,f,h2⟩ .nil,by simp,by simp⟩
theorem WayAt.unt{d:D}{m:Nat}{H:Hp}{w t b x c:Addr}{co:Obj}{hand:List Int}{used:List Nat}(hc:H c=some (Fz c co)):WayAt d m H w t b x hand used→WayAt d m (unt c H) w t b x hand used:=fun⟨dx,fs,h,u,h1,h2,h3,h4,h5,h6,h7,h8,h9,h10,h11,h12,h13⟩=>
 ⟨dx,fs,h,u,(kaX (ne_of h1 hc (by intro z;cases z))).trans h1,h2,h3,h4,h5,h6,h7,h8,h9,h10,h11,(kaX (ne_of h12 hc (by intro z;cases z))).trans h12,(kaX (ne_of h13 hc (by intro z;cases z))).trans h13⟩
theorem ItmAt.go{H0 H H':Hp}{c:Addr}{co:Obj}{v:V}(s:Same H0 H)(hc:H' c=some (Fz c co)):∀{i:Itm},ItmAt H H' v i→ItmAt H0 (unt c H') v i
 | .l _,⟨a,e,f,h⟩=>⟨a,e,s.free f,(kaX (ne_of h hc (by intro z;cases z))).trans h⟩
 | .n _,h=>h
inductive kkh (d:D) (vs:List V) (H:Hp) (Q:VK) (E_:XK):Prop
 |ct (t bl:Addr)(n:Nat)(ba:List Addr)(T:TillD)(bs:List Bask)(_:vs=[.ref t,iV n, .ref bl])(_:TillIs d H t T)(_:kcq T)(_:T.vs.length≤5)(_:H bl=some (.lst (ba.map V.ref)))(_:P2 (fun a B=>BaskIs d.qe d.qg H a B∧Wf T.ps B (stnd0 B)) ba bs)(_:TbAt d.tP_first_use H)(_:∀(H':Hp)(v:V),Same H H'→FdG H H' v (kbD (lkUse n) T bs 0)→Q v H'):kkh d vs H Q E_
theorem kfC:kao ["till","voucher","baskets"] ["till","voucher","baskets"] (kae kaT):=by ac_rfl
theorem kfM(W:WB K mg d base):FO P w W 21 d.X2 d.Qz ["till","voucher","baskets"] (kkh d):=by
 refine FunD.okC W.Zi.F kfC (fun vs H Q E h=>?_) (fun A outer s H vs Q E hr h=>?_)
 ·obtain⟨t,bl,n,ba,T,bs,rfl,_⟩:=h
  rfl
 ·obtain⟨t,bl,n,ba,T,bs,rfl,hT,tok,h5,hbl,hba,htb,kk⟩:=h
  exists qX,kb5,W
  exists G_ow,kfa,W
  refine⟨_,kag (kan (kjD (y:="voucher") (i:=1) qX hr W.Qf (kaa (pv 0) (kaa (pv 2) (kaa (klN (x:="ways") (N:=["ways","voucher"]) (cap:=[some 1]) ⟨CompScope.of (N:=["ways","voucher"]) (cap:=[none,some 1]) (kae kaT).names ["till","voucher","baskets"] rfl rfl (by decide +kernel),rfl,rfl,rfl,rfl,by decide +kernel⟩ W.code_first_use W.ck_first_use W.blt) kaf))) rfl rfl rfl)),?_⟩
  refine⟨_,rfl,_,rfl,htb,fun H2 f cc pm ctv G f0 f2 ecc=>⟨_,rfl,fun c co uy hcell hc hco ry=>?_⟩⟩
  generalize lamN _=ql at *
  generalize hfo:Np "<lambda>" _ _ _ _ _ pm cc ctv=fo at *
  have s2:=G.same htb
  have n3:=kam (o:=Fz f fo) f2
  have e3:(upd H2 f (Fz f fo)) f=some (Fz f fo):=kad
  have ecc3:=n3 _ _ ecc
  generalize upd H2 f (Fz f fo)=H3 at *
  have n4:=kam (o:=Fz c co) hc
  have e4:(upd H3 c (Fz c co)) c=some (Fz c co):=kad
  have ef4:=n4 _ _ e3
  have ecc4:=n4 _ _ ecc3
  have s03:=s2.trans n3
  have h0c:=s03.free hc
  have s04:=s03.trans n4
  generalize upd H3 c (Fz c co)=H4 at *
  have G_lam:=klQ (P:=P) (w:=w) (K:=K) (mg:=mg) (base:=base) (k:=18) (f:=f) (c:=c) (cc:=cc) (fo:=fo) (co:=co) (x:="ways") (y:="voucher") (vy:=iV n) (uy:=uy) ⟨rfl,rfl,rfl,by decide +kernel,by decide +kernel,rfl,rfl⟩ (kl2 (x:="ways") (y:="voucher") ⟨rfl,rfl,rfl,by decide +kernel,by decide +kernel,rfl,rfl⟩ hcell) hfo.symm hco ry (fun A outer s H hr=>pcl G_ow (hr.mono (by decide)) W.Zl (kaa (pv 0) (kaa (pv 1) kaf)))
  have VT:=(G_lam.mono (k:=19) (by decide)).imp (sp':=spLkG d T (fun H=>H f=some (Fz f fo)∧H c=some (Fz c co)∧H cc=some (CodeO cc ql)) (lkUse n)) (fun vs H Q E ⟨wl,t,b,wa,B,qs,e,⟨h1,h2,h3⟩,h4,h5,_,_,_,_,_,_,k⟩=>by
   subst e
   refine⟨_,rfl,h1,h2,h3,_,rfl,_,rfl,wl,t,b,wa,ones T,qs,n,rfl,(kaX (ne_of h4 h2 (by intro z;cases z))).trans h4,h5.mono fun wy q ⟨x,hw,_⟩=>⟨x,hw.unt h2⟩,fun H' v s hl hn=>k _ v (kid h2 s hn) (LkW.g ?_)⟩
   cases e:withW n qs with
   |none=>
    rw[e] at hl
    exact hl
   | some o=>
    rw[e] at hl
    obtain⟨p,l,e1,fl,e2,e3⟩:=hl
    have nl:l≠c:=kah e3 hn
    refine⟨p,l,e1,by rw[kaX nl] at fl;exact fl,?_,?_⟩
    ·rw[kaj (kah e2 hn)]
     exact e2
    ·rw[kaj nl]
     exact e3)
  refine⟨t,bl,f,fo,_,ba,T,bs,_,lkUse n,rfl,VT,by rw[←hfo],Binds.all fun us h=>?_,⟨ef4,e4,ecc4⟩,fun H1 H2 s ⟨h1,h2,h3⟩=>⟨s _ _ h1,s _ _ h2,s _ _ h3⟩,fun H1 h=>.inr h.1,hT.same s04,tok,h5,s04 _ _ hbl,hba.mono fun a B h=>⟨h.1.same s04,h.2⟩,fun H' v s5 hfd hcz=>?_⟩
  ·obtain⟨u,rfl⟩:∃u,us=[u]:=by
    match us,h with
    |[u],_=>exact⟨u,rfl⟩
   rfl
  refine kk _ v (kkT h0c (s04.trans s5) hcz) ?_
  cases e:kbD (lkUse n) T bs 0 with
  |none=>
   rw[e] at hfd
   exact hfd
  |some z=>
   obtain⟨i,is⟩:=z
   rw[e] at hfd
   obtain⟨p,vs,e1,e2,hi,l2,ne⟩:=hfd
   exact⟨p,vs,e1,(kaX (ne_of e2 hcz (by intro z;cases z))).trans e2,hi.mono fun v i h=>h.go s04 hcz,l2,ne⟩
noncomputable def lkUnl:Bask→List (List Nat×Stnd)→Option (List Itm):=fun _ qs=>(unlW qs qs).map fun z=>[.l z.1, .l z.2]
theorem LkU.g{H H':Hp}{v:V}:∀{r:Option (List Nat×List Nat)},LkU H H' v r→LkG H H' v (r.map fun z=>[.l z.1, .l z.2])
 |none,h=>h
 |some (_,_),⟨p,l,l2,e,f1,f2,_,h1,h2,h3⟩=>⟨p,[.ref l, .ref l2],e,h1, .cons ⟨l,rfl,f1,h2⟩ (.cons ⟨l2,rfl,f2,h3⟩ .nil),by simp,by simp⟩
inductive kki (d:D) (vs:List V) (H:Hp) (Q:VK) (E_:XK):Prop
 |ct (t bl:Addr)(ba:List Addr)(T:TillD)(bs:List Bask)(_:vs=[.ref t, .ref bl])(_:TillIs d H t T)(_:kcq T)(_:T.vs.length≤5)(_:H bl=some (.lst (ba.map V.ref)))(_:P2 (fun a B=>BaskIs d.qe d.qg H a B∧Wf T.ps B (stnd0 B)) ba bs)(_:∀(H':Hp)(v:V),Same H H'→FdG H H' v (kbD lkUnl T bs 0)→Q v H'):kki d vs H Q E_
theorem kd0:kao ["till","baskets"] ["till","baskets"] (kae kbV):=by ac_rfl
theorem kea(W:WB K mg d base):FO P w W 21 d.X3 d.X4 ["till","baskets"] (kki d):=by
 exists W.Zj.F,kd0
 ·obtain⟨t,bl,ba,T,bs,rfl,hT,tok,h5,hbl,hba,kk⟩:=h
  have G_os:=((kdK (P:=P) (w:=w) (base:=base) W).mono (k:=19) (by decide)).imp (sp':=spLkG d T (fun _=>True) lkUnl) (fun vs H Q E ⟨wl,t,b,wa,B,qs,e,_,h4,h5,_,_,_,_,hq,lq,k⟩=>⟨wl,t,b,wa,ones T,qs,e,h4,h5,fun q h=>(hq q h).2,lq,fun H' v s hl=>k H' v s hl.g⟩)
  exists qX,kb5,W
  refine⟨_,kag (kan (pcl qX hr W.Qf (kaa (pv 0) (kaa (pv 1) (kaa (kcf (v:=.ref d.qZ) (by rfl) W.Qg.m rfl) kaf))))),?_⟩
  exact⟨_,rfl,_,rfl,t,bl,d.qZ,{cls:=.none,data:=.func d.q9},d.q9,ba,T,bs,_,lkUnl,rfl,G_os,rfl,W.Qg.b,trivial,fun _ _ _ _=>trivial,fun _ _=>.inl W.Qg.F.kp,hT,tok,h5,hbl,hba,kk⟩
noncomputable def kfh(T:TillD):Bask→List (List Nat×Stnd)→Option (List Itm):=fun B qs=>(keF T B qs).map fun z=>[.l z.1, .n z.2]
theorem LkIs.g{H H':Hp}{v:V}:∀{r:Option (List Nat×Nat)},LkIs H H' v r→LkG H H' v (r.map fun z=>[.l z.1, .n z.2])
 |none,h=>h
 |some (_,_),⟨p,l,e,f1,h1,h2⟩=>⟨p,[.ref l,_],e,h1, .cons ⟨l,rfl,f1,h2⟩ (.cons rfl .nil),by simp,by simp⟩
inductive kgT (d:D) (vs:List V) (H:Hp) (Q:VK) (E_:XK):Prop
 |ct (t bl:Addr)(ba:List Addr)(T:TillD)(bs:List Bask)(_:vs=[.ref t, .ref bl])(_:TillIs d H t T)(_:kcq T)(_:T.vs.length≤5)(_:H bl=some (.lst (ba.map V.ref)))(_:P2 (fun a B=>BaskIs d.qe d.qg H a B∧Wf T.ps B (stnd0 B)) ba bs)(_:∀(H':Hp)(v:V),Same H H'→FdG H H' v (kbD (kfh T) T bs 0)→Q v H'):kgT d vs H Q E_
theorem kex:kao ["till","baskets"] ["till","baskets"] (kae kcd):=by ac_rfl
theorem keC(W:WB K mg d base):FO P w W 21 d.X5 d.X6 ["till","baskets"] (kgT d):=by
 exists W.Zk.F,kex
 ·obtain⟨t,bl,ba,T,bs,rfl,hT,tok,h5,hbl,hba,kk⟩:=h
  have G_os:=((kcG (P:=P) (w:=w) (base:=base) W).mono (k:=19) (by decide)).imp (sp':=spLkG d T (fun _=>True) (kfh T)) (fun vs H Q E ⟨wl,t,b,wa,B,qs,e,_,h4,h5,hT,tok,hB,wf,hq,lq,k⟩=>⟨wl,t,b,wa,T,B,ones T,qs,e,h4,h5.mono fun wy q ⟨x,hw,_⟩=>⟨x,hw⟩,hT,tok,hB,wf,by unfold ones;rw[U0],hq,fun H' v s hl=>k H' v s hl.g⟩)
  exists qX,kb5,W
  refine⟨_,kag (kan (pcl qX hr W.Qf (kaa (pv 0) (kaa (pv 1) (kaa (kcf (v:=.ref d.Qa) (by rfl) W.Qh.m rfl) kaf))))),?_⟩
  exact⟨_,rfl,_,rfl,t,bl,d.Qa,{cls:=.none,data:=.func d.Qb},d.Qb,ba,T,bs,_,kfh T,rfl,G_os,rfl,W.Qh.b,trivial,fun _ _ _ _=>trivial,fun _ _=>.inl W.Qh.F.kp,hT,tok,h5,hbl,hba,kk⟩
theorem kgi:kao ["_law_cell","_law_factor","_law_prime"] ["_law_cell","_law_factor","_law_prime"] (kae kdi):=by ac_rfl
theorem kbl(W:WB K mg d base):FO P w W 1 d.Yf d.Yg ["_law_cell","_law_factor","_law_prime"] spMix:=by
 exists W.qu.F,kgi
 ·obtain⟨c,f,p,rfl,hf,hp,k⟩:=h
  refine⟨_,kag (kan (pe_op kaA (pe_op kd9 (pv 0) (pv 1)) (pv 2))),?_⟩
  exact⟨_,rfl,_,rfl,_,_,rfl,rfl, .inr hf,_,rfl,_,_,rfl,rfl,hp,k⟩
noncomputable def coinM(c:Int):Int:=if c%4=0 then c/4%10 else if c%4=1 then c/4%1000 else if c%4=2 then(if c/4%4=0 then 0 else if c/4%4=1 then 1 else if c/4%4=2 then 999999999999 else 1000000000000) else c/4*48271%1000000000001
theorem ki8(c:Int):0≤coinM c∧coinM c≤1000000000000:=by
 unfold coinM
 repeat' split
 all_goals omega
theorem dec_ii{i j:Int}:(decide (V.int i=V.int j)=true)↔i=j:=by
 rw[decide_eq_true_iff]
 exact⟨fun h=>by injection h,fun h=>by rw[h]⟩
inductive kh9 (vs:List V) (H:Hp) (Q:VK) (E_:XK):Prop
 |ct (c:Int)(_:vs=[.int c])(_:∀(H':Hp),Same H H'→Q (.int (coinM c)) H'):kh9 vs H Q E_
theorem ZW:kao ["_law_cell","_law_how"] ["_law_cell"] (kae kcQ):=by ac_rfl
theorem kdy(W:WB K mg d base):FO P w W 1 d.Yh d.Yi ["_law_cell"] kh9:=by
 exists W.QL.F,ZW
 ·obtain⟨c,rfl,kk⟩:=h
  refine⟨_,kac (psl (i:=1) ZW.nd (pe_op kaA (pv 0) kai))
   (kac (ps_if (kaq op_eq (pv 1) kai (kav _)) (kag (kan (pe_op kaA (pe_op kaC (pv 0) kai) kai))) (kas))
   (kac (ps_if (kaq op_eq (pv 1) kai (kav _)) (kag (kan (pe_op kaA (pe_op kaC (pv 0) kai) kai))) (kas))
   (kac (ps_if (kaq op_eq (pv 1) kai (kav _)) (kag (kan (pe_ix (r:=rIxL K) kaK (kaP (kaa kai (kaa kai (kaa kai (kaa kai kaf))))) (pe_op kaA (pe_op kaC (pv 0) kai) kai) (fun _ _=>rfl)))) (kas))
   (kag (kan (pe_op kaA (pe_op kd9 (pe_op kaC (pv 0) kai) kai) kai)))))),?_⟩
  have hcm:coinM c=if c%4=0 then c/4%10 else if c%4=1 then c/4%1000 else if c%4=2 then(if c/4%4=0 then 0 else if c/4%4=1 then 1 else if c/4%4=2 then 999999999999 else 1000000000000) else c/4*48271%1000000000001:=rfl
  have kk0:=kk H (Same.refl _)
  refine⟨_,rfl,_,_,rfl,rfl,(by show(0:Int)<4;decide),?_⟩
  refine⟨_,rfl,rfl,_,rfl,ite2 (fun h=>?_) (fun h=>?_)⟩
  ·have h0:=dec_ii.mp h
   rw[hcm,if_pos h0] at kk0
   exact⟨_,rfl,_,_,rfl,rfl,⟨by decide,by decide⟩,_,_,rfl,rfl,(by show(0:Int)<10;decide),kk0⟩
  have h0:¬c%4=0:=fun z=>h (dec_ii.mpr z)
  refine⟨_,rfl,rfl,_,rfl,ite2 (fun h=>?_) (fun h=>?_)⟩
  ·have h1:=dec_ii.mp h
   rw[hcm,if_neg h0,if_pos h1] at kk0
   exact⟨_,rfl,_,_,rfl,rfl,⟨by decide,by decide⟩,_,_,rfl,rfl,(by show(0:Int)<1000;decide),kk0⟩
  have h1:¬c%4=1:=fun z=>h (dec_ii.mpr z)
  refine⟨_,rfl,rfl,_,rfl,ite2 (fun h=>?_) (fun h=>?_)⟩
  ·have h2:=dec_ii.mp h
   refine⟨(by show 4≤sizeLine;decide),fun l fl=>?_⟩
   exists H,l,H1,n1,e1,fl
   have kk1:=kk H1 n1
   rw[hcm,if_neg h0,if_neg h1,if_pos h2] at kk1
   have hix:atI [V.int 0,V.int 1,V.int 999999999999,V.int 1000000000000] (c/4%4)=some (.int (if c/4%4=0 then 0 else if c/4%4=1 then 1 else if c/4%4=2 then 999999999999 else 1000000000000)):=by
    have hc:c/4%4=0∨c/4%4=1∨c/4%4=2∨c/4%4=3:=by omega
    rcases hc with e|e|e|e <;> rw[e] <;> rfl
   exact⟨_,rfl,_,_,rfl,rfl,⟨by decide,by decide⟩,_,_,rfl,rfl,(by show(0:Int)<4;decide),l,_,_,_,rfl,rfl,SqL.of e1,hix,kk1⟩
  have h2:¬c%4=2:=fun z=>h (dec_ii.mpr z)
  rw[hcm,if_neg h0,if_neg h1,if_neg h2] at kk0
  exact⟨_,rfl,_,_,rfl,rfl,⟨by decide,by decide⟩,_,_,rfl,rfl, .inr ⟨by decide,by decide⟩,_,_,rfl,rfl,(by show(0:Int)<1000000000001;decide),kk0⟩
inductive kke (vs:List V) (H:Hp) (Q:VK) (E_:XK):Prop
 |ct (c:Int)(_:vs=[.int c])(_:∀(H':Hp)(p:Addr)(ps:List (Option Nat)),Same H H'→H p=none→H' p=some (.lst (ps.map pV))→Good ps→ps.length≤4→0<ps.length→Q (.ref p) H'):kke vs H Q E_
theorem Qt:kao ["_law_cell","_law_parents_here","_law_k","_law_drawn"] ["_law_cell"] (kae kbZ):=by ac_rfl
theorem kee(W:WB K mg d base):FO P w W 2 d.Yj d.Yk ["_law_cell"] kke:=by
 exists W.Zo.F,Qt
 ·obtain⟨c,rfl,kk⟩:=h
  exists qo,kbl,W
  refine⟨_,kac (psl (i:=1) Qt.nd (kaP kaf))
   (kac (ka4 PassesOwn.never rfl (kb7 rfl W.B.range (kaa (pe_op kbh kai (pe_op kaA (pv 0) kai)) kaf)) (pgn (i:=2) Qt.nd)
   (kac (psl (i:=3) Qt.nd (pcl qo hr W.qu (kaa (pe_op kbh (pe_op kbh (pv 0) (pe_op kd9 (pv 2) (pv 2))) kai) (kaa kai (kaa kai kaf)))))
   (kag (ka7 (pe_bm JV Nu Nv kbN (pv 1) (kaa (kcY (kbp (PW.pt (pw_or (kaq op_eq (pv 2) kai (kav _)) (kg1 (kaq op_eq (pe_op kaA (pv 3) kai) kai (kav _))))) kaV (pe_op kaA (pe_op kaC (pv 3) kai) (pv 2)))) kaf))))))
   (kag (kan (pv 1)))),?_⟩
  refine⟨by decide,fun p fp=>?_⟩
  exists H,p,H1,n1,e1,fp
  obtain⟨m,em⟩:=Int.eq_ofNat_of_zero_le (show 0≤1+c%4 by omega)
  have hm4:m≤4∧0<m:=by omega
  refine⟨_,rfl,_,_,rfl,rfl,(by show(0:Int)<4;decide),_,_,rfl,rfl,_,rfl,by omega,by omega,?_⟩
  rw[show((1:Int)+c%4).toNat=m by omega]
  refine kcA (fun i σ H'=>Same H H'∧∃(ps:List (Option Nat))(v2 v3:Option V),σ=[some (.int c),some (.ref p),v2,v3]∧H' p=some (.lst (ps.map pV))∧ps.length=i∧Good ps)
   ⟨n1,[],none,none,rfl,e1,rfl,kjW⟩ ?_ ?_
  ·rintro i σ H' hi ⟨s2,ps,v2,v3,rfl,hp2,hl,hg⟩
   rw[Int.zero_add]
   refine⟨_,rfl,_,rfl,_,rfl,_,_,rfl,rfl, .inl ⟨by omega,by omega⟩,_,_,rfl,rfl,_,_,rfl,rfl,_,16807,2147483399,rfl,⟨by decide,by decide⟩,by decide,?_⟩
   dsimp only
   have hx0:0≤(c+(i:Int)*(i:Int)+1)*16807%2147483399:=by omega
   generalize (c+(i:Int)*(i:Int)+1)*16807%2147483399=mx at *
   refine⟨_,rfl, .inl ⟨rfl,_,SqL.of hp2⟩,?_⟩
   refine⟨fun v H3=>H3=H'∧∃o:Option Nat,v=pV o∧∀k,o=some k→k<i,?_,?_⟩
   ·refine⟨_,rfl,rfl,_,rfl,?_⟩
    show if decide (iV i=iV 0)=true then _ else _
    rw[kfX]
    by_cases h0:i=0
    ·rw[decide_eq_true h0]
     exact iteT (iteT ⟨rfl,none,rfl,fun k e=>by cases e⟩)
    ·rw[decide_eq_false h0]
     have k0:0≤mx/3%(i:Int):=Int.emod_nonneg _ (by omega)
     have k1:mx/3%(i:Int)<(i:Int):=Int.emod_lt_of_pos _ (by omega)
     refine iteF ⟨_,rfl,_,_,rfl,rfl,(by show(0:Int)<3;decide),rfl,_,rfl,ite2 (fun _=>⟨rfl,none,rfl,fun k e=>by cases e⟩) (fun _=>?_)⟩
     refine⟨_,rfl,_,_,rfl,rfl,⟨by decide,by decide⟩,_,rfl,_,_,rfl,rfl,(by show(0:Int)<(i:Int);omega),rfl,some (mx/3%(i:Int)).toNat,?_,fun k e=>by cases e;omega⟩
     show V.int _=V.int (((mx/3%(i:Int)).toNat:Nat):Int)
     rw[Int.toNat_of_nonneg k0]
   rintro v H3 ⟨rfl,o,rfl,ho⟩
   refine⟨p,_,_,rfl,rfl,hp2,kap (by rw[U0];omega),?_⟩
   refine⟨kat fp s2 (nx hp2),ps++[o],_,_,rfl,?_,by simp[hl],kiZ hg (fun k e=>by rw[hl];exact ho k e)⟩
   rw[kad]
   simp
  ·rintro σ H' ⟨s2,ps,v2,v3,rfl,hp2,hl,hg⟩
   exact⟨_,rfl,kk H' p ps s2 fp hp2 hg (by omega) (by omega)⟩
inductive kgR (d:D) (vs:List V) (H:Hp) (Q:VK) (E_:XK):Prop
 |ct (c:Int)(ps:List (Option Nat))(_:vs=[.int c,iV ps.length])(_:0<ps.length)(_:∀(H':Hp)(x:Addr)(M:Mks),Same H H'→H x=none→MksIs d.qf H' x M→MksOk ps M→Q (.ref x) H'):kgR d vs H Q E_
theorem Qu:kao ["_law_cell","_law_kinds","_law_kind","_law_needs","_law_most"] ["_law_cell","_law_kinds"] (kae kct):=by ac_rfl
theorem kfd(W:WB K mg d base):FO P w W 3 d.Yl d.Ym ["_law_cell","_law_kinds"] (kgR d):=by
 exists W.Zp.F,Qu
 ·obtain⟨c,ps,rfl,hn,kk⟩:=h
  exists qo,kbl,W
  exists Q6,kc5,W
  exists hr1,1,hr,0
  refine⟨_,kac (psl (i:=2) Qu.nd (kcY (kbp (kaq op_eq (pe_op kaA (pv 0) kai) kai (kav _)) kaV (pe_op kaA (pe_op kaC (pv 0) kai) (pv 1)))))
   (kac (psl (i:=3) Qu.nd (kcY (kbp (kaq op_gt (pe_op kaA (pe_op kaC (pv 0) kai) kai) kai (kav _)) kai (pe_op kaA (pcl qo hr1 W.qu (kaa (pv 0) (kaa kai (kaa kai kaf)))) kai))))
   (kac (psl (i:=4) Qu.nd (kcY (kbp (kaq op_gt (pe_op kaA (pe_op kaC (pv 0) kai) kai) kai (kav _)) kaV (pe_op kaA (pcl qo hr1 W.qu (kaa (pv 0) (kaa kai (kaa kai kaf)))) kai))))
   (kag (kan (kbg (W.Qj.mk' W.qf) Q6 hr rfl W.qf.m W.Qj.b .nil pass0 (kaa (pv 2) (kaa (pv 3) (kaa (pv 4) (kaa (kcg op_eq (pe_op kaA (pe_op kaC (pv 0) kai) kai) kai (kav _)) (kaa (kcg op_eq (pe_op kaA (pe_op kaC (pv 0) kai) kai) kai (kav _)) (kaa (kcg op_eq (pe_op kaA (pe_op kaC (pv 0) kai) kai) kai (kav _)) kaf))))))))))),?_⟩
  refine⟨fun v H'=>H'=H∧∃kd:Option Nat,(∀k,kd=some k→k<ps.length)∧v=pV kd,?_,?_⟩
  ·refine⟨_,rfl,_,_,rfl,rfl,(by show(0:Int)<2;decide),rfl,_,rfl,ite2 (fun _=>⟨rfl,none,(fun z e=>by cases e),rfl⟩) (fun _=>?_)⟩
   have k0:0≤c/2%(ps.length:Int):=Int.emod_nonneg _ (by omega)
   have k1:c/2%(ps.length:Int)<(ps.length:Int):=Int.emod_lt_of_pos _ (by omega)
   refine⟨_,rfl,_,_,rfl,rfl,⟨by decide,by decide⟩,_,rfl,_,_,rfl,rfl,(by show(0:Int)<(ps.length:Int);omega),rfl,some (c/2%(ps.length:Int)).toNat,(fun k e=>by cases e;omega),?_⟩
   show V.int _=V.int (((c/2%(ps.length:Int)).toNat:Nat):Int)
   rw[Int.toNat_of_nonneg k0]
  rintro v H' ⟨rfl,kd,hkd,rfl⟩
  refine⟨fun v H2=>H2=H'∧∃nd:Int,(0≤nd∧nd≤1000000000000)∧v=.int nd,?_,?_⟩
  ·refine⟨_,rfl,_,_,rfl,rfl,⟨by decide,by decide⟩,_,_,rfl,rfl,(by show(0:Int)<3;decide),_,_,rfl,rfl,_,rfl,ite2 (fun _=>⟨rfl,0,⟨by decide,by decide⟩,rfl⟩) (fun _=>?_)⟩
   exact⟨_,rfl,c,48271,2147483647,rfl,⟨by decide,by decide⟩,by decide,_,_,rfl,rfl,(by show(0:Int)<60;decide),rfl,c*48271%2147483647%60,⟨by omega,by omega⟩,rfl⟩
  rintro v H2 ⟨rfl,nd,hnd,rfl⟩
  refine⟨fun v H3=>H3=H2∧∃mo:Option Int,(∀z,mo=some z→0≤z∧z≤1000000000000)∧v=oV mo,?_,?_⟩
  ·refine⟨_,rfl,_,_,rfl,rfl,⟨by decide,by decide⟩,_,_,rfl,rfl,(by show(0:Int)<4;decide),_,_,rfl,rfl,_,rfl,ite2 (fun _=>⟨rfl,none,(fun z e=>by cases e),rfl⟩) (fun _=>?_)⟩
   exact⟨_,rfl,c,69621,2147483629,rfl,⟨by decide,by decide⟩,by decide,_,_,rfl,rfl,(by show(0:Int)<40;decide),rfl,some (c*69621%2147483629%40),(fun y e=>by cases e;omega),rfl⟩
  rintro v H3 ⟨rfl,mo,hmo,rfl⟩
  have fin:∀b1 b2 b3:Bool,∀x dx,H3 x=none→H3 dx=none→dx≠x→kdR d.qf [.ref x,pV kd, .int nd,oV mo, .bl b1, .bl b2, .bl b3] (upd (upd H3 dx (.own x)) x (.ins d.qf dx [])) (fun v H2=>v=.non∧Q (.ref x) H2) E0:=fun b1 b2 b3=>kg9 (M:=⟨kd,nd,mo,b1,b2,b3⟩) fun H1 x s1 fx hM=>kk H1 x _ s1 fx hM ⟨hkd,hnd,hmo⟩
  refine⟨_,rfl,_,rfl,_,rfl,_,rfl,_,_,rfl,rfl,⟨by decide,by decide⟩,_,_,rfl,rfl,(by show(0:Int)<5;decide),rfl,_,rfl,_,_,rfl,rfl,⟨by decide,by decide⟩,_,_,rfl,rfl,(by show(0:Int)<3;decide),rfl,_,rfl,_,_,rfl,rfl,⟨by decide,by decide⟩,_,_,rfl,rfl,(by show(0:Int)<3;decide),rfl,?_⟩
  exact fin _ _ _
theorem at3V'{a b c:V}{i:Int}(h0:0≤i)(h3:i<3):∃v,atI [a,b,c] i=some v∧(v=a∨v=b∨v=c):=by
 obtain⟨n,rfl⟩:=Int.eq_ofNat_of_zero_le h0
 have hn:n<3:=by omega
 match n,hn with
 |0,_=>exact⟨a,rfl, .inl rfl⟩
 |1,_=>exact⟨b,rfl, .inr (.inl rfl)⟩
 |2,_=>exact⟨c,rfl, .inr (.inr rfl)⟩
theorem at2V{a b:V}{i:Int}(h0:0≤i)(h2:i<2):∃v,atI [a,b] i=some v∧(v=a∨v=b):=by
 obtain⟨n,rfl⟩:=Int.eq_ofNat_of_zero_le h0
 have hn:n<2:=by omega
 match n,hn with
 |0,_=>exact⟨a,rfl, .inl rfl⟩
 |1,_=>exact⟨b,rfl, .inr rfl⟩
inductive kgM (d:D) (vs:List V) (H:Hp) (Q:VK) (E_:XK):Prop
 |ct (c:Int)(ps:List (Option Nat))(_:vs=[.int c,iV ps.length])(_:0<ps.length)(_:Tbs d H)(_:∀(H':Hp)(x:Addr)(V:Vch),Same H H'→H x=none→VchIs d H' x V→VchOk ps V→Q (.ref x) H'):kgM d vs H Q E_
theorem Qv:kao ["_law_cell","_law_kinds","_law_marks_here","_law_sort","_law_rest"] ["_law_cell","_law_kinds"] (kae kbY):=by ac_rfl
theorem ked(W:WB K mg d base):FO P w W 6 d.Yn d.Yo ["_law_cell","_law_kinds"] (kgM d):=by
 exists W.Zq.F,Qv
 ·obtain⟨c,ps,rfl,hn,htb0,kk⟩:=h
  exists VU,kfd,W
  exists qo,kbl,W
  exists VV,kgs,W
  exists Xf,kdy,W
  exists VW,kfe,W
  exists VX,kdO,W
  exists VY,keD,W
  exists VZ,kdP,W
  exists hr1,1,hr,0
  exists hr3,3,hr,0
  refine⟨_,kac (psl (i:=2) Qv.nd (pcl VU hr3 W.Zp (kaa (pcl qo hr1 W.qu (kaa (pv 0) (kaa kai (kaa kai kaf)))) (kaa (pv 1) kaf))))
   (kac (psl (i:=3) Qv.nd (pe_op kaA (pv 0) kai))
   (kac (psl (i:=4) Qv.nd (pe_op kaC (pv 0) kai))
   (kac (ps_if (kaq op_lt (pv 3) kai (kav _)) (kag (kan (kbg (W.QQ.mk' W.c_Off) VV hr rfl W.c_Off.m W.QQ.b .nil pass0 (kaa (pe_ix (r:=rIxL K) kaK (kaP (kaa (pe_op kaA (pv 4) kai) (kaa (pcl Xf hr1 W.QL (kaa (pv 4) kaf)) kaf))) (pe_op kaC (pe_op kaA (pv 4) kai) kai) (fun _ _=>rfl)) (kaa (pv 2) kaf))))) (kas))
   (kac (ps_if (kaq op_eq (pv 3) kai (kav _)) (kag (kan (kbg (W.QR.mk' W.qh) VW hr rfl W.qh.m W.QR.b .nil pass0 (kaa (pe_ix (r:=rIxL K) kaK (kaP (kaa kai (kaa (pe_op kbh kai (pe_op kaA (pe_op kaC (pv 4) kai) kai)) kaf))) (pe_op kaA (pv 4) kai) (fun _ _=>rfl)) (kaa (kcg op_eq (pe_op kaA (pe_op kaC (pv 4) kai) kai) kai (kav _)) (kaa (pv 2) kaf)))))) (kas))
   (kac (ps_if (kaq op_eq (pv 3) kai (kav _)) (kag (kan (kbg (W.QS.mk' W.qj) VX hr rfl W.qj.m W.QS.b .nil pass0 (kaa (pe_op kbh kai (pe_op kaA (pv 4) kai)) (kaa (pv 2) kaf))))) (kas))
   (kac (ps_if (kaq op_eq (pv 3) kai (kav _)) (kag (kan (kbg (W.QT.mk' W.qi) VY hr rfl W.qi.m W.QT.b .nil pass0 (kaa (pe_op kbh kai (pe_op kaA (pv 4) kai)) (kaa (pe_op kaA (pe_op kaC (pv 4) kai) kai) (kaa (pv 2) kaf)))))) (kas))
   (kag (kan (kbg (W.QU.mk' W.qm) VZ hr rfl W.qm.m W.QU.b .nil pass0 (kaa (pv 2) kaf)))))))))),?_⟩
  exists Y4
  refine⟨_,rfl,c,39373,2147483587,rfl,⟨by decide,by decide⟩,by decide,_,rfl,_,ps,rfl,hn,fun H1 mA M s1 f1 hM hMo=>?_⟩
  symm
  exists Y4
  refine⟨_,rfl,_,_,rfl,rfl,(by show(0:Int)<6;decide),?_⟩
  symm
  exists Y4
  refine⟨_,rfl,_,_,rfl,rfl,⟨by decide,by decide⟩,?_⟩
  show gName 4 (V.int (c/6)) _ _ _
  generalize c/6=rs
  have fin:∀(so:Srt)(H2:Hp)(x:Addr),Same H1 H2→H1 x=none→VchIs d H2 x ⟨so,M⟩→SrtOk so→Q (.ref x) H2:=fun so H2 x s2 f2 hV hso=>kk H2 x _ (s1.trans s2) (s1.free f2) hV ⟨hso,hMo⟩
  have htb:Tbs d H1:=Tbs.same s1 htb0
  symm
  exists Y4
  refine⟨_,rfl,_,_,rfl,rfl,_,rfl,ite2 (fun _=>?_) (fun _=>?_)⟩
  ·refine⟨_,rfl,_,_,rfl,rfl,(by show(0:Int)<60;decide),_,rfl,_,rfl,fun H2 s2=>⟨(by show 2≤sizeLine;decide),fun l fl=>?_⟩⟩
   exists H2,l,H3,n3,e3,fl
   have s13:=s2.trans n3
   obtain⟨v,ev,hv⟩:=at2V (a:=.int (rs%60)) (b:=.int (coinM rs)) (i:=rs%7/6) (by omega) (by omega)
   have hco:=ki8 rs
   obtain⟨z,rfl,hz⟩:∃z:Int,v=.int z∧0≤z∧z≤1000000000000:=by
    rcases hv with rfl|rfl
    ·exact⟨_,rfl,by omega,by omega⟩
    ·exact⟨_,rfl,hco⟩
   symm
   exact⟨_,rfl,_,_,rfl,rfl,(by show(0:Int)<7;decide),_,_,rfl,rfl,⟨by decide,by decide⟩,l,_,_,_,rfl,rfl,SqL.of e3,ev,_,rfl,kfR (so:=.off z) ⟨_,rfl⟩ rfl (hM.same s13) (fun H4 x s4 f4 hV=>fin (.off z) H4 x (s13.trans s4) (s13.free f4) hV hz) (Tbs.same s13 htb)⟩
  symm
  exists Y4
  refine⟨_,rfl,rfl,_,rfl,ite2 (fun _=>?_) (fun _=>?_)⟩
  ·refine⟨_,rfl,_,_,rfl,rfl,⟨by decide,by decide⟩,_,_,rfl,rfl,(by show(0:Int)<1000;decide),_,_,rfl,rfl,(by show 2≤sizeLine;decide),fun l fl=>?_⟩
   exists H1,l,H3,n3,e3,fl
   obtain⟨v,ev,hv⟩:=at2V (a:=.int 1000) (b:=.int (1+rs/2%1000)) (i:=rs%2) (by omega) (by omega)
   obtain⟨sh,rfl,hsh⟩:∃sh:Int,v=.int sh∧1≤sh∧sh≤1000:=by
    rcases hv with rfl|rfl
    ·exact⟨1000,rfl,by decide,by decide⟩
    ·exact⟨_,rfl,by omega,by omega⟩
   have mk:∀b:Bool,∀x dx,H3 x=none→H3 dx=none→dx≠x→kdw d.qh d.qf (fun so=>∃s b,so=.share s b) (.ref x::([.int sh, .bl b]++[.ref mA])) (upd (upd H3 dx (.own x)) x (.ins d.qh dx [])) (fun v H2=>v=.non∧Q (.ref x) H2) E0:=fun b=>kfR (so:=.share sh b) ⟨_,_,rfl⟩ rfl (hM.same n3) (fun H4 x s4 f4 hV=>fin (.share sh b) H4 x (n3.trans s4) (n3.free f4) hV hsh) (Tbs.same n3 htb)
   symm
   exists Y6
   refine⟨_,rfl,_,_,rfl,rfl,(by show(0:Int)<2;decide),l,_,_,_,rfl,rfl,SqL.of e3,ev,_,rfl,_,_,rfl,rfl,⟨by decide,by decide⟩,_,_,rfl,rfl,(by show(0:Int)<2;decide),rfl,_,rfl,?_⟩
   nofun
   exact mk _
  symm
  exists Y4
  refine⟨_,rfl,rfl,_,rfl,ite2 (fun _=>?_) (fun _=>?_)⟩
  ·exact⟨_,rfl,_,_,rfl,rfl,(by show(0:Int)<2;decide),_,_,rfl,rfl,_,rfl,kfR (so:=.cheap (2+rs%2)) ⟨_,rfl⟩ rfl hM fun H2 x s2 f2 hV=>fin _ H2 x s2 f2 hV ⟨by omega,by omega⟩⟩
  symm
  exists Y4
  refine⟨_,rfl,rfl,_,rfl,ite2 (fun _=>?_) (fun _=>?_)⟩
  ·exact⟨_,rfl,_,_,rfl,rfl,(by show(0:Int)<2;decide),_,_,rfl,rfl,_,rfl,_,_,rfl,rfl,⟨by decide,by decide⟩,_,_,rfl,rfl,(by show(0:Int)<40;decide),_,rfl,kfR (so:=.bund (2+rs%2) (rs/2%40)) ⟨_,_,rfl⟩ rfl hM fun H2 x s2 f2 hV=>fin _ H2 x s2 f2 hV ⟨by omega,by omega,by omega,by omega⟩⟩
  symm
  exact⟨_,rfl,kfR (so:=.carr) rfl rfl hM fun H2 x s2 f2 hV=>fin _ H2 x s2 f2 hV trivial⟩
inductive kgO (vs:List V) (H:Hp) (Q:VK) (E_:XK):Prop
 |ct (c:Int)(m:Nat)(_:vs=[.int c,iV m])(_:0<m)(_:∀(H':Hp)(l:Addr)(ra:List Addr)(rs:List Rul),Same H H'→H l=none→H' l=some (.lst (ra.map V.ref))→P2 (fun a r=>RulIs H' a r) ra rs→Q (.ref l) H'):kgO vs H Q E_
theorem Qw:kao ["_law_cell","_law_many","_law_told","_law_k","_law_drawn"] ["_law_cell","_law_many"] (kae kcs):=by ac_rfl
theorem kfc(W:WB K mg d base):FO P w W 2 d.Yp d.Yq ["_law_cell","_law_many"] kgO:=by
 exists W.Zr.F,Qw
 ·obtain⟨c,m,rfl,hm,kk⟩:=h
  exists qo,kbl,W
  refine⟨_,kac (psl (i:=2) Qw.nd (kaP kaf))
   (kac (ka4 PassesOwn.never rfl (kb7 rfl W.B.range (kaa (pe_op kaA (pv 0) kai) kaf)) (pgn (i:=3) Qw.nd)
   (kac (psl (i:=4) Qw.nd (pcl qo hr W.qu (kaa (pe_op kbh (pe_op kbh (pv 0) (pe_op kd9 (pe_op kd9 kai (pv 3)) (pv 3))) kai) (kaa kai (kaa kai kaf)))))
   (kag (ka7 (pe_bm JV Nu Nv kbN (pv 2) (kaa (kcI (kaa (pe_ix (r:=rIxL K) kaK (kaP (kaa kbT (kaa kbT (kaa kbT kaf)))) (pe_op kaA (pv 4) kai) (fun _ _=>rfl)) (kaa (pe_op kaA (pe_op kaC (pv 4) kai) (pv 1)) (kaa (pe_op kaA (pe_op kaC (pv 4) kai) (pv 1)) kaf)))) kaf))))))
   (kag (kan (pv 2)))),?_⟩
  exists Y4
  refine⟨by decide,fun l fl=>?_⟩
  generalize hg1:upd H l _=H1
  obtain⟨s1,(el1:H1 l=some (.lst (([]:List Addr).map V.ref)))⟩:=kaB hg1 fl
  clear hg1
  symm
  exists Y4
  refine⟨_,rfl,_,_,rfl,rfl,(by show(0:Int)<4;decide),_,rfl,by omega,by omega,?_⟩
  symm
  refine kcA (fun i σ H'=>Same H H'∧∃(ra:List Addr)(rs:List Rul)(v3 v4:Option V),H' l=some (.lst (ra.map V.ref))∧P2 (fun a r=>RulIs H' a r) ra rs∧rs.length=i∧σ=[some (.int c),some (iV m),some (.ref l),v3,v4])
   ⟨s1,[],[],none,none,el1, .nil,rfl,rfl⟩ ?_ ?_
  ·rintro i σ H' hi ⟨s2,ra,rs,v3,v4,el,hr,hlen,rfl⟩
   have hi4:i<4:=by omega
   rw[Int.zero_add]
   symm
   exists Y6
   refine⟨_,rfl,_,rfl,_,_,rfl,rfl, .inl ⟨by decide,by decide⟩,_,rfl,_,_,rfl,rfl, .inr ⟨by omega,by omega⟩,_,_,rfl,rfl,_,_,rfl,rfl,_,40692,2147483579,rfl,⟨by decide,by decide⟩,by decide,?_⟩
   dsimp only
   have hx0:0≤(c+7*(i:Int)*(i:Int)+1)*40692%2147483579:=by omega
   generalize (c+7*(i:Int)*(i:Int)+1)*40692%2147483579=mx at *
   nofun
   exists Y6
   refine⟨_,rfl, .inl ⟨rfl,_,SqL.of el⟩,(by show 3≤sizeLine;decide),fun q1 hq1=>?_⟩
   exists H',q1,H3,n3,e3,hq1
   obtain⟨v,ev,hv⟩:=at3V' (a:=.str "only") (b:=.str "never") (c:=.str "ahead") (i:=mx%3) (by omega) (by omega)
   obtain⟨wd,rfl⟩:∃w:Str,v=.str w:=by
    rcases hv with rfl|rfl|rfl <;> exact⟨_,rfl⟩
   have x0:0≤mx/3%(m:Int):=Int.emod_nonneg _ (by omega)
   have y0:0≤mx/30%(m:Int):=Int.emod_nonneg _ (by omega)
   nofun
   exists Y6
   refine⟨_,rfl,_,_,rfl,rfl,(by show(0:Int)<3;decide),q1,_,_,_,rfl,rfl,SqL.of e3,ev,_,rfl,_,_,rfl,rfl,⟨by decide,by decide⟩,_,rfl,_,_,rfl,rfl,(by show(0:Int)<(m:Int);omega),_,rfl,_,_,rfl,rfl,⟨by decide,by decide⟩,_,rfl,_,_,rfl,rfl,(by show(0:Int)<(m:Int);omega),(by show 3≤sizeLine;decide),fun q hq=>?_⟩
   obtain⟨xn,ex⟩:=Int.eq_ofNat_of_zero_le x0
   obtain⟨yn,ey⟩:=Int.eq_ofNat_of_zero_le y0
   exists H3,q,H4,n4,e4',hq
   have e4:H4 q=some (.tup [V.str wd,V.int (xn:Int),V.int (yn:Int)]):=by
    rw[e4',←ex,←ey]
   have s34:=n3.trans n4
   have el4:=s34 _ _ el
   have s4:=s2.trans s34
   nofun
   exists Y6
   refine⟨l,_,_,rfl,rfl,el4,kap (by rw[U0,hr.len];omega),?_⟩
   have b5:But l H4 (upd H4 l (.lst (ra.map V.ref++[V.ref q]))):=kar (nx el4)
   nofun
   exists Y6
   refine⟨kat fl s4 (nx el4),ra++[q],rs++[⟨wd,xn,yn⟩],_,_,by rw[kad,Jc];rfl,P2.snoc (hr.mono fun a r h=>b5 _ _ (ne_of (s34 _ _ h) el4 (by intro z;cases z)) (s34 _ _ h)) (b5 _ _ (ne_of e4 el4 (by intro z;cases z)) e4),by rw[Jh,hlen];rfl,rfl⟩
  ·rintro σ H' ⟨s2,ra,rs,v3,v4,el,hr,hlen,rfl⟩
   nofun
   exact⟨_,rfl,kk H' l ra rs s2 fl el hr⟩
theorem khM{d:D}{H H':Hp}{q v:Addr}{xs:List V}{Vc:Vch}(b:But q H H')(hq:H q=some (.lst xs)):VchIs d H v Vc→VchIs d H' v Vc:=by
 rintro⟨mA,dv,fv,h1,h2,h3,⟨dm,fm,hm,r⟩,h5,tb⟩
 have hn:∀{a C dx:Addr}{fs:List (Str×L2.V)},H a=some (.ins C dx fs)→a≠q:=fun h=>ne_of h hq (by intro z;cases z)
 refine⟨mA,dv,fv,b _ _ (hn h1) h1,h2,h3,⟨dm,fm,b _ _ (hn hm) hm,r⟩,h5,?_⟩
 obtain⟨ps,e,t⟩:=id tb
 exact(b _ _ (ne_of e hq (by intro z;cases z)) e).2 tb
inductive kh0 (K:U1) (d:D) (vs:List V) (H:Hp) (Q:VK) (E_:XK):Prop
 |ct (a:Addr)(ns:List Int)(m:Nat)(_:vs=[.ref a,iV m])(_:SqL K H a (ns.map V.int))(_:ns.length≤63)(_:0<m)(_:m≤4)(_:Tbs d H)(_:∀(H':Hp)(t:Addr)(T:TillD),Same H H'→H t=none→TillIs d H' t T→kcq T→0<T.vs.length→T.vs.length≤4→Good T.ps→T.ps.length≤4→0<T.ps.length→Q (.ref t) H'):kh0 K d vs H Q E_
theorem qY:kao ["_law_script","_law_most","_law_first","_law_parents_here","_law_vouchers","_law_k"] ["_law_script","_law_most"] (kae kcO):=by ac_rfl
theorem kfN(W:WB K mg d base):FO P w W 7 d.Yr d.Ys ["_law_script","_law_most"] (kh0 K d):=by
 exists W.Zs.F,qY
 ·obtain⟨a,ns,m,rfl,hS,hn,hm0,hm4,htb0,kk⟩:=h
  exists V0,kee,W
  exists qo,kbl,W
  exists V1,ked,W
  exists V2,kfP,W
  exists V3,kfc,W
  exists hr1,1,hr,0
  exists hr2,2,hr,0
  refine⟨_,kac (psl (i:=2) qY.nd (kbo (r:=rSlL K) kcb (pe_op kk7 (pv 0) (kaP (kaa kai (kaa kai (kaa kai (kaa kai (kaa kai (kaa kai kaf)))))))) kcw (kbz kai)))
   (kac (psl (i:=3) qY.nd (pcl V0 hr2 W.Zo (kaa (pcl qo hr1 W.qu (kaa (pe_ix (r:=rIxL K) kaK (pv 2) kai (fun _ _=>rfl)) (kaa kai (kaa kai kaf)))) kaf)))
   (kac (psl (i:=4) qY.nd (kaP kaf))
   (kac (ka4 PassesOwn.never rfl (kb7 rfl W.B.range (kaa (pe_op kbh kai (pe_op kaA (pe_op kaC (pe_ix (r:=rIxL K) kaK (pv 2) kai (fun _ _=>rfl)) kai) (pv 1))) kaf)) (pgn (i:=5) qY.nd)
   (kag (ka7 (pe_bm JV Nu Nv kbN (pv 4) (kaa (pcl V1 hr W.Zq (kaa (pcl qo hr1 W.qu (kaa (pe_op kbh (pe_ix (r:=rIxL K) kaK (pv 2) (pe_op kbh kai (pe_op kaA (pv 5) kai)) (fun _ _=>rfl)) (pv 5)) (kaa kai (kaa kai kaf)))) (kaa (kaw (r:=kbL K) kaI (by rfl) W.B.len b_len (kaa (pv 3) kaf)) kaf))) kaf)))))
   (kag (kan (kbg (W.ZM.mk' W.qd) V2 hr2 rfl W.qd.m W.b1_Till_init (show Vals [.str "again"] [.str "again" d.tok0_Till_init] from(.cons ⟨_,rfl⟩ .nil)) pass0 (kaa (pv 3) (kaa (pv 4) (kaa (pcl V3 hr2 W.Zr (kaa (pcl qo hr1 W.qu (kaa (pe_ix (r:=rIxL K) kaK (pv 2) kai (fun _ _=>rfl)) (kaa kai (kaa kai kaf)))) (kaa (kaw (r:=kbL K) kaI (by rfl) W.B.len b_len (kaa (pv 4) kaf)) kaf))) kaf))))))))),?_⟩
  refine sN fun A1 hA1=>?_
  exists Y4
  refine⟨_,rfl,(by show 6≤sizeLine;decide),fun l1 fl1=>?_⟩
  exists H,l1,H1,n1,e1,fl1
  symm
  exists Y4
  refine⟨a,l1,_,_,rfl,rfl,n1.seq hS,SqL.of e1,Jf (kap (by rw[U0];show ns.length+6≤1000;omega)),fun l2 fl2=>?_⟩
  rw[show ns.map V.int++[V.int 3,V.int 1,V.int 4,V.int 1,V.int 5,V.int 9]=(ns++[3,1,4,1,5,9]).map V.int by rw[Jc];rfl]
  exists H1,l2,H2,n2,e2,fl2
  symm
  exists Y4
  refine⟨_,rfl,l2,_,rfl,SqL.of e2,fun l3 fl3=>?_⟩
  rw[show(6:Int)=((6:Nat):Int) from rfl,khj,←J8]
  have hfl:((ns++[3,1,4,1,5,9]).take 6).length=6:=by
   rw[Jg,Jh]
   show min 6 (ns.length+6)=6
   omega
  generalize (ns++[3,1,4,1,5,9]).take 6=fs at *
  exists H2,l3,H3,n3,e3,fl3
  have s3:=(n1.trans n2).trans n3
  symm
  refine hA1 _ _ ?_
  clear hA1 e1 e2 n1 n2 n3 fl1 fl2 fl3
  have hat:∀i:Nat,i<6→∃z,fs[i]?=some z:=fun i hi=>at_of (by omega)
  obtain⟨z0,ez0⟩:=hat 0 (by decide)
  symm
  refine sN fun A2 hA2=>?_
  symm
  exists Y4
  refine⟨_,rfl,l3,_,_,_,rfl,rfl,SqL.of e3,kaW (j:=0) (v:=V.int z0) (by rw[Jb,ez0];rfl),z0,48271,2147483647,rfl,⟨by decide,by decide⟩,by decide,_,rfl,fun H4 p ps s4 fp ep hg hp4 hp0=>?_⟩
  symm
  refine hA2 _ _ ?_
  symm
  refine sN fun A3 hA3=>?_
  symm
  exists Y4
  refine⟨by decide,fun vl fvl=>?_⟩
  exists H4,vl,H5,n5,e5,fvl
  symm
  refine hA3 _ _ ?_
  have e35:=(s4.trans n5) _ _ e3
  have s05:=(s3.trans s4).trans n5
  symm
  refine sN fun A4 hA4=>?_
  have k0:0≤z0/5%(m:Int):=Int.emod_nonneg _ (by omega)
  have k1:z0/5%(m:Int)<(m:Int):=Int.emod_lt_of_pos _ (by omega)
  obtain⟨c,ec⟩:=Int.eq_ofNat_of_zero_le (show 0≤1+z0/5%(m:Int) by omega)
  symm
  exists Y4
  refine⟨_,rfl,l3,_,_,_,rfl,rfl,SqL.of e35,kaW (j:=0) (v:=V.int z0) (by rw[Jb,ez0];rfl),_,_,rfl,rfl,⟨by decide,by decide⟩,_,rfl,_,_,rfl,rfl,(by show(0:Int)<(m:Int);omega),_,_,rfl,rfl,_,rfl,by omega,by omega,?_⟩
  rw[show((1:Int)+z0/5%(m:Int)).toNat=c by omega]
  symm
  refine kcA (fun i σ H'=>Same H4 H'∧∃(va:List Addr)(Vs:List Vch)(v5:Option V),H' vl=some (.lst (va.map V.ref))∧P2 (fun a V=>a≠vl∧VchIs d H' a V) va Vs∧(∀V∈Vs,VchOk ps V)∧Vs.length=i∧σ=[some (.ref a),some (iV m),some (.ref l3),some (.ref p),some (.ref vl),v5])
   ⟨n5,[],[],none,e5, .nil,(fun V hV=>by simp at hV),rfl,rfl⟩ ?_ ?_
  ·rintro i σ H6 hi ⟨s6,va,Vs,v5,evl,hP,hvo,hl,rfl⟩
   rw[Int.zero_add]
   have s36:Same H3 H6:=s4.trans s6
   have e36:=s36 _ _ e3
   obtain⟨zk,ezk⟩:=hat (1+i%4) (by omega)
   have hix:atI (fs.map V.int) (1+(i:Int)%4)=some (V.int zk):=by
    rw[show(1:Int)+(i:Int)%4=((1+i%4:Nat):Int) by omega]
    symm
    exact kaW (by rw[Jb,ezk];rfl)
   symm
   exists Y6
   refine⟨_,rfl, .inl ⟨rfl,_,SqL.of evl⟩,_,rfl,_,rfl,_,_,rfl,rfl,(by show(0:Int)<4;decide),_,_,rfl,rfl,l3,_,_,_,rfl,rfl,SqL.of e36,hix,_,rfl,_,_,rfl,rfl,_,16807,2147483399,rfl,⟨by decide,by decide⟩,by decide,_,rfl,p,_,rfl, .inl (SqL.of (s6 _ _ ep)),_,ps,(by rw[U0];rfl),hp0,Tbs.same (s3.trans s36) htb0,fun H7 v Vc s7 f7 hV vo=>?_⟩
   have evl7:=s7 _ _ evl
   have lva:=hP.len
   nofun
   exists Y6
   refine⟨vl,_,_,rfl,rfl,evl7,kap (by rw[U0];omega),?_⟩
   rw[show va.map V.ref++[V.ref v]=(va++[v]).map V.ref by rw[Jc];rfl]
   have b8:But vl H7 (upd H7 vl (.lst ((va++[v]).map V.ref))):=kar (nx evl7)
   nofun
   exists Y6
   refine⟨kat fvl (s6.trans s7) (nx evl7),va++[v],Vs++[Vc],_,kad,P2.snoc (hP.mono fun a V h=>⟨h.1,khM b8 evl7 (h.2.same s7)⟩) ⟨(kah evl f7).symm,khM b8 evl7 hV⟩,fun V hV'=>?_,by simp[hl],rfl⟩
   rcases JE.mp hV' with h|h
   ·exact hvo V h
   ·have e:V=Vc:=by simpa using h
    rw[e]
    nofun
    exact vo
  rintro σ H6 ⟨s6,va,Vs,v5,evl,hP,hvo,hl,rfl⟩
  symm
  refine hA4 _ _ ?_
  have lva:=hP.len
  obtain⟨z5,ez5⟩:=hat 5 (by decide)
  have s36:Same H3 H6:=s4.trans s6
  symm
  exists Y4
  refine⟨_,rfl,_,rfl,_,rfl,l3,_,_,_,rfl,rfl,SqL.of (s36 _ _ e3),kaW (j:=5) (v:=V.int z5) (by rw[Jb,ez5];rfl),z5,69621,2147483629,rfl,⟨by decide,by decide⟩,by decide,_,rfl,vl,_,rfl, .inl (SqL.of evl),_,Vs.length,(by rw[U0,lva];rfl),by omega,fun H7 rl ra rs s7 f7 e7 hr=>?_⟩
  symm
  refine klb (T:=⟨ps,Vs,rs,"again"⟩) ((s6.trans s7) _ _ ep) (s7 _ _ evl) (hP.mono fun a V h=>h.2.same s7) e7 hr fun H8 t s8 f8 hT=>?_
  have s38:=(s36.trans s7).trans s8
  symm
  exact kk H8 t _ (s3.trans s38) ((s3.trans (s36.trans s7)).free f8) hT ⟨hvo,by show Vs.length≤8;omega⟩ (by show 0<Vs.length;omega) (by show Vs.length≤4;omega) hg hp4 hp0
noncomputable def lineM(c:Int)(n:Nat):Row:=⟨c/7%(n:Int),(if c%3=0 then c/3%30 else if c%3=1 then 1+c/3%9 else coinM (c/3)),c/11%4,if c/90%2=0 then none else some (c/180%30)⟩
theorem kgv{c:Int}{n:Nat}(hn:0<n):(lineM c n).Ok∧(0≤(lineM c n).kd∧(lineM c n).kd<(n:Int))∧0≤(lineM c n).mn∧(lineM c n).mn≤3:=by
 have k0:0≤c/7%(n:Int):=Int.emod_nonneg _ (by omega)
 have k1:c/7%(n:Int)<(n:Int):=Int.emod_lt_of_pos _ (by omega)
 have hc:=ki8 (c/3)
 have hp:0≤(if c%3=0 then c/3%30 else if c%3=1 then 1+c/3%9 else coinM (c/3))∧(if c%3=0 then c/3%30 else if c%3=1 then 1+c/3%9 else coinM (c/3))≤1000000000000:=by
  repeat' split
  all_goals omega
 refine⟨⟨hp.1,hp.2,(by show 0≤c/11%4;omega),(by show c/11%4≤60;omega),fun z e=>?_⟩,⟨k0,k1⟩,(by show 0≤c/11%4;omega),(by show c/11%4≤3;omega)⟩
 have e':(if c/90%2=0 then none else some (c/180%30))=some z:=e
 split at e'
 ·cases e'
 ·cases e'
  omega
inductive kh4 (d:D) (vs:List V) (H:Hp) (Q:VK) (E_:XK):Prop
 |ct (c:Int)(n:Nat)(_:vs=[.int c,iV n])(_:0<n)(_:∀(H':Hp)(x:Addr),Same H H'→H x=none→LineAt d.qe H' x (lineM c n)→Q (.ref x) H'):kh4 d vs H Q E_
theorem Xg:kao ["_law_cell","_law_kinds","_law_price","_law_special"] ["_law_cell","_law_kinds"] (kae kcP):=by ac_rfl
theorem kfO(W:WB K mg d base):FO P w W 3 d.Yt d.Yu ["_law_cell","_law_kinds"] (kh4 d):=by
 exists W.Zt.F,Xg
 ·obtain⟨c,n,rfl,hn,kk⟩:=h
  exists Xf,kdy,W
  exists V4,kfQ,W
  exists hr1,1,hr,0
  refine⟨_,kac (psl (i:=2) Xg.nd (pe_ix (r:=rIxL K) kaK (kaP (kaa (pe_op kaA (pe_op kaC (pv 0) kai) kai) (kaa (pe_op kbh kai (pe_op kaA (pe_op kaC (pv 0) kai) kai)) (kaa (pcl Xf hr1 W.QL (kaa (pe_op kaC (pv 0) kai) kaf)) kaf)))) (pe_op kaA (pv 0) kai) (fun _ _=>rfl)))
   (kac (psl (i:=3) Xg.nd (kcY (kbp (kaq op_eq (pe_op kaA (pe_op kaC (pv 0) kai) kai) kai (kav _)) kaV (pe_op kaA (pe_op kaC (pv 0) kai) kai))))
   (kag (kan (kbg (W.QY.mk' W.qe) V4 hr rfl W.qe.m W.QY.b .nil pass0 (kaa (pe_op kaA (pe_op kaC (pv 0) kai) (pv 1)) (kaa (pv 2) (kaa (pe_op kaA (pe_op kaC (pv 0) kai) kai) (kaa (pv 3) kaf)))))))),?_⟩
  refine sN fun A1 hA1=>?_
  refine⟨_,rfl,_,_,rfl,rfl,⟨by decide,by decide⟩,_,_,rfl,rfl,(by show(0:Int)<30;decide),_,rfl,_,_,rfl,rfl,⟨by decide,by decide⟩,_,_,rfl,rfl,(by show(0:Int)<9;decide),_,_,rfl,rfl,_,rfl,_,_,rfl,rfl,⟨by decide,by decide⟩,_,rfl,fun H1 s1=>⟨(by show 3≤sizeLine;decide),fun l fl=>?_⟩⟩
  exists H1,l,H2,n2,e2,fl
  have hix:atI [V.int (c/3%30),V.int (1+c/3%9),V.int (coinM (c/3))] (c%3)=some (.int (if c%3=0 then c/3%30 else if c%3=1 then 1+c/3%9 else coinM (c/3))):=by
   have hc:c%3=0∨c%3=1∨c%3=2:=by omega
   rcases hc with e|e|e <;> rw[e] <;> rfl
  refine⟨_,rfl,_,_,rfl,rfl,(by show(0:Int)<3;decide),l,_,_,_,rfl,rfl,SqL.of e2,hix,?_⟩
  refine hA1 _ _ ?_
  have s02:=s1.trans n2
  refine sN fun A2 hA2=>?_
  refine⟨fun v H'=>H'=H2∧v=oV (if c/90%2=0 then none else some (c/180%30)),?_,?_⟩
  ·refine⟨_,rfl,_,_,rfl,rfl,⟨by decide,by decide⟩,_,_,rfl,rfl,(by show(0:Int)<2;decide),rfl,_,rfl,ite2 (fun h=>?_) (fun h=>?_)⟩
   ·rw[if_pos (dec_ii.mp h)]
    exact⟨rfl,rfl⟩
   ·rw[if_neg fun z=>h (dec_ii.mpr z)]
    exact⟨_,rfl,_,_,rfl,rfl,⟨by decide,by decide⟩,_,_,rfl,rfl,(by show(0:Int)<30;decide),rfl,rfl⟩
  rintro v H' ⟨rfl,rfl⟩
  refine hA2 _ _ ?_
  exact⟨_,rfl,_,_,rfl,rfl,⟨by decide,by decide⟩,_,rfl,_,_,rfl,rfl,(by show(0:Int)<(n:Int);omega),_,rfl,_,rfl,_,_,rfl,rfl,⟨by decide,by decide⟩,_,_,rfl,rfl,(by show(0:Int)<4;decide),_,rfl,kld (r:=lineM c n) fun H3 y s3 fy hy=>kk H3 y (s02.trans s3) (s02.free fy) hy⟩
theorem keN{b:Nat}:∀(rs:List Row)(k:Nat),(∀r∈rs,r.mn.toNat≤b)→((rs.zipIdx k).map fun p=>U6 p.1.mn.toNat p.2).flatten.length≤b*rs.length
 |[],_,_=>by simp
 |r::rs,k,h=>by
  have h1:=h r Jt
  have ih:=keN (b:=b) rs (k+1) fun x hx=>h x (Jo _ hx)
  rw[Mz,Ji,Jy,Jh,Nc,Jw,Nat.mul_add,Nat.mul_one]
  show r.mn.toNat+_≤_
  omega
theorem kiv{b:Nat}(rs:List Row)(h:∀r∈rs,r.mn.toNat≤b):(ownN rs).length≤b*rs.length:=keN rs 0 h
noncomputable def mixD(c:Int):Int:=(c+3)*39373%2147483587
noncomputable def drawM(ns:List Int)(m:Int)(i:Nat):List Int:=if 8<m then(((ns.drop (6+3*i)).take 3).map mixD).take 1 else((ns.drop (6+3*i)).take 3).map mixD
noncomputable def baskM(ns:List Int)(n:Nat)(m:Int)(i:Nat):Bask:=⟨(drawM ns m i).map (fun c=>lineM c n),(drawM ns m i).headD 0/13%9,decide ((drawM ns m i).getLastD 0%2=0)⟩
noncomputable def bsM(ns:List Int)(n:Nat)(m:Int):Nat→List Bask
 |0=>[]
 |i+1=>if((bsM ns n m i).length:Int)<m then bsM ns n m i++[baskM ns n m i] else bsM ns n m i
noncomputable def cntM(ns:List Int):Nat:=(Builtin.Range.rangeSize 6 (ns.length:Int) 3).toNat
theorem kja{ns:List Int}{i:Nat}(h:i<cntM ns):6+3*i<ns.length:=by
 unfold cntM Builtin.Range.rangeSize at h
 rw[if_pos (by decide)] at h
 split at h <;> omega
theorem khi{ns:List Int}{m:Int}{i:Nat}(h:6+3*i<ns.length):0<(drawM ns m i).length∧(drawM ns m i).length≤3:=by
 unfold drawM
 split
 ·rw[Jg,U0,Jg,JW]
  omega
 ·rw[U0,Jg,JW]
  omega
theorem kjg{ns:List Int}{n:Nat}{m:Int}:∀(i:Nat),(bsM ns n m i).length≤i
 |0=>U2 _
 | i+1=>by
  have:=kjg (ns:=ns) (n:=n) (m:=m) i
  unfold bsM
  split
  ·rw[Jh,Nx]
   omega
  ·omega
theorem bs_wf{ns:List Int}{ps:List (Option Nat)}{m:Int}(g:Good ps)(pl:ps.length≤4)(p0:0<ps.length):∀(i:Nat),i≤cntM ns→∀B∈bsM ns ps.length m i,Wf ps B (stnd0 B)
 |0,_,B,h=>by simp[bsM] at h
 | i +1,hi,B,h=>by
  unfold bsM at h
  split at h
  ·rcases JE.mp h with h|h
   ·exact bs_wf g pl p0 i (by omega) B h
   ·have e:B=baskM ns ps.length m i:=by simpa using h
    rw[e]
    have hd:=khi (m:=m) (kja (show i<cntM ns by omega))
    refine Wf.start g (by omega) (fun r hr=>?_) (fun r hr=>?_) ?_ ?_ ?_
    ·obtain⟨c,_,rfl⟩:=Jp.mp hr
     exact(kgv p0).2.1
    ·obtain⟨c,_,rfl⟩:=Jp.mp hr
     exact(kgv p0).1
    ·show((drawM ns m i).map _).length≤12
     rw[U0]
     omega
    ·show 0≤_/13%9∧_/13%9≤_
     constructor <;> omega
    ·have hm:=kiv (b:=3) (baskM ns ps.length m i).rs (fun r hr=>by
      obtain⟨c,_,rfl⟩:=Jp.mp hr
      have:=(kgv (c:=c) p0).2.2
      omega)
     have hl:(baskM ns ps.length m i).rs.length≤3:=by
      show((drawM ns m i).map _).length≤3
      rw[U0]
      omega
     omega
  ·exact bs_wf g pl p0 i (by omega) B h
noncomputable def BaskX(d:D)(z:Addr)(H:Hp)(b:Addr)(B:Bask):Prop:=b≠z∧∃(l:Addr)(ls:List Addr),l≠z∧BaskAt d.qg H b l B.cg B.m∧H l=some (.lst (ls.map V.ref))∧Lines d.qe H ls B.rs
theorem BaskX.same{d:D}{z b:Addr}{H H':Hp}{B:Bask}(s:Same H H'):BaskX d z H b B→BaskX d z H' b B:=fun⟨n,l,ls,nl,h1,h2,h3⟩=>⟨n,l,ls,nl,h1.same s,s _ _ h2,h3.same s⟩
theorem BaskX.set{d:D}{z b:Addr}{H:Hp}{B:Bask}{xs:List V}{o:HO}(hz:H z=some (.lst xs)):BaskX d z H b B→BaskX d z (upd H z o) b B:=fun⟨n,l,ls,nl,h1,h2,h3⟩=>⟨n,l,ls,nl,h1.set hz,(by rw[kaj nl];exact h2),h3.set hz⟩
theorem BaskX.is{d:D}{z b:Addr}{H:Hp}{B:Bask}:BaskX d z H b B→BaskIs d.qe d.qg H b B:=fun⟨_,l,ls,_,h1,h2,h3⟩=>⟨l,ls,h1,h2,h3⟩
inductive kgV (K:U1) (d:D) (vs:List V) (H:Hp) (Q:VK) (E_:XK):Prop
 |ct (a:Addr)(ns:List Int)(n:Nat)(m:Int)(_:vs=[.ref a,iV n, .int m])(_:m≤8)(_:SqL K H a (ns.map V.int))(_:ns.length≤63)(_:0<n)(_:∀(H':Hp)(l:Addr)(ba:List Addr),Same H H'→H l=none→H' l=some (.lst (ba.map V.ref))→P2 (BaskX d l H') ba (bsM ns n m (cntM ns))→Q (.ref l) H'):kgV K d vs H Q E_
theorem Qx:kao ["_law_script","_law_kinds","_law_most","_law_told","_law_start","_law_drawn"] ["_law_script","_law_kinds","_law_most"] (kae kbn):=by ac_rfl
theorem kef(W:WB K mg d base):FO P w W 4 d.Yv d.Yw ["_law_script","_law_kinds","_law_most"] (kgV K d):=by
 exists W.Zu.F,Qx
 ·obtain⟨a,ns,n,m,rfl,m8,hS,hn63,hn,kk⟩:=h
  exists qo,kbl,W
  exists V5,keE,W
  exists V6,kfO,W
  exists hr1,1,hr,0
  exists hr2,2,hr,0
  refine⟨_,kac (psl (i:=3) Qx.nd (kaP kaf))
   (kac (ka4 PassesOwn.never rfl (keK rfl W.B.range (kaa kai (kaa (kaw (r:=kbL K) kaI (by rfl) W.B.len b_len (kaa (pv 0) kaf)) (kaa kai kaf)))) (pgn (i:=4) Qx.nd)
   (kag (ps_if (kaq op_lt (kaw (r:=kbL K) kaI (by rfl) W.B.len b_len (kaa (pv 3) kaf)) (pv 2) (kav _)) (kac (kgo (N:=["_law_cell"]) (CompScope.plain rfl (by decide +kernel) (by decide +kernel) (by decide +kernel) (nd1 _)) rfl (kaF (K:=K) (kbo (r:=rSlL K) kcb (pv 0) (kbz (pv 4)) (kbz (pe_op kbh (pv 4) kai)))) (fun _ _ _ _=>pgn (i:=0) (nd1 _)) (fun _ _ _ _=>(pcl qo hr1 W.qu (kaa (pe_op kbh (pv 0) kai) (kaa kai (kaa kai kaf))))) (pgn (i:=5) Qx.nd))
   (kag (ka7 (pe_bm JV Nu Nv kbN (pv 3) (kaa (kbg (W.Q1.mk' W.qg) V5 hr2 rfl W.qg.m W.Q1.b .nil pass0 (kaa (kb4 (N:=["_law_cell","_law_kinds"]) (CompScope.of (N:=["_law_cell","_law_kinds"]) (cap:=[none,some 1]) (kae kbn).names ["_law_script","_law_kinds","_law_most","_law_told","_law_start","_law_drawn"] rfl rfl (by decide +kernel)) rfl (kaF (K:=K) (pv 5)) (fun _ _ _ _=>pgn (i:=0) (show(["_law_cell","_law_kinds"]:List Str).Nodup by decide +kernel)) (fun _ _ _ _=>(pcl V6 hr W.Zt (kaa (pv 0) (kaa (pv 1) kaf))))) (kaa (pe_op kaA (pe_op kaC (pe_ix (r:=rIxL K) kaK (pv 5) kai (fun _ _=>rfl)) kai) kai) (kaa (kcg op_eq (pe_op kaA (pe_ix (r:=rIxL K) kaK (pv 5) (pe_un kft kai) (fun _ _=>rfl)) kai) kai (kav _)) kaf)))) kaf))))) (kas))))
   (kag (kan (pv 3)))),?_⟩
  refine⟨by decide,fun l fl=>?_⟩
  exists H,l,H1,n1,e1,fl
  refine⟨_,rfl,a,_,rfl, .inl (n1.seq hS),_,_,_,rfl,⟨by decide,by decide⟩,⟨by omega,by rw[U0];omega⟩,by decide,by decide,?_⟩
  rw[show(Builtin.Range.rangeSize 6 (((ns.map V.int).length:Nat):Int) 3).toNat=cntM ns by unfold cntM;rw[U0]]
  refine kjY (fun i σ H'=>Same H H'∧∃(ba:List Addr)(v4 v5:Option V),H' l=some (.lst (ba.map V.ref))∧P2 (BaskX d l H') ba (bsM ns n m i)∧σ=[some (.ref a),some (iV n),some (.int m),some (.ref l),v4,v5])
   ⟨n1,[],none,none,e1, .nil,rfl⟩ ?_ ?_
  ·rintro i σ H2 hi ⟨s2,ba,v4,v5,el,hba,rfl⟩
   have hlt:=kja hi
   have lba:=hba.len
   have lbs:=kjg (ns:=ns) (n:=n) (m:=m) i
   rw[show(6:Int)+(i:Int)*3=((6+3*i:Nat):Int) by omega]
   refine⟨_,rfl,l,_,rfl, .inl (SqL.of el),_,rfl,_,_,rfl,rfl,_,rfl,?_⟩
   rw[U0,lba]
   by_cases c:((bsM ns n m i).length:Int)<m
   ·rw[decide_eq_true c]
    refine iteT ?_
    refine sN fun A1 hA1=>?_
    refine⟨_,rfl,_,rfl,_,rfl,_,rfl,_,_,rfl,rfl,_,rfl,a,_,rfl,s2.seq hS,fun l3 fl3=>?_⟩
    rw[show((6+3*i:Nat):Int)+3=((6+3*i+3:Nat):Int) by omega,ki6,←NH,←J8]
    exists H2,l3,H3,n3,e3,fl3
    have l3len:((ns.drop (6+3*i)).take 3).length≤3:=by rw[Jg];omega
    refine⟨l3,rfl,⟨_,SqL.of e3⟩,ka5 (xs:=((ns.drop (6+3*i)).take 3).map V.int) (fun j σ ys H'=>H'=H3∧ys=((((ns.drop (6+3*i)).take 3).take j).map mixD).map V.int∧∃v,σ=[v]) ⟨rfl,rfl,none,rfl⟩ (by rw[U0];exact Jf (kap (by omega))) ?_ ?_ ?_⟩
    ·rintro j σ ys H' hj ⟨rfl,rfl,_⟩
     rw[U0] at hj
     exact⟨SqL.of e3,by rw[U0,U0,Jg];omega⟩
    ·rintro j y σ ys H' hy ⟨rfl,rfl,v,rfl⟩
     obtain⟨z,ez,rfl⟩:=kbO hy
     refine⟨_,rfl,_,_,rfl,rfl,_,39373,2147483587,rfl,⟨by decide,by decide⟩,by decide,rfl,?_,_,rfl⟩
     rw[take_snoc ez,Jc,Jc]
     rfl
    rintro σ ys H' ⟨rfl,rfl,v,rfl⟩ l4 fl4
    rw[U0,JB]
    exists H',l4,H4,n4,e4,fl4
    refine hA1 _ _ ?_
    have s24:=n3.trans n4
    have el4d:H4 l4=some (.lst ((drawM ns m i).map V.int)):=by
     unfold drawM
     rw[if_neg (by omega)]
     exact e4
    have s5:=s24
    obtain⟨hd0,hd3⟩:=khi (m:=m) hlt
    have el5:=s5 _ _ el
    obtain⟨q0,eq0⟩:=at_of hd0
    obtain⟨qk,eqk⟩:=at_of (show(drawM ns m i).length-1<(drawM ns m i).length by omega)
    have eh:(drawM ns m i).headD 0=q0:=by
     rw[List.headD_eq_head?_getD,List.head?_eq_getElem?,eq0]
     rfl
    have et:(drawM ns m i).getLastD 0=qk:=by
     rw[Mg,List.getLast?_eq_getElem?,eqk]
     rfl
    have hlast:atI ((drawM ns m i).map V.int) (-1)=some (V.int qk):=kf7 (by rw[U0,Jb,eqk];rfl) (by rw[U0];exact hd0)
    refine⟨_,rfl, .inl ⟨rfl,_,SqL.of el5⟩,_,rfl,l4,rfl,⟨_,SqL.of el4d⟩,ka5 (xs:=(drawM ns m i).map V.int) (fun j σ ys H'=>Same H4 H'∧∃(la:List Addr)(v0:Option V),ys=la.map V.ref∧Lines d.qe H' la (((drawM ns m i).take j).map fun c=>lineM c n)∧σ=[v0,some (iV n)]) ⟨Same.refl _,[],none,rfl, .nil,rfl⟩ (by rw[U0];exact Jf (kap (by omega))) ?_ ?_ ?_⟩
    ·rintro j σ ys H' hj ⟨s6,la,v0,rfl,hla,rfl⟩
     rw[U0] at hj
     have:=hla.len
     rw[U0,Jg] at this
     exact⟨SqL.of (s6 _ _ el4d),by rw[U0];omega⟩
    ·rintro j y σ ys H' hy ⟨s6,la,v0,rfl,hla,rfl⟩
     obtain⟨z,ez,rfl⟩:=kbO hy
     refine⟨_,rfl,_,rfl,z,n,rfl,hn,fun H7 x s7 fx hx=>⟨s6.trans s7,la++[x],_,by rw[Jc];rfl,?_,rfl⟩⟩
     rw[take_snoc ez,Jc]
     exact P2.snoc (hla.same s7) hx
    rintro σ ys H6 ⟨s6,la,v0,rfl,hla,rfl⟩ l7 fl7
    rw[U0,JB] at hla
    exists H6,l7,H7,n7,e7,fl7
    have s57:=s6.trans n7
    refine⟨_,rfl,l4,_,_,_,rfl,rfl,SqL.of (s57 _ _ el4d),kaW (j:=0) (v:=V.int q0) (by rw[Jb,eq0];rfl),_,_,rfl,rfl,⟨by decide,by decide⟩,_,_,rfl,rfl,(by show(0:Int)<9;decide),_,rfl,_,rfl,l4,_,_,_,rfl,rfl,SqL.of (s57 _ _ el4d),hlast,_,_,rfl,rfl,(by show(0:Int)<2;decide),rfl,klf (SqL.of e7) fun H8 b l' s8 fb fl' hl' hb'=>?_⟩
    have s28:=(s5.trans s57).trans s8
    have el8:=s28 _ _ el
    refine⟨l,_,_,rfl,rfl,el8,kap (by rw[U0];omega),?_⟩
    rw[show ba.map V.ref++[V.ref b]=(ba++[b]).map V.ref by rw[Jc];rfl]
    refine⟨kat fl (s2.trans s28) (nx el8),ba++[b],_,_,kad,?_,rfl⟩
    unfold bsM
    rw[if_pos c]
    have el7:=(s5.trans s57) _ _ el
    refine P2.snoc (hba.mono fun b B h=>(h.same s28).set el8) (BaskX.set el8 ⟨(kah el7 fb).symm,l',la,(kah el7 fl').symm,?_,hl',(hla.same n7).same s8⟩)
    unfold baskM
    simp only
    rw[eh,et,show decide (qk%2=0)=decide (V.int (qk%2)=V.int 0) by rw[kgC];rfl]
    exact hb'
   ·rw[decide_eq_false c]
    refine iteF ⟨s2,ba,_,_,el,?_,rfl⟩
    unfold bsM
    rw[if_neg c]
    exact hba
  ·rintro σ H2 ⟨s2,ba,v4,v5,el,hba,rfl⟩
   exact⟨_,rfl,kk H2 l ba s2 fl el hba⟩
noncomputable def lkOf(T:TillD)(n k:Nat):Bask→List (List Nat×Stnd)→Option (List Itm):=if k=0 then lkUse n else if k=1 then lkUnl else kfh T
inductive spAsk (d:D) (vs:List V) (H:Hp) (Q:VK) (E_:XK):Prop
 |ct (t bl:Addr)(k n:Nat)(ba:List Addr)(T:TillD)(bs:List Bask)(_:vs=[iV k, .ref t,iV n, .ref bl])(_:TillIs d H t T)(_:kcq T)(_:T.vs.length≤5)(_:H bl=some (.lst (ba.map V.ref)))(_:P2 (fun a B=>BaskIs d.qe d.qg H a B∧Wf T.ps B (stnd0 B)) ba bs)(_:TbAt d.tP_first_use H)(_:∀(H':Hp)(v:V),Same H H'→FdG H H' v (kbD (lkOf T n k) T bs 0)→Q v H'):spAsk d vs H Q E_
theorem ke1:kao ["_law_kind","_law_till_here","_law_voucher_here","_law_baskets_here"] ["_law_kind","_law_till_here","_law_voucher_here","_law_baskets_here"] (kae kcu):=by ac_rfl
theorem kc3(W:WB K mg d base):FO P w W 22 d.Yx d.Yy ["_law_kind","_law_till_here","_law_voucher_here","_law_baskets_here"] (spAsk d):=by
 exists W.QM.F,ke1
 ·obtain⟨t,bl,k,n,ba,T,bs,rfl,hT,tok,h5,hbl,hba,htb,kk⟩:=h
  exists V7,kfM,W
  exists V8,kea,W
  exists V9,keC,W
  refine⟨_,kac (ps_if (kaq op_eq (pv 0) kai (kav _)) (kag (kan (pcl V7 hr W.Zi (kaa (pv 1) (kaa (pv 2) (kaa (pv 3) kaf)))))) (kas))
   (kac (ps_if (kaq op_eq (pv 0) kai (kav _)) (kag (kan (pcl V8 hr W.Zj (kaa (pv 1) (kaa (pv 3) kaf))))) (kas))
   (kag (kan (pcl V9 hr W.Zk (kaa (pv 1) (kaa (pv 3) kaf)))))),?_⟩
  refine⟨_,rfl,rfl,_,rfl,ite2 (fun c=>?_) (fun c=>?_)⟩
  ·have c0:k=0:=by have:=dec_ii.mp c;omega
   unfold lkOf at kk
   rw[if_pos c0] at kk
   exact⟨_,rfl,_,rfl,_,rfl,t,bl,n,ba,T,bs,rfl,hT,tok,h5,hbl,hba,htb,kk⟩
  have c0:¬k=0:=fun z=>by
   rw[z] at c
   exact absurd c (by simp[show iV 0=V.int 0 from rfl])
  refine⟨_,rfl,rfl,_,rfl,ite2 (fun c=>?_) (fun c=>?_)⟩
  ·have c1:k=1:=by have:=dec_ii.mp c;omega
   unfold lkOf at kk
   rw[if_neg c0,if_pos c1] at kk
   exact⟨_,rfl,_,rfl,t,bl,ba,T,bs,rfl,hT,tok,h5,hbl,hba,kk⟩
  have c1:¬k=1:=fun z=>by
   rw[z] at c
   exact absurd c (by simp[show iV 1=V.int 1 from rfl])
  unfold lkOf at kk
  rw[if_neg c0,if_neg c1] at kk
  exact⟨_,rfl,_,rfl,t,bl,ba,T,bs,rfl,hT,tok,h5,hbl,hba,kk⟩
inductive kkj (d:D) (vs:List V) (H:Hp) (Q:VK) (E_:XK):Prop
 |ct (t bl:Addr)(k n:Nat)(ba:List Addr)(T:TillD)(bs:List Bask)(_:vs=[iV k, .ref t,iV n, .ref bl])(_:TillIs d H t T)(_:kcq T)(_:T.vs.length≤5)(_:H bl=some (.lst (ba.map V.ref)))(_:bs.length≤1000)(_:P2 (fun a B=>BaskIs d.qe d.qg H a B∧Wf T.ps B (stnd0 B)) ba bs)(_:TbAt d.tP_first_use H)(_:∀(H':Hp)(v:V),Same H H'→FdG H H' v (kbD (lkOf T n k) T bs 0)→Q v H'):kkj d vs H Q E_
theorem Xh:kao ["_law_kind","_law_till_here","_law_voucher_here","_law_baskets_here","_law_at","_law_found"] ["_law_kind","_law_till_here","_law_voucher_here","_law_baskets_here"] (kae kdj):=by ac_rfl
theorem kgr(W:WB K mg d base):FO P w W 23 d.Yz d.YA ["_law_kind","_law_till_here","_law_voucher_here","_law_baskets_here"] (kkj d):=by
 exists W.Zv.F,Xh
 ·obtain⟨t,bl,k,n,ba,T,bs,rfl,hT,tok,h5,hbl,lbs,hba,htb,kk⟩:=h
  have lba:=hba.len
  exists Xi,kc3,W
  refine⟨_,kac (ka4 PassesOwn.never rfl (kb7 rfl W.B.range (kaa (kaw (r:=kbL K) kaI (by rfl) W.B.len b_len (kaa (pv 3) kaf)) kaf)) (pgn (i:=4) Xh.nd)
   (kac (psl (i:=5) Xh.nd (pcl Xi hr W.QM (kaa (pv 0) (kaa (pv 1) (kaa (pv 2) (kaa (kaP (kaa (pe_ix (r:=rIxL K) kaK (pv 3) (pv 4) (fun _ _=>rfl)) kaf)) kaf))))))
   (kag (ps_if (kaq kcS (pv 5) kaV (kav _)) (kac (ps_if (PW.pt (pw_or (kik (ka0 (kaw (r:=rIsi K) ka2 (by rfl) W.B.isi b_isi (kaa (pv 5) (kaa (kis (v:=.ty "tuple") (by rfl) W.B.tuple kjh rfl) kaf))))) (kg1 (kaq op_ne (pe_ix (r:=rIxT K) klW (pv 5) kai (fun _ _=>rfl)) kai (kav _))))) (kag (kan kbT)) (kas))
   (kag (kan (pe_op kix (kcI (kaa (pv 4) kaf)) (kbo (r:=rSlT K) klD (pv 5) (kbz kai) kcw))))) (kas)))))
   (kag (kan kaV)),?_⟩
  generalize eR:kbD (lkOf T n k) T bs 0=R at kk
  refine⟨_,rfl,bl,_,rfl, .inl (SqL.of hbl),_,rfl,by omega,(by rw[U0];omega),?_⟩
  rw[show(((ba.map V.ref).length:Nat):Int).toNat=bs.length by rw[U0];omega]
  refine kcA (fun i σ H'=>Same H H'∧∃(v4 v5:Option V),kbD (lkOf T n k) T (bs.drop i) i=R∧σ=[some (iV k),some (.ref t),some (iV n),some (.ref bl),v4,v5])
   ⟨Same.refl _,none,none,eR,rfl⟩ ?_ ?_
  ·rintro i σ H1 hi ⟨s1,v4,v5,hR,rfl⟩
   rw[Int.zero_add]
   obtain⟨b,eb⟩:=at_of (show i<ba.length by omega)
   obtain⟨B,eB,hB,wf0⟩:=hba.at eb
   have ed:bs.drop i=B::bs.drop (i+1):=by
    obtain⟨h1,h2⟩:=Ja.mp eB
    rw[NA h1,h2]
   rw[ed] at hR
   unfold kbD at hR
   refine⟨_,rfl,_,rfl,_,rfl,_,rfl,_,rfl,bl,_,_,_,rfl,rfl,SqL.of (s1 _ _ hbl),kaW (v:=V.ref b) (by rw[Jb,eb];rfl),(by show 1≤sizeLine;decide),fun l2 fl2=>?_⟩
   exists H1,l2,H2,n2,e2,fl2
   have s2:=s1.trans n2
   refine⟨t,l2,k,n,[b],T,[B],rfl,hT.same s2,tok,h5,e2, .cons ⟨hB.same s2,wf0⟩ .nil,s2.tb htb,fun H3 v s3 hv=>?_⟩
   have s03:=s2.trans s3
   have e1:kbD (lkOf T n k) T [B] 0=(lkOf T n k B (waysM T B (ones T) 10 [] (stnd0 B))).map fun is=>(0,is):=by
    show(match lkOf T n k B (waysM T B (ones T) 10 [] (stnd0 B)) with|some is=>some (0,is)|none=>none)=_
    cases lkOf T n k B (waysM T B (ones T) 10 [] (stnd0 B)) <;> rfl
   rw[e1] at hv
   cases cs:lkOf T n k B (waysM T B (ones T) 10 [] (stnd0 B)) with
   |none=>
    rw[cs] at hR hv
    have ev:v=.non:=hv
    subst ev
    refine⟨_,rfl,rfl,_,rfl,?_⟩
    rw[show(!decide (V.non=V.non))=false by simp]
    exact iteF ⟨s03,_,_,hR,rfl⟩
   | some is=>
    rw[cs] at hR hv
    obtain⟨p,vs,rfl,ep,hi3,l3,ne⟩:=hv
    refine⟨_,rfl,rfl,_,rfl,?_⟩
    rw[show(!decide (V.ref p=V.non))=true by simp]
    refine iteT ?_
    refine⟨_,rfl,_,_,_,_,rfl, .inl ⟨_,rfl⟩,TyOf.tup ep,kcE _ _,_,rfl,iteF ?_⟩
    refine⟨_,rfl,p,_,_,_,rfl,rfl,SqT.of ep,kaW (j:=0) (v:=iV 0) rfl,rfl,_,rfl,?_⟩
    rw[show(!decide (iV 0=V.int 0))=false by simp[show iV 0=V.int 0 from rfl]]
    refine iteF ?_
    refine⟨_,rfl,(by show 1≤sizeLine;decide),fun t4 ft4=>?_⟩
    exists H3,t4,H4,n4,e4,ft4
    refine⟨_,rfl,_,rfl,p,_,rfl,SqT.of (n4 _ _ ep),?_,fun q5 fq5=>?_⟩
    ·rw[show HT.sIx (iV 0::vs).length 0 (some 1)=1 by unfold HT.sIx;simp]
     simp
    rw[show cutV (iV 0::vs) (some 1) none=vs from(by rw[show(1:Int)=((1:Nat):Int) from rfl,khk];rfl)]
    exists H4,q5,H5,n5,e5,fq5
    refine⟨t4,q5,_,_,rfl,rfl,SqT.of (n5 _ _ e4),SqT.of e5,(fun z=>by cases z),Jf (kap (by show(1+vs.length)≤1000;omega)),(fun z=>absurd z ne),fun _ r6 fr6=>?_⟩
    exists H5,r6,H6,n6,e6,fr6
    have n36:=(n4.trans n5).trans n6
    refine kk H6 (.ref r6) (s03.trans n36) ?_
    rw[←hR]
    exact⟨r6,vs,rfl,e6,hi3.mono fun v i h=>(h.same n36).free s2,l3,ne⟩
  ·rintro σ H1 ⟨s1,v4,v5,hR,rfl⟩
   rw[NB] at hR
   refine kk H1 .non s1 ?_
   rw[←hR]
   rfl
theorem klg{K:U1}{H0 H1 H:Hp}{v w:V}:∀{i:Itm},ItmAt H0 H v i→ItmAt H1 H w i→DEq K H 32 v w
 | .l o,⟨a,e1,_,h1⟩,⟨b,e2,_,h2⟩=>by
  rw[e1,e2]
  exact .flats (SqL.of h1) (SqL.of h2) (kci o)
 | .n k,h1,h2=>by
  rw[show v=iV k from h1,show w=iV k from h2]
  exact .self rfl
theorem klZ{K:U1}{H0 H1 H:Hp}{j:Nat}{vs ws:List V}{is:List Itm}(h1:P2 (fun v i=>ItmAt H0 H v i) vs is)(h2:P2 (fun v i=>ItmAt H1 H v i) ws is):(iV j::vs).length=(iV j::ws).length∧∀(i:Nat)(x y:V),(iV j::vs)[i]?=some x→(iV j::ws)[i]?=some y→DEq K H 32 x y:=by
 refine⟨by rw[Jw,Jw,h1.len,h2.len],fun i x y e1 e2=>?_⟩
 cases i with
 |zero=>
  have z1:iV j=x:=by simpa using e1
  have z2:iV j=y:=by simpa using e2
  rw[←z1,←z2]
  exact .self rfl
 |succ i=>
  obtain⟨a,ea,ha⟩:=h1.at (show vs[i]?=some x by simpa using e1)
  obtain⟨b,eb,hb⟩:=h2.at (show ws[i]?=some y by simpa using e2)
  rw[ea] at eb
  cases eb
  exact klg ha hb
theorem FdG.same{H0 H H':Hp}{v:V}(s:Same H H'):∀{r:Option (Nat×List Itm)},FdG H0 H v r→FdG H0 H' v r
 |none,h=>h
 |some (_,_),⟨p,vs,e,h1,h2,h3⟩=>⟨p,vs,e,s _ _ h1,h2.mono fun _ _ h=>h.same s,h3⟩
noncomputable def RowAt(d:D)(T:TillD)(H:Hp)(a:Addr)(r:List Addr×List Bask):Prop:=H a=some (.lst (r.1.map V.ref))∧P2 (fun a B=>BaskIs d.qe d.qg H a B∧Wf T.ps B (stnd0 B)) r.1 r.2∧r.2.length≤500
theorem RowAt.same{d:D}{T:TillD}{H H':Hp}{a:Addr}{r:List Addr×List Bask}(s:Same H H'):RowAt d T H a r→RowAt d T H' a r:=fun⟨h1,h2,h3⟩=>⟨s _ _ h1,h2.mono fun a B h=>⟨h.1.same s,h.2⟩,h3⟩
theorem kls{ns:List Int}:cntM ns≤ns.length:=by
 cases e:cntM ns with
 |zero=>exact Jv _
 |succ n=>
  have:=kja (ns:=ns) (i:=n) (by omega)
  omega
theorem qt:kao ["_law_script","_law_wide","_law_till_here","_law_baskets_here","_law_voucher_here","_law_turn","_law_row","_law_kind","_law_handed","_law_due_here","_law_found"] ["_law_script"] (kae s_law):=by ac_rfl
theorem klP(W:WB K mg d base):FO P w W 24 d.f_law d.YB ["_law_script"] (kdZ K d.tP_falling_groups d.tP_first_use):=by
 refine FunD.ok W.d_law.F qt (fun vs H Q E h=>?_) (fun cdv A outer s H vs Q E hr h=>?_)
 ·obtain⟨a,ns,rfl,_⟩:=h
  rfl
 ·obtain⟨a,ns,rfl,hS,hn,htb0,htb1,k⟩:=h
  exists Ua,kfN,W
  exists Ub,kef,W
  exists Uc,kgr,W
  exists Xi,kc3,W
  exists hr4,4,hr,0
  exists hr7,7,hr,0
  exists hr22,22,hr,0
  refine⟨_,kac (psl (i:=1) qt.nd (kcg op_eq (pe_op kaA (pe_op kaC (kaw (r:=rSum K) (kcm rfl) (by rfl) W.B.sum b_sum (kaa (kbo (r:=rSlL K) kcb (pv 0) kcw (kbz kai)) kaf)) kai) kai) kai (kav _)))
   (kac (psl (i:=2) qt.nd (pcl Ua hr7 W.Zs (kaa (pv 0) (kaa (kcY (kbp (ka0 (pv 1)) kai kai)) kaf))))
   (kac (psl (i:=3) qt.nd (pcl Ub hr4 W.Zu (kaa (pv 0) (kaa (kaw (r:=kbL K) kaI (by rfl) W.B.len b_len (kaa (kak (K:=K) (pv 2) rfl) kaf)) (kaa (kcY (kbp (ka0 (pv 1)) kai kai)) kaf)))))
   (kac (psl (i:=4) qt.nd (pe_op kaA (kaw (r:=rSum K) (kcm rfl) (by rfl) W.B.sum b_sum (kaa (kbo (r:=rSlL K) kcb (pv 0) (kbz (pe_un kft kai)) kcw) kaf)) (kaw (r:=kbL K) kaI (by rfl) W.B.len b_len (kaa (kak (K:=K) (pv 2) rfl) kaf))))
   (kac (psl (i:=5) qt.nd (pe_op kaA (pe_op kaC (kaw (r:=rSum K) (kcm rfl) (by rfl) W.B.sum b_sum (kaa (kbo (r:=rSlL K) kcb (pv 0) (kbz (pe_un kft kai)) kcw) kaf)) kai) (pe_op kbh (kaw (r:=kbL K) kaI (by rfl) W.B.len b_len (kaa (pv 3) kaf)) kai)))
   (kac (ka4 PassesOwn.never rfl (kaF (K:=K) (kaP (kaa (pv 3) (kaa (pe_op kiy (pe_op kiy (kbo (r:=rSlL K) kcb (pv 3) (kbz (pv 5)) kcw) (kbo (r:=rSlL K) kcb (pv 3) kcw (kbz (pv 5)))) (kbo (r:=rSlL K) kcb (pv 3) kcw (kbz kai))) kaf)))) (pgn (i:=6) qt.nd)
   (kag (ka4 PassesOwn.never rfl (kb7 rfl W.B.range (kaa kai kaf)) (pgn (i:=7) qt.nd)
   (kac (psl (i:=8) qt.nd (kaQ (r:=kby K) kaE (by rfl) W.B.list kca (kaa (pv 6) kaf)))
   (kac (psl (i:=9) qt.nd (pcl Uc hr W.Zv (kaa (pv 7) (kaa (pv 2) (kaa (pv 4) (kaa (pv 6) kaf))))))
   (kac (psl (i:=10) qt.nd (pcl Xi hr22 W.QM (kaa (pv 7) (kaa (pv 2) (kaa (pv 4) (kaa (pv 8) kaf))))))
   (kag (ps_if (PW.pt (pw_or (kaq (kiw (kks hr.units) op_ne) (pv 10) (pv 9) (kav _)) (pw_or (ka0 (kaw (r:=rIsi K) ka2 (by rfl) W.B.isi b_isi (kaa (pv 9) (kaa (kis (v:=.ty "str") (by rfl) W.B.str b_str rfl) kaf)))) (kg1 (kaq (kks hr.units) (pv 8) (pv 6) (kav _)))))) (kag (kan pe_bl)) (kas)))))))))
   (kag (kan pe_bl))))))),?_⟩
  refine sN fun A1 hA1=>?_
  exists Y4
  refine⟨_,rfl,_,rfl,a,_,rfl,hS,fun l1 fl1=>?_⟩
  rw[show(1:Int)=((1:Nat):Int) from rfl,khj,←J8]
  exists H,l1,H1,n1,e1,fl1
  symm
  exists Y4
  refine⟨l1,_,rfl,SqL.of e1,_,_,rfl,rfl,⟨by decide,by decide⟩,_,_,rfl,rfl,(by show(0:Int)<8;decide),rfl,?_⟩
  symm
  refine hA1 _ _ ?_
  clear hA1
  generalize decide (V.int ((ns.take 1).sum/20%8)=V.int 3)=wide
  symm
  refine sN fun A2 hA2=>?_
  symm
  exists Y4
  refine⟨_,rfl,⟨fun v H'=>H'=H1∧∃m:Nat,0<m∧m≤4∧v=iV m,?_,?_⟩⟩
  ·exact⟨_,rfl,_,rfl,ite2 (fun _=>⟨rfl,4,by decide,by decide,rfl⟩) (fun _=>⟨rfl,3,by decide,by decide,rfl⟩)⟩
  rintro v H' ⟨rfl,m,m0,m4,rfl⟩
  symm
  exists Y4
  refine⟨a,ns,m,rfl,n1.seq hS,hn,m0,m4,Tbs.same n1 htb0,fun H2 t T s2 ft hT tok v0 v4 hg p4 p0=>?_⟩
  symm
  refine hA2 _ _ ?_
  clear hA2
  have s02:=n1.trans s2
  obtain⟨dxt,fst,pt,vl,rl,va,ra,ht,t1,t2,t3,t4,hpt,hvl,hva,hrl,hra⟩:=id hT
  have elp:(T.ps.map pV).length=T.ps.length:=U0 _
  symm
  refine sN fun A3 hA3=>?_
  symm
  exists Y4
  refine⟨_,rfl,_,rfl,t,d.qd,dxt,fst,_,rfl,ht,W.qd.cl,W.qS,t1,pt,_,rfl, .inl (SqL.of hpt),⟨fun v H'=>H'=H2∧∃m:Int,m≤4∧v=.int m,?_,?_⟩⟩
  ·exact⟨_,rfl,_,rfl,ite2 (fun _=>⟨rfl,1,by decide,rfl⟩) (fun _=>⟨rfl,4,by decide,rfl⟩)⟩
  rintro v H' ⟨rfl,m4,hm4,rfl⟩
  symm
  exists Y4
  refine⟨a,ns,T.ps.length,m4,(by rw[elp];rfl),by omega,s02.seq hS,hn,p0,fun H4 bl ba s24 fbl ebl hba=>?_⟩
  symm
  refine hA3 _ _ ?_
  clear hA3
  have s04:=s02.trans s24
  have wfs:=bs_wf (ns:=ns) (m:=m4) hg p4 p0 (cntM ns) (U2 _)
  have lbs:=kjg (ns:=ns) (n:=T.ps.length) (m:=m4) (cntM ns)
  have lcn:=kls (ns:=ns)
  have hbb:P2 (fun a B=>BaskIs d.qe d.qg H4 a B∧Wf T.ps B (stnd0 B)) ba (bsM ns T.ps.length m4 (cntM ns)):=P2.of hba.len fun i a B e1 e2=>⟨(hba.get e1 e2).is,wfs B (U9 e2)⟩
  have lb63:(bsM ns T.ps.length m4 (cntM ns)).length≤63:=by omega
  clear hba wfs lbs lcn
  generalize bsM ns T.ps.length m4 (cntM ns)=bs at *
  have lba:=hbb.len
  have hT4:=hT.same s24
  have htb4:TbAt d.tP_first_use H4:=s04.tb htb1
  have lva:=hva.len
  have ht4:=s24 _ _ ht
  have hvl4:=s24 _ _ hvl
  have hS4:=s04.seq hS
  clear hT htb1 htb0 ht hvl hpt hva hrl hra
  symm
  refine sN fun A4 hA4=>?_
  symm
  exists Y4
  refine⟨_,rfl,_,rfl,_,rfl,a,_,rfl,hS4,fun l5 fl5=>?_⟩
  obtain⟨ms,em,_⟩:=kj4 ns (some (-1)) none
  rw[em]
  exists H4,l5,H5,n5,e5,fl5
  have el:(((va.map V.ref).length:Nat):Int)=(T.vs.length:Int):=by rw[U0,lva]
  symm
  exists Y4
  refine⟨l5,_,rfl,SqL.of e5,_,rfl,t,d.qd,dxt,fst,_,rfl,n5 _ _ ht4,W.qd.cl,W.qC,t2,vl,_,rfl, .inl (SqL.of (n5 _ _ hvl4)),_,_,rfl,rfl,(by rw[el];omega),?_⟩
  rw[el]
  obtain⟨n,en⟩:=Int.eq_ofNat_of_zero_le (Int.emod_nonneg ms.sum (show(T.vs.length:Int)≠0 by omega))
  dsimp only
  rw[show V.int (ms.sum%(T.vs.length:Int))=iV n from congrArg V.int en]
  symm
  refine hA4 _ _ ?_
  clear hA4
  symm
  refine sN fun A5 hA5=>?_
  symm
  exists Y4
  refine⟨_,rfl,_,rfl,_,rfl,a,_,rfl,n5.seq hS4,fun l6 fl6=>?_⟩
  rw[em]
  exists H5,l6,H6,n6,e6,fl6
  have s46:=n5.trans n6
  have el2:(((ba.map V.ref).length:Nat):Int)=(bs.length:Int):=by rw[U0,lba]
  symm
  exists Y4
  refine⟨l6,_,rfl,SqL.of e6,_,_,rfl,rfl,⟨by decide,by decide⟩,_,rfl,bl,_,rfl, .inl (SqL.of (s46 _ _ ebl)),_,_,rfl,rfl,_,_,rfl,rfl,(by rw[el2];omega),?_⟩
  rw[el2]
  obtain⟨tn,etn⟩:=Int.eq_ofNat_of_zero_le (Int.emod_nonneg (ms.sum/3) (show(bs.length:Int)+1≠0 by omega))
  dsimp only
  rw[show V.int (ms.sum/3%((bs.length:Int)+1))=iV tn from congrArg V.int etn]
  symm
  refine hA5 _ _ ?_
  clear hA5
  have ebl6:=s46 _ _ ebl
  have hbb6:=hbb.mono (R':=fun a B=>BaskIs d.qe d.qg H6 a B∧Wf T.ps B (stnd0 B)) fun a B h=>⟨h.1.same s46,h.2⟩
  symm
  refine sN fun A6 hA6=>?_
  symm
  exists Y4
  refine⟨_,rfl,?_⟩
  symm
  exists Y4
  refine⟨_,rfl,_,rfl,_,rfl,bl,_,rfl,SqL.of ebl6,fun l7 fl7=>?_⟩
  rw[khk,←NH]
  exists H6,l7,H7,n7,e7,fl7
  symm
  exists Y4
  refine⟨_,rfl,_,rfl,_,rfl,bl,_,rfl,SqL.of (n7 _ _ ebl6),fun l8 fl8=>?_⟩
  rw[khj,←J8]
  exists H7,l8,H8,n8,e8,fl8
  symm
  exists Y4
  refine⟨l7,l8,_,_,rfl,rfl,n8 _ _ e7,e8,Jf (kap (by rw[U0,U0,JW,Jg];omega)),fun l9 fl9=>?_⟩
  rw[←Jc]
  exists H8,l9,H9,n9,e9,fl9
  have s69:=(n7.trans n8).trans n9
  symm
  exists Y4
  refine⟨_,rfl,_,rfl,bl,_,rfl,SqL.of (s69 _ _ ebl6),fun l10 fl10=>?_⟩
  rw[show(1:Int)=((1:Nat):Int) from rfl,khj,←J8]
  exists H9,l10,H10,n10,e10,fl10
  symm
  exists Y4
  refine⟨l9,l10,_,_,rfl,rfl,n10 _ _ e9,e10,Jf (kap (by rw[U0,U0,Jh,JW,Jg,Jg];omega)),fun l11 fl11=>?_⟩
  rw[←Jc]
  exists H10,l11,H11,n11,e11,fl11
  symm
  exists Y4
  refine⟨(by show 2≤sizeLine;decide),fun rl frl=>?_⟩
  exists H11,rl,H12,n12,e12,frl
  have s612:=(s69.trans (n10.trans n11)).trans n12
  have s412:=s46.trans s612
  have hb12:=hbb6.mono (R':=fun a B=>BaskIs d.qe d.qg H12 a B∧Wf T.ps B (stnd0 B)) fun a B h=>⟨h.1.same s612,h.2⟩
  have rows:P2 (fun a r=>RowAt d T H12 a r) [bl,l11] [(ba,bs),(ba.drop tn++ba.take tn++ba.take 1,bs.drop tn++bs.take tn++bs.take 1)]:=
   .cons ⟨s612 _ _ ebl6,hb12,by show bs.length≤500;omega⟩ (.cons ⟨n12 _ _ e11,P2.append (P2.append (hb12.drop tn) (hb12.take tn)) (hb12.take 1),by show(bs.drop tn++bs.take tn++bs.take 1).length≤500;rw[Jh,Jh,JW,Jg,Jg];omega⟩ .nil)
  have hT12:=hT4.same s412
  have htb12:TbAt d.tP_first_use H12:=s412.tb htb4
  symm
  exists Y4
  refine⟨rl,rfl,⟨_,SqL.of e12⟩,kbi (xs:=[bl,l11].map V.ref) (fun i σ H'=>Same H12 H'∧∃(v6 v7 v8 v9 v10:Option V),σ=[some (.ref a),some (.bl wide),some (.ref t),some (.ref bl),some (iV n),some (iV tn),v6,v7,v8,v9,v10])
   ⟨Same.refl _,none,none,none,none,none,rfl⟩ (fun i σ H' _ h=>SqL.of (h.1 _ _ e12)) ?_ ?_⟩
  ·rintro i y σ H13 hy ⟨s13,v6,v7,v8,v9,v10,rfl⟩
   obtain⟨rw',erw,rfl⟩:=kbK hy
   obtain⟨⟨ra,rb⟩,_,hrow⟩:=rows.at erw
   obtain⟨hr1,hr2,hr3⟩:=hrow.same s13
   simp only at hr1 hr2 hr3
   have lra:=hr2.len
   symm
   exists Y6
   refine⟨_,rfl,by decide,by decide,?_⟩
   nofun
   refine kcA (n:=3) (fun i σ H'=>Same H13 H'∧∃(v7 v8 v9 v10:Option V),σ=[some (.ref a),some (.bl wide),some (.ref t),some (.ref bl),some (iV n),some (iV tn),some (.ref rw'),v7,v8,v9,v10])
    ⟨Same.refl _,_,_,_,_,rfl⟩ ?_ ?_
   ·rintro kd σ H14 hkd ⟨s14,v7,v8,v9,v10,rfl⟩
    rw[Int.zero_add]
    have s1214:=s13.trans s14
    nofun
    refine sN fun B1 hB1=>?_
    nofun
    exists Y8
    refine⟨_,rfl,rw',_,rfl, .inl (SqL.of (s14 _ _ hr1)),fun hd fhd=>?_⟩
    exists H14,hd,H15,n15,ehd,fhd
    exists 3
    refine hB1 _ _ ?_
    clear hB1
    have s1315:=s14.trans n15
    have s1215:=s1214.trans n15
    exists 3
    refine sN fun B2 hB2=>?_
    exists 3
    exists Y8
    refine⟨_,rfl,_,rfl,_,rfl,_,rfl,t,rw',kd,n,ra,T,rb,rfl,hT12.same s1215,tok,by omega,s1315 _ _ hr1,by omega,hr2.mono (fun a B h=>⟨h.1.same s1315,h.2⟩),s1215.tb htb12,fun H16 vd s16 hvd=>?_⟩
    exists 3
    refine hB2 _ _ ?_
    clear hB2
    have s1316:=s1315.trans s16
    have s1216:=s1215.trans s16
    exists 3
    refine sN fun B3 hB3=>?_
    exists 3
    exists Y8
    refine⟨_,rfl,_,rfl,_,rfl,_,rfl,t,hd,kd,n,ra,T,rb,rfl,hT12.same s1216,tok,by omega,s16 _ _ ehd,hr2.mono (fun a B h=>⟨h.1.same s1316,h.2⟩),s1216.tb htb12,fun H17 vf s17 hvf=>?_⟩
    exists 3
    refine hB3 _ _ ?_
    clear hB3
    have s1317:=s1316.trans s17
    have hvd17:=hvd.same s17
    have ehd17:=(s16.trans s17) _ _ ehd
    have hr17:=s1317 _ _ hr1
    cases eR:kbD (lkOf T n kd) T rb 0 with
    | none=>
     rw[eR] at hvd17 hvf
     have e1:vd=.non:=hvd17
     have e2:vf=.non:=hvf
     subst e1 e2
     exists 3
     exists Y10
     refine⟨_,rfl,_,rfl, .inr ⟨rfl,?_⟩⟩
     rw[show(!decide (V.non=V.non))=false by simp]
     exists 4
     exists Y10
     refine⟨_,rfl,iteF ?_⟩
     exists 4
     exists Y10
     refine⟨_,rfl,_,_,_,_,rfl, .inl ⟨_,rfl⟩,TyOf.non,kkx (by decide +kernel) (by decide +kernel) (by decide +kernel),_,rfl,iteF ?_⟩
     exists 4
     exists Y10
     refine⟨_,rfl,_,rfl,hd,rw',_,_,rfl,rfl, .inl ⟨SqL.of ehd17,SqL.of hr17⟩,rfl,fun i x y e1 e2=>?_,_,rfl,iteF ?_⟩
     ·rw[e1] at e2
      cases e2
      obtain⟨z,_,rfl⟩:=kbK e1
      exists 4
      exact .same z
     exists 4
     exact⟨s1317,_,_,_,_,rfl⟩
    | some z=>
     obtain⟨j,is⟩:=z
     rw[eR] at hvd17 hvf
     obtain⟨p,vs,rfl,ep,hi,_⟩:=hvf
     obtain⟨pd,ws,rfl,epd,hid,_⟩:=hvd17
     obtain⟨q1,q2⟩:=klZ (K:=K) (j:=j) hi hid
     exists 3
     exists Y10
     refine⟨_,rfl,_,rfl, .inl ⟨p,pd,_,_,rfl,rfl, .inr ⟨SqT.of ep,SqT.of epd⟩,q1,q2,_,rfl,iteF ?_⟩⟩
     exists 4
     exists Y10
     refine⟨_,rfl,_,_,_,_,rfl, .inl ⟨_,rfl⟩,TyOf.tup epd,kkx (by decide +kernel) (by decide +kernel) (by decide +kernel),_,rfl,iteF ?_⟩
     exists 4
     exists Y10
     refine⟨_,rfl,_,rfl,hd,rw',_,_,rfl,rfl, .inl ⟨SqL.of ehd17,SqL.of hr17⟩,rfl,fun i x y e1 e2=>?_,_,rfl,iteF ?_⟩
     ·rw[e1] at e2
      cases e2
      obtain⟨z,_,rfl⟩:=kbK e1
      exists 4
      exact .same z
     exists 4
     exact⟨s1317,_,_,_,_,rfl⟩
   ·rintro σ H14 ⟨s14,v7,v8,v9,v10,rfl⟩
    exists 3
    exact⟨s13.trans s14,_,_,_,_,_,rfl⟩
  rintro σ H13 ⟨s13,v6,v7,v8,v9,v10,rfl⟩
  symm
  refine hA6 _ _ ?_
  symm
  exact k _
end
end Vs
namespace Vs
open PySem L2
theorem ln0{C:List Value→Prop}(k:C []):∀us:List Value,us.length=0→C us:=fun us h=>by
 cases us with
 |nil=>exact k
 |cons a us=>cases h
theorem lnS{C:List Value→Prop}{n:Nat}(k:∀(a:Value)(us:List Value),us.length=n→C (a::us)):∀us:List Value,us.length=n+1→C us:=fun us h=>by
 cases us with
 |nil=>cases h
 |cons a us=>exact k a us (Nat.succ.inj h)
def nL1{C:List Value→Prop}(k:∀a0:Value,C [a0]):∀us:List Value,us.length=1→C us:=lnS fun a0=>ln0 (k a0)
def nL2{C:List Value→Prop}(k:∀a0 a1:Value,C [a0,a1]):∀us:List Value,us.length=2→C us:=lnS fun a0=>lnS fun a1=>ln0 (k a0 a1)
def nL3{C:List Value→Prop}(k:∀a0 a1 a2:Value,C [a0,a1,a2]):∀us:List Value,us.length=3→C us:=lnS fun a0=>lnS fun a1=>lnS fun a2=>ln0 (k a0 a1 a2)
def nL4{C:List Value→Prop}(k:∀a0 a1 a2 a3:Value,C [a0,a1,a2,a3]):∀us:List Value,us.length=4→C us:=lnS fun a0=>lnS fun a1=>lnS fun a2=>lnS fun a3=>ln0 (k a0 a1 a2 a3)
def nL5{C:List Value→Prop}(k:∀a0 a1 a2 a3 a4:Value,C [a0,a1,a2,a3,a4]):∀us:List Value,us.length=5→C us:=lnS fun a0=>lnS fun a1=>lnS fun a2=>lnS fun a3=>lnS fun a4=>ln0 (k a0 a1 a2 a3 a4)
def nL6{C:List Value→Prop}(k:∀a0 a1 a2 a3 a4 a5:Value,C [a0,a1,a2,a3,a4,a5]):∀us:List Value,us.length=6→C us:=lnS fun a0=>lnS fun a1=>lnS fun a2=>lnS fun a3=>lnS fun a4=>lnS fun a5=>ln0 (k a0 a1 a2 a3 a4 a5)
def nL7{C:List Value→Prop}(k:∀a0 a1 a2 a3 a4 a5 a6:Value,C [a0,a1,a2,a3,a4,a5,a6]):∀us:List Value,us.length=7→C us:=lnS fun a0=>lnS fun a1=>lnS fun a2=>lnS fun a3=>lnS fun a4=>lnS fun a5=>lnS fun a6=>ln0 (k a0 a1 a2 a3 a4 a5 a6)
def bd_mk{K:U1}{fd:FuncData}{ps:List Str}{ds:List Value}{n:Nat}(hn:n+ds.length=ps.length)(k:∀s:Shared,K.In s.heap→∀us:List Value,us.length=n→BindsTo s fd ⟨us,[]⟩ (ps.zip (us++ds))):Binds K fd ps ds:=fun s us KX hl=>k s KX us (by rw[Jh] at hl;omega)
def dn_mk{K:U1}{st:Stmt}{ps:List Str}{f:Addr}{oc:Value}{od an:Option Addr}{osl:Array (Option Value)}{kV doc pm cdv ct:Value}{h:Heap}{mg:Str→Option Value}{x:Str}(X:K.In h)(G:h.Ns mainGlobals mg)(a:Jj K mainGlobals x=some (some (.ref f)))(l:K.lookup f=some ⟨oc,od, .func (Je x x (kax st) (kau st) (kae st) .none kV doc pm an cdv ct),osl⟩)(c:Jx K cdv x=true)(k:Jd K (.ref f)=true)(b:∀(kV doc pm:Value)(an:Option Addr)(cdv ct:Value),∀us:List Value,us.length=ps.length→bindArgs (Je x x (kax st) (kau st) (kae st) .none kV doc pm an cdv ct) ⟨us,[]⟩=pure (ps.zip us)):Dn K mg x st ps f (Je x x (kax st) (kau st) (kae st) .none kV doc pm an cdv ct):=⟨ka9 l c k,Binds.all (b _ _ _ _ _ _),Ju X G a⟩
def mt_mk{K:U1}{st:Stmt}{ps:List Str}{f:Addr}{oc:Value}{od an:Option Addr}{osl:Array (Option Value)}{kV doc pm cdv ct:Value}{m qual:Str}{C:Addr}(a:U3 K (.ref C) m=some (some (.ref f)))(i:JH K (.ref f)=true)(l:K.lookup f=some ⟨oc,od, .func (Je m qual (kax st) (kau st) (kae st) .none kV doc pm an cdv ct),osl⟩)(c:Jx K cdv qual=true)(k:Jd K (.ref f)=true)(b:∀(kV doc pm:Value)(an:Option Addr)(cdv ct:Value),∀us:List Value,us.length=ps.length→bindArgs (Je m qual (kax st) (kau st) (kae st) .none kV doc pm an cdv ct) ⟨us,[]⟩=pure (ps.zip us)):MthT K C m qual st ps f (Je m qual (kax st) (kau st) (kae st) .none kV doc pm an cdv ct):=⟨a,i,ka9 l c k,Binds.all (b _ _ _ _ _ _)⟩
theorem all_mk{l:PySem.W.OpenLaw}{w:World}{K:U1}{h:Heap}{mg:Str→Option Value}{fa zfh zey z32 zf2 zga z86 zez z39 z21 z5o z2z zw z48 z82 z3w zaw z41 z4e z4q z2d z81 z1y z4n z5l z5h z5w z3m z1q z2v zdb z9p z7t z4y z61 z4r z60 z8a z7y z4z z6e z9r zbs zj z19 z3k zf zq z1u zk z1r z5k ze zz z3h za zu z1n zc zy z27 zb zt z1l zp z1b z4d zi zx z2p zd z3o z37 zn z9s z4u z6l z3z z3t zo z1g z4b zm zh z1a zs:Addr}{z7a z2o zcj z6m zhz zgc zba z5d zbi z9a z3r z96 zdd z7s zdg zbp z5j zbl z7n z2x z8k zac z4j z9z z7p z2u z7i zd5 z66 zd4 zab z54 zak zcy z6o zbx z5u zbd:Option Addr}{z6x zci zia zb5 zax z9h z98 zdo zeo zb2 zb4 z8q z8r zap zaj z8b z7m zcf zcp za1 z9y zcc zbu z5v zbc:Array (Option Value)}{z6w z28 z2b z20 zv z2l zce z6d z6n z5y z1o z6g zib zgb zgd zgf zej zge zbo z5s z5a z59 z2r z5i zbm z9m z47 z3s z45 z1m z42 z95 ze4 z89 z7h z7g z4c z88 zdz zb3 z5n z5e z5b z2n z5q zb0 z8d z3d z30 z36 z1j z35 z7x zad z58 z4k z51 z1v z53 za4 z7l z34 z3g z38 z1c z2s z84 zbz z6j z6p z65 z3j z6k zcg za5 z4l z4s z4t z1w z4v za2 zcx z6c z5x z6h z3l z6b zc1 z1x z5c:Value}{zbh z2y z94 ze0 zbk z8e zas z87 zcw za7 z2j zc8 z3y z2q z2m z2h z6i z68 z6q:Nat}{zf9 zfe z3a zf0 zgg z8n zfn z3b z2g z5r z31 z3q z8j z3v zau z46 z50 z4x z2k z7q z4g z5p z5t z67 z40 z1p z33 zda z9q z8o z4f z6r z56 z6a z7f z7w z57 z6s z9u z49 z2w z9n z4m z64 z44 z3p:FuncData}{zg zl:Array Value}{z2f z6t:Str}{z29 z2a z6f z63:Int}{z22 z5z:Bool}{ts:List Addr}(X:K.In h)(G:h.Ns mainGlobals mg)(hfa:mg "law"=some (.ref fa))
  (zha:Dn K mg "dealt" kgm ["cut","weights"] zfh zf9)
  (zhp:Dn K mg "under" kgl ["parents","one","other"] zey zfe)
  (z7u:Dn K mg "price_of_piece" kbt ["line","member"] z32 z3a)
  (zh9:Dn K mg "about" kd3 ["voucher","parents","basket","standing"] zf2 zf0)
  (zhv:Dn K mg "fits" kie ["marks","parents","kind","marked"] zga zgg)
  (zef:Dn K mg "hindrance" kcN ["voucher","parents","basket","standing"] z86 z8n)
  (zhq:Dn K mg "after" kgn ["voucher","parents","basket","standing"] zez zfn)
  (z8c:Dn K mg "cuts_of_pieces" kbw ["voucher","parents","basket","standing"] z39 z3b)
  (z73:Dn K mg "cut_of_carriage" kbk ["voucher","standing"] z21 z2g)
  (zbe:Dn K mg "wanted_cuts" ka3 ["voucher","standing","pieces"] z5o z5r)
  (z83:Dn K mg "parted_by_line" kbv ["standing","pieces"] z2z z31)
  (z8g:Jj K mainGlobals "falling_groups"=some (some (.ref zw))) (z7j:K.lookup zw=some ⟨z6w,z7a, .func (Je "falling_groups" "falling_groups" (kax kay) (kau kay) (kae kay) .none z28 z2b z20 z2o zv z2l),z6x⟩) (z7z:Jx K zv "falling_groups"=true) (z8f:Jd K (.ref zw)=true)
  (z8t:Dn K mg "marked_behind" kbH ["voucher","standing","piece_cuts"] z48 z3q)
  (zek:Dn K mg "prices_of" kcc ["standing","pieces"] z82 z8j)
  (z9i:Dn K mg "sum_of_prices" kbG ["standing","pieces"] z3w z3v)
  (zfu:Dn K mg "at_most" kd2 ["most","number"] zaw zau)
  (z97:Dn K mg "word_of_order" kbE ["till","hand","used","number"] z41 z46)
  (za8:Dn K mg "breaks_never" kbW ["rules","used","number"] z4e z50)
  (zal:Dn K mg "breaks_ahead" kbX ["rules","used","number"] z4q z4x)
  (z7d:Dn K mg "without_company" kbj ["rules","order"] z2d z2k)
  (zdr:Dn K mg "ways_from" kcM ["way"] z81 z7q)
  (zdu:Jj K mainGlobals "first_use"=some (some (.ref z1y))) (ze1:K.lookup z1y=some ⟨zce,zcj, .func (Je "first_use" "first_use" (kax kaT) (kau kaT) (kae kaT) .none z6d z6n z5y z6m z1o z6g),zci⟩) (zeg:Jx K z1o "first_use"=true) (zdt:Jd K (.ref z1y)=true)
  (za0:Dn K mg "first_unlike" kbV ["till","baskets"] z4n z4g)
  (zat:Dn K mg "first_spill" kcd ["till","baskets"] z5l z5p)
  (zbj:Dn K mg "first_found" kce ["till","baskets","look"] z5h z5t)
  (zd1:Dn K mg "order_with" kcr ["ways","voucher"] z5w z67)
  (z9g:Dn K mg "unlike_orders" kbF ["ways"] z3m z40)
  (z5m:Dn K mg "order_that_spills" ka6 ["ways"] z1q z1p)
  (z8l:Dn K mg "place_of_spill" kbu ["way"] z2v z33)
  (zgh:Dn K mg "spills" ke4 ["way","voucher"] zdb zda)
  (zf1:Dn K mg "_law_mix" kdi ["_law_cell","_law_factor","_law_prime"] z9p z9q)
  (zem:Dn K mg "_law_coin" kcQ ["_law_cell"] z7t z8o)
  (zai:Dn K mg "_law_parents" kbZ ["_law_cell"] z4y z4f)
  (zcn:Dn K mg "_law_marks" kct ["_law_cell","_law_kinds"] z61 z6r)
  (zar:Dn K mg "_law_voucher" kbY ["_law_cell","_law_kinds"] z4r z56)
  (zcd:Dn K mg "_law_rules" kcs ["_law_cell","_law_many"] z60 z6a)
  (ze9:Dn K mg "_law_till" kcO ["_law_script","_law_most"] z8a z7f)
  (zdk:Dn K mg "_law_line" kcP ["_law_cell","_law_kinds"] z7y z7w)
  (zan:Dn K mg "_law_baskets" kbn ["_law_script","_law_kinds","_law_most"] z4z z57)
  (zbw:Dn K mg "_law_asked" kcu ["_law_kind","_law_till_here","_law_voucher_here","_law_baskets_here"] z6e z6s)
  (zff:Dn K mg "_law_due" kdj ["_law_kind","_law_till_here","_law_voucher_here","_law_baskets_here"] z9r z9u)
  (zh1:Jj K mainGlobals "law"=some (some (.ref zbs))) (zih:K.lookup zbs=some ⟨zib,zhz, .func (Je "law" "law" (kax s_law) (kau s_law) (kae s_law) .none zgb zgd zgf zgc zej zge),zia⟩) (zie:Jx K zej "law"=true) (zig:Jd K (.ref zbs)=true)
  (zhk:Jj K mainGlobals "Marks"=some (some (.ref zj)))
  (zgs:U7 K zj (.type "object")=some true) (zgk:U7 K zj (.ref zj)=some true) (zgm:JD K (.ref zj)=some (.type "type"))
  (inX:NC K (.builtin "object.__class__") "__get__"=some (some (.builtin "getset_descriptor.__get__"))) (itX:Mq K (.builtin "object.__class__")=some true)
  (zgz:JC K zj Str.empty=true) (zgr:JG K zj=true) (zgy:JK K zj=true) (zgp:U3 K (.ref zj) "__setattr__"=some (some (.builtin "object.__setattr__"))) (zgq:JI K zj=true) (zgo:Jd K (.ref zj)=true) (zgx:U3 K (.ref zj) "__class__"=some (some (.builtin "object.__class__")))
  (zby:U3 K (.ref zj) "kind"=some none)
  (zbr:U3 K (.ref zj) "needs"=some none)
  (zcs:U3 K (.ref zj) "most"=some none)
  (zag:U3 K (.ref zj) "member"=some none)
  (zd7:U3 K (.ref zj) "once"=some none)
  (zcr:U3 K (.ref zj) "lone"=some none)
  (zd0:U3 K (.ref zj) "__init__"=some (some (.ref z19))) (zch:JH K (.ref z19)=true) (zc3:K.lookup z19=some ⟨zbo,zba, .func (Je "__init__" "Marks.__init__" (kax kaS) (kau kaS) (kae kaS) (.ref z3k) z5s z5a z59 z5d z2r z5i),zb5⟩) (zd8:Jx K z2r "Marks.__init__"=true) (zc2:Jd K (.ref z19)=true) (zr:K.lookup z3k=some ⟨zbm,zbi, .seq #[.none, .int 0 z2y, .none, .bool false, .bool false, .bool false] zbh,zax⟩)
  (zfw:Jj K mainGlobals "Voucher"=some (some (.ref zf)))
  (zfa:U7 K zf (.type "object")=some true) (zfj:U7 K zf (.ref zf)=some true) (zfq:JD K (.ref zf)=some (.type "type"))
  (zfc:JC K zf Str.empty=true) (zf6:JG K zf=true) (zf3:JK K zf=true) (zfi:U3 K (.ref zf) "__setattr__"=some (some (.builtin "object.__setattr__"))) (zfo:JI K zf=true) (zf8:Jd K (.ref zf)=true) (zf5:U3 K (.ref zf) "__class__"=some (some (.builtin "object.__class__")))
  (z9x:U3 K (.ref zf) "__init__"=some (some (.ref zq))) (zaa:JH K (.ref zq)=true) (za6:K.lookup zq=some ⟨z9m,z9a, .func (Je "__init__" "Voucher.__init__" (kax kaL) (kau kaL) (kae kaL) (.ref z1u) z47 z3s z45 z3r z1m z42),z9h⟩) (za9:Jx K z1m "Voucher.__init__"=true) (z9w:Jd K (.ref zq)=true) (z4w:K.lookup z1u=some ⟨z95,z96, .seq #[.none] z94,z98⟩)
  (zhh:Jj K mainGlobals "Off"=some (some (.ref zk)))
  (z8m:U7 K zk (.type "object")=some true) (z7o:U7 K zk (.ref zk)=some true) (z8i:JD K (.ref zk)=some (.type "type"))
  (zi0:JC K zk Str.empty=true) (zi6:JG K zk=true) (zi9:JK K zk=true) (zid:U3 K (.ref zk) "__setattr__"=some (some (.builtin "object.__setattr__"))) (zi2:JI K zk=true) (zht:Jd K (.ref zk)=true) (zi3:U3 K (.ref zk) "__class__"=some (some (.builtin "object.__class__")))
  (zc6:U3 K (.ref zk) "amount"=some none)
  (zdf:U3 K (.ref zk) "marks"=some none)
  (zfm:U3 K (.ref zk) "__init__"=some (some (.ref z1r))) (zf4:JH K (.ref z1r)=true) (zfd:K.lookup z1r=some ⟨ze4,zdd, .func (Je "__init__" "Off.__init__" (kax kba) (kau kba) (kae kba) (.ref z5k) z89 z7h z7g z7s z4c z88),zdo⟩) (zfl:Jx K z4c "Off.__init__"=true) (zfb:Jd K (.ref z1r)=true) (z9t:K.lookup z5k=some ⟨zdz,zdg, .seq #[.none] ze0,zeo⟩)
  (zew:Jj K mainGlobals "Share"=some (some (.ref ze)))
  (z3x:U7 K ze (.type "object")=some true) (z3u:U7 K ze (.ref ze)=some true) (z43:JD K (.ref ze)=some (.type "type"))
  (zgi:JC K ze Str.empty=true) (zgt:JG K ze=true) (zgl:JK K ze=true) (zgn:U3 K (.ref ze) "__setattr__"=some (some (.builtin "object.__setattr__"))) (zgw:JI K ze=true) (zgj:Jd K (.ref ze)=true) (zgu:U3 K (.ref ze) "__class__"=some (some (.builtin "object.__class__")))
  (zb8:U3 K (.ref ze) "share"=some none)
  (z9d:U3 K (.ref ze) "by_line"=some none)
  (zb1:U3 K (.ref ze) "marks"=some none)
  (zcm:U3 K (.ref ze) "__init__"=some (some (.ref zz))) (zc0:JH K (.ref zz)=true) (zcl:K.lookup zz=some ⟨zb3,zbp, .func (Je "__init__" "Share.__init__" (kax kaR) (kau kaR) (kae kaR) (.ref z3h) z5n z5e z5b z5j z2n z5q),zb2⟩) (zbt:Jx K z2n "Share.__init__"=true) (zc5:Jd K (.ref zz)=true) (z3i:K.lookup z3h=some ⟨zb0,zbl, .seq #[.bool false, .none] zbk,zb4⟩)
  (z9o:Jj K mainGlobals "Cheapest"=some (some (.ref za)))
  (z1h:U7 K za (.type "object")=some true) (z1f:U7 K za (.ref za)=some true) (z1i:JD K (.ref za)=some (.type "type"))
  (zdj:JC K za Str.empty=true) (ze7:JG K za=true) (zds:JK K za=true) (ze2:U3 K (.ref za) "__setattr__"=some (some (.builtin "object.__setattr__"))) (zdx:JI K za=true) (zdq:Jd K (.ref za)=true) (zea:U3 K (.ref za) "__class__"=some (some (.builtin "object.__class__")))
  (z9b:U3 K (.ref za) "many"=some none)
  (z85:U3 K (.ref za) "marks"=some none)
  (z8s:U3 K (.ref za) "__init__"=some (some (.ref zu))) (z9l:JH K (.ref zu)=true) (z93:K.lookup zu=some ⟨z8d,z7n, .func (Je "__init__" "Cheapest.__init__" (kax kaG) (kau kaG) (kae kaG) (.ref z1n) z3d z30 z36 z2x z1j z35),z8q⟩) (z9c:Jx K z1j "Cheapest.__init__"=true) (z8x:Jd K (.ref zu)=true) (z3n:K.lookup z1n=some ⟨z7x,z8k, .seq #[.none] z8e,z8r⟩)
  (zd9:Jj K mainGlobals "Bundle"=some (some (.ref zc)))
  (z2i:U7 K zc (.type "object")=some true) (z25:U7 K zc (.ref zc)=some true) (z23:JD K (.ref zc)=some (.type "type"))
  (zg6:JC K zc Str.empty=true) (zfx:JG K zc=true) (zg3:JK K zc=true) (zfr:U3 K (.ref zc) "__setattr__"=some (some (.builtin "object.__setattr__"))) (zg0:JI K zc=true) (zg9:Jd K (.ref zc)=true) (zft:U3 K (.ref zc) "__class__"=some (some (.builtin "object.__class__")))
  (zbg:U3 K (.ref zc) "many"=some none)
  (zae:U3 K (.ref zc) "price"=some none)
  (zam:U3 K (.ref zc) "marks"=some none)
  (zbb:U3 K (.ref zc) "__init__"=some (some (.ref zy))) (zb6:JH K (.ref zy)=true) (zbn:K.lookup zy=some ⟨zad,zac, .func (Je "__init__" "Bundle.__init__" (kax kaN) (kau kaN) (kae kaN) (.ref z27) z58 z4k z51 z4j z1v z53),zap⟩) (zbq:Jx K z1v "Bundle.__init__"=true) (zb9:Jd K (.ref zy)=true) (z5g:K.lookup z27=some ⟨za4,z9z, .seq #[.none] zas,zaj⟩)
  (z9v:Jj K mainGlobals "Carriage"=some (some (.ref zb)))
  (z1d:U7 K zb (.type "object")=some true) (z1k:U7 K zb (.ref zb)=some true) (z1e:JD K (.ref zb)=some (.type "type"))
  (zdv:JC K zb Str.empty=true) (zed:JG K zb=true) (zer:JK K zb=true) (zei:U3 K (.ref zb) "__setattr__"=some (some (.builtin "object.__setattr__"))) (ze5:JI K zb=true) (zdl:Jd K (.ref zb)=true) (ze3:U3 K (.ref zb) "__class__"=some (some (.builtin "object.__class__")))
  (z7k:U3 K (.ref zb) "marks"=some none)
  (z91:U3 K (.ref zb) "__init__"=some (some (.ref zt))) (z92:JH K (.ref zt)=true) (z9k:K.lookup zt=some ⟨z7l,z7p, .func (Je "__init__" "Carriage.__init__" (kax kaH) (kau kaH) (kae kaH) (.ref z1l) z34 z3g z38 z2u z1c z2s),z8b⟩) (z99:Jx K z1c "Carriage.__init__"=true) (z8u:Jd K (.ref zt)=true) (z4a:K.lookup z1l=some ⟨z84,z7i, .seq #[.none] z87,z7m⟩)
  (zi7:Jj K mainGlobals "Line"=some (some (.ref zp)))
  (zhl:U7 K zp (.type "object")=some true) (zhj:U7 K zp (.ref zp)=some true) (zhi:JD K (.ref zp)=some (.type "type"))
  (zhc:JC K zp Str.empty=true) (zh6:JG K zp=true) (zh0:JK K zp=true) (zh7:U3 K (.ref zp) "__setattr__"=some (some (.builtin "object.__setattr__"))) (zh5:JI K zp=true) (zh2:Jd K (.ref zp)=true) (zh3:U3 K (.ref zp) "__class__"=some (some (.builtin "object.__class__")))
  (zep:U3 K (.ref zp) "kind"=some none)
  (zd2:U3 K (.ref zp) "price"=some none)
  (zdh:U3 K (.ref zp) "many"=some none)
  (zaq:U3 K (.ref zp) "special"=some none)
  (zeb:U3 K (.ref zp) "__init__"=some (some (.ref z1b))) (ze8:JH K (.ref z1b)=true) (zet:K.lookup z1b=some ⟨zbz,zd5, .func (Je "__init__" "Line.__init__" (kax kaZ) (kau kaZ) (kae kaZ) (.ref z4d) z6j z6p z65 z66 z3j z6k),zcf⟩) (zdn:Jx K z3j "Line.__init__"=true) (zdc:Jd K (.ref z1b)=true) (z7r:K.lookup z4d=some ⟨zcg,zd4, .seq #[.none] zcw,zcp⟩)
  (zgv:Jj K mainGlobals "Basket"=some (some (.ref zi)))
  (zg4:U7 K zi (.type "object")=some true) (zg8:U7 K zi (.ref zi)=some true) (zfs:JD K (.ref zi)=some (.type "type"))
  (zfz:JC K zi Str.empty=true) (zfy:JG K zi=true) (zg5:JK K zi=true) (zg2:U3 K (.ref zi) "__setattr__"=some (some (.builtin "object.__setattr__"))) (zfv:JI K zi=true) (zg1:Jd K (.ref zi)=true) (zg7:U3 K (.ref zi) "__class__"=some (some (.builtin "object.__class__")))
  (zaf:U3 K (.ref zi) "lines"=some none)
  (z70:U3 K (.ref zi) "carriage"=some none)
  (z8y:U3 K (.ref zi) "member"=some none)
  (zay:U3 K (.ref zi) "__init__"=some (some (.ref zx))) (zaz:JH K (.ref zx)=true) (zbf:K.lookup zx=some ⟨za5,zab, .func (Je "__init__" "Basket.__init__" (kax kaO) (kau kaO) (kae kaO) (.ref z2p) z4l z4s z4t z54 z1w z4v),za1⟩) (zb7:Jx K z1w "Basket.__init__"=true) (zav:Jd K (.ref zx)=true) (z2e:K.lookup z2p=some ⟨za2,zak, .seq #[.int 0 z2j, .bool false] za7,z9y⟩)
  (zfk:Jj K mainGlobals "Standing"=some (some (.ref zd)))
  (zeh:U7 K zd (.type "object")=some true) (zes:U7 K zd (.ref zd)=some true) (zeq:JD K (.ref zd)=some (.type "type"))
  (zdm:JC K zd Str.empty=true) (zdy:JG K zd=true) (zec:JK K zd=true) (zel:U3 K (.ref zd) "__setattr__"=some (some (.builtin "object.__setattr__"))) (zee:JI K zd=true) (zeu:Jd K (.ref zd)=true) (zdw:U3 K (.ref zd) "__class__"=some (some (.builtin "object.__class__")))
  (z7e:U3 K (.ref zd) "owners"=some none)
  (z72:U3 K (.ref zd) "prices"=some none)
  (z5f:U3 K (.ref zd) "carriage"=some none)
  (z7b:U3 K (.ref zd) "marked"=some none)
  (z9e:MthT K zd "__init__" "Standing.__init__" kbJ ["self","basket"] z3o z49)
  (z80:MthT K zd "whole" "Standing.whole" kbx ["self"] z37 z2w)
  (zif:Jj K mainGlobals "Way"=some (some (.ref zn)))
  (zhs:U7 K zn (.type "object")=some true) (zic:U7 K zn (.ref zn)=some true) (zhw:JD K (.ref zn)=some (.type "type"))
  (zi5:JC K zn Str.empty=true) (zhx:JG K zn=true) (zi8:JK K zn=true) (zhu:U3 K (.ref zn) "__setattr__"=some (some (.builtin "object.__setattr__"))) (zi4:JI K zn=true) (zhy:Jd K (.ref zn)=true) (zhr:U3 K (.ref zn) "__class__"=some (some (.builtin "object.__class__")))
  (zf7:U3 K (.ref zn) "till"=some none)
  (zco:U3 K (.ref zn) "basket"=some none)
  (zfp:U3 K (.ref zn) "hand"=some none)
  (zfg:U3 K (.ref zn) "used"=some none)
  (za3:U3 K (.ref zn) "standing"=some none)
  (zex:MthT K zn "__init__" "Way.__init__" kdk ["self","till","basket","hand"] z9s z9n)
  (zao:MthT K zn "word_for" "Way.word_for" kb0 ["self","number"] z4u z4m)
  (zd6:MthT K zn "behind" "Way.behind" kcv ["self","number"] z6l z64)
  (z8z:MthT K zn "followers" "Way.followers" kbf ["self"] z3z z44)
  (z9f:MthT K zn "is_let_by" "Way.is_let_by" kbI ["self"] z3t z3p)
  (zi1:Jj K mainGlobals "Till"=some (some (.ref zo)))
  (zhf:U7 K zo (.type "object")=some true) (zhg:U7 K zo (.ref zo)=some true) (zhe:JD K (.ref zo)=some (.type "type"))
  (zhd:JC K zo Str.empty=true) (zhn:JG K zo=true) (zhm:JK K zo=true) (zh4:U3 K (.ref zo) "__setattr__"=some (some (.builtin "object.__setattr__"))) (zhb:JI K zo=true) (zho:Jd K (.ref zo)=true) (zh8:U3 K (.ref zo) "__class__"=some (some (.builtin "object.__class__")))
  (zah:U3 K (.ref zo) "parents"=some none)
  (z8w:U3 K (.ref zo) "vouchers"=some none)
  (zcv:U3 K (.ref zo) "rules"=some none)
  (zde:U3 K (.ref zo) "back"=some none)
  (ze6:U3 K (.ref zo) "__init__"=some (some (.ref z1g))) (zdp:JH K (.ref z1g)=true) (zen:K.lookup z1g=some ⟨zcx,zcy, .func (Je "__init__" "Till.__init__" (kax kaY) (kau kaY) (kae kaY) (.ref z4b) z6c z5x z6h z6o z3l z6b),zcc⟩) (zdi:Jx K z3l "Till.__init__"=true) (zev:Jd K (.ref z1g)=true) (z7v:K.lookup z4b=some ⟨zc1,zbx, .seq #[.str "again" z3y] zc8,zbu⟩)
  (z90:PySem.W.readsIn K zf (.type "type")=true) (z8v:NC K (.ref zf) "__getattribute__"=some (some (.builtin "type.__getattribute__"))) (z9j:PySem.W.findCls K (.ref zf) (.type "type") "__init__"=some (.val (.ref zq)))
  (z4o:U7 K zk (.ref zb)=some false)
  (z3f:U7 K ze (.ref zb)=some false)
  (z1s:U7 K za (.ref zb)=some false)
  (z2c:U7 K zc (.ref zb)=some false)
  (z8h:U7 K ze (.ref zk)=some false)
  (z4i:U7 K za (.ref zk)=some false)
  (z62:U7 K zc (.ref zk)=some false)
  (z4h:U7 K zb (.ref zk)=some false)
  (z8p:U7 K zk (.ref ze)=some false)
  (z3c:U7 K za (.ref ze)=some false)
  (z4p:U7 K zc (.ref ze)=some false)
  (z3e:U7 K zb (.ref ze)=some false)
  (z52:U7 K zk (.ref za)=some false)
  (z2t:U7 K ze (.ref za)=some false)
  (z26:U7 K zc (.ref za)=some false)
  (z1t:U7 K zb (.ref za)=some false)
  (z69:U7 K zk (.ref zc)=some false)
  (z55:U7 K ze (.ref zc)=some false)
  (z1z:U7 K za (.ref zc)=some false)
  (z24:U7 K zb (.ref zc)=some false)
  (z7c:zv=.ref zm)
  (z6z:K.lookup zm=some ⟨z1x,z5u, .fields zg,z5v⟩)
  (z76:z1x=.type "code")
  (z78:zg[11]?=some (.ref zh))
  (z71:zg.getD 11 .none=.ref zh)
  (z77:zg.getD 18 .none=.str z2f z2q)
  (z74:zg.getD 7 .none=.int z29 z2m)
  (z6v:zg.getD 9 .none=.bool z22)
  (z79:zg.getD 10 .none=.int z2a z2h)
  (z75:zm≠zh)
  (z6y:K.lookup zh=none)
  (z6u:zh∈ts)
  (zbv:z1o=.ref z1a)
  (zd3:K.lookup z1a=some ⟨z5c,zbd, .fields zl,zbc⟩)
  (zcz:z5c=.type "code")
  (zct:zl[11]?=some (.ref zs))
  (zca:zl.getD 11 .none=.ref zs)
  (zc4:zl.getD 18 .none=.str z6t z6i)
  (zcu:zl.getD 7 .none=.int z6f z68)
  (zck:zl.getD 9 .none=.bool z5z)
  (zc9:zl.getD 10 .none=.int z63 z6q)
  (zc7:z1a≠zs)
  (zcb:K.lookup zs=none)
  (zcq:zs∈ts)
  (z1:Jj K mainGlobals "range"=some none)
  (z2:Jj K mainGlobals "len"=some none)
  (z3:Jj K mainGlobals "min"=some none)
  (z4:Jj K mainGlobals "max"=some none)
  (z5:Jj K mainGlobals "isinstance"=some none)
  (z6:Jj K mainGlobals "bool"=some none)
  (z7:Jj K mainGlobals "int"=some none)
  (z8:Jj K mainGlobals "list"=some none)
  (z9:Jj K mainGlobals "sum"=some none)
  (z10:Jj K mainGlobals "enumerate"=some none)
  (z11:Jj K mainGlobals "any"=some none)
  (z12:Jj K mainGlobals "all"=some none)
  (z13:Jj K mainGlobals "reversed"=some none)
  (z14:Jj K mainGlobals "zip"=some none)
  (z15:Jj K mainGlobals "abs"=some none)
  (z16:Jj K mainGlobals "sorted"=some none)
  (z17:Jj K mainGlobals "tuple"=some none)
  (z18:Jj K mainGlobals "str"=some none)
  :∃(fd:FuncData)(tP c0 tR c1:Addr),tP∈ts∧CodeK K c0 tP∧K.lookup tP=none∧tR∈ts∧CodeK K c1 tR∧K.lookup tR=none∧(∀(s:Shared)(v:Value),BindsTo s fd ⟨[v],[]⟩ [("_law_script",v)])∧∀base:Heap,K.In base→base.Ns mainGlobals mg→BltM mg base→FnOk l.prog w K mg base CX0 24 fa fd ["_law_script"] (kdZ K tP tR):=by
 have e:=hfa.symm.trans (Ju X G zh1)
 have hf:zbs=fa:=by
  injection e with e
  injection e with e
  exact e.symm
 subst hf
 have B:TxtB mg:=⟨Jz X G z1,Jz X G z2,Jz X G z3,Jz X G z4,Jz X G z5,Jz X G z6,Jz X G z7,Jz X G z8,Jz X G z9,Jz X G z10,Jz X G z11,Jz X G z12,Jz X G z13,Jz X G z14,Jz X G z15,Jz X G z16,Jz X G z17,Jz X G z18⟩
 have W:Wld K mg ⟨(zfh),(zf9),(zey),(zfe),(z32),(z3a),(zf2),(zf0),(zga),(zgg),(z86),(z8n),(zez),(zfn),(z39),(z3b),(z21),(z2g),(z5o),(z5r),(z2z),(z31),(zw),(Je "falling_groups" "falling_groups" (kax kay) (kau kay) (kae kay) .none z28 z2b z20 z2o zv z2l),(z48),(z3q),(z82),(z8j),(z3w),(z3v),(zaw),(zau),(z41),(z46),(z4e),(z50),(z4q),(z4x),(z2d),(z2k),(z81),(z7q),(z1y),(Je "first_use" "first_use" (kax kaT) (kau kaT) (kae kaT) .none z6d z6n z5y z6m z1o z6g),(z4n),(z4g),(z5l),(z5p),(z5h),(z5t),(z5w),(z67),(z3m),(z40),(z1q),(z1p),(z2v),(z33),(zdb),(zda),(z9p),(z9q),(z7t),(z8o),(z4y),(z4f),(z61),(z6r),(z4r),(z56),(z60),(z6a),(z8a),(z7f),(z7y),(z7w),(z4z),(z57),(z6e),(z6s),(z9r),(z9u),(zbs),(Je "law" "law" (kax s_law) (kau s_law) (kae s_law) .none zgb zgd zgf zgc zej zge),(zj),(z19),(Je "__init__" "Marks.__init__" (kax kaS) (kau kaS) (kae kaS) (.ref z3k) z5s z5a z59 z5d z2r z5i),(z2y),(zf),(zq),(Je "__init__" "Voucher.__init__" (kax kaL) (kau kaL) (kae kaL) (.ref z1u) z47 z3s z45 z3r z1m z42),(zk),(z1r),(Je "__init__" "Off.__init__" (kax kba) (kau kba) (kae kba) (.ref z5k) z89 z7h z7g z7s z4c z88),(ze),(zz),(Je "__init__" "Share.__init__" (kax kaR) (kau kaR) (kae kaR) (.ref z3h) z5n z5e z5b z5j z2n z5q),(za),(zu),(Je "__init__" "Cheapest.__init__" (kax kaG) (kau kaG) (kae kaG) (.ref z1n) z3d z30 z36 z2x z1j z35),(zc),(zy),(Je "__init__" "Bundle.__init__" (kax kaN) (kau kaN) (kae kaN) (.ref z27) z58 z4k z51 z4j z1v z53),(zb),(zt),(Je "__init__" "Carriage.__init__" (kax kaH) (kau kaH) (kae kaH) (.ref z1l) z34 z3g z38 z2u z1c z2s),(zp),(z1b),(Je "__init__" "Line.__init__" (kax kaZ) (kau kaZ) (kae kaZ) (.ref z4d) z6j z6p z65 z66 z3j z6k),(zi),(zx),(Je "__init__" "Basket.__init__" (kax kaO) (kau kaO) (kae kaO) (.ref z2p) z4l z4s z4t z54 z1w z4v),(z2j),(zd),(z3o),(z49),(z37),(z2w),(zn),(z9s),(z9n),(z4u),(z4m),(z6l),(z64),(z3z),(z44),(z3t),(z3p),(zo),(z1g),(Je "__init__" "Till.__init__" (kax kaY) (kau kaY) (kae kaY) (.ref z4b) z6c z5x z6h z6o z3l z6b),(z3y),(zm),(zh),(z1a),(zs)⟩:=⟨B,zha,zhp,z7u,zh9,zhv,zef,zhq,z8c,z73,zbe,z83,⟨(ka9 z7j z7z z8f),(Binds.all (nL3 fun _ _ _=>rfl)),Ju X G z8g⟩,z8t,zek,z9i,zfu,z97,za8,zal,z7d,zdr,⟨(ka9 ze1 zeg zdt),(Binds.all (nL3 fun _ _ _=>rfl)),Ju X G zdu⟩,za0,zat,zbj,zd1,z9g,z5m,z8l,zgh,zf1,zem,zai,zcn,zar,zcd,ze9,zdk,zan,zbw,zff,⟨(ka9 zih zie zig),(Binds.all (nL1 fun _=>rfl)),Ju X G zh1⟩,⟨⟨zgz,zgr,zgy,zgp⟩,Ju X G zhk,⟨zgx,inX,itX,zgs⟩,zgk,zgm,zgq,zgo⟩,zby,zbr,zcs,zag,zd7,zcr,⟨zd0,zch,(ka9 zc3 zd8 zc2),(bd_mk (n:=7) rfl fun _ KX=>nL7 fun _ _ _ _ _ _ _=>BindsTo.of_defaults rfl (KX _ _ zr) rfl rfl rfl)⟩,(bd_mk (n:=6) rfl fun _ KX=>nL6 fun _ _ _ _ _ _=>BindsTo.of_defaults rfl (KX _ _ zr) rfl rfl rfl),(bd_mk (n:=5) rfl fun _ KX=>nL5 fun _ _ _ _ _=>BindsTo.of_defaults rfl (KX _ _ zr) rfl rfl rfl),(bd_mk (n:=4) rfl fun _ KX=>nL4 fun _ _ _ _=>BindsTo.of_defaults rfl (KX _ _ zr) rfl rfl rfl),(bd_mk (n:=3) rfl fun _ KX=>nL3 fun _ _ _=>BindsTo.of_defaults rfl (KX _ _ zr) rfl rfl rfl),(bd_mk (n:=2) rfl fun _ KX=>nL2 fun _ _=>BindsTo.of_defaults rfl (KX _ _ zr) rfl rfl rfl),(bd_mk (n:=1) rfl fun _ KX=>nL1 fun _=>BindsTo.of_defaults rfl (KX _ _ zr) rfl rfl rfl),⟨⟨zfc,zf6,zf3,zfi⟩,Ju X G zfw,⟨zf5,inX,itX,zfa⟩,zfj,zfq,zfo,zf8⟩,⟨z9x,zaa,(ka9 za6 za9 z9w),(bd_mk (n:=2) rfl fun _ KX=>nL2 fun _ _=>BindsTo.of_defaults rfl (KX _ _ z4w) rfl rfl rfl)⟩,(bd_mk (n:=1) rfl fun _ KX=>nL1 fun _=>BindsTo.of_defaults rfl (KX _ _ z4w) rfl rfl rfl),Ju X G zhh,⟨⟨zi0,zi6,zi9,zid⟩,Ju X G zhh,⟨zi3,inX,itX,z8m⟩,z7o,z8i,zi2,zht⟩,zc6,zdf,⟨zfm,zf4,(ka9 zfd zfl zfb),(bd_mk (n:=3) rfl fun _ KX=>nL3 fun _ _ _=>BindsTo.of_defaults rfl (KX _ _ z9t) rfl rfl rfl)⟩,(bd_mk (n:=2) rfl fun _ KX=>nL2 fun _ _=>BindsTo.of_defaults rfl (KX _ _ z9t) rfl rfl rfl),Ju X G zew,⟨⟨zgi,zgt,zgl,zgn⟩,Ju X G zew,⟨zgu,inX,itX,z3x⟩,z3u,z43,zgw,zgj⟩,zb8,z9d,zb1,⟨zcm,zc0,(ka9 zcl zbt zc5),(bd_mk (n:=4) rfl fun _ KX=>nL4 fun _ _ _ _=>BindsTo.of_defaults rfl (KX _ _ z3i) rfl rfl rfl)⟩,(bd_mk (n:=3) rfl fun _ KX=>nL3 fun _ _ _=>BindsTo.of_defaults rfl (KX _ _ z3i) rfl rfl rfl),(bd_mk (n:=2) rfl fun _ KX=>nL2 fun _ _=>BindsTo.of_defaults rfl (KX _ _ z3i) rfl rfl rfl),Ju X G z9o,⟨⟨zdj,ze7,zds,ze2⟩,Ju X G z9o,⟨zea,inX,itX,z1h⟩,z1f,z1i,zdx,zdq⟩,z9b,z85,⟨z8s,z9l,(ka9 z93 z9c z8x),(bd_mk (n:=3) rfl fun _ KX=>nL3 fun _ _ _=>BindsTo.of_defaults rfl (KX _ _ z3n) rfl rfl rfl)⟩,(bd_mk (n:=2) rfl fun _ KX=>nL2 fun _ _=>BindsTo.of_defaults rfl (KX _ _ z3n) rfl rfl rfl),Ju X G zd9,⟨⟨zg6,zfx,zg3,zfr⟩,Ju X G zd9,⟨zft,inX,itX,z2i⟩,z25,z23,zg0,zg9⟩,zbg,zae,zam,⟨zbb,zb6,(ka9 zbn zbq zb9),(bd_mk (n:=4) rfl fun _ KX=>nL4 fun _ _ _ _=>BindsTo.of_defaults rfl (KX _ _ z5g) rfl rfl rfl)⟩,(bd_mk (n:=3) rfl fun _ KX=>nL3 fun _ _ _=>BindsTo.of_defaults rfl (KX _ _ z5g) rfl rfl rfl),Ju X G z9v,⟨⟨zdv,zed,zer,zei⟩,Ju X G z9v,⟨ze3,inX,itX,z1d⟩,z1k,z1e,ze5,zdl⟩,z7k,⟨z91,z92,(ka9 z9k z99 z8u),(bd_mk (n:=2) rfl fun _ KX=>nL2 fun _ _=>BindsTo.of_defaults rfl (KX _ _ z4a) rfl rfl rfl)⟩,(bd_mk (n:=1) rfl fun _ KX=>nL1 fun _=>BindsTo.of_defaults rfl (KX _ _ z4a) rfl rfl rfl),⟨⟨zhc,zh6,zh0,zh7⟩,Ju X G zi7,⟨zh3,inX,itX,zhl⟩,zhj,zhi,zh5,zh2⟩,zep,zd2,zdh,zaq,⟨zeb,ze8,(ka9 zet zdn zdc),(bd_mk (n:=5) rfl fun _ KX=>nL5 fun _ _ _ _ _=>BindsTo.of_defaults rfl (KX _ _ z7r) rfl rfl rfl)⟩,(bd_mk (n:=4) rfl fun _ KX=>nL4 fun _ _ _ _=>BindsTo.of_defaults rfl (KX _ _ z7r) rfl rfl rfl),⟨⟨zfz,zfy,zg5,zg2⟩,Ju X G zgv,⟨zg7,inX,itX,zg4⟩,zg8,zfs,zfv,zg1⟩,zaf,z70,z8y,⟨zay,zaz,(ka9 zbf zb7 zav),(bd_mk (n:=4) rfl fun _ KX=>nL4 fun _ _ _ _=>BindsTo.of_defaults rfl (KX _ _ z2e) rfl rfl rfl)⟩,(bd_mk (n:=3) rfl fun _ KX=>nL3 fun _ _ _=>BindsTo.of_defaults rfl (KX _ _ z2e) rfl rfl rfl),(bd_mk (n:=2) rfl fun _ KX=>nL2 fun _ _=>BindsTo.of_defaults rfl (KX _ _ z2e) rfl rfl rfl),⟨⟨zdm,zdy,zec,zel⟩,Ju X G zfk,⟨zdw,inX,itX,zeh⟩,zes,zeq,zee,zeu⟩,z7e,z72,z5f,z7b,z9e,z80,⟨⟨zi5,zhx,zi8,zhu⟩,Ju X G zif,⟨zhr,inX,itX,zhs⟩,zic,zhw,zi4,zhy⟩,zf7,zco,zfp,zfg,za3,zex,zao,zd6,z8z,z9f,⟨⟨zhd,zhn,zhm,zh4⟩,Ju X G zi1,⟨zh8,inX,itX,zhf⟩,zhg,zhe,zhb,zho⟩,zah,z8w,zcv,zde,⟨ze6,zdp,(ka9 zen zdi zev),(bd_mk (n:=5) rfl fun _ KX=>nL5 fun _ _ _ _ _=>BindsTo.of_defaults rfl (KX _ _ z7v) rfl rfl rfl)⟩,(bd_mk (n:=4) rfl fun _ KX=>nL4 fun _ _ _ _=>BindsTo.of_defaults rfl (KX _ _ z7v) rfl rfl rfl),⟨z90,z8v,z9j⟩,kaJ z4o z1d z1e (kbc z4o z7o),kaJ z3f z1d z1e (kbc z3f z3u),kaJ z1s z1d z1e (kbc z1s z1f),kaJ z2c z1d z1e (kbc z2c z25),kaJ z8h z8m z8i (kbc z8h z3u),kaJ z4i z8m z8i (kbc z4i z1f),kaJ z62 z8m z8i (kbc z62 z25),kaJ z4h z8m z8i (kbc z4h z1k),kaJ z8p z3x z43 (kbc z8p z7o),kaJ z3c z3x z43 (kbc z3c z1f),kaJ z4p z3x z43 (kbc z4p z25),kaJ z3e z3x z43 (kbc z3e z1k),kaJ z52 z1h z1i (kbc z52 z7o),kaJ z2t z1h z1i (kbc z2t z3u),kaJ z26 z1h z1i (kbc z26 z25),kaJ z1t z1h z1i (kbc z1t z1k),kaJ z69 z2i z23 (kbc z69 z7o),kaJ z55 z2i z23 (kbc z55 z3u),kaJ z1z z2i z23 (kbc z1z z1f),kaJ z24 z2i z23 (kbc z24 z1k),z7c,⟨_,zg,z2f,z2q,z29,z2m,z22,z2a,z2h,z6z,z76,rfl,z78,z71,z77,z74,z6v,z79,z75⟩,zbv,⟨_,zl,z6t,z6i,z6f,z68,z5z,z63,z6q,zd3,zcz,rfl,zct,zca,zc4,zcu,zck,zc9,zc7⟩⟩
 exact⟨_,zh,zm,zs,z1a,z6u,W.ck_falling_groups,z6y,zcq,W.ck_first_use,zcb,fun s v=>.of_eq rfl,fun base _ _ hB=>klP ⟨W,hB⟩⟩
end Vs
namespace PySem.W.Fast
def tw6498215086159833602:=0
def tw8755213561653666979:=0
def tw14295657003235122467:=0
def tw8097893969773507235:=0
def tw13939644807160246947:=0
def tw15837524907676864708:=0
def tw7133791602380251524:=0
def tw4756575577402539269:=0
def tw12135464811295904453:=0
def tw16391889231794720902:=0
def tw14645708529684640198:=0
def tw4112977025406720966:=0
def tw9331073081417794887:=0
def tw16586945126037843687:=0
def tw3246864567285725288:=0
def tw4019251607617377544:=0
def tw14690573504483539305:=0
def tw15805045989288830953:=0
def tw8045587145935166252:=0
def tw8580802925106833422:=0
def tw3259856078240252654:=0
def tw17896042947637546960:=0
def tw9836478140239493873:=0
def tw6451802166616003827:=0
def tw3225300767794609270:=0
def tw7628759251650468247:=0
def tw13645073430667917111:=0
def tw6626918320825267769:=0
def tw17906227638469586937:=0
def tw6423488493561794939:=0
def tw11712779833508906460:=0
def tw13719162240489070428:=0
def tw181866610105365404:=0
def tw8776924000116221757:=0
def tw1905924775669182449:=0
def tw7286389806816641894:=0
def tw13203377334881441199:=0
def tw2338536982594814784:=0
def tw5875268123276435103:=0
def tw7715658714012713952:=0
def tw2184100753368878194:=0
def tw15281635424293434527:=0
def tw8431829802162121179:=0
def tw3078878536581856656:=0
def tw14709796452016173636:=0
def tw2484459710704859581:=0
def tw5727379332342748971:=0
def tw11744027848463985697:=0
def tw15049303886137315764:=0
def tw13096039221406116067:=0
def tw17313334754485884030:=0
def tw3460278120010828811:=0
def tw6726519567488467463:=0
def tw12589189207505949567:=0
def tw11418338513990563854:=0
def tw15981428439782651307:=0
def tw17313599096947600121:=0
def tw16438024514995616883:=0
def tw9526981955005513735:=0
def tw16758921098897349039:=0
def tw12177357680457574756:=0
def tw12226443976296264070:=0
def tw6008922146157600684:=0
def tw3188467265576069008:=0
def tw7666926987552543577:=0
def tw15523236064392887988:=0
def tw14373921757219590800:=0
def tw4927170999392234593:=0
def tw6259393447336205394:=0
def tw647953766918544294:=0
def tw11452121718227952368:=0
def tw2193558697444209717:=0
def tw2433785031010540966:=0
def tw17584716380008571671:=0
def tw4445484146576561228:=0
def tw17722725810852934800:=0
def tw7652512218917892344:=0
def tw3993791222137226083:=0
def tw1053123991021601683:=0
def tw4706975074855323925:=0
def tw12159600497691681008:=0
def tw14161625408891996669:=0
def tw11476655776530223537:=0
def tw4078514817151666535:=0
def tw18065109667658710596:=0
def tw5839559038233123377:=0
def tw18033743289023568158:=0
def tw18188113250915143899:=0
def tw7078286716407102311:=0
def tw18329139285509654225:=0
def tw3034118755263611578:=0
def tw17904935731407240770:=0
def tw6933207672263778330:=0
def tw2115510691850483126:=0
def tw11362264629061256810:=0
def tw732862248603105468:=0
def tw10598577314556227188:=0
def tw9156204400959133641:=0
def tw7943164582717344569:=0
def tw5887585432887497146:=0
def tw4623512759145047407:=0
def tw3847026898115986043:=0
def tw7493647762655628251:=0
def tw13245837068242296050:=0
def tw12868909709002632975:=0
def tw319439766166691761:=0
def tw13721833210624443423:=0
def tw12029100643008421738:=0
def tw7397577217750426780:=0
def tw11328578841052489577:=0
def tw10170687294920669365:=0
def tw17079547866687581255:=0
def tw11094994985363906088:=0
def tw17983704976702859872:=0
def tw14856901874610606651:=0
def tw1586462120090884000:=0
def tw3682039234969305424:=0
def tw16621172548173559888:=0
def tw9681875034186246723:=0
def tw525922875918766286:=0
def tw16953818263547541368:=0
def tw12044617279769145766:=0
def tw5401403385594135710:=0
def tw10316239634519560124:=0
def tw6774892845734888412:=0
def tw5825763272113235422:=0
def tw6311357077547150355:=0
def tw12336086482662165215:=0
def tw16882191100316288389:=0
def tw4881872025794668246:=0
def tw18293027840505379490:=0
def tw9330440609244068346:=0
def tw7893058159787744192:=0
def tw16938062101117975233:=0
def tw15934063100274831006:=0
def tw313942580919037901:=0
def tw2706939621402812668:=0
def tw18198944836628303639:=0
def tw10357523836246935186:=0
def tw284689601757041474:=0
def tw17907443705924973529:=0
def tw15300428757932395228:=0
def tw7414899547473121936:=0
def tw10182025298911123231:=0
def tw15715649708641362742:=0
def tw437487589208973985:=0
def tw13155581947759834403:=0
def tw13090985889613365956:=0
def tw15933615338300961529:=0
def tw3949652612598718930:=0
def tw6777740946564115399:=0
def tw8711497566350431361:=0
def tw6256747172297254994:=0
def tw5458813607985978067:=0
def tw5838437693639520619:=0
def tw6779424614716418434:=0
def tw112520007373030054:=0
def tw15274027535911264809:=0
def tw14608576927572842821:=0
def tw15899311928952217059:=0
def tw7695292862129246385:=0
def tw276906180728536090:=0
def tw13319577537065809775:=0
def tw6525094826042969547:=0
def tw9228999022431736967:=0
def tw15527282770551538975:=0
def tw12455034220488464283:=0
def tw5592194656252439682:=0
def tw10600693360445133170:=0
def tw4203243636964588767:=0
def tw4134964373458279936:=0
def tw1005301782229344061:=0
def tw11947046996108172788:=0
def tw10556167768125724554:=0
def tw13432188860677834516:=0
def tw1129296365950611458:=0
def tw17408742046243505740:=0
def tw7252355263903382702:=0
def tw6126402429345283935:=0
def tw11880435944300013077:=0
def tw8370318599386106098:=0
def tw17923252110278108890:=0
def tw552994713762317853:=0
def tw6830691617851447067:=0
def tw5060564001126657152:=0
def tw9034252295988670639:=0
def tw16957385284084709693:=0
def tw10331460922935508636:=0
def tw11833986695294813238:=0
def tw6335156128465331995:=0
def tw526697157346080755:=0
def tw845237217861918057:=0
def tw4421013846957420712:=0
def tw15741761486103794333:=0
def tw13690130544444043658:=0
def tw11773157882890138326:=0
def tw6819475091082650415:=0
def tw12640075319450207232:=0
def tw3056645919033442372:=0
def tw6204040385976621769:=0
def tw17514938322264289206:=0
def tw9354001486606574174:=0
end PySem.W.Fast
open PySem PySem.W PyProof.Rows
set_option maxRecDepth 100000 in
set_option maxHeartbeats 0 in
theorem PySem.Challenge.cw_voucherstack_k41_looks_basket_by_basket_holds : PySem.Challenge.rw_voucherstack_k41_looks_basket_by_basket.Holds := by
 w_on;o_law;k_head;(case hw=>w_witness2)
 k_fill
 refine L2.walkT2_of (l:=PySem.Challenge.rw_voucherstack_k41_looks_basket_by_basket) (k:=24) (x:="_law_script") rfl rfl ⟨rfl,by decide,by decide⟩ (fun w h Y=>PySem.W.km_in_of Y) (fun w h Y=>PySem.W.km_tabs_of Y) ?F
 case F=>
  intro w mg fa h KX G hmg
  refine' Vs.all_mk KX G hmg ?UX ?UW ?Ui ?UV ?UZ ?UK ?UY ?Uk ?Ue ?UD ?Uj ?afalling_groups ?lfalling_groups ?cfalling_groups ?kfalling_groups ?Uq ?UN ?Ur ?UT ?Us ?Uy ?Uz ?Ug ?UO ?afirst_use ?lfirst_use ?cfirst_use ?kfirst_use ?UB ?UC ?UE ?UI ?Ut ?Ud ?Ul ?UU ?US ?UM ?UA ?UF ?Uv ?UJ ?UP ?UL ?Uw ?UH ?UQ ?alaw ?llaw ?claw ?klaw ?aMarks ?imMarks ?isMarks ?iyMarks ?inX ?itX ?pgMarks ?hdMarks ?poMarks ?saMarks ?mkMarks ?kcMarks ?iaMarks ?nMarks_kind ?nMarks_needs ?nMarks_most ?nMarks_member ?nMarks_once ?nMarks_lone ?hMarks_init ?iMarks_init ?lMarks_init ?cMarks_init ?kMarks_init ?tMarks_init ?aVoucher ?imVoucher ?isVoucher ?iyVoucher ?pgVoucher ?hdVoucher ?poVoucher ?saVoucher ?mkVoucher ?kcVoucher ?iaVoucher ?hVoucher_init ?iVoucher_init ?lVoucher_init ?cVoucher_init ?kVoucher_init ?tVoucher_init ?aOff ?imOff ?isOff ?iyOff ?pgOff ?hdOff ?poOff ?saOff ?mkOff ?kcOff ?iaOff ?nOff_amount ?nOff_marks ?hOff_init ?iOff_init ?lOff_init ?cOff_init ?kOff_init ?tOff_init ?aShare ?imShare ?isShare ?iyShare ?pgShare ?hdShare ?poShare ?saShare ?mkShare ?kcShare ?iaShare ?nShare_share ?nShare_by_line ?nShare_marks ?hShare_init ?iShare_init ?lShare_init ?cShare_init ?kShare_init ?tShare_init ?aCheapest ?imCheapest ?isCheapest ?iyCheapest ?pgCheapest ?hdCheapest ?poCheapest ?saCheapest ?mkCheapest ?kcCheapest ?iaCheapest ?nCheapest_many ?nCheapest_marks ?hCheapest_init ?iCheapest_init ?lCheapest_init ?cCheapest_init ?kCheapest_init ?tCheapest_init ?aBundle ?imBundle ?isBundle ?iyBundle ?pgBundle ?hdBundle ?poBundle ?saBundle ?mkBundle ?kcBundle ?iaBundle ?nBundle_many ?nBundle_price ?nBundle_marks ?hBundle_init ?iBundle_init ?lBundle_init ?cBundle_init ?kBundle_init ?tBundle_init ?aCarriage ?imCarriage ?isCarriage ?iyCarriage ?pgCarriage ?hdCarriage ?poCarriage ?saCarriage ?mkCarriage ?kcCarriage ?iaCarriage ?nCarriage_marks ?hCarriage_init ?iCarriage_init ?lCarriage_init ?cCarriage_init ?kCarriage_init ?tCarriage_init ?aLine ?imLine ?isLine ?iyLine ?pgLine ?hdLine ?poLine ?saLine ?mkLine ?kcLine ?iaLine ?nLine_kind ?nLine_price ?nLine_many ?nLine_special ?hLine_init ?iLine_init ?lLine_init ?cLine_init ?kLine_init ?tLine_init ?aBasket ?imBasket ?isBasket ?iyBasket ?pgBasket ?hdBasket ?poBasket ?saBasket ?mkBasket ?kcBasket ?iaBasket ?nBasket_lines ?nBasket_carriage ?nBasket_member ?hBasket_init ?iBasket_init ?lBasket_init ?cBasket_init ?kBasket_init ?tBasket_init ?aStanding ?imStanding ?isStanding ?iyStanding ?pgStanding ?hdStanding ?poStanding ?saStanding ?mkStanding ?kcStanding ?iaStanding ?nStanding_owners ?nStanding_prices ?nStanding_carriage ?nStanding_marked ?Um ?Uh ?aWay ?imWay ?isWay ?iyWay ?pgWay ?hdWay ?poWay ?saWay ?mkWay ?kcWay ?iaWay ?nWay_till ?nWay_basket ?nWay_hand ?nWay_used ?nWay_standing ?UR ?Ux ?UG ?Uu ?Uo ?aTill ?imTill ?isTill ?iyTill ?pgTill ?hdTill ?poTill ?saTill ?mkTill ?kcTill ?iaTill ?nTill_parents ?nTill_vouchers ?nTill_rules ?nTill_back ?hTill_init ?iTill_init ?lTill_init ?cTill_init ?kTill_init ?tTill_init ?rdVoucher_init ?gaVoucher_init ?fcVoucher_init ?qOff_Carriage ?qShare_Carriage ?qCheapest_Carriage ?qBundle_Carriage ?qShare_Off ?qCheapest_Off ?qBundle_Off ?qCarriage_Off ?qOff_Share ?qCheapest_Share ?qBundle_Share ?qCarriage_Share ?qOff_Cheapest ?qShare_Cheapest ?qBundle_Cheapest ?qCarriage_Cheapest ?qOff_Bundle ?qShare_Bundle ?qCheapest_Bundle ?qCarriage_Bundle ?qafalling_groups ?qbfalling_groups ?qcfalling_groups ?qdfalling_groups ?qefalling_groups ?qffalling_groups ?qgfalling_groups ?qhfalling_groups ?qifalling_groups ?qjfalling_groups ?qkfalling_groups ?qlfalling_groups ?qafirst_use ?qbfirst_use ?qcfirst_use ?qdfirst_use ?qefirst_use ?qffirst_use ?qgfirst_use ?qhfirst_use ?qifirst_use ?qjfirst_use ?qkfirst_use ?qlfirst_use ?z1 ?z2 ?z3 ?z4 ?z5 ?z6 ?z7 ?z8 ?z9 ?z10 ?z11 ?z12 ?z13 ?z14 ?z15 ?z16 ?z17 ?z18
  any_goals k_is
  exists UX,Vs.nL2 fun _ _=>rfl,0,0,0
  exists UW,Vs.nL3 fun _ _ _=>rfl,0,0,0
  exists Ui,Vs.nL2 fun _ _=>rfl,0,0,0
  exists UV,Vs.nL4 fun _ _ _ _=>rfl,0,0,0
  exists UZ,Vs.nL4 fun _ _ _ _=>rfl,0,0,0
  exists UK,Vs.nL4 fun _ _ _ _=>rfl,0,0,0
  exists UY,Vs.nL4 fun _ _ _ _=>rfl,0,0,0
  exists Uk,Vs.nL4 fun _ _ _ _=>rfl,0,0,0
  exists Ue,Vs.nL2 fun _ _=>rfl,0,0,0
  exists UD,Vs.nL3 fun _ _ _=>rfl,0,0,0
  exists Uj,Vs.nL2 fun _ _=>rfl,0,0,0
  exists Uq,Vs.nL3 fun _ _ _=>rfl,0,0,0
  exists UN,Vs.nL2 fun _ _=>rfl,0,0,0
  exists Ur,Vs.nL2 fun _ _=>rfl,0,0,0
  exists UT,Vs.nL2 fun _ _=>rfl,0,0,0
  exists Us,Vs.nL4 fun _ _ _ _=>rfl,0,0,0
  exists Uy,Vs.nL3 fun _ _ _=>rfl,0,0,0
  exists Uz,Vs.nL3 fun _ _ _=>rfl,0,0,0
  exists Ug,Vs.nL2 fun _ _=>rfl,0,0,0
  exists UO,Vs.nL1 fun _=>rfl,0,0,0
  exists UB,Vs.nL2 fun _ _=>rfl,0,0,0
  exists UC,Vs.nL2 fun _ _=>rfl,0,0,0
  exists UE,Vs.nL3 fun _ _ _=>rfl,0,0,0
  exists UI,Vs.nL2 fun _ _=>rfl,0,0,0
  exists Ut,Vs.nL1 fun _=>rfl,0,0,0
  exists Ud,Vs.nL1 fun _=>rfl,0,0,0
  exists Ul,Vs.nL1 fun _=>rfl,0,0,0
  exists UU,Vs.nL2 fun _ _=>rfl,0,0,0
  exists US,Vs.nL3 fun _ _ _=>rfl,0,0,0
  exists UM,Vs.nL1 fun _=>rfl,0,0,0
  exists UA,Vs.nL1 fun _=>rfl,0,0,0
  exists UF,Vs.nL2 fun _ _=>rfl,0,0,0
  exists Uv,Vs.nL2 fun _ _=>rfl,0,0,0
  exists UJ,Vs.nL2 fun _ _=>rfl,0,0,0
  exists UP,Vs.nL2 fun _ _=>rfl,0,0,0
  exists UL,Vs.nL2 fun _ _=>rfl,0,0,0
  exists Uw,Vs.nL3 fun _ _ _=>rfl,0,0,0
  exists UH,Vs.nL4 fun _ _ _ _=>rfl,0,0,0
  exists UQ,Vs.nL4 fun _ _ _ _=>rfl,0,0,0
  exists Um,Vs.nL2 fun _ _=>rfl,0,0,0,0,0
  exists Uh,Vs.nL1 fun _=>rfl,0,0,0,0,0
  exists UR,Vs.nL4 fun _ _ _ _=>rfl,0,0,0,0,0
  exists Ux,Vs.nL2 fun _ _=>rfl,0,0,0,0,0
  exists UG,Vs.nL2 fun _ _=>rfl,0,0,0,0,0
  exists Uu,Vs.nL1 fun _=>rfl,0,0,0,0,0
  exists Uo,Vs.nL1 fun _=>rfl,0,0,0,0,0
  (try case qafalling_groups=>first|rfl|decide|k_is)
  (try case qbfalling_groups=>k_is)
  (try case qcfalling_groups=>first|rfl|decide|k_is)
  (try case qdfalling_groups=>first|rfl|decide|k_is)
  (try case qefalling_groups=>first|rfl|decide|k_is)
  (try case qffalling_groups=>first|rfl|decide|k_is)
  (try case qgfalling_groups=>first|rfl|decide|k_is)
  (try case qhfalling_groups=>first|rfl|decide|k_is)
  (try case qifalling_groups=>first|rfl|decide|k_is)
  (try case qjfalling_groups=>first|rfl|decide|k_is)
  (try case qkfalling_groups=>first|k_is|rfl|decide|decide +kernel)
  (try case qlfalling_groups=>decide)
  (try case qafirst_use=>first|rfl|decide|k_is)
  (try case qbfirst_use=>k_is)
  (try case qcfirst_use=>first|rfl|decide|k_is)
  (try case qdfirst_use=>first|rfl|decide|k_is)
  (try case qefirst_use=>first|rfl|decide|k_is)
  (try case qffirst_use=>first|rfl|decide|k_is)
  (try case qgfirst_use=>first|rfl|decide|k_is)
  (try case qhfirst_use=>first|rfl|decide|k_is)
  (try case qifirst_use=>first|rfl|decide|k_is)
  (try case qjfirst_use=>first|rfl|decide|k_is)
  (try case qkfirst_use=>first|k_is|rfl|decide|decide +kernel)
  (try case qlfirst_use=>decide)
