import PyProof.Rows.All
import Wide.All
import OpenK.AllK
import Wide.FinOn
import Lean
import PyProof.EqAt
import PyProof.EqKinds
import PyProof.TupleCall
import PySem.Challenge.RW_voucherstack_k38_first_use
set_option Elab.async false
set_option linter.all false
set_option maxRecDepth 100000
open Array renaming length_toList → Nc, getElem?_eq_getElem → NL, size_zip → NP, getElem?_toList → Mq, getElem?_eq_none → MK
open Bool renaming false_ne_true → UX, false_eq_true → JD, and_eq_true → Np, eq_iff_iff → NA, false_and → Mc, or_eq_true → Mn, or_false → Mo
open List renaming length_map → UP, range → UU, replicate → UV, getElem?_map → UY, map_append → UZ, getElem?_eq_some_iff → U0, mem_of_getElem? → U1, map_cons → U4, length_take → U8, length_append → U9, size_toArray → Ja, mem_cons_of_mem → Jb, getD_eq_getElem?_getD → Jc, mem_cons → Jd, mem_map → Jf, map_map → Jg, mem_cons_self → Ji, flatten_cons → Jl, take_length → Jn, length_cons → Jp, lookup_cons → Jq, mem_append_right → Jt, zipWith → Jx, mem_append → Jy, map_congr_left → JA, mem_filter → JB, range_succ → JE, mem_singleton → JG, lookup → JH, nodup_cons → JJ, find?_cons → JK, any_cons → JL, getElem?_eq_getElem → JM, take_add_one → JN, append_nil → JQ, replicate_succ → JR, mem_flatten → JT, map_take → JU, of_mem_zip → JW, length_replicate → JX, take_of_length_le → JY, not_mem_nil → JZ, ext_getElem → J0, append_assoc → J7, pairwise_iff_getElem → J9, mem_iff_getElem? → Na, filter_append → Nb, getElem?_append_right → Nd, map_nil → Nf, length_singleton → Ng, Pairwise → Nh, getElem?_append_left → Nl, length_drop → Nm, getElem_map → Nr, filter_cons → Nt, length_filter_le → Nu, sum_cons → Nv, sum_append → Nw, filterMap_cons → Nx, getElem?_set_self → Ny, getElem?_set_ne → Nz, length → ND, reverse_cons → NF, nil_append → NG, all_eq_true → NH, getElem?_eq_none → NM, length_reverse → NN, nodup_nil → NO, cons_append → NQ, flatten_append → NR, nodup_range → NS, getElem_range → NT, pairwise_cons → NU, Perm → NV, length_zipWith → NW, getElem?_zipWith → NY, getElem?_range → NZ, nodup_append → N1, getLastD_eq_getLast? → N2, drop_eq_getElem_cons → N6, drop_length → N7, getElem?_eq_none_iff → N8, mem_range → Ma, mem_append_left → Mb, getElem?_replicate → Mi, all_cons → Ml, getElem_mem → Mm, ext_getElem? → Mp, count_cons → Ms, zipIdx_cons → Mt, pairwise_lt_range → Mu, take_append_drop → Mv, pairwise_map → Mw, map_drop → Mx, mem_of_mem_take → My, filter_nil → Mz, replicate_succ' → MA, sum_nil → MB, flatMap_nil → MC, getElem?_take_of_lt → MF, take_eq_take_iff → MJ, getElem_cons_drop → MQ, sublist_append_left → MR, getLast?_eq_some_getLast → MS, drop_of_length_le → MT
open Nat renaming le_refl → UR, le_trans → UT, le_of_lt → U3, ne_of_lt → Je, lt_of_lt_of_le → Jh, zero_le → Jk, ne_of_gt → JC, lt_irrefl → JO, lt_of_le_of_lt → JS, le_succ → J6, min_self → Nq, le_of_eq → NC, lt_trans → NJ, not_lt → NK, min_eq_left → N3, lt_succ_self → Mf
open Option renaming map_some → NI, getD_none → Mj
open PySem.F renaming plainAttrs_list → JF, slot_list_append → J4, type_list_append → J5, slot_list_extend → N4, type_list_extend → N5, slot_tuple_add → MG, entry_tuple_add → MH, args_tuple_add_2 → MI, slot_dict_setdefault → ML, plainAttrs_dict → MM, slot_dict_values → MN
open PySem.W renaming Frag → UQ, findIn → US, mroIn → UW, fnOf → U2, keepIn → U5, kitOne → U6, nsIn → U7, mg_of → Jj, codeIn → Jm, mg_none_of → Jo, plainGet → Jr, typeIn → Js, hasDictIn → Ju, isFn → Jv, makesIn → Jw, plainOver → Jz, kia_one → JI, emptyDict → JP, instObj → JV, kla_obj → J8, tabObj → Ni, specialIn → Nj, callWith_K → Nk, lookIn → NB, methodObj → N9, plainGet_of → Md, takerIn → Me, takesIn → Mg, methodCall_KW → Mh, kla_fn → Mr, callWith_K0 → MD, cellsFrom_some → ME, kla_callFunE → MO, kla_codeExpr → MP
set_option hygiene false
local macro_rules|`(tactic|exists $a,$b)=>`(tactic|refine FunD.ok $a $b (by intro _ _ _ _ h;cases h;subst_vars;rfl) (fun cdv A outer s H vs Q E hr h=>?_))
local macro_rules|`(tactic|ac_rfl)=>`(tactic|exact⟨rfl,rfl,rfl,by decide +kernel,rfl,by decide +kernel,by decide +kernel⟩)
local macro_rules|`(tactic|exists $a:ident,$b,$c)=>`(tactic|have $a:ident:=$b (P:=P) (w:=w) $c)
local macro_rules|`(tactic|exists $a:ident,$b,$c,$_)=>`(tactic|have $a:ident:Room $b _:=($c).mono (by decide))
local macro_rules|`(tactic|exists $a:ident)=>`(tactic|try refine sN fun _ $a=>?_)
local macro_rules|`(tactic|exists $a,$b,$c:ident,$d:ident,$e:ident,$f)=>`(tactic|(generalize hg9:upd $a $b _=$c;obtain⟨$d:ident,$e:ident⟩:=kaF hg9 $f;clear hg9))
local macro_rules|`(tactic|ac_nf)=>`(tactic|(repeat (first|rw[kab,if_pos rfl]|rw[kab,if_neg (by decide +kernel)])))
local macro_rules|`(tactic|symm)=>`(tactic|try apply Y4)
local macro_rules|`(tactic|nofun)=>`(tactic|try first|apply Y6|apply Y4)
local macro_rules|`(tactic|exists 3)=>`(tactic|try first|apply Y8|apply Y6|apply Y4)
local macro_rules|`(tactic|exists 4)=>`(tactic|try first|apply Y10|apply Y6|apply Y4)
local macro_rules|`(tactic|exists $a:ident,$b,$_,$_,$_)=>`(tactic|(case $a:ident=>refine' Vs.dn_mk KX G ?_ ?_ ?_ ?_ (fun _ _ _ _ _ _=>$b);any_goals k_is))
local macro_rules|`(tactic|exists $a:ident,$b,$_,$_,$_,$_,$_)=>`(tactic|(case $a:ident=>refine' Vs.mt_mk ?_ ?_ ?_ ?_ ?_ (fun _ _ _ _ _ _=>$b);any_goals k_is))
namespace L2
open PySem PySem.Spec PyProof.Rows
noncomputable abbrev Key:=Sum Int Str
noncomputable def keyIs:Key→Value→Bool
 | .inl k,v=>Value.isInt k v
 | .inr x,v=>Value.isStrOf x v
noncomputable def keyH(w:World):Key→Int
 | .inl k=>hashInt k
 | .inr x=>hashStr w x
theorem kaV:∀{k:Key}{v:Value},keyIs k v=true→(∃i t,k=Sum.inl i∧v=Value.int i t)∨(∃x t,k=Sum.inr x∧v=Value.str x t)
 | .inl i,v,h=>by
  obtain⟨t,e⟩:=Value.isInt_shape (k:=i) (v:=v) h
  exact .inl ⟨i,t,rfl,e⟩
 | .inr x,v,h=>by
  obtain⟨t,e⟩:=Value.isStrOf_shape (x:=x) (v:=v) h
  exact .inr ⟨x,t,rfl,e⟩
def kiI(i:Int)(t:Tok):keyIs (.inl i) (.int i t)=true:=by simp[keyIs,Value.isInt]
def klF(a b:Int):decide ((Sum.inl a:Key)=Sum.inl b)=(a==b):=by
 by_cases e:a=b
 ·subst e;simp
 ·have h:¬(Sum.inl a:Key)=Sum.inl b:=fun q=>e (Sum.inl.inj q)
  rw[decide_eq_false h]
  exact(beq_eq_false_iff_ne.mpr e).symm
def klC(a b:Str):decide ((Sum.inr a:Key)=Sum.inr b)=decide (a=b):=by
 by_cases e:a=b
 ·subst e;simp
 ·have h:¬(Sum.inr a:Key)=Sum.inr b:=fun q=>e (Sum.inr.inj q)
  rw[decide_eq_false h,decide_eq_false e]
def klE(a:Int)(b:Str):decide ((Sum.inl a:Key)=Sum.inr b)=false:=decide_eq_false (fun q=>nomatch q)
def klD(a:Str)(b:Int):decide ((Sum.inr a:Key)=Sum.inl b)=false:=decide_eq_false (fun q=>nomatch q)
noncomputable def kcI(prog:Program)(w:World):PySem.KeyKind prog w Key where
 is:=keyIs
 hash:=keyH w
 inj:=fun v a b ha hb=>by
  rcases kaV ha with⟨i,t,rfl,rfl⟩|⟨x,t,rfl,rfl⟩
  ·rcases kaV hb with⟨j,u,rfl,e⟩|⟨y,u,rfl,e⟩
   ·injection e with e1 _;rw[e1]
   ·exact nomatch e
  ·rcases kaV hb with⟨j,u,rfl,e⟩|⟨y,u,rfl,e⟩
   ·exact nomatch e
   ·injection e with e1 _;rw[e1]
 byValue:=fun k v h=>by
  rcases kaV h with⟨i,t,rfl,rfl⟩|⟨x,t,rfl,rfl⟩ <;> rfl
 pyHash:=fun hv h=>by
  rcases kaV hv with⟨i,t,rfl,rfl⟩|⟨x,t,rfl,rfl⟩
  ·exact wpAny_pyHash_int h
  ·exact wpAny_pyHash_str h
 eqBool:=fun hu hv h=>by
  rcases kaV hu with⟨i,t,rfl,rfl⟩|⟨x,t,rfl,rfl⟩
  ·rcases kaV hv with⟨j,u,rfl,rfl⟩|⟨y,u,rfl,rfl⟩
   ·rw[klF] at h;exact wpAny_eqBool_int h
   ·rw[klE] at h;exact SeqAt.EqAt.int_str i t y u _ _ _ _ h
  ·rcases kaV hv with⟨j,u,rfl,rfl⟩|⟨y,u,rfl,rfl⟩
   ·rw[klD] at h;exact SeqAt.EqAt.str_int x t j u _ _ _ _ h
   ·rw[klC] at h;exact wpAny_eqBool_str h
 «strs» :=fun k x t v h=>by
  rcases kaV h with⟨i,u,rfl,e⟩|⟨y,u,rfl,e⟩
  ·exact nomatch e
  ·injection e with e1 _
   subst e1
   cases v <;> rfl
def kgk(prog:Program)(w:World)(i:Int)(t:Tok):(kcI prog w).is (.inl i) (.int i t)=true:=kiI i t
end L2
namespace L2
open PySem PySem.Spec PyProof.Rows
inductive V where
 |non|bl (b:Bool)|int (i:Int)|str (x:Str)|byt (b:Array UInt8)|flt (b:UInt64)|ref (a:Addr)|ty (n:String)
 deriving DecidableEq
noncomputable def RelV:V→Value→Prop
 | .non,u=>u=Value.none
 | .bl b,u=>u=Value.bool b
 | .int i,u=>∃t,u=Value.int i t
 | .str x,u=>∃t,u=Value.str x t
 | .byt b,u=>∃t,u=Value.bytes b t
 | .flt b,u=>∃t,u=Value.float b t
 | .ref a,u=>u=Value.ref a
 | .ty n,u=>u=Value.type n
noncomputable abbrev Vals:List V→List Value→Prop:=Paired RelV
def Vals.length{xs:List V}{us:List Value}(r:Vals xs us):xs.length=us.length:=Paired.length r
theorem Vals.get:∀{xs:List V}{us:List Value}{i:Nat}{x:V},Vals xs us→xs[i]?=some x→∃u,us[i]?=some u∧RelV x u
 |_,_,_,_, .nil,e=>by simp at e
 |_,_,0,_, .cons r _,e=>by simp at e;subst e;exact⟨_,rfl,r⟩
 |_,_,i+1,x, .cons _ t,e=>by
  obtain⟨u,h1,h2⟩:=Vals.get (i:=i) (x:=x) t (by simpa using e)
  exact⟨u,by simpa using h1,h2⟩
theorem Vals.set{x:V}{u:Value}(r:RelV x u):∀{xs:List V}{us:List Value}(i:Nat),Vals xs us→Vals (xs.set i x) (us.set i u)
 |_,_,_, .nil=>.nil
 |_,_,0, .cons _ t=>.cons r t
 |_,_,i+1, .cons q t=>.cons q (Vals.set r i t)
theorem Vals.append:∀{xs ys:List V}{us ws:List Value},Vals xs us→Vals ys ws→Vals (xs++ys) (us++ws)
 |_,_,_,_, .nil,s=>s
 |_,_,_,_, .cons r t,s=>.cons r (Vals.append t s)
theorem Vals.take:∀{xs:List V}{us:List Value}(n:Nat),Vals xs us→Vals (xs.take n) (us.take n)
 |_,_,0,_=>.nil
 |_,_,_+1, .nil=>.nil
 |_,_,n+1, .cons r t=>.cons r (Vals.take n t)
theorem Vals.drop:∀{xs:List V}{us:List Value}(n:Nat),Vals xs us→Vals (xs.drop n) (us.drop n)
 |_,_,0,r=>r
 |_,_,_+1, .nil=>.nil
 |_,_,n+1, .cons _ t=>Vals.drop n t
def Vals.none_of:∀{xs:List V}{us:List Value}{i:Nat},Vals xs us→xs[i]?=none→us[i]?=none:=fun {xs us i} r e=>by
 have h1:=r.length
 have h2:xs.length≤i:=N8.mp e
 exact N8.mpr (by omega)
noncomputable def RelO:Option V→Option Value→Prop
 |some v,some u=>RelV v u
 |none,none=>True
 |_,_=>False
noncomputable def KV{κ:Type}:List (κ×V)→List (κ×Value)→Prop:=Paired fun(p: κ×V)(q: κ×Value)=>p.1=q.1∧RelV p.2 q.2
noncomputable def kV:Key→V
 | .inl i=>.int i
 | .inr x=>.str x
inductive HO where
 |lst (xs:List V)
 |tup (xs:List V)
 |dK (kvs:List (Key×V))|dT (kvs:List (List Key×V))
 |set (S:Int→Bool) (n:Nat)
 |ins (C dx:Addr) (fs:List (Str×V))
 |own (x:Addr)
 |xd (fs:List (Str×V))
 |met (f x:Addr)
 |rng (lo hi:Int)
 |frz (o:Obj) (u:HO)
 |tbl (ps:Array Value)
 |ext (φ:Heap→Prop)
noncomputable abbrev Hp:=Addr→Option HO
noncomputable def upd(H:Hp)(a:Addr)(o:HO):Hp:=fun b=>if b=a then some o else H b
def kac{H:Hp}{a:Addr}{o:HO}:upd H a o a=some o:=by unfold upd;rw[if_pos rfl]
def kaj{H:Hp}{a b:Addr}{o:HO}(h:b≠a):upd H a o b=H b:=by unfold upd;rw[if_neg h]
def kku{H:Hp}{a:Addr}{o u:HO}:upd (upd H a o) a u=upd H a u:=by
 funext b;unfold upd;split <;> rfl
def ne_of{H:Hp}{a b:Addr}{o u:HO}(h:H a=some o)(h':H b=some u)(d:o≠u):a≠b:=by
 intro e;subst e;rw[h] at h';exact d (Option.some.inj h')
def kag{H:Hp}{a b:Addr}{o:HO}(h:H a=some o)(h':H b=none):a≠b:=by
 intro e;subst e;rw[h] at h';cases h'
section
variable (P:Program) (w:World)
noncomputable def ObjOk(H:Hp)(h:Heap)(a:Addr):HO→Prop
 | .lst xs=>xs.length≤sizeLine∧∃(its:List Value)(n:Nat),Vals xs its∧h.get? a=some {cls:=.type "list",data:=.seq its.toArray n}
 | .tup xs=>xs.length≤sizeLine∧∃its:List Value,Vals xs its∧IsTup h a its.toArray
 | .dK kvs=>kvs.length≤sizeLine∧(a==sysModules)=false∧∃vs,KV kvs vs∧h.DictOf (kcI P w) a vs
 | .dT kvs=>kvs.length≤sizeLine∧(a==sysModules)=false∧∃xs:List (List Key×Addr×Value),
   Paired (fun(p:List Key×V)(q:List Key×Addr×Value)=>p.1=q.1∧H q.2.1=some (.tup (p.1.map kV))∧RelV p.2 q.2.2) kvs xs∧
   ∃o es ep,h.get? a=some o∧o.ExactDict∧o.data=.dict es ep∧es.toList=xs.map (entryOfKey (tupleKind (kcI P w)))∧(xs.map (·.1)).Nodup
 | .set S n=>h.SetOf (intKind P w) a S n
 | .ins C dx fs=>H dx=some (.own a)∧fs.length≤1000∧dx≠a∧h.get? a=some (JV C dx)∧
   ∃mA,h.Ns1 dx mA∧(∀f,RelO (fs.lookup f) (mA f))∧PySem.Within mA (fs.map (·.1))
 | .own _=>∃o,h.get? a=some o
 | .xd fs=>∃mA,h.Ns1 a mA∧∀f,RelO (fs.lookup f) (mA f)
 | .rng lo hi=>∃t u v,h.get? a=some {cls:=.type "range",data:=.fields #[.int lo t, .int hi u, .int 1 v]}
 | .frz o u=>h.get? a=some o∧ObjOk H h a u
 | .tbl ps=>h.get? a=some {cls:=.none,data:=.fields ps}
 | .met f x=>h.get? a=some (N9 (.ref f) (.ref x))
 | .ext φ=>φ h∧(∃o,h.get? a=some o)∧∀h1 h2:Heap,φ h1→(∀o,h1.get? a=some o→h2.get? a=some o)→φ h2
noncomputable def HOk(H:Hp)(h:Heap):Prop:=∀a o,H a=some o→ObjOk P w H h a o
end
section
variable {P:Program} {w:World} {H H':Hp} {h h':Heap} {a:Addr} {o:HO}
theorem ObjOk.lt(x:ObjOk P w H h a o):a<h.objs.size:=by
 cases o with
 |lst xs=>obtain⟨_,_,_,_,e⟩:=x;exact Heap.lt_size e
 |tup xs=>obtain⟨_,_,_,p⟩:=x;exact p.lt
 |dK kvs=>obtain⟨_,_,_,_,o,_,_,e,_⟩:=x;exact Heap.lt_size e
 |dT kvs=>obtain⟨_,_,_,_,o,_,_,e,_⟩:=x;exact Heap.lt_size e
 |set S n=>obtain⟨o,_,_,_,e,_⟩:=x;exact Heap.lt_size e
 |ins C dx fs=>obtain⟨_,_,_,e,_⟩:=x;exact Heap.lt_size e
 |own y=>obtain⟨_,e⟩:=x;exact Heap.lt_size e
 |xd fs=>obtain⟨_,⟨_,_,_,e,_⟩,_⟩:=x;exact Heap.lt_size e
 |rng lo hi=>obtain⟨_,_,_,e⟩:=x;exact Heap.lt_size e
 |frz ob u=>obtain⟨e,_⟩:=x;exact Heap.lt_size e
 |tbl ps=>exact Heap.lt_size (show h.get? a=some _ from x)
 |met f y=>exact Heap.lt_size (show h.get? a=some _ from x)
 |ext φ=>obtain⟨_,⟨_,e⟩,_⟩:=x;exact Heap.lt_size e
theorem Paired.mapP{α β:Type}{F G: α→β→Prop}:∀{l₁:List α}{l₂:List β},Paired F l₁ l₂→(∀a b,F a b→G a b)→Paired G l₁ l₂
 |_,_, .nil,_=>.nil
 |_,_, .cons r t,f=>.cons (f _ _ r) (Paired.mapP t f)
theorem ObjOk.stay(x:ObjOk P w H h a o)(k:∀b u,(b=a∨H b=some (.own a))→h.get? b=some u→h'.get? b=some u)
  (ho:∀b,H b=some (.own a)→H' b=some (.own a)) (ht:∀b xs,H b=some (.tup xs)→H' b=some (.tup xs)):ObjOk P w H' h' a o:=by
 induction o with
 |lst xs=>obtain⟨z,its,n,r,e⟩:=x;exact⟨z,its,n,r,k _ _ (.inl rfl) e⟩
 |tup xs=>obtain⟨z,its,r,ob,e,c⟩:=x;exact⟨z,its,r,ob,k _ _ (.inl rfl) e,c⟩
 |dK kvs=>obtain⟨z,y,vs,r,ob,es,ep,e,c⟩:=x;exact⟨z,y,vs,r,ob,es,ep,k _ _ (.inl rfl) e,c⟩
 |dT kvs=>
  obtain⟨z,y,xs,r,ob,es,ep,e,c⟩:=x
  exact⟨z,y,xs,Paired.mapP r fun p q z=>⟨z.1,ht _ _ z.2.1,z.2.2⟩,ob,es,ep,k _ _ (.inl rfl) e,c⟩
 |set S n=>obtain⟨ob,es,ep,t,e,c⟩:=x;exact⟨ob,es,ep,t,k _ _ (.inl rfl) e,c⟩
 |ins C dx fs=>
  obtain⟨d,z,ne,e,mA,⟨od,es,ep,e2,c⟩,r⟩:=x
  exact⟨ho _ d,z,ne,k _ _ (.inl rfl) e,mA,⟨od,es,ep,k _ _ (.inr d) e2,c⟩,r⟩
 |own y=>obtain⟨ob,e⟩:=x;exact⟨ob,k _ _ (.inl rfl) e⟩
 |xd fs=>obtain⟨mA,⟨od,es,ep,e,c⟩,r⟩:=x;exact⟨mA,⟨od,es,ep,k _ _ (.inl rfl) e,c⟩,r⟩
 |rng lo hi=>obtain⟨t,u,v,e⟩:=x;exact⟨t,u,v,k _ _ (.inl rfl) e⟩
 |frz ob u ih=>obtain⟨e,q⟩:=x;exact⟨k _ _ (.inl rfl) e,ih q⟩
 |tbl ps=>
  have e:h.get? a=some {cls:=.none,data:=.fields ps}:=x
  show h'.get? a=some {cls:=.none,data:=.fields ps}
  exact k a _ (.inl rfl) e
 |met f y=>
  have e:h.get? a=some (N9 (.ref f) (.ref y)):=x
  show h'.get? a=some (N9 (.ref f) (.ref y))
  exact k a _ (.inl rfl) e
 |ext φ=>obtain⟨p,⟨o,e⟩,st⟩:=x;exact⟨st _ _ p fun o q=>k _ _ (.inl rfl) q,⟨o,k _ _ (.inl rfl) e⟩,st⟩
theorem HOk.lt(x:HOk P w H h)(e:H a=some o):a<h.objs.size:=(x a o e).lt
theorem HOk.fresh(x:HOk P w H h)(e:h.objs.size≤a):H a=none:=by
 cases q:H a with
 |none=>rfl
 |some u=>exact absurd (Jh (x.lt q) e) (JO _)
theorem HOk.kept(x:HOk P w H h)(k:∀b u,h.get? b=some u→h'.get? b=some u):HOk P w H h':=fun a o e=>
 (x a o e).stay (fun b u _ q=>k b u q) (fun _ q=>q) fun _ _ q=>q
theorem HOk.laid(x:HOk P w H h)(k:∀b u,h.get? b=some u→h'.get? b=some u)(hp:h.objs.size≤a)(new:ObjOk P w (upd H a o) h' a o):HOk P w (upd H a o) h':=fun b u e=>by
 have hn:=x.fresh hp
 by_cases hb:b=a
 ·subst hb;rw[kac] at e;cases e;exact new
 ·rw[kaj hb] at e
  exact(x b u e).stay (fun c v _ q=>k c v q) (fun c q=>by rw[kaj (kag q hn)];exact q) fun c xs q=>by rw[kaj (kag q hn)];exact q
end
noncomputable def Rd(H:Hp)(a:Addr)(u:HO):Prop:=H a=some u∨∃o,H a=some (.frz o u)
def Rd.of{H:Hp}{a:Addr}{u:HO}(h:H a=some u):Rd H a u:=.inl h
def Rd.ok{P:Program}{w:World}{H:Hp}{h:Heap}{a:Addr}{u:HO}(r:Rd H a u)(x:HOk P w H h):ObjOk P w H h a u:=by
 rcases r with r|⟨o,r⟩
 ·exact x a u r
 ·obtain⟨_,q⟩:=x a _ r
  exact q
noncomputable def Mut:Option HO→Prop
 |some (.lst _)=>True
 |some (.dK _)=>True
 |some (.dT _)=>True
 |some (.set _ _)=>True
 |some (.ins _ _ _)=>True
 |some (.ext _)=>True
 |_=>False
section
variable {P:Program} {w:World} {H:Hp} {h h':Heap} {x e:Addr} {o':HO}
theorem HOk.write(ok:HOk P w H h)(mu:Mut (H x))(he:e=x∨H e=some (.own x))(k:∀b u,b≠e→h.get? b=some u→h'.get? b=some u)(heo:∃u,h'.get? e=some u)
  (new:ObjOk P w (upd H x o') h' x o'):HOk P w (upd H x o') h':=fun b u q=>by
 have nown:∀c y,H c=some (.own y)→c≠x:=fun c y r z=>by subst z;rw[r] at mu;exact mu
 have ntup:∀c xs,H c=some (.tup xs)→c≠x:=fun c xs r z=>by subst z;rw[r] at mu;exact mu
 by_cases hb:b=x
 ·subst hb;rw[kac] at q;cases q;exact new
 ·rw[kaj hb] at q
  by_cases hbe:b=e
  ·have q':H b=some (.own x):=by
    rcases he with z|z
    ·exact absurd (hbe.trans z) hb
    ·rw[hbe];exact z
   rw[q] at q';cases q'
   obtain⟨v,hv⟩:=heo
   exact⟨v,by rw[hbe];exact hv⟩
  ·refine(ok b u q).stay (fun c v hc r=>k c v ?_ r) (fun c r=>by rw[kaj (nown c b r)];exact r) fun c xs r=>by rw[kaj (ntup c xs r)];exact r
   rcases hc with rfl|hc
   ·exact hbe
   ·rintro rfl
    rcases he with z|z
    ·exact nown c b hc z
    ·rw[hc] at z;cases z;exact hb rfl
end
structure Un (fs ex:List Addr) (H H':Hp) (h h':Heap):Prop where
 keep:∀b o,h.get? b=some o→H b=none→b∉fs→b∉ex→h'.get? b=some o
 slot:∀b o,h.get? b=some o→H b=none→b∈fs→b∉ex→∃sl,h'.get? b=some {o with slots:=sl}
 free:∀b o,h.get? b=some o→H b=none→b∉ex→H' b=none
 there:∀b o,h.get? b=some o→b∉ex→∃o',h'.get? b=some o'
 tups:∀b xs,H b=some (.tup xs)→H' b=some (.tup xs)
 frzs:∀b o u,H b=some (.frz o u)→H' b=some (.frz o u)
 tbls:∀b ps,H b=some (.tbl ps)→∃more,H' b=some (.tbl (ps++more))
section
variable {fs fs' ex ex':List Addr} {H H1 H2:Hp} {h h1 h2 h':Heap} {a x e:Addr} {o:HO}
theorem Un.any(u:Un fs ex H H1 h h1){b:Addr}{ob:Obj}(q:h.get? b=some ob)(n:H b=none)(hx:b∉ex):∃sl,h1.get? b=some {ob with slots:=sl}:=by
 by_cases hb:b∈fs
 ·exact u.slot b ob q n hb hx
 ·exact⟨ob.slots,u.keep b ob q n hb hx⟩
theorem Un.trans(a:Un fs ex H H1 h h1)(b:Un fs ex H1 H2 h1 h2):Un fs ex H H2 h h2 where
 keep:=fun c ob q n hc hx=>b.keep c ob (a.keep c ob q n hc hx) (a.free c ob q n hx) hc hx
 slot:=fun c ob q n hc hx=>by
  obtain⟨sl,e1⟩:=a.slot c ob q n hc hx
  obtain⟨sl',e2⟩:=b.slot c _ e1 (a.free c ob q n hx) hc hx
  exact⟨sl',e2⟩
 free:=fun c ob q n hx=>by
  obtain⟨o',e1⟩:=a.there c ob q hx
  exact b.free c o' e1 (a.free c ob q n hx) hx
 there:=fun c ob q hx=>by
  obtain⟨o',e1⟩:=a.there c ob q hx
  exact b.there c o' e1 hx
 tups:=fun c xs q=>b.tups c xs (a.tups c xs q)
 frzs:=fun c ob xs q=>b.frzs c ob xs (a.frzs c ob xs q)
 tbls:=fun c ps q=>by
  obtain⟨m1,e1⟩:=a.tbls c ps q
  obtain⟨m2,e2⟩:=b.tbls c _ e1
  exact⟨m1++m2,by rw[e2,Array.append_assoc]⟩
theorem Un.kept(k:∀b u,h.get? b=some u→h'.get? b=some u):Un fs ex H H h h':=
 ⟨fun b ob q _ _ _=>k b ob q,fun b ob q _ _ _=>⟨ob.slots,k b ob q⟩,fun _ _ _ n _=>n,fun b ob q _=>⟨ob,k b ob q⟩,fun _ _ q=>q,fun _ _ _ q=>q,fun _ ps q=>⟨#[],by rw[q];simp⟩⟩
theorem Un.refl:Un fs ex H H h h:=Un.kept fun _ _ q=>q
theorem Un.laid(k:∀b u,h.get? b=some u→h'.get? b=some u)(hp:h.objs.size≤a)(hn:H a=none):Un fs ex H (upd H a o) h h' where
 keep:=fun b u q _ _ _=>k b u q
 slot:=fun b u q _ _ _=>⟨u.slots,k b u q⟩
 free:=fun b u q n _=>by rw[kaj (Je (Jh (Heap.lt_size q) hp))];exact n
 there:=fun b u q _=>⟨u,k b u q⟩
 tups:=fun b xs q=>by rw[kaj (kag q hn)];exact q
 frzs:=fun b u xs q=>by rw[kaj (kag q hn)];exact q
 tbls:=fun b ps q=>⟨#[],by rw[kaj (kag q hn),q];simp⟩
theorem Un.write(mu:Mut (H x))(he:e=x∨H e=some (.own x))(k:∀b u,b≠e→h.get? b=some u→h'.get? b=some u)(heo:∃u,h'.get? e=some u):Un fs ex H (upd H x o) h h':=by
 have hx:∀b,H b=none→b≠x:=fun b n z=>by subst z;rw[n] at mu;exact mu
 have hb:∀b,H b=none→b≠e:=fun b n z=>by
  subst z
  rcases he with r|r
  ·exact hx b n r
  ·rw[n] at r;cases r
 have hm:∀b u,H b=some u→¬Mut (some u)→b≠x:=fun b u q nm z=>by subst z;rw[q] at mu;exact nm mu
 refine⟨fun b u q n _ _=>k b u (hb b n) q,fun b u q n _ _=>⟨u.slots,k b u (hb b n) q⟩,fun b u q n _=>by rw[kaj (hx b n)];exact n,fun b u q _=>?_,
  fun b xs q=>by rw[kaj (hm b _ q fun z=>z)];exact q,fun b u xs q=>by rw[kaj (hm b _ q fun z=>z)];exact q,fun b ps q=>⟨#[],by rw[kaj (hm b _ q fun z=>z),q];simp⟩⟩
 by_cases hbe:b=e
 ·subst hbe;exact heo
 ·exact⟨u,k b u hbe q⟩
theorem Un.mono(u:Un fs ex H H1 h h1)(hs:∀b∈fs,b∈fs')(hx:∀b∈ex,b∈ex'):Un fs' ex' H H1 h h1:=
 ⟨fun b ob q n hb he=>u.keep b ob q n (fun z=>hb (hs b z)) fun z=>he (hx b z),fun _ _ q n _ he=>u.any q n fun z=>he (hx _ z),fun b ob q n he=>u.free b ob q n fun z=>he (hx b z),fun b ob q he=>u.there b ob q fun z=>he (hx b z),u.tups,u.frzs,u.tbls⟩
end
noncomputable def trk(h:Heap)(H:Hp):List Addr:=(UU h.objs.size).filter fun a=>(H a).isSome
noncomputable def hidT(h:Heap)(H:Hp):Heap:=PySem.W.hideAll h (trk h H)
def kiO(h:Heap)(H:Hp):(hidT h H).objs.size=h.objs.size:=PySem.W.hideAll_size _ _
def kjM{h:Heap}{H:Hp}{b:Addr}{o:Obj}(e:h.get? b=some o)(n:H b=none):(hidT h H).get? b=some o:=
 PySem.W.hideAll_get _ e fun hm=>by
  have q:(H b).isSome=true:=(JB.mp hm).2
  rw[n] at q;simp at q
theorem kkS{h:Heap}{H:Hp}{b:Addr}{o:Obj}(e:(hidT h H).get? b=some o):h.get? b=some o∧H b=none:=by
 have e':h.get? b=some o:=PySem.W.of_hideAll (trk h H) e
 refine⟨e',?_⟩
 cases q:H b with
 |none=>rfl
 |some x=>
  have hm:b∈trk h H:=JB.mpr ⟨Ma.mpr (Heap.lt_size e'),by simp[q]⟩
  have z:(hidT h H).get? b=none:=PySem.W.hideAll_none (trk h H) hm
  rw[z] at e;cases e
noncomputable def klf(g h:Heap)(L:Addr):List (Addr×Obj):=(UU h.objs.size).filterMap fun a=>if a=L∨(g.get? a).isSome=true then none else(h.get? a).map fun o=>(a,o)
noncomputable def rest(g h:Heap)(L d:Addr):List (Addr×Obj):=(klf g h L).filter fun p=>decide (p.1≠d)
end L2
namespace L2
open PySem PySem.Spec PyProof.Rows
structure Mod (K:UQ) (mg:Str→Option Value) (base:Heap):Prop where
 kin:K.In base
 glob:base.Ns mainGlobals mg
 blt:∃mb,base.Ns builtinsNs mb∧∀x:Str,x≠"__name__"→mb x=bootBuiltins x
 nolimit:base.NoLimit
structure Cx where
 prog:Program
 w:World
 K:UQ
 mg:Str→Option Value
 base:Heap
 A:Around
 N:List Str
 s₀:Shared
 H₀:Hp
 env:Env
 outer:List Env
 stack:List Env
 ex:List Addr
 fn:Str→Bool
 calm:Bool
 pn:List (Addr×Obj)
 xe:Value→Shared→Prop
noncomputable def frs(l:List Env):List Addr:=l.filterMap (·.frame)
noncomputable abbrev Cx.fs(X:Cx):List Addr:=frs X.outer
noncomputable def Vis(sc:Scope)(x:Str):Prop:=sc.names.lookup x=some .local∨sc.names.lookup x=some .cell∨sc.names.lookup x=some .free
noncomputable def Loc(sc:Scope)(x:Str):Prop:=sc.names.lookup x=some .local∨sc.names.lookup x=some .cell
noncomputable def Look(env:Env)(h:Heap)(m:Str→Option Value)(x:Str)(u:Value):Prop:=
 (env.kindOf x=some .local∧m x=some u)∨((env.kindOf x=some .cell∨env.kindOf x=some .free)∧∃c,env.cells.lookup x=some c∧h.IsCell c (some u))
structure Cx.Ok (X:Cx):Prop where
 mod:Mod X.K X.mg X.base
 kind:X.env.scope.kind=.function
 glob:X.env.globals=mainGlobals
 blt:X.env.builtins=builtinsNs
 above:X.s₀.heap.objs.size≤X.env.locals
 inj:∀x y c,X.env.cells.lookup x=some c→X.env.cells.lookup y=some c→x=y
 has:∀x,(X.env.kindOf x=some .cell∨X.env.kindOf x=some .free)→∃c,X.env.cells.lookup x=some c
 cab:∀x c,X.fn x=true→X.env.cells.lookup x=some c→X.s₀.heap.objs.size≤c
 hd:X.calm=true→X.A.handled=none
 frames:X.A.frames=some X.stack
 stk:X.stack=X.outer∨(X.stack=X.env::X.outer∧X.env.frame=some X.env.locals)
 exf:∀b∈X.ex,b≠X.env.locals∧∀x c,X.env.cells.lookup x=some c→c≠b
 bs:∀b o,X.base.get? b=some o→X.s₀.heap.get? b=some o∧X.H₀ b=none
 bsz:X.base.objs.size≤X.s₀.heap.objs.size
 noex:∀b o,X.base.get? b=some o→b∉X.ex
 exfs:∀b∈X.ex,b∉X.fs
 funs:X.s₀.heap.FunFrames X.base X.outer
 frf:∀b∈X.fs,X.H₀ b=none
structure Inv (X:Cx) (pins:List (Addr×Obj)) (σ:List (Option V)) (H:Hp) (s:Shared):Prop where
 ok:X.Ok
 os:s.os=X.s₀.os
 bare:AllBare s.gens
 base:Un X.fs X.ex X.H₀ H X.s₀.heap s.heap
 loc:∃m,s.heap.Ns X.env.locals m∧∀(i:Nat)(x:Str)(v:V),X.N[i]?=some x→σ[i]?=some (some v)→Vis X.env.scope x→∃u,RelV v u∧Look X.env s.heap m x u
 cell:∀x c,X.env.cells.lookup x=some c→∃v,s.heap.IsCell c v
 free:H X.env.locals=none
 freeC:∀x c,X.env.cells.lookup x=some c→H c=none
 pin:∀p∈X.pn++pins,s.heap.get? p.1=some p.2∧H p.1=none∧p.1≠X.env.locals∧p.1∉X.fs∧∀v,p.2.data≠.cell v
 hok:HOk X.prog X.w H s.heap
 len: σ.length=X.N.length
section
variable {X:Cx} {pins:List (Addr×Obj)} {σ:List (Option V)} {H H':Hp} {s:Shared} {h':Heap}
theorem Cx.Ok.nofr(ok:X.Ok){b:Addr}{o:Obj}(e:X.base.get? b=some o):b∉X.fs:=fun hb=>by
 have:=(ok.funs.mem hb).1
 rw[e] at this;cases this
theorem Inv.bs(I:Inv X pins σ H s):∀b o,X.base.get? b=some o→s.heap.get? b=some o∧H b=none:=fun b o e=>
 ⟨I.base.keep b o (I.ok.bs b o e).1 (I.ok.bs b o e).2 (I.ok.nofr e) (I.ok.noex b o e),I.base.free b o (I.ok.bs b o e).1 (I.ok.bs b o e).2 (I.ok.noex b o e)⟩
theorem Inv.bk(I:Inv X pins σ H s):∀b o,X.base.get? b=some o→s.heap.get? b=some o:=fun b o e=>(I.bs b o e).1
theorem Inv.mod(I:Inv X pins σ H s):Mod X.K X.mg X.base:=I.ok.mod
theorem Inv.kIn(I:Inv X pins σ H s):X.K.In s.heap:=I.ok.mod.kin.keeps I.bk
theorem Inv.nolimit(I:Inv X pins σ H s):s.heap.NoLimit:=I.ok.mod.nolimit.keeps I.bk
theorem Inv.fr(I:Inv X pins σ H s):∃m,Fr X.base X.env.locals s.heap m:=
 let⟨m,hn,_⟩:=I.loc
 ⟨m,hn,I.bk,UT I.ok.bsz I.ok.above⟩
theorem Inv.lt(I:Inv X pins σ H s):X.env.locals<s.heap.objs.size:=let⟨_,hn,_⟩:=I.loc;hn.lt
theorem Inv.sz(I:Inv X pins σ H s):X.s₀.heap.objs.size≤s.heap.objs.size:=UT I.ok.above (U3 I.lt)
theorem Inv.nofs(I:Inv X pins σ H s){a:Addr}(h:s.heap.objs.size≤a):a∉X.fs:=fun hb=>by
 obtain⟨_,o,ho,_⟩:=I.ok.funs.mem hb
 exact absurd (Jh (Heap.lt_size ho) (UT I.sz h)) (JO _)
theorem Inv.cne(I:Inv X pins σ H s):∀x c,X.env.cells.lookup x=some c→c≠X.env.locals:=fun x c e z=>by
 obtain⟨v,o,ho,hd⟩:=I.cell x c e
 obtain⟨m,⟨o',es,ep,ho',hd',_⟩,_⟩:=I.loc
 rw[z,ho'] at ho;cases ho;rw[hd'] at hd;cases hd
theorem Inv.funs(I:Inv X pins σ H s):s.heap.FunFrames X.base X.outer:=by
 have all:∀(l:List Env),(∀b∈frs l,b∈X.fs)→X.s₀.heap.FunFrames X.base l→s.heap.FunFrames X.base l:=by
  intro l
  induction l with
  |nil=>intro _ _;trivial
  |cons env r ih=>
   intro hs hl
   obtain⟨hk,⟨L,o,hf,hn,ho,hd⟩,hr⟩:=hl
   have hL:L∈X.fs:=hs L (by unfold frs;rw[Nx,hf];exact Ji)
   obtain⟨sl,e⟩:=I.base.slot L o ho (I.ok.frf L hL) hL fun z=>I.ok.exfs L z hL
   exact⟨hk,⟨L,_,hf,hn,e,hd⟩,ih (fun b hb=>hs b (by unfold frs;rw[Nx,hf];exact Jb _ hb)) hr⟩
 exact all X.outer (fun _ hb=>hb) I.ok.funs
theorem Inv.stack(I:Inv X pins σ H s):s.heap.FunFrames X.base X.stack:=by
 rcases I.ok.stk with e|⟨e,hf⟩
 ·rw[e];exact I.funs
 ·rw[e]
  obtain⟨m,hn,_⟩:=I.loc
  refine .cons (by rw[I.ok.kind];decide) hf hn ?_ I.funs
  exact Heap.get?_none_of_le (UT I.ok.bsz I.ok.above)
theorem Inv.stkSub(I:Inv X pins σ H s):∀b∈frs X.stack,b∈X.env.locals::X.fs:=fun b hb=>by
 rcases I.ok.stk with e|⟨e,hf⟩
 ·rw[e] at hb;exact Jb _ hb
 ·rw[e] at hb
  unfold frs at hb
  rw[Nx,hf] at hb
  exact hb
theorem Inv.stkFree(I:Inv X pins σ H s):∀b∈frs X.stack,H b=none:=fun b hb=>by
 rcases Jd.mp (I.stkSub b hb) with e|hb
 ·rw[e];exact I.free
 ·obtain⟨_,o,ho,_⟩:=I.ok.funs.mem hb
  exact I.base.free b o ho (I.ok.frf b hb) fun z=>I.ok.exfs b z hb
theorem Inv.step{g':Array GenState}{t':Nat}{d':Drawn}{ch:List Addr}(I:Inv X pins σ H s)
  (hch:∀b∈ch,(b∈X.ex∨X.s₀.heap.objs.size≤b)∧b≠X.env.locals∧(∀x c,X.env.cells.lookup x=some c→c≠b)∧∀p∈X.pn++pins,p.1≠b)
  (keep:∀b o,b≠X.env.locals→b∉X.fs→b∉ch→s.heap.get? b=some o→H b=none→h'.get? b=some o)
  (slot:∀b o,b≠X.env.locals→b∈X.fs→b∉ch→s.heap.get? b=some o→H b=none→∃sl,h'.get? b=some {o with slots:=sl}) (free:∀b o,b∉ch→s.heap.get? b=some o→H b=none→H' b=none)
  (there:∀b o,b∉ch→s.heap.get? b=some o→∃o',h'.get? b=some o')
  (tups:∀b xs,H b=some (.tup xs)→H' b=some (.tup xs)) (frzs:∀b o u,H b=some (.frz o u)→H' b=some (.frz o u)) (tbls:∀b ps,H b=some (.tbl ps)→∃more,H' b=some (.tbl (ps++more)))
  (ns:∀m,s.heap.Ns X.env.locals m→h'.Ns X.env.locals m) (hok:HOk X.prog X.w H' h') (hg:AllBare g'):
  Inv X pins σ H' {s with heap:=h',gens:=g',drawn:=d',toks:=t'}:=by
 have neL:∀b o,X.s₀.heap.get? b=some o→b≠X.env.locals:=fun b o e=>Je (Jh (Heap.lt_size e) I.ok.above)
 have neC:∀b o,X.s₀.heap.get? b=some o→b∉X.ex→b∉ch:=fun b o e hx hb=>by
  rcases(hch b hb).1 with z|z
  ·exact hx z
  ·exact absurd (Jh (Heap.lt_size e) z) (JO _)
 have cellK:∀x c,X.env.cells.lookup x=some c→∀v,s.heap.IsCell c v→h'.IsCell c v:=fun x c e v ⟨o,ho,hd⟩=>by
  have nch:c∉ch:=fun z=>(hch c z).2.2.1 x c e rfl
  by_cases hc:c∈X.fs
  ·obtain⟨sl,q⟩:=slot c o (I.cne x c e) hc nch ho (I.freeC x c e)
   exact⟨_,q,hd⟩
  ·exact⟨o,keep c o (I.cne x c e) hc nch ho (I.freeC x c e),hd⟩
 refine⟨I.ok,I.os,hg,⟨fun b o e n hb hx=>?_,fun b o e n hb hx=>?_,fun b o e n hx=>?_,fun b o e hx=>?_,fun b xs e=>tups b xs (I.base.tups b xs e),fun b o xs e=>frzs b o xs (I.base.frzs b o xs e),fun b ps e=>?_⟩,?_,fun x c e=>?_,?_,fun x c e=>?_,fun p hp=>?_,hok,I.len⟩
 ·exact keep b o (neL b o e) hb (neC b o e hx) (I.base.keep b o e n hb hx) (I.base.free b o e n hx)
 ·obtain⟨sl,e1⟩:=I.base.slot b o e n hb hx
  obtain⟨sl',e2⟩:=slot b _ (neL b o e) hb (neC b o e hx) e1 (I.base.free b o e n hx)
  exact⟨sl',e2⟩
 ·obtain⟨o',e1⟩:=I.base.there b o e hx
  exact free b o' (neC b o e hx) e1 (I.base.free b o e n hx)
 ·obtain⟨o',e1⟩:=I.base.there b o e hx
  exact there b o' (neC b o e hx) e1
 ·obtain⟨m1,e1⟩:=I.base.tbls b ps e
  obtain⟨m2,e2⟩:=tbls b _ e1
  exact⟨m1++m2,by rw[e2,Array.append_assoc]⟩
 ·obtain⟨m,hn,hl⟩:=I.loc
  refine⟨m,ns m hn,fun i x v e1 e2 e3=>?_⟩
  obtain⟨u,r,l⟩:=hl i x v e1 e2 e3
  refine⟨u,r,?_⟩
  rcases l with l|⟨k,c,e,z⟩
  ·exact .inl l
  ·exact .inr ⟨k,c,e,cellK x c e _ z⟩
 ·obtain⟨v,z⟩:=I.cell x c e
  exact⟨v,cellK x c e v z⟩
 ·obtain⟨m,⟨o,_,_,ho,_⟩,_⟩:=I.loc
  exact free _ o (fun z=>(hch _ z).2.1 rfl) ho I.free
 ·obtain⟨v,o,ho,hd⟩:=I.cell x c e
  exact free c o (fun z=>(hch c z).2.2.1 x c e rfl) ho (I.freeC x c e)
 ·obtain⟨e,n,ne,nf,d⟩:=I.pin p hp
  have nch:p.1∉ch:=fun z=>(hch p.1 z).2.2.2 p hp rfl
  exact⟨keep p.1 p.2 ne nf nch e n,free p.1 p.2 nch e n,ne,nf,d⟩
theorem Inv.un{t':Nat}(I:Inv X pins σ H s)(u:Un X.fs [] H H' s.heap h')(hok:HOk X.prog X.w H' h'):Inv X pins σ H' {s with heap:=h',toks:=t'}:=by
 obtain⟨m,⟨o,es,ep,ho,r⟩,_⟩:=id I.loc
 obtain⟨sl,hL⟩:=u.any ho I.free (by simp)
 exact I.step (g':=s.gens) (d':=s.drawn) (ch:=[]) (fun _ z=>nomatch z) (fun b o _ hb _ e n=>u.keep b o e n hb (by simp)) (fun b o _ hb _ e n=>u.slot b o e n hb (by simp)) (fun b o _ e n=>u.free b o e n (by simp)) (fun b o _ e=>u.there b o e (by simp)) u.tups u.frzs u.tbls (fun m' hm=>by
  obtain⟨o',es',ep',ho',r'⟩:=hm
  rw[ho] at ho';cases ho'
  exact⟨_,es',ep',hL,r'⟩) hok I.bare
theorem Inv.call{g':Array GenState}{t':Nat}{d':Drawn}{ch:List Addr}(I:Inv X pins σ H s)(u:Un (frs X.stack) ch H H' s.heap h')(hok:HOk X.prog X.w H' h')(hg:AllBare g')
  (hch:∀b∈ch,(b∈X.ex∨X.s₀.heap.objs.size≤b)∧b≠X.env.locals∧(∀x c,X.env.cells.lookup x=some c→c≠b)∧∀p∈X.pn++pins,p.1≠b):
  Inv X pins σ H' {s with heap:=h',gens:=g',drawn:=d',toks:=t'}:=by
 obtain⟨m,⟨o,es,ep,ho,r⟩,_⟩:=id I.loc
 obtain⟨sl,hL⟩:=u.any ho I.free fun z=>(hch _ z).2.1 rfl
 exact I.step (ch:=ch) hch (fun b o hL hb hc e n=>u.keep b o e n (fun z=>(Jd.mp (I.stkSub b z)).elim hL hb) hc) (fun b o _ _ hc e n=>u.any e n hc) (fun b o hc e n=>u.free b o e n hc) (fun b o hc e=>u.there b o e hc) u.tups u.frzs u.tbls (fun m' hm=>by
  obtain⟨o',es',ep',ho',r'⟩:=hm
  rw[ho] at ho';cases ho'
  exact⟨_,es',ep',hL,r'⟩) hok hg
theorem Inv.turned{t':Nat}{it:Addr}(I:Inv X pins σ H s)(k:∀b o,b≠it→s.heap.get? b=some o→h'.get? b=some o)(hn:H it=none)(hL:it≠X.env.locals)
  (h1:it∈X.ex∨X.s₀.heap.objs.size≤it) (h2:∀x c,X.env.cells.lookup x=some c→c≠it) (h3:∀p∈X.pn++pins,p.1≠it):Inv X pins σ H {s with heap:=h',toks:=t'}:=by
 have nit:∀b u,H b=some u→b≠it:=fun b u e z=>by rw[z,hn] at e;cases e
 refine I.step (g':=s.gens) (d':=s.drawn) (ch:=[it]) (fun b hb=>?_) (fun b o _ _ hc e _=>k b o (fun z=>hc (by simp[z])) e) (fun b o _ _ hc e _=>⟨o.slots,k b o (fun z=>hc (by simp[z])) e⟩) (fun _ _ _ _ n=>n)
  (fun b o hc e=>⟨o,k b o (fun z=>hc (by simp[z])) e⟩) (fun _ _ e=>e) (fun _ _ _ e=>e) (fun b ps e=>⟨#[],by rw[e];simp⟩) (fun m hm=>?_) (fun b u e=>?_) I.bare
 ·have e:b=it:=by simpa using hb
  subst e
  exact⟨h1,hL,h2,h3⟩
 ·obtain⟨o,es,ep,ho,r⟩:=hm
  exact⟨o,es,ep,k _ o (Ne.symm hL) ho,r⟩
 ·refine(I.hok b u e).stay (fun c v hc q=>k c v ?_ q) (fun _ q=>q) fun _ _ q=>q
  rcases hc with z|z
  ·rw[z];exact nit b u e
  ·exact nit c _ z
theorem Inv.tok(I:Inv X pins σ H s)(t:Nat):Inv X pins σ H {s with toks:=t}:=I.un (h':=s.heap) (t':=t) Un.refl I.hok
theorem Inv.kept{t':Nat}(I:Inv X pins σ H s)(k:∀b u,s.heap.get? b=some u→h'.get? b=some u):Inv X pins σ H {s with heap:=h',toks:=t'}:=I.un (Un.kept k) (I.hok.kept k)
theorem Inv.laid{a:Addr}{o:HO}{t':Nat}(I:Inv X pins σ H s)(k:∀b u,s.heap.get? b=some u→h'.get? b=some u)(hp:s.heap.objs.size≤a)(new:ObjOk X.prog X.w (upd H a o) h' a o):
  Inv X pins σ (upd H a o) {s with heap:=h',toks:=t'}:=I.un (Un.laid k hp (I.hok.fresh hp)) (I.hok.laid k hp new)
theorem Inv.write{x e:Addr}{o:HO}{t':Nat}(I:Inv X pins σ H s)(mu:Mut (H x))(he:e=x∨H e=some (.own x))(k:∀b u,b≠e→s.heap.get? b=some u→h'.get? b=some u)(heo:∃u,h'.get? e=some u)
  (new:ObjOk X.prog X.w (upd H x o) h' x o):Inv X pins σ (upd H x o) {s with heap:=h',toks:=t'}:=I.un (Un.write mu he k heo) (I.hok.write mu he k heo new)
theorem Inv.pins_of{pins':List (Addr×Obj)}(I:Inv X pins σ H s)(h:∀p∈pins',s.heap.get? p.1=some p.2∧H p.1=none∧p.1≠X.env.locals∧p.1∉X.fs∧∀v,p.2.data≠.cell v):Inv X pins' σ H s:=
 ⟨I.ok,I.os,I.bare,I.base,I.loc,I.cell,I.free,I.freeC,fun p hp=>(Jy.mp hp).elim (fun z=>I.pin p (Mb _ z)) (h p),I.hok,I.len⟩
theorem kg7{N:List Str}(hN:N.Nodup){i j:Nat}{x:Str}(a:N[i]?=some x)(b:N[j]?=some x):i=j:=by
 obtain⟨h1,e1⟩:=U0.mp a
 obtain⟨h2,e2⟩:=U0.mp b
 exact(List.getElem_inj hN).mp (e1.trans e2.symm)
theorem khU{M:Model}{A:Around}{E:Value→Shared→Prop}{i:Nat}{x:Str}{v:V}{u:Value}{Q:Unit→Shared→Prop}(I:Inv X pins σ H s)(hN:X.N.Nodup)(hi:X.N[i]?=some x)(hx:Loc X.env.scope x)(r:RelV v u)
  (h:∀s',Inv X pins (σ.set i (some v)) H s'→(∃a,Heap.SameBut a s.heap s'.heap∧(a=X.env.locals∨X.env.cells.lookup x=some a))→Q () s') (hf:X.fn x=true∨X.env.scope.names.lookup x=some .local:=by first|exact .inl rfl|exact .inr rfl|assumption):wpAny M A (storeName X.env x u) Q E s:=by
 obtain⟨m,hn,hl⟩:=id I.loc
 have hcls:(X.env.scope.kind== .class||(X.env.scope.kind== .module&&X.env.locals !=X.env.globals))=false:=by rw[I.ok.kind];rfl
 have hiσ:i< σ.length:=by rw[I.len];exact(U0.mp hi).1
 have cne:=I.cne
 have tracked:∀{a:Addr}{h':Heap},(∃o,s.heap.get? a=some o∧H a=none)→Heap.SameBut a s.heap h'→HOk X.prog X.w H h':=fun {a h'} ha hs b ob e=>by
  obtain⟨_,_,hfree⟩:=ha
  refine(I.hok b ob e).stay (fun c w' hc q=>(hs.2 c ?_).trans q) (fun _ q=>q) fun _ _ q=>q
  rintro rfl
  rcases hc with rfl|hc
  ·rw[hfree] at e;cases e
  ·rw[hfree] at hc;cases hc
 rcases hx with hk|hk
 ·refine wpAny_storeName_local hk hn (fun h' hn' hs=>?_) hcls
  obtain⟨oL,_,_,hoL,_⟩:=id hn
  refine h _ ⟨I.ok,I.os,I.bare,⟨fun b o e n hb hx=>?_,fun b o e n hb hx=>?_,I.base.free,fun b o e hx=>?_,I.base.tups,I.base.frzs,I.base.tbls⟩,⟨_,hn',fun j y v' e1 e2 e3=>?_⟩,fun y c e=>?_,I.free,I.freeC,fun p hp=>?_,tracked ⟨oL,hoL,I.free⟩ hs,by simpa using I.len⟩ ⟨_,hs, .inl rfl⟩
  ·exact(hs.2 b (Je (Jh (Heap.lt_size e) I.ok.above))).trans (I.base.keep b o e n hb hx)
  ·obtain⟨sl,e1⟩:=I.base.slot b o e n hb hx
   exact⟨sl,(hs.2 b (Je (Jh (Heap.lt_size e) I.ok.above))).trans e1⟩
  ·obtain⟨o',e1⟩:=I.base.there b o e hx
   exact⟨o',(hs.2 b (Je (Jh (Heap.lt_size e) I.ok.above))).trans e1⟩
  ·by_cases hj:j=i
   ·subst hj
    rw[hi] at e1;cases e1
    rw[Ny hiσ] at e2
    cases e2
    exact⟨u,r, .inl ⟨hk,by simp⟩⟩
   ·rw[Nz (Ne.symm hj)] at e2
    obtain⟨u',r',q⟩:=hl j y v' e1 e2 e3
    refine⟨u',r',?_⟩
    rcases q with⟨k,e⟩|⟨k,c,e,z⟩
    ·refine .inl ⟨k,?_⟩
     have:y≠x:=fun e=>hj (kg7 hN e1 (e▸hi))
     simp[this,e]
    ·exact .inr ⟨k,c,e,z.sameBut hs (cne y c e)⟩
  ·obtain⟨w',z⟩:=I.cell y c e
   exact⟨w',z.sameBut hs (cne y c e)⟩
  ·obtain⟨e,n,ne,nf,d⟩:=I.pin p hp
   exact⟨(hs.2 p.1 ne).trans e,n,ne,nf,d⟩
 ·have hfn:X.fn x=true:=by
   rcases hf with z|z
   ·exact z
   ·rw[z] at hk;cases hk
  obtain⟨c,hc⟩:=I.ok.has x (.inl hk)
  obtain⟨w',z⟩:=I.cell x c hc
  refine wpAny_storeName_cell I.ok.kind hk hc z (fun h' hc' hs=>?_)
  obtain⟨oc,hoc,hocd⟩:=id z
  refine h {s with heap:=h'} ⟨I.ok,I.os,I.bare,⟨fun b o e n hb hx=>?_,fun b o e n hb hx=>?_,I.base.free,fun b o e hx=>?_,I.base.tups,I.base.frzs,I.base.tbls⟩,⟨m,hn.sameBut hs (Ne.symm (cne x c hc)),fun j y v' e1 e2 e3=>?_⟩,fun y c' e=>?_,I.free,I.freeC,fun p hp=>?_,tracked ⟨oc,hoc,I.freeC x c hc⟩ hs,by simpa using I.len⟩ ⟨c,hs, .inr hc⟩
  ·exact(hs.2 b (Je (Jh (Heap.lt_size e) (I.ok.cab x c hfn hc)))).trans (I.base.keep b o e n hb hx)
  ·obtain⟨sl,e1⟩:=I.base.slot b o e n hb hx
   exact⟨sl,(hs.2 b (Je (Jh (Heap.lt_size e) (I.ok.cab x c hfn hc)))).trans e1⟩
  ·obtain⟨o',e1⟩:=I.base.there b o e hx
   exact⟨o',(hs.2 b (Je (Jh (Heap.lt_size e) (I.ok.cab x c hfn hc)))).trans e1⟩
  ·by_cases hj:j=i
   ·subst hj
    rw[hi] at e1;cases e1
    rw[Ny hiσ] at e2
    cases e2
    exact⟨u,r, .inr ⟨.inl hk,c,hc,hc'⟩⟩
   ·rw[Nz (Ne.symm hj)] at e2
    obtain⟨u',r',q⟩:=hl j y v' e1 e2 e3
    refine⟨u',r',?_⟩
    rcases q with q|⟨k,c',e,z'⟩
    ·exact .inl q
    ·refine .inr ⟨k,c',e,z'.sameBut hs ?_⟩
     rintro rfl
     exact hj (kg7 hN e1 (I.ok.inj _ _ _ e hc▸hi))
  ·by_cases hcc:c'=c
   ·subst hcc;exact⟨_,hc'⟩
   ·obtain⟨w2,z2⟩:=I.cell y c' e
    exact⟨w2,z2.sameBut hs hcc⟩
  ·obtain⟨e,n,ne,nf,d⟩:=I.pin p hp
   refine⟨(hs.2 p.1 ?_).trans e,n,ne,nf,d⟩
   intro q
   rw[q,hoc] at e
   have q':oc=p.2:=Option.some.inj e
   exact d w' (by rw[←q'];exact hocd)
theorem keK{M:Model}{A:Around}{E:Value→Shared→Prop}{i:Nat}{x:Str}{v:V}{u:Value}{Q:Unit→Shared→Prop}(I:Inv X pins σ H s)(hN:X.N.Nodup)(hi:X.N[i]?=some x)(hx:Loc X.env.scope x)(r:RelV v u)
  (h:∀s',Inv X pins (σ.set i (some v)) H s'→Q () s') (hf:X.fn x=true∨X.env.scope.names.lookup x=some .local:=by first|exact .inl rfl|exact .inr rfl|assumption):wpAny M A (storeName X.env x u) Q E s:=
 khU I hN hi hx r (fun s' I' _=>h s' I') hf
theorem Inv.call'{s':Shared}{ch:List Addr}(I:Inv X pins σ H s)(ho:s'.os=s.os)(u:Un (frs X.stack) ch H H' s.heap s'.heap)(hok:HOk X.prog X.w H' s'.heap)(hg:AllBare s'.gens)
  (hch:∀b∈ch,(b∈X.ex∨X.s₀.heap.objs.size≤b)∧b≠X.env.locals∧(∀x c,X.env.cells.lookup x=some c→c≠b)∧∀p∈X.pn++pins,p.1≠b):Inv X pins σ H' s':=by
 obtain⟨h',g',d',t',o'⟩:=s'
 have e:o'=s.os:=ho
 subst e
 exact I.call (g':=g') (t':=t') (d':=d') u hok hg hch
end
noncomputable abbrev XK:=Value→Option Addr→Hp→Prop
noncomputable abbrev St:=List (Option V)
noncomputable abbrev VK:=V→Hp→Prop
noncomputable abbrev TE:=St→Hp→VK→Prop
noncomputable abbrev TT:=St→Hp→(Bool→Hp→Prop)→Prop
noncomputable abbrev TA:=St→Hp→(List V→Hp→Prop)→Prop
structure Ends where
 nx:St→Hp→Prop
 rt:VK
 bk:St→Hp→Prop:=fun _ _=>False
 ct:St→Hp→Prop:=fun _ _=>False
noncomputable abbrev TS:=Ends→St→Hp→Prop
noncomputable def EP(X:Cx)(pins:List (Addr×Obj))(σ:St)(Q:VK)(u:Value)(s':Shared):Prop:=∃v H',Inv X pins σ H' s'∧RelV v u∧Q v H'
noncomputable def TP(X:Cx)(pins:List (Addr×Obj))(σ:St)(Q:Bool→Hp→Prop)(b:Bool)(s':Shared):Prop:=∃H',Inv X pins σ H' s'∧Q b H'
noncomputable def AP(X:Cx)(pins:List (Addr×Obj))(σ:St)(Q:List V→Hp→Prop)(us:List Value)(s':Shared):Prop:=∃vs H',Inv X pins σ H' s'∧Vals vs us∧Q vs H'
noncomputable def SP(X:Cx)(pins:List (Addr×Obj))(D:Ends)(f:Flow)(s':Shared):Prop:=
 match f with
 | .next=>∃σ' H',Inv X pins σ' H' s'∧D.nx σ' H'
 | .brk=>∃σ' H',Inv X pins σ' H' s'∧D.bk σ' H'
 | .cont=>∃σ' H',Inv X pins σ' H' s'∧D.ct σ' H'
 | .ret u=>∃v σ' H',Inv X pins σ' H' s'∧RelV v u∧D.rt v H'
noncomputable def PE(X:Cx)(e:Expr)(t:TE):Prop:=
 ∀(pins:List (Addr×Obj))(s:Shared)(σ:St)(H:Hp)(Q:VK),Inv X pins σ H s→t σ H Q→wpAny (model X.prog X.w) X.A (eval e X.env) (EP X pins σ Q) X.xe s
noncomputable def PT(X:Cx)(e:Expr)(t:TT):Prop:=
 ∀(pins:List (Addr×Obj))(s:Shared)(σ:St)(H:Hp)(Q:Bool→Hp→Prop),Inv X pins σ H s→t σ H Q→wpAny (model X.prog X.w) X.A (isTrue e X.env (eval e X.env)) (TP X pins σ Q) X.xe s
noncomputable def PW(X:Cx)(e:Expr)(t:TT):Prop:=
 ∀(whole:Sem Value)(pins:List (Addr×Obj))(s:Shared)(σ:St)(H:Hp)(Q:Bool→Hp→Prop),Inv X pins σ H s→t σ H Q→wpAny (model X.prog X.w) X.A (isTrue e X.env whole) (TP X pins σ Q) X.xe s
def PW.pt{X:Cx}{e:Expr}{t:TT}(h:PW X e t):PT X e t:=h _
noncomputable def PA(X:Cx)(es:List Expr)(t:TA):Prop:=
 ∀(pos:Pos)(pins:List (Addr×Obj))(s:Shared)(σ:St)(H:Hp)(Q:List V→Hp→Prop),Inv X pins σ H s→t σ H Q→wpAny (model X.prog X.w) X.A (spliced (backTo pos (starEach es X.env))) (AP X pins σ Q) X.xe s
noncomputable def PS(X:Cx)(st:Stmt)(t:TS):Prop:=
 ∀(pins:List (Addr×Obj))(s:Shared)(σ:St)(H:Hp)(D:Ends),Inv X pins σ H s→t D σ H→wpAny (model X.prog X.w) X.A (exec st X.env) (SP X pins D) X.xe s
noncomputable def PSs(X:Cx)(st:List Stmt)(t:TS):Prop:=
 ∀(pins:List (Addr×Obj))(s:Shared)(σ:St)(H:Hp)(D:Ends),Inv X pins σ H s→t D σ H→wpAny (model X.prog X.w) X.A (execs st X.env) (SP X pins D) X.xe s
def thn{α:Type}{t:Sem α}{Q Q': α→Shared→Prop}{M:Model}{A:Around}{E:Value→Shared→Prop}{s:Shared}(h:wpAny M A t Q E s)(hQ:∀a s,Q a s→Q' a s):wpAny M A t Q' E s:=wpAny_mono h hQ fun _ _ x=>x
end L2
namespace L2
open PySem PySem.Spec PyProof.Rows
section
variable {X:Cx}
noncomputable def tVar(i:Nat):TE:=fun σ H Q=>∃v,σ[i]?=some (some v)∧Q v H
noncomputable def tC(v:V):TE:=fun _ H Q=>Q v H
theorem kls{i:Nat}{x:Str}{pos:Pos}(hN:X.N[i]?=some x)(hv:Vis X.env.scope x)(hd:(x==("__debug__" :Str))=false:=by decide)(hcd:(x==("__classdict__" :Str))=false:=by decide):PE X (.Name x pos) (tVar i):=by
 intro pins s σ H Q I h
 obtain⟨v,e,h⟩:=h
 obtain⟨m,hn,hl⟩:=I.loc
 obtain⟨u,r,l⟩:=hl i x v hN e hv
 have fin:EP X pins σ Q u s:=⟨v,H,I,r,h⟩
 rcases l with⟨hk,hm⟩|⟨hk,c,hc,hcell⟩
 ·exact wpAny_Name (wpAny_loadName_local I.ok.kind hk hn hm fin) hd
 ·rcases hk with hk|hk
  ·exact wpAny_Name (wpAny_loadName_cell I.ok.kind hk hc hcell fin) hd
  ·exact wpAny_Name (wpAny_loadName_free I.ok.kind hk hc hcell fin hcd) hd
theorem kah{i j pos}:PE X (.Constant (.int i) j pos) (tC (.int i)):=fun _ _ _ H _ I h=>wpAny_Constant_int ⟨.int i,H,I.tok _,⟨_,rfl⟩,h⟩
theorem pe_bl{b j pos}:PE X (.Constant (.bool b) j pos) (tC (.bl b)):=fun _ _ _ H _ I h=>Constant_bool ⟨.bl b,H,I,rfl,h⟩
theorem kaS{j pos}:PE X (.Constant .none j pos) (tC .non):=fun _ _ _ H _ I h=>Constant_none ⟨.non,H,I,rfl,h⟩
theorem kb0{x j pos}:PE X (.Constant (.str x) j pos) (tC (.str x)):=fun _ _ _ H _ I h=>Calls.Constant_str ⟨.str x,H,I.tok _,⟨_,rfl⟩,h⟩
noncomputable def Gl(X:Cx)(x:Str):Prop:=X.env.kindOf x=some .globalImplicit
theorem kd7{E:Value→Shared→Prop}{pins:List (Addr×Obj)}{s:Shared}{σ:St}{H:Hp}{x:Str}{u:Value}{pos:Pos}{Q:Value→Shared→Prop}(I:Inv X pins σ H s)(hg:Gl X x)(hm:X.mg x=some u)(h:Q u s)
  (hd:(x==("__debug__" :Str))=false:=by decide):wpAny (model X.prog X.w) X.A (eval (.Name x pos) X.env) Q E s:=
 Calls.Name_function_global I.ok.kind hg (Calls.loadGlobal_global (by rw[I.ok.glob];exact I.mod.glob.keeps I.bk) hm h) hd
theorem kcm{E:Value→Shared→Prop}{pins:List (Addr×Obj)}{s:Shared}{σ:St}{H:Hp}{x:Str}{u:Value}{pos:Pos}{Q:Value→Shared→Prop}(I:Inv X pins σ H s)(hg:Gl X x)(hm:X.mg x=none)(hv:bootBuiltins x=some u)(h:Q u s)
  (hn:x≠"__name__":=by decide) (hd:(x==("__debug__" :Str))=false:=by decide):wpAny (model X.prog X.w) X.A (eval (.Name x pos) X.env) Q E s:=by
 obtain⟨mb,h1,h2⟩:=I.mod.blt
 exact Calls.Name_function_global I.ok.kind hg (Calls.loadGlobal_builtin (by rw[I.ok.glob];exact I.mod.glob.keeps I.bk) hm (by rw[I.ok.blt];exact h1.keeps I.bk) ((h2 x hn).trans hv) h) hd
theorem kc9{x:Str}{v:V}{u:Value}{pos:Pos}(hg:Gl X x)(hm:X.mg x=some u)(r:RelV v u)(hd:(x==("__debug__" :Str))=false:=by decide):PE X (.Name x pos) (tC v):=
 fun _ _ _ H _ I h=>kd7 I hg hm ⟨v,H,I,r,h⟩ hd
theorem keW{x:Str}{v:V}{u:Value}{pos:Pos}(hg:Gl X x)(hm:X.mg x=none)(hv:bootBuiltins x=some u)(r:RelV v u)(hn:x≠"__name__":=by decide)(hd:(x==("__debug__" :Str))=false:=by decide):PE X (.Name x pos) (tC v):=
 fun _ _ _ H _ I h=>kcm I hg hm hv ⟨v,H,I,r,h⟩ hn hd
variable {a b:Expr} {ta tb:TE} {pos:Pos}
noncomputable def tB(t:TE):TT:=fun σ H Q=>t σ H fun x H1=>∃c,x=.bl c∧Q c H1
theorem kaX{e:Expr}{t:TE}(h:PE X e t)(he:∀whole,isTrue e X.env whole=(do let v ←whole;standAt e.pos;holding [v] (truthy v)):=by intro _;rfl):PT X e (tB t):=by
 intro pins s σ H Q I hw
 refine isTrue_plain (thn (h pins s σ H _ I hw) fun v s1 ⟨x,H1,I1,r1,q1⟩=>?_) (he _)
 obtain⟨d,rfl,q⟩:=q1
 cases r1
 exact wpAny_truthy_bool ⟨H1,I1,q⟩
variable {tA tB':TT} {rest:List Expr}
noncomputable def tAnd(t u:TT):TT:=fun σ H Q=>t σ H fun c H1=>if c=true then u σ H1 Q else Q false H1
noncomputable def tOr(t u:TT):TT:=fun σ H Q=>t σ H fun c H1=>if c=true then Q true H1 else u σ H1 Q
noncomputable def tNot(t:TT):TT:=fun σ H Q=>t σ H fun c H1=>Q (!c) H1
theorem kbW(ha:PT X a tA):PW X (.BoolOp .And [a] pos) tA:=by
 intro wh pins s σ H Q I h
 refine isTrue_and (thn (ha pins s σ H Q I h) fun c s1 e=>?_)
 cases c with
 |true=>exact isTrue_and_nil e
 |false=>exact e
theorem kes(ha:PT X a tA):PW X (.BoolOp .Or [a] pos) tA:=by
 intro wh pins s σ H Q I h
 refine isTrue_or (thn (ha pins s σ H Q I h) fun c s1 e=>?_)
 cases c with
 |false=>exact isTrue_or_nil e
 |true=>exact e
theorem kca(ha:PT X a tA)(hb:PW X (.BoolOp .And (b::rest) pos) tB'):PW X (.BoolOp .And (a::b::rest) pos) (tAnd tA tB'):=by
 intro wh pins s σ H Q I h
 refine isTrue_and (thn (ha pins s σ H _ I h) fun c s1 ⟨H1,I1,q1⟩=>?_)
 cases c with
 |true=>exact hb wh pins s1 σ H1 Q I1 q1
 |false=>exact⟨H1,I1,q1⟩
theorem pw_or(ha:PT X a tA)(hb:PW X (.BoolOp .Or (b::rest) pos) tB'):PW X (.BoolOp .Or (a::b::rest) pos) (tOr tA tB'):=by
 intro wh pins s σ H Q I h
 refine isTrue_or (thn (ha pins s σ H _ I h) fun c s1 ⟨H1,I1,q1⟩=>?_)
 cases c with
 |true=>exact⟨H1,I1,q1⟩
 |false=>exact hb wh pins s1 σ H1 Q I1 q1
theorem kdR(ha:PT X a tA):PT X (.UnaryOp .Not a pos) (tNot tA):=by
 intro pins s σ H Q I h
 exact isTrue_not (ha pins s σ H (fun c H1=>Q (!c) H1) I h)
noncomputable def tAndV(ta tb:TE):TE:=fun σ H Q=>ta σ H fun x H1=>∃c,x=.bl c∧if c=true then tb σ H1 Q else Q (.bl false) H1
noncomputable def tOrV(ta tb:TE):TE:=fun σ H Q=>ta σ H fun x H1=>∃c,x=.bl c∧if c=true then Q (.bl true) H1 else tb σ H1 Q
noncomputable def tNotV(ta:TE):TE:=fun σ H Q=>ta σ H fun x H1=>∃c,x=.bl c∧Q (.bl (!c)) H1
theorem kgZ{op}{t:TE}(h:PE X a t):PE X (.BoolOp op [a] pos) t:=fun pins s σ H Q I hw=>BoolOp_one (h pins s σ H Q I hw)
theorem kiv(ha:PE X a ta)(hb:PE X (.BoolOp .And (b::rest) pos) tb):PE X (.BoolOp .And (a::b::rest) pos) (tAndV ta tb):=by
 intro pins s σ H Q I h
 refine BoolOp_and (thn (ha pins s σ H _ I h) fun v s1 ⟨x,H1,I1,r1,q1⟩=>?_)
 obtain⟨c,rfl,q1⟩:=q1
 cases r1
 refine wpAny_truthy_bool ?_
 cases c with
 |true=>exact hb pins s1 σ H1 Q I1 q1
 |false=>exact⟨.bl false,H1,I1,rfl,q1⟩
theorem pe_or(ha:PE X a ta)(hb:PE X (.BoolOp .Or (b::rest) pos) tb):PE X (.BoolOp .Or (a::b::rest) pos) (tOrV ta tb):=by
 intro pins s σ H Q I h
 refine BoolOp_or (thn (ha pins s σ H _ I h) fun v s1 ⟨x,H1,I1,r1,q1⟩=>?_)
 obtain⟨c,rfl,q1⟩:=q1
 cases r1
 refine wpAny_truthy_bool ?_
 cases c with
 |false=>exact hb pins s1 σ H1 Q I1 q1
 |true=>exact⟨.bl true,H1,I1,rfl,q1⟩
theorem klu(ha:PE X a ta):PE X (.UnaryOp .Not a pos) (tNotV ta):=by
 intro pins s σ H Q I h
 refine UnaryOp_ (thn (ha pins s σ H _ I h) fun v s1 ⟨x,H1,I1,r1,q1⟩=>?_)
 obtain⟨c,rfl,q1⟩:=q1
 cases r1
 exact not_of (wpAny_truthy_bool ⟨.bl (!c),H1,I1,rfl,q1⟩)
noncomputable def tIf(t:TT)(ta tb:TE):TE:=fun σ H Q=>t σ H fun c H1=>if c=true then ta σ H1 Q else tb σ H1 Q
theorem kbu{c:Expr}(hc:PT X c tA)(ha:PE X a ta)(hb:PE X b tb):PE X (.IfExp c a b pos) (tIf tA ta tb):=by
 intro pins s σ H Q I h
 refine wpAny_IfExp (thn (hc pins s σ H _ I h) fun d s1 ⟨H1,I1,q1⟩=>?_)
 cases d with
 |true=>exact ha pins s1 σ H1 Q I1 q1
 |false=>exact hb pins s1 σ H1 Q I1 q1
end
end L2
namespace L2
open PySem PySem.Spec PyProof.Rows
noncomputable def SqL(K:UQ)(H:Hp)(a:Addr)(xs:List V):Prop:=
 Rd H a (.lst xs)∨
  ∃(o:Obj)(its:Array Value)(n:Nat),K.lookup a=some o∧o.cls=.type "list"∧o.dict=none∧o.data=.seq its n∧its.size≤sizeLine∧Vals xs its.toList
noncomputable def SqT(K:UQ)(H:Hp)(a:Addr)(xs:List V):Prop:=
 Rd H a (.tup xs)∨
  ∃(o:Obj)(its:Array Value)(n:Nat),K.lookup a=some o∧o.cls=.type "tuple"∧o.data=.seq its n∧its.size≤sizeLine∧Vals xs its.toList
noncomputable def absV:Value→Option V
 | .none=>some .non
 | .bool b=>some (.bl b)
 | .int i _=>some (.int i)
 | .str x _=>some (.str x)
 | .bytes b _=>some (.byt b)
 | .float b _=>some (.flt b)
 | .ref a=>some (.ref a)
 | .type n=>some (.ty n)
 |_=>none
theorem RelV.abs{x:V}{u:Value}(r:RelV x u):absV u=some x:=by
 cases x with
 |non=>cases r;rfl
 |bl _=>cases r;rfl
 |int _=>obtain⟨t,rfl⟩:=r;rfl
 |str _=>obtain⟨t,rfl⟩:=r;rfl
 |byt _=>obtain⟨t,rfl⟩:=r;rfl
 |flt _=>obtain⟨t,rfl⟩:=r;rfl
 |ref _=>cases r;rfl
 |ty _=>cases r;rfl
def RelV.inj{x y:V}{u:Value}(r:RelV x u)(q:RelV y u):x=y:=Option.some.inj (r.abs.symm.trans q.abs)
theorem Vals.inj:∀{xs ys:List V}{us:List Value},Vals xs us→Vals ys us→xs=ys
 |_,_,_, .nil, .nil=>rfl
 |_,_,_, .cons r t, .cons r' t'=>by rw[r.inj r',Vals.inj t t']
section
variable {X:Cx} {pins:List (Addr×Obj)} {σ:St} {H:Hp} {s:Shared} {a:Addr} {xs ys:List V}
theorem SqL.of{K:UQ}(h:H a=some (.lst xs)):SqL K H a xs:=.inl (.inl h)
theorem SqT.of{K:UQ}(h:H a=some (.tup xs)):SqT K H a xs:=.inl (.inl h)
theorem Inv.list(I:Inv X pins σ H s)(h:SqL X.K H a xs):∃its:List Value,Vals xs its∧PlainL s.heap a its.toArray∧xs.length≤sizeLine:=by
 rcases h with h|⟨o,its,n,hk,hc,hd,hs,hz,r⟩
 ·obtain⟨z,its,n,r,e⟩:=h.ok I.hok
  exact⟨its,r,⟨_,n,e,rfl,rfl,rfl⟩,z⟩
 ·refine⟨its.toList,r,⟨o,n,I.kIn a o hk,hc,hd,by simpa using hs⟩,?_⟩
  have e:=r.length
  simp only[Nc] at e
  omega
theorem Inv.tuple(I:Inv X pins σ H s)(h:SqT X.K H a xs):∃its:List Value,Vals xs its∧IsTup s.heap a its.toArray∧xs.length≤sizeLine:=by
 rcases h with h|⟨o,its,n,hk,hc,hs,hz,r⟩
 ·obtain⟨z,its,r,p⟩:=h.ok I.hok
  exact⟨its,r,p,z⟩
 ·refine⟨its.toList,r,⟨o,I.kIn a o hk,hc,n,by simpa using hs⟩,?_⟩
  have e:=r.length
  simp only[Nc] at e
  omega
theorem Inv.list_inj(I:Inv X pins σ H s)(h:SqL X.K H a xs)(h':SqL X.K H a ys):xs=ys:=by
 obtain⟨its,r,⟨o,n,e,_,_,d⟩,_⟩:=I.list h
 obtain⟨its',r',⟨o',n',e',_,_,d'⟩,_⟩:=I.list h'
 rw[e] at e';cases e'
 rw[d] at d'
 injection d' with d1 _
 have:its=its':=by simpa using congrArg Array.toList d1
 subst this
 exact r.inj r'
end
noncomputable abbrev Cx.wish(X:Cx)(E:Value→Shared→Prop):Cx:={X with xe:=E}
noncomputable abbrev Cx.nox(X:Cx):Cx:=X.wish fun _ _=>False
def Cx.Ok.wish{X:Cx}(ok:X.Ok)(E:Value→Shared→Prop):(X.wish E).Ok:=
 ⟨ok.mod,ok.kind,ok.glob,ok.blt,ok.above,ok.inj,ok.has,ok.cab,ok.hd,ok.frames,ok.stk,ok.exf,ok.bs,ok.bsz,ok.noex,ok.exfs,ok.funs,ok.frf⟩
def Cx.Ok.unwish{X:Cx}{E:Value→Shared→Prop}(ok:(X.wish E).Ok):X.Ok:=
 ⟨ok.mod,ok.kind,ok.glob,ok.blt,ok.above,ok.inj,ok.has,ok.cab,ok.hd,ok.frames,ok.stk,ok.exf,ok.bs,ok.bsz,ok.noex,ok.exfs,ok.funs,ok.frf⟩
section
variable {X:Cx} {pins:List (Addr×Obj)} {σ:St} {H:Hp} {s:Shared} {E:Value→Shared→Prop}
theorem Inv.wish(I:Inv X pins σ H s)(E:Value→Shared→Prop):Inv (X.wish E) pins σ H s:=⟨I.ok.wish E,I.os,I.bare,I.base,I.loc,I.cell,I.free,I.freeC,I.pin,I.hok,I.len⟩
theorem Inv.unwish(I:Inv (X.wish E) pins σ H s):Inv X pins σ H s:=⟨I.ok.unwish,I.os,I.bare,I.base,I.loc,I.cell,I.free,I.freeC,I.pin,I.hok,I.len⟩
theorem SP.unwish{D:Ends}{f:Flow}{s':Shared}(h:SP (X.wish E) pins D f s'):SP X pins D f s':=by
 cases f with
 |next=>obtain⟨σ',H',I,q⟩:=h;exact⟨σ',H',I.unwish,q⟩
 |brk=>obtain⟨σ',H',I,q⟩:=h;exact⟨σ',H',I.unwish,q⟩
 |cont=>obtain⟨σ',H',I,q⟩:=h;exact⟨σ',H',I.unwish,q⟩
 |ret u=>obtain⟨v,σ',H',I,r,q⟩:=h;exact⟨v,σ',H',I.unwish,r,q⟩
theorem PE.nox{e:Expr}{t:TE}(h:PE X.nox e t):PE X e t:=fun pins s σ H Q I hw=>
 wpAny_mono (h pins s σ H Q (I.wish _) hw) (fun _ _ ⟨v,H',I',r,q⟩=>⟨v,H',I'.unwish,r,q⟩) fun _ _ z=>False.elim z
theorem PT.nox{e:Expr}{t:TT}(h:PT X.nox e t):PT X e t:=fun pins s σ H Q I hw=>
 wpAny_mono (h pins s σ H Q (I.wish _) hw) (fun _ _ ⟨H',I',q⟩=>⟨H',I'.unwish,q⟩) fun _ _ z=>False.elim z
theorem PSs.nox{st:List Stmt}{t:TS}(h:PSs X.nox st t):PSs X st t:=fun pins s σ H D I hw=>
 wpAny_mono (h pins s σ H D (I.wish _) hw) (fun _ _ q=>q.unwish) fun _ _ z=>False.elim z
end
section
variable {X:Cx} {st:Stmt} {rest:List Stmt} {t u:TS} {e:Expr} {te:TE} {pos:Pos}
noncomputable def tNext:TS:=fun D σ H=>D.nx σ H
noncomputable def tSeq(t u:TS):TS:=fun D σ H=>t {D with nx:=u D} σ H
theorem kat:PSs X [] tNext:=fun _ _ σ H _ I h=>wpAny_execs_nil ⟨σ,H,I,h⟩
theorem kad(h1:PS X st t)(h2:PSs X rest u):PSs X (st::rest) (tSeq t u):=by
 intro pins s σ H D I h
 refine wpAny_execs_cons (thn (h1 pins s σ H {D with nx:=u D} I h) fun f s1 q=>?_)
 cases f with
 |next=>
  obtain⟨σ',H',I',q⟩:=q
  exact h2 pins s1 σ' H' D I' q
 |ret v=>exact q
 |brk=>exact q
 |cont=>exact q
theorem kai(h1:PS X st t):PSs X [st] t:=by
 intro pins s σ H D I h
 refine wpAny_execs_cons (thn (h1 pins s σ H D I h) fun f s1 q=>?_)
 cases f with
 |next=>exact wpAny_execs_nil q
 |ret v=>exact q
 |brk=>exact q
 |cont=>exact q
theorem Inv.quiet{pins:List (Addr×Obj)}{σ:St}{H:Hp}{s:Shared}(I:Inv X pins σ H s):interactive X.env=false:=by simp[interactive,I.ok.kind]
noncomputable def tDrop(te:TE):TS:=fun D σ H=>te σ H fun _ H1=>D.nx σ H1
theorem kaU(he:PE X e te)(hs:swapsWith e none pos.line X.env=pure false:=by rfl):PS X (.Expr e pos) (tDrop te):=by
 intro pins s σ H D I h
 exact wpAny_Expr_any (thn (he pins s σ H _ I h) fun v s1 ⟨x,H1,I1,r1,q1⟩=>⟨σ,H1,I1,q1⟩) I.quiet hs
noncomputable def tRet(te:TE):TS:=fun D σ H=>te σ H D.rt
theorem kan(he:PE X e te):PS X (.Return (some e) pos) (tRet te):=by
 intro pins s σ H D I h
 exact wpAny_Return_some (thn (he pins s σ H _ I h) fun v s1 ⟨x,H1,I1,r1,q1⟩=>⟨x,σ,H1,I1,r1,q1⟩)
noncomputable def tIfS(c:TT)(t u:TS):TS:=fun D σ H=>c σ H fun b H1=>if b=true then t D σ H1 else u D σ H1
theorem ps_if{c:Expr}{a b:List Stmt}{tc:TT}(hc:PT X c tc)(ha:PSs X a t)(hb:PSs X b u):PS X (.If c a b pos) (tIfS tc t u):=by
 intro pins s σ H D I h
 refine wpAny_If (thn (hc pins s σ H _ I h) fun d s1 ⟨H1,I1,q1⟩=>?_)
 cases d with
 |true=>exact ha pins s1 σ H1 D I1 q1
 |false=>exact hb pins s1 σ H1 D I1 q1
end
noncomputable abbrev TG:=V→St→Hp→(St→Hp→Prop)→Prop
noncomputable abbrev TGs:=List V→St→Hp→(St→Hp→Prop)→Prop
noncomputable def PG(X:Cx)(target:Expr)(t:TG):Prop:=
 ∀(pins:List (Addr×Obj))(s:Shared)(σ:St)(H:Hp)(v:V)(u:Value)(Q:St→Hp→Prop),Inv X pins σ H s→RelV v u→t v σ H Q→
  wpAny (model X.prog X.w) X.A (assign target X.env u) (fun _ s'=>∃σ' H',Inv X pins σ' H' s'∧Q σ' H') X.xe s
noncomputable def PGs(X:Cx)(ts:List Expr)(t:TGs):Prop:=
 ∀(pins:List (Addr×Obj))(s:Shared)(σ:St)(H:Hp)(vs:List V)(us:List Value)(Q:St→Hp→Prop),Inv X pins σ H s→Vals vs us→t vs σ H Q→
  wpAny (model X.prog X.w) X.A (assignInOrder ((assignEach ts X.env).map (·.2)) us) (fun _ s'=>∃σ' H',Inv X pins σ' H' s'∧Q σ' H') X.xe s
noncomputable abbrev TSet:=V→V→V→Hp→(Hp→Prop)→Prop
noncomputable def PSet(X:Cx)(t:TSet):Prop:=
 ∀(pins:List (Addr×Obj))(s:Shared)(σ:St)(H:Hp)(o i v:V)(ov iv u:Value)(Q:Hp→Prop),Inv X pins σ H s→RelV o ov→RelV i iv→RelV v u→t o i v H Q→
  wpAny (model X.prog X.w) X.A (setItem ov iv u) (fun _ s'=>∃H',Inv X pins σ H' s'∧Q H') X.xe s
noncomputable abbrev TIp:=V→V→Hp→VK→Prop
noncomputable def PIp(X:Cx)(op:Operator)(t:TIp):Prop:=
 ∀(pins:List (Addr×Obj))(s:Shared)(σ:St)(H:Hp)(x y:V)(v u:Value)(Q:VK),Inv X pins σ H s→RelV x v→RelV y u→t x y H Q→
  wpAny (model X.prog X.w) X.A (inplaceOp op v u) (EP X pins σ Q) X.xe s
section
variable {X:Cx} {pos:Pos}
noncomputable def gName(i:Nat):TG:=fun v σ H Q=>Q (σ.set i (some v)) H
theorem kkL{i:Nat}{x:Str}(hN:X.N.Nodup)(hi:X.N[i]?=some x)(hx:Loc X.env.scope x)(hf:X.fn x=true∨X.env.scope.names.lookup x=some .local:=by first|exact .inl rfl|exact .inr rfl|assumption):PG X (.Name x pos) (gName i):=by
 intro pins s σ H v u Q I r h
 exact wpAny_assign_Name (keK I hN hi hx r (fun s' I'=>⟨_,H,I',h⟩) hf)
noncomputable def gNil:TGs:=fun vs σ H Q=>vs=[]∧Q σ H
noncomputable def gCons(t:TG)(u:TGs):TGs:=fun vs σ H Q=>∃v r,vs=v::r∧t v σ H fun σ' H'=>u r σ' H' Q
theorem kbD:PGs X [] gNil:=by
 intro pins s σ H vs us Q I r h
 obtain⟨e,h⟩:=h
 subst e
 cases r
 exact assignInOrder_nil ⟨σ,H,I,h⟩
theorem kaB{e:Expr}{es:List Expr}{t:TG}{u:TGs}(h1:PG X e t)(h2:PGs X es u)
  (hs:(assignEach (e::es) X.env).map (·.2)=assign e X.env::(assignEach es X.env).map (·.2):=by rfl):PGs X (e::es) (gCons t u):=by
 intro pins s σ H vs us Q I r h
 obtain⟨v,vr,e1,h⟩:=h
 subst e1
 cases r with
 |cons r rr=>
  rw[hs]
  refine assignInOrder_cons (thn (h1 pins s σ H _ _ _ I r h) fun _ s1 ⟨σ1,H1,I1,q1⟩=>?_)
  exact h2 pins s1 σ1 H1 _ _ Q I1 rr q1
noncomputable def gTup(K:UQ)(n:Nat)(t:TGs):TG:=fun v σ H Q=>∃a xs,v=.ref a∧SqT K H a xs∧xs.length=n∧t xs σ H Q
theorem klr{es:List Expr}{k:Nat}{t:TGs}{n:Nat}(hc:X.calm=true)(h:PGs X es t)
  (hn:(assignEach es X.env).length=n:=by rfl) (hst:(assignEach es X.env).findIdx? (·.1)=none:=by rfl):PG X (.Tuple es k pos) (gTup X.K n t):=by
 intro pins s σ H v u Q I r hw
 obtain⟨a,xs,e1,hq,hl,hw⟩:=hw
 subst e1
 cases r
 obtain⟨its,rv,ht,hz⟩:=I.tuple hq
 refine assign_Tuple_tuple (I.ok.hd hc) ht (by simp[hn,←hl,rv.length]) hst fun h' hx=>?_
 have I1:Inv X pins σ H {s with heap:=h'}:=I.kept (t':=s.toks) fun b o e=>hx b o (Je (Heap.lt_size e)) e
 exact h pins _ σ H xs _ Q I1 (by simpa using rv) hw
noncomputable def gSub(to ti:TE)(t:TSet):TG:=fun v σ H Q=>to σ H fun o H1=>ti σ H1 fun i H2=>t o i v H2 fun H3=>Q σ H3
theorem kkc{o i:Expr}{to ti:TE}{t:TSet}(ho:PE X o to)(hi:PE X i ti)(hs:PSet X t)
  (ha:∀v,assign (.Subscript o i pos) X.env v=(do
   let ov ←holding [v] (eval o X.env)
   let iv ←holding [v,ov] (eval i X.env)
   standAt pos
   holding [v,ov,iv] (setItem ov iv v)
   release [v,ov,iv] []):=by intro _;rfl):PG X (.Subscript o i pos) (gSub to ti t):=by
 intro pins s σ H v u Q I r h
 rw[ha]
 refine wpAny_bind (wpAny_holding (thn (ho pins s σ H _ I h) fun ov s1 ⟨x,H1,I1,r1,q1⟩=>?_))
 refine wpAny_bind (wpAny_holding (thn (hi pins s1 σ H1 _ I1 q1) fun iv s2 ⟨y,H2,I2,r2,q2⟩=>?_))
 refine wpAny_bind (wpAny_standAt (wpAny_bind (wpAny_holding (thn (hs pins s2 σ H2 x y v ov iv u _ I2 r1 r2 r q2) fun _ s3 ⟨H3,I3,q3⟩=>?_))))
 exact wpAny_release ⟨σ,H3,I3,q3⟩
noncomputable def tAsg(te:TE)(g:TG):TS:=fun D σ H=>te σ H fun x H1=>g x σ H1 D.nx
theorem kka{tg e:Expr}{te:TE}{g:TG}(he:PE X e te)(hg:PG X tg g)(hs:swapsWithSole [tg] e pos.line X.env=pure false:=by rfl)(hw:swappedStores [tg] e X.env=pure none:=by rfl)
  (h1:(assignEach [tg] X.env).map (·.2)=[assign tg X.env]:=by rfl):PS X (.Assign [tg] e pos) (tAsg te g):=by
 intro pins s σ H D I h
 refine wpAny_Assign_stores (thn (he pins s σ H _ I h) fun v s1 ⟨x,H1,I1,r1,q1⟩=>?_) hs hw
 rw[h1]
 exact thn (hg pins s1 σ H1 x v _ I1 r1 q1) fun _ s2 q=>q
theorem klp{i:Nat}{x:Str}{e:Expr}{te:TE}{pos':Pos}(hN:X.N.Nodup)(hi:X.N[i]?=some x)(hx:Loc X.env.scope x)(he:PE X e te)(hs:swapsWith e (some (.Name x pos')) pos.line X.env=pure false:=by rfl)(hf:X.fn x=true∨X.env.scope.names.lookup x=some .local:=by first|exact .inl rfl|exact .inr rfl|assumption):
  PS X (.Assign [.Name x pos'] e pos) (tAsg te (gName i)):=by
 intro pins s σ H D I h
 refine wpAny_Assign_Name (thn (he pins s σ H _ I h) fun v s1 ⟨y,H1,I1,r1,q1⟩=>?_) hs
 exact keK I1 hN hi hx r1 (fun s2 I2=>⟨_,H1,I2,q1⟩) hf
noncomputable def tAug(i:Nat)(te:TE)(ti:TIp):TS:=fun D σ H=>∃x,σ[i]?=some (some x)∧te σ H fun y H1=>ti x y H1 fun z H2=>D.nx (σ.set i (some z)) H2
theorem klq{i:Nat}{x:Str}{e:Expr}{te:TE}{op:Operator}{ti:TIp}{pos':Pos}(hN:X.N.Nodup)(hi:X.N[i]?=some x)(hx:Loc X.env.scope x)(he:PE X e te)(ho:PIp X op ti)(hf:X.fn x=true∨X.env.scope.names.lookup x=some .local:=by first|exact .inl rfl|exact .inr rfl|assumption):
  PS X (.AugAssign (.Name x pos') op e pos) (tAug i te ti):=by
 intro pins s σ H D I h
 obtain⟨v,e1,h⟩:=h
 obtain⟨m,hn,hl⟩:=I.loc
 have vis:Vis X.env.scope x:=by rcases hx with k|k;exact .inl k;exact .inr (.inl k)
 obtain⟨u,r,l⟩:=hl i x v hi e1 vis
 refine wpAny_AugAssign_Name ?_
 have go:wpAny (model X.prog X.w) X.A (eval e X.env) (fun w s₂=>wpAny (model X.prog X.w) X.A (inplaceOp op u w) (fun r s₃=>wpAny (model X.prog X.w) X.A (storeName X.env x r) (fun _=>SP X pins D .next) X.xe s₃) X.xe s₂) X.xe s:=by
  refine thn (he pins s σ H _ I h) fun w s1 ⟨y,H1,I1,r1,q1⟩=>?_
  refine thn (ho pins s1 σ H1 v y u w _ I1 r r1 q1) fun z s2 ⟨zv,H2,I2,r2,q2⟩=>?_
  exact keK I2 hN hi hx r2 (fun s3 I3=>⟨_,H2,I3,q2⟩) hf
 rcases l with⟨hk,hm⟩|⟨hk,c,hc,hcell⟩
 ·exact wpAny_loadName_local I.ok.kind hk hn hm go
 ·rcases hk with hk|hk
  ·exact wpAny_loadName_cell I.ok.kind hk hc hcell go
  ·rcases hx with k|k
   ·have:X.env.scope.names.lookup x=some .free:=hk
    rw[k] at this;cases this
   ·have:X.env.scope.names.lookup x=some .free:=hk
    rw[k] at this;cases this
noncomputable def ipI(f:Int→Int→Int):TIp:=fun x y H Q=>∃i j,x=.int i∧y=.int j∧Q (.int (f i j)) H
theorem klH:PIp X .Add (ipI fun i j=>i+j):=by
 intro pins s σ H x y v u Q I r1 r2 h
 obtain⟨i,j,e1,e2,q⟩:=h
 subst e1;subst e2
 obtain⟨t,rfl⟩:=r1
 obtain⟨t',rfl⟩:=r2
 exact iadd_int ⟨.int _,H,I.tok _,⟨_,rfl⟩,q⟩
end
section
variable {X:Cx} {pos:Pos}
noncomputable def kj3(c:TT)(tb:TS):TS:=fun D σ H=>∃W:Nat→St→Hp→Prop,(∃m,W m σ H)∧∀m σ H,W m σ H→
 c σ H fun b H1=>if b=true then ∃N:St→Hp→Prop,(∀σ' H',N σ' H'→∃m',m'<m∧W m' σ' H')∧tb {D with nx:=N,ct:=N,bk:=D.nx} σ H1 else D.nx σ H1
theorem kjo{c:Expr}{body:List Stmt}{tc:TT}{tb:TS}(hp:PassesOwn (model X.prog X.w) X.A X.env X.xe)(hc:PT X c tc)(hb:PSs X body tb):PS X (.While c body [] pos) (kj3 tc tb):=by
 intro pins s σ H D I h
 obtain⟨W,⟨m0,w0⟩,turn⟩:=h
 refine wpAny_While (codeAny_whileLoop (fun n s'=>∃σ' H',Inv X pins σ' H' s'∧W n σ' H') ?_ m0 ⟨σ,H,I,w0⟩)
 rintro n s1 ⟨σ1,H1,I1,w1⟩
 refine wpAny_passesOwn hp (thn (hc pins s1 σ1 H1 _ I1 (turn n σ1 H1 w1)) fun b s2 ⟨H2,I2,q2⟩=>?_)
 cases b with
 | true=>
  obtain⟨N,hN,q2⟩:=q2
  rw[if_pos rfl]
  refine wpAny_passesOwn hp (thn (hb pins s2 σ1 H2 _ I2 q2) fun f s3 q3=>?_)
  cases f with
  |next=>
   obtain⟨σ3,H3,I3,n3⟩:=q3
   obtain⟨m',hm,w3⟩:=hN σ3 H3 n3
   exact⟨m',hm,σ3,H3,I3,w3⟩
  |cont=>
   obtain⟨σ3,H3,I3,n3⟩:=q3
   obtain⟨m',hm,w3⟩:=hN σ3 H3 n3
   exact⟨m',hm,σ3,H3,I3,w3⟩
  |brk=>exact q3
  |ret v=>exact q3
 |false=>
  rw[if_neg UX]
  exact wpAny_execs_nil ⟨σ1,H2,I2,q2⟩
end
structure It where
 go:Nat→Hp→Prop
 yld:Nat→Hp→V→Hp→Prop
 stop:Nat→Hp→Prop
noncomputable def FpOk(X:Cx)(pins:List (Addr×Obj))(H:Hp)(b:Addr):Prop:=
 H b=none∧b≠X.env.locals∧b∉X.fs∧(b∈X.ex∨X.s₀.heap.objs.size≤b)∧(∀x c,X.env.cells.lookup x=some c→c≠b)∧∀p∈X.pn++pins,p.1≠b
def Inv.fpOk{X:Cx}{pins:List (Addr×Obj)}{σ:St}{H H':Hp}{s:Shared}{b:Addr}(I:Inv X pins σ H s)(hb:s.heap.objs.size≤b)(hn:H' b=none):FpOk X pins H' b:=by
 refine⟨hn,JC (Jh I.lt hb),I.nofs hb, .inr (UT I.sz hb),fun x c e z=>?_,fun p hp z=>?_⟩
 ·obtain⟨v,q⟩:=I.cell x c e
  exact absurd (Jh q.lt (by rw[z];exact hb)) (JO _)
 ·exact absurd (Jh (Heap.lt_size (I.pin p hp).1) (by rw[z];exact hb)) (JO _)
structure Turn (P:Program) (w:World) (K:UQ) (tg:Expr) (J:It) (fp:List Addr) (it:Addr) (tn:Nat→Heap→Prop):Prop where
 mem:it∈fp
 obj:∀i h,tn i h→∀b∈fp,∃o,h.get? b=some o∧∀v,o.data≠.cell v
 keep:∀i h h',tn i h→(∀b∈fp,∀o,h.get? b=some o→h'.get? b=some o)→tn i h'
 item:∀(X:Cx),X.prog=P→X.w=w→X.K=K→X.calm=true→∀(i:Nat)(pins:List (Addr×Obj))(s:Shared)(σ:St)(H:Hp)(E:Value→Shared→Prop),Inv X pins σ H s→(∀b∈fp,FpOk X pins H b)→tn i s.heap→J.go i H→
  wpAny (model P w) X.A (pyNext (.ref it)) (fun r s1=>∃u,r=some u∧
   wpAny (model P w) X.A (letOwnedTupleGo tg (.ref it) u) (fun _ s2=>∃x H',Inv X pins σ H' s2∧RelV x u∧J.yld i H x H'∧tn (i+1) s2.heap∧∀b∈fp,H' b=none) E s1) E s
 done:∀(X:Cx),X.prog=P→X.w=w→X.K=K→X.calm=true→∀(i:Nat)(pins:List (Addr×Obj))(s:Shared)(σ:St)(H:Hp)(E:Value→Shared→Prop),Inv X pins σ H s→(∀b∈fp,FpOk X pins H b)→tn i s.heap→J.stop i H→
  wpAny (model P w) X.A (pyNext (.ref it)) (fun r s1=>r=none∧Inv X pins σ H s1) E s
 self:∀(A:Around)(i:Nat)(s:Shared)(Q:Value→Shared→Prop)(E:Value→Shared→Prop),tn i s.heap→Q (.ref it) s→wpAny (model P w) A (pyIter (.ref it)) Q E s
noncomputable abbrev TI:=St→Hp→(It→Hp→Prop)→Prop
noncomputable def PIE(X:Cx)(pins:List (Addr×Obj))(σ:St)(tg:Expr)(R:It→Hp→Prop)(itv:Value)(s2:Shared):Prop:=
 ∃(it:Addr)(fp:List Addr)(tn:Nat→Heap→Prop)(J:It)(H':Hp),itv=.ref it∧Inv X pins σ H' s2∧Turn X.prog X.w X.K tg J fp it tn∧tn 0 s2.heap∧(∀b∈fp,FpOk X pins H' b)∧R J H'
noncomputable def PI(X:Cx)(tg iter:Expr)(wi:TI):Prop:=
 ∀(pins:List (Addr×Obj))(s:Shared)(σ:St)(H:Hp)(R:It→Hp→Prop),Inv X pins σ H s→wi σ H R→
  wpAny (model X.prog X.w) X.A (eval iter X.env) (fun v s1=>wpAny (model X.prog X.w) X.A (pyIter v) (PIE X pins σ tg R) X.xe s1) X.xe s
theorem go_of{M:Model}{A:Around}{E:Value→Shared→Prop}{s:Shared}{tg:Expr}{it:Addr}{u:Value}{o:Obj}{n:String}{vs:Array Value}{Q:Unit→Shared→Prop}(ho:s.heap.get? it=some o)(hc:o.cls=.type n)(hd:o.data=.fields vs)
    (hn:["enumerate","zip","dict_itemiterator","dict_reverseitemiterator","odict_iterator","itertools.zip_longest","itertools.pairwise"].contains n=false) (hQ:Q () s):wpAny M A (letOwnedTupleGo tg (.ref it) u) Q E s:=by
  unfold letOwnedTupleGo
  cases tg <;> first
    |exact wpAny_pure hQ
    |(cases u <;> first
        |exact wpAny_pure hQ
        | (refine wpAny_bind (wpAny_load ho ?_)
           rw[hc,hd]
           show wpAny M A (if(["enumerate","zip","dict_itemiterator","dict_reverseitemiterator","odict_iterator","itertools.zip_longest","itertools.pairwise"].contains n&&vs[0]? ==some (rawInt _))=true then _ else _) Q E s
           rw[if_neg (by intro h;rw[hn,Mc] at h;cases h)]
           exact wpAny_pure hQ))
noncomputable def Itl(K:UQ)(a:Addr):It:=
 ⟨fun i H=>∃xs x,SqL K H a xs∧xs[i]?=some x,fun i H x H'=>H'=H∧∀xs,SqL K H a xs→xs[i]?=some x,fun i H=>∃xs,SqL K H a xs∧xs.length≤i⟩
noncomputable def Itr(lo:Int)(n:Nat):It:=⟨fun i _=>i<n,fun i H x H'=>H'=H∧x=.int (lo+i),fun i _=>n≤i⟩
theorem khQ{P:Program}{w:World}{K:UQ}{tg:Expr}(a it:Addr):Turn P w K tg (Itl K a) [it] it (fun i h=>h.IsListIter it a i) where
 mem:=by simp
 obj:=fun i h st b hb=>by
  have e:b=it:=by simpa using hb
  subst e
  obtain⟨o,e,c,d⟩:=st
  exact⟨o,e,fun v z=>by rw[d] at z;cases z⟩
 keep:=fun i h h' st k=>st.at fun o e=>k it (by simp) o e
 item:=by
  intro X hP hw hK hc i pins s σ H E I hf st hg
  subst hP hw hK
  obtain⟨xs,x,hq,hx⟩:=hg
  obtain⟨its,rv,p,hz⟩:=I.list hq
  obtain⟨u,hu,ru⟩:=rv.get hx
  obtain⟨f0,f1,f2,f3,f4,f5⟩:=hf it (by simp)
  refine wpAny_pyNext_list_item st p.isList (x:=u) (by simpa using hu) fun h' st' sb=>?_
  have I1:Inv X pins σ H {s with heap:=h'}:=I.turned (t':=s.toks) (fun b o hb e=>(sb.2 b hb).trans e) f0 f1 f3 f4 f5
  obtain⟨o,e,c,d⟩:=id st'
  exact⟨u,rfl,go_of (s:={s with heap:=h'}) e c d (by decide) ⟨x,H,I1,ru,⟨rfl,fun ys hy=>by rw[I.list_inj hy hq];exact hx⟩,st',fun b hb=>(hf b hb).1⟩⟩
 done:=by
  intro X hP hw hK hc i pins s σ H E I hf st hg
  subst hP hw hK
  obtain⟨xs,hq,hx⟩:=hg
  obtain⟨its,rv,p,hz⟩:=I.list hq
  obtain⟨f0,f1,f2,f3,f4,f5⟩:=hf it (by simp)
  have hl:=rv.length
  exact wpAny_pyNext_list_end (I.ok.hd hc) st p.isList (by simp;omega) fun h' eb=>⟨rfl,I.turned (t':=s.toks) (fun b o hb e=>eb b o hb e) f0 f1 f3 f4 f5⟩
 self:=fun _ _ _ _ _ st h=>wpAny_pyIter_listiter st h
theorem khq{P:Program}{w:World}{K:UQ}{tg:Expr}(it:Addr)(lo:Int)(n:Nat):Turn P w K tg (Itr lo n) [it] it (fun i h=>IsRangeIter h it (lo+(i:Nat)*1) ((n:Int)-(i:Nat)) 1) where
 mem:=by simp
 obj:=fun i h st b hb=>by
  have e:b=it:=by simpa using hb
  subst e
  exact⟨_,st,fun v z=>by
   have z':Data.fields _=Data.cell v:=z
   cases z'⟩
 keep:=fun i h h' st k=>k it (by simp) _ st
 item:=by
  intro X hP hw hK hc i pins s σ H E I hf st hg
  subst hP hw hK
  obtain⟨f0,f1,f2,f3,f4,f5⟩:=hf it (by simp)
  have W:=Walks.range (prog:=X.prog) (w:=X.w) (I.ok.hd hc) it lo 1 n
  refine W.item i s _ _ hg st fun v h' tk hv st' kk=>?_
  obtain⟨t,rfl⟩:=hv
  have I1:Inv X pins σ H {s with heap:=h',toks:=tk}:=I.turned (fun b o hb e=>kk b o (by simpa using hb) e) f0 f1 f3 f4 f5
  refine⟨_,rfl,go_of (s:={s with heap:=h',toks:=tk}) (n:="range_iterator") st' rfl rfl (by decide) ⟨.int (lo+i),H,I1,⟨t,?_⟩,⟨rfl,rfl⟩,st',fun b hb=>(hf b hb).1⟩⟩
  rw[Int.mul_one]
 done:=by
  intro X hP hw hK hc i pins s σ H E I hf st hg
  subst hP hw hK
  obtain⟨f0,f1,f2,f3,f4,f5⟩:=hf it (by simp)
  exact wpAny_pyNext_range_end (I.ok.hd hc) st (by have:n≤i:=hg;omega) fun h' eb=>⟨rfl,I.turned (t':=s.toks) (fun b o hb e=>eb b o hb e) f0 f1 f3 f4 f5⟩
 self:=fun _ _ _ _ _ st h=>wpAny_pyIter_rangeiter st h
end L2
namespace L2
open PySem PySem.Spec PyProof.Rows
section
variable {X:Cx} {tg:Expr}
noncomputable def iList(K:UQ)(tl:TE):TI:=fun σ H R=>tl σ H fun x H1=>∃a,x=.ref a∧(∃xs,SqL K H1 a xs)∧R (Itl K a) H1
theorem kkK{l:Expr}{tl:TE}(hl:PE X l tl):PI X tg l (iList X.K tl):=by
 intro pins s σ H R I h
 refine thn (hl pins s σ H _ I h) fun v s1 ⟨x,H1,I1,r1,q1⟩=>?_
 obtain⟨a,e,⟨xs,hq⟩,q⟩:=q1
 subst e
 cases r1
 obtain⟨its,rv,p,hz⟩:=I1.list hq
 refine wpAny_pyIter_list p.isList ?_
 refine⟨s1.heap.objs.size,[s1.heap.objs.size],_,_,H1,rfl,I1.kept (t':=s1.toks) fun b o e=>Heap.get?_push_of_some _ e,khQ a _,⟨_,Heap.get?_push_size _ rfl,rfl,rfl⟩,fun b hb=>?_,q⟩
 have e:b=s1.heap.objs.size:=by simpa using hb
 subst e
 exact I1.fpOk (UR _) (I1.hok.fresh (UR _))
theorem kjn{pins:List (Addr×Obj)}{σ:St}{H:Hp}{s:Shared}{R:It→Hp→Prop}{E:Value→Shared→Prop}{lo hi:Int}{t u v:Tok}{tk:Nat}(I:Inv X pins σ H s)(h1: -(2 ^ 62)≤lo)(h2:lo<2 ^ 62)(h3: -(2 ^ 62)≤hi)(h4:hi<2 ^ 62)
  (q:R (Itr lo (hi-lo).toNat) H):wpAny (model X.prog X.w) X.A (pyIter (.ref s.heap.objs.size)) (PIE X pins σ tg R) E {s with heap:=s.heap.push {cls:=.type "range",data:=.fields #[.int lo t, .int hi u, .int 1 v]},toks:=tk}:=by
 refine wpAny_pyIter_range (IsRange.new ..) (small_one h1 h2 h3 h4) ?_
 have I1:Inv X pins σ H {s with heap:=s.heap.push {cls:=.type "range",data:=.fields #[.int lo t, .int hi u, .int 1 v]},toks:=tk}:=I.kept fun b o e=>Heap.get?_push_of_some _ e
 refine⟨(s.heap.push {cls:=.type "range",data:=.fields #[.int lo t, .int hi u, .int 1 v]}).objs.size,[(s.heap.push {cls:=.type "range",data:=.fields #[.int lo t, .int hi u, .int 1 v]}).objs.size],_,_,H,rfl,
  I1.kept (t':=tk) fun b o e=>Heap.get?_push_of_some _ e,khq _ lo (hi-lo).toNat,?_,fun b hb=>?_,q⟩
 ·have e1:lo+((0:Nat):Int)*1=lo:=by simp
  have e2:(((hi-lo).toNat:Nat):Int)-((0:Nat):Int)=Builtin.Range.rangeSize lo hi 1:=by rw[rangeSize_one];split <;> omega
  show IsRangeIter _ _ (lo+((0:Nat):Int)*1) ((((hi-lo).toNat:Nat):Int)-((0:Nat):Int)) 1
  rw[e1,e2]
  exact Heap.get?_push_size _ rfl
 ·have e:b=(s.heap.push {cls:=.type "range",data:=.fields #[.int lo t, .int hi u, .int 1 v]}).objs.size:=by simpa using hb
  subst e
  exact I1.fpOk (UR _) (I1.hok.fresh (UR _))
noncomputable def iRng1(ta:TA):TI:=fun σ H R=>ta σ H fun vs H1=>∃j:Int,vs=[.int j]∧-(2 ^ 62)≤j∧j<2 ^ 62∧R (Itr 0 j.toNat) H1
theorem kbZ{a:Expr}{ta:TA}{p pos:Pos}(hg:Gl X "range")(hm:X.mg "range"=none)(ha:PA X [a] ta)(hs:starEach [a] X.env=[(false,eval a X.env)]:=by rfl):PI X tg (.Call (.Name "range" p) [a] [] pos) (iRng1 ta):=by
 intro pins s σ H R I h
 refine Call_ (kcm I hg hm boot_range (PyProof.Rows.callWith_type1 (thn (ha pos pins s σ H _ I h) fun us s1 ⟨vs,H1,I1,r1,q1⟩=>?_) hs rfl))
 obtain⟨j,e,q1,q2,q⟩:=q1
 subst e
 cases r1 with
 |cons r rr=>
  cases rr
  obtain⟨t,rfl⟩:=r
  exact call_range_1 (kjn I1 (by omega) (by omega) q1 q2 (by simpa using q))
noncomputable def tFor(wi:TI)(g:TG)(tb:TS):TS:=fun D σ H=>wi σ H fun J H1=>∃W:Nat→Nat→St→Hp→Prop,(∃m,W 0 m σ H1)∧∀i m σ H,W i m σ H→
 (J.stop i H∧D.nx σ H)∨(J.go i H∧∃N:St→Hp→Prop,(∀σ' H',N σ' H'→∃m',m'<m∧W (i+1) m' σ' H')∧∀x H',J.yld i H x H'→g x σ H' fun σ2 H2=>tb {D with nx:=N,ct:=N,bk:=D.nx} σ2 H2)
noncomputable def kgY(fp:List Addr)(h:Heap):List (Addr×Obj):=fp.filterMap fun b=>(h.get? b).map fun o=>(b,o)
theorem kcs{fp:List Addr}{h:Heap}{b:Addr}{o:Obj}(hb:b∈fp)(e:h.get? b=some o):(b,o)∈kgY fp h:=List.mem_filterMap.mpr ⟨b,hb,by rw[e];rfl⟩
theorem kiz{fp:List Addr}{h:Heap}{p:Addr×Obj}(hp:p∈kgY fp h):p.1∈fp∧h.get? p.1=some p.2:=by
 obtain⟨b,hb,e⟩:=List.mem_filterMap.mp hp
 cases q:h.get? b with
 |none=>rw[q] at e;cases e
 |some o=>
  rw[q] at e
  have e':(b,o)=p:=Option.some.inj e
  subst e'
  exact⟨hb,q⟩
theorem Inv.pinned{pins:List (Addr×Obj)}{σ:St}{H:Hp}{s:Shared}{fp:List Addr}(I:Inv X pins σ H s)(hf:∀b∈fp,FpOk X pins H b)(ho:∀b∈fp,∃o,s.heap.get? b=some o∧∀v,o.data≠.cell v):Inv X (pins++kgY fp s.heap) σ H s:=
 I.pins_of fun p hp=>(Jy.mp hp).elim (fun z=>I.pin p (Jt _ z)) fun z=>by
  obtain⟨hb,e⟩:=kiz z
  obtain⟨f0,f1,f2,_⟩:=hf p.1 hb
  obtain⟨o,e',d⟩:=ho p.1 hb
  rw[e] at e';cases e'
  exact⟨e,f0,f1,f2,d⟩
theorem Inv.unpinned{pins pl:List (Addr×Obj)}{σ:St}{H:Hp}{s:Shared}(I:Inv X (pins++pl) σ H s):Inv X pins σ H s:=I.pins_of fun p hp=>I.pin p (Jt _ (Mb _ hp))
theorem ka6{iter:Expr}{body:List Stmt}{wi:TI}{g:TG}{tb:TS}{pos:Pos}(hp:PassesOwn (model X.prog X.w) X.A X.env X.xe)(hc:X.calm=true)(hi:PI X tg iter wi)(hg:PG X tg g)(hb:PSs X body tb)
  (hs:∀x,foldedSetIterable iter X.env x=pure x:=by intro _;rfl):PS X (.For tg iter body [] pos) (tFor wi g tb):=by
 intro pins s σ H D I h
 refine wpAny_For (thn (hi pins s σ H _ I h) fun v s1 h1=>thn h1 fun itv s2 h2=>?_) hs
 obtain⟨it,fp,tn,J,H2,e,I2,T,st2,f2,W,⟨m0,w0⟩,turn⟩:=h2
 subst e
 have stat:∀{H':Hp},(∀b∈fp,H' b=none)→∀b∈fp,FpOk X pins H' b:=fun hn b hb=>⟨hn b hb,(f2 b hb).2⟩
 refine codeAny_forLoop_any (fun n s'=>∃i σ' H',Inv X pins σ' H' s'∧tn i s'.heap∧(∀b∈fp,H' b=none)∧W i n σ' H') ?_ m0 ⟨0,σ,H2,I2,st2,fun b hb=>(f2 b hb).1,w0⟩
 rintro n s3 ⟨i,σ3,H3,I3,st3,fr3,w3⟩
 rcases turn i n σ3 H3 w3 with⟨stop,qn⟩|⟨go,N,hN,step⟩
 ·refine wpAny_passesOwn hp (thn (T.done X rfl rfl rfl hc i pins s3 σ3 H3 X.xe I3 (stat fr3) st3 stop) fun r s4 ⟨hr,I4⟩=>?_)
  subst hr
  exact wpAny_execs_nil ⟨σ3,H3,I4,qn⟩
 ·refine wpAny_passesOwn hp (thn (T.item X rfl rfl rfl hc i pins s3 σ3 H3 X.xe I3 (stat fr3) st3 go) fun r s4 ⟨u,hr,h4⟩=>?_)
  subst hr
  refine wpAny_passesOwn hp (thn h4 fun _ s5 ⟨x,H5,I5,r5,y5,st5,fr5⟩=>?_)
  have I5':=I5.pinned (stat fr5) (T.obj _ _ st5)
  refine wpAny_passesOwn hp (thn (hg _ s5 σ3 H5 x u _ I5' r5 (step x H5 y5)) fun _ s6 ⟨σ6,H6,I6,q6⟩=>?_)
  refine wpAny_passesOwn hp (thn (hb _ s6 σ6 H6 _ I6 q6) fun f s7 q7=>?_)
  have again:∀{σ7:St}{H7:Hp},Inv X (pins++kgY fp s5.heap) σ7 H7 s7→N σ7 H7→∃m,m<n∧∃i σ' H',Inv X pins σ' H' s7∧tn i s7.heap∧(∀b∈fp,H' b=none)∧W i m σ' H':=fun {σ7 H7} I7 n7=>by
   obtain⟨m',hm,w7⟩:=hN σ7 H7 n7
   refine⟨m',hm,i+1,σ7,H7,I7.unpinned,T.keep _ _ _ st5 fun b hb o e=>(I7.pin (b,o) (Jt _ (Jt _ (kcs hb e)))).1,fun b hb=>?_,w7⟩
   obtain⟨o,e,d⟩:=T.obj _ _ st5 b hb
   exact(I7.pin (b,o) (Jt _ (Jt _ (kcs hb e)))).2.1
  cases f with
  |next=>obtain⟨σ7,H7,I7,n7⟩:=q7;exact again I7 n7
  |cont=>obtain⟨σ7,H7,I7,n7⟩:=q7;exact again I7 n7
  |brk=>obtain⟨σ7,H7,I7,q7⟩:=q7;exact⟨σ7,H7,I7.unpinned,q7⟩
  |ret v=>obtain⟨x7,σ7,H7,I7,r7,q7⟩:=q7;exact⟨x7,σ7,H7,I7.unpinned,r7,q7⟩
end
theorem kbe{K:UQ}{a:Addr}{xs:List V}{g:TG}{tb:TS}{D:Ends}{σ:St}{H:Hp}(Pv:Nat→St→Hp→Prop)(h0:Pv 0 σ H)(hl:∀i σ H,i≤xs.length→Pv i σ H→SqL K H a xs)
  (hs:∀i x σ H,xs[i]?=some x→Pv i σ H→g x σ H fun σ2 H2=>tb {D with nx:=Pv (i+1),ct:=Pv (i+1),bk:=D.nx} σ2 H2) (hd:∀σ H,Pv xs.length σ H→D.nx σ H):
  ∃W:Nat→Nat→St→Hp→Prop,(∃m,W 0 m σ H)∧∀i m σ H,W i m σ H→
   ((Itl K a).stop i H∧D.nx σ H)∨((Itl K a).go i H∧∃N:St→Hp→Prop,(∀σ' H',N σ' H'→∃m',m'<m∧W (i+1) m' σ' H')∧∀x H',(Itl K a).yld i H x H'→g x σ H' fun σ2 H2=>tb {D with nx:=N,ct:=N,bk:=D.nx} σ2 H2):=by
 refine⟨fun i m σ H=>m=xs.length-i∧i≤xs.length∧Pv i σ H,⟨xs.length,by simp,Jk _,h0⟩,?_⟩
 rintro i m σ H ⟨rfl,hi,p⟩
 have q:=hl i σ H hi p
 by_cases hlt:i<xs.length
 ·refine .inr ⟨⟨xs,xs[i],q,by simp[hlt]⟩,Pv (i+1),fun σ' H' p'=>⟨xs.length-(i+1),by omega,rfl,hlt,p'⟩,fun x H' y=>?_⟩
  obtain⟨e,y⟩:=y
  subst e
  exact hs i x σ _ (y xs q) p
 ·have e:i=xs.length:=by omega
  subst e
  exact .inl ⟨⟨xs,q,UR _⟩,hd σ H p⟩
theorem kcp{lo:Int}{n:Nat}{g:TG}{tb:TS}{D:Ends}{σ:St}{H:Hp}(Pv:Nat→St→Hp→Prop)(h0:Pv 0 σ H)
  (hs:∀i σ H,i<n→Pv i σ H→g (.int (lo+i)) σ H fun σ2 H2=>tb {D with nx:=Pv (i+1),ct:=Pv (i+1),bk:=D.nx} σ2 H2) (hd:∀σ H,Pv n σ H→D.nx σ H):
  ∃W:Nat→Nat→St→Hp→Prop,(∃m,W 0 m σ H)∧∀i m σ H,W i m σ H→
   ((Itr lo n).stop i H∧D.nx σ H)∨((Itr lo n).go i H∧∃N:St→Hp→Prop,(∀σ' H',N σ' H'→∃m',m'<m∧W (i+1) m' σ' H')∧∀x H',(Itr lo n).yld i H x H'→g x σ H' fun σ2 H2=>tb {D with nx:=N,ct:=N,bk:=D.nx} σ2 H2):=by
 refine⟨fun i m σ H=>m=n-i∧i≤n∧Pv i σ H,⟨n,by simp,Jk _,h0⟩,?_⟩
 rintro i m σ H ⟨rfl,hi,p⟩
 by_cases hlt:i<n
 ·refine .inr ⟨hlt,Pv (i+1),fun σ' H' p'=>⟨n-(i+1),by omega,rfl,hlt,p'⟩,fun x H' y=>?_⟩
  obtain⟨e,y⟩:=y
  subst e y
  exact hs i σ _ hlt p
 ·have e:i=n:=by omega
  subst e
  exact .inl ⟨UR _,hd σ H p⟩
theorem kjh{c:TT}{tb:TS}{D:Ends}{σ:St}{H:Hp}(Pv:St→Hp→Prop)(μ:St→Hp→Nat)(h0:Pv σ H)
  (hs:∀σ H,Pv σ H→c σ H fun b H1=>if b=true then tb {D with nx:=fun σ' H'=>Pv σ' H'∧μ σ' H'< μ σ H,ct:=fun σ' H'=>Pv σ' H'∧μ σ' H'< μ σ H,bk:=D.nx} σ H1 else D.nx σ H1)
  (mono:∀σ H Q Q',(∀b H1,Q b H1→Q' b H1)→c σ H Q→c σ H Q'):kj3 c tb D σ H:=by
 refine⟨fun m σ H=>m= μ σ H∧Pv σ H,⟨_,rfl,h0⟩,?_⟩
 rintro m σ H ⟨rfl,p⟩
 refine mono σ H _ _ (fun b H1 q=>?_) (hs σ H p)
 cases b with
 |true=>exact⟨_,fun σ' H' ⟨p',l⟩=>⟨_,l,rfl,p'⟩,q⟩
 |false=>exact q
end L2
namespace L2
open PySem PySem.Spec PyProof.Rows
noncomputable abbrev R2:=V→V→Hp→VK→Prop
noncomputable def OpR(X:Cx)(f:Value→Value→Sem Value)(r:R2):Prop:=
 ∀(pins:List (Addr×Obj))(s:Shared)(σ:St)(H:Hp)(x y:V)(v u:Value)(Q:VK),Inv X pins σ H s→RelV x v→RelV y u→r x y H Q→
  wpAny (model X.prog X.w) X.A (f v u) (EP X pins σ Q) X.xe s
noncomputable def UnR(X:Cx)(f:Value→Sem Value)(r:V→Hp→VK→Prop):Prop:=
 ∀(pins:List (Addr×Obj))(s:Shared)(σ:St)(H:Hp)(x:V)(v:Value)(Q:VK),Inv X pins σ H s→RelV x v→r x H Q→
  wpAny (model X.prog X.w) X.A (f v) (EP X pins σ Q) X.xe s
noncomputable def CallR(X:Cx)(f:Value)(r:List V→Hp→VK→Prop):Prop:=
 ∀(pins:List (Addr×Obj))(s:Shared)(σ:St)(H:Hp)(xs:List V)(us:List Value)(Q:VK),Inv X pins σ H s→Vals xs us→r xs H Q→
  wpAny (model X.prog X.w) X.A (call f us) (EP X pins σ Q) X.xe s
noncomputable def tOp(r:R2)(ta tb:TE):TE:=fun σ H Q=>ta σ H fun x H1=>tb σ H1 fun y H2=>r x y H2 Q
noncomputable def tUn(r:V→Hp→VK→Prop)(ta:TE):TE:=fun σ H Q=>ta σ H fun x H1=>r x H1 Q
noncomputable def rI(C:Int→Int→Prop)(g:Int→Int→V):R2:=fun x y H Q=>∃i j,x=.int i∧y=.int j∧C i j∧Q (g i j) H
noncomputable def rI0(g:Int→Int→V):R2:=fun x y H Q=>∃i j,x=.int i∧y=.int j∧Q (g i j) H
noncomputable def rU(g:Int→V):V→Hp→VK→Prop:=fun x H Q=>∃i,x=.int i∧Q (g i) H
section
variable {X:Cx} {a b c:Expr} {ta tb tc:TE} {pos:Pos}
theorem binT(ha:PE X a ta)(hb:PE X b tb){pins:List (Addr×Obj)}{s:Shared}{σ:St}{H:Hp}{R:V→V→Hp→Prop}(I:Inv X pins σ H s)
  (h:ta σ H fun x H1=>tb σ H1 fun y H2=>R x y H2) {Q:Value→Shared→Prop} {f:Value→Value→Sem Value}
  (hf:∀v u s2 x y H2,Inv X pins σ H2 s2→RelV x v→RelV y u→R x y H2→wpAny (model X.prog X.w) X.A (f v u) Q X.xe s2):
  wpAny (model X.prog X.w) X.A (eval a X.env) (fun v s₁=>wpAny (model X.prog X.w) X.A (eval b X.env) (fun u s₂=>wpAny (model X.prog X.w) X.A (f v u) Q X.xe s₂) X.xe s₁) X.xe s:=by
 refine thn (ha pins s σ H _ I h) fun v s1 ⟨x,H1,I1,r1,q1⟩=>?_
 refine thn (hb pins s1 σ H1 _ I1 q1) fun u s2 ⟨y,H2,I2,r2,q2⟩=>?_
 exact hf v u s2 x y H2 I2 r1 r2 q2
theorem pe_op{op:Operator}{r:R2}(ho:OpR X (binaryOp op) r)(ha:PE X a ta)(hb:PE X b tb):PE X (.BinOp a op b pos) (tOp r ta tb):=by
 intro pins s σ H Q I h
 exact wpAny_BinOp (binT ha hb I h fun v u s2 x y H2 I2 rx ry q=>ho pins s2 σ H2 x y v u Q I2 rx ry q)
theorem pe_un{op:UnaryOp}{r:V→Hp→VK→Prop}(ho:UnR X (unaryOp op) r)(ha:PE X a ta):PE X (.UnaryOp op a pos) (tUn r ta):=by
 intro pins s σ H Q I h
 exact UnaryOp_ (thn (ha pins s σ H _ I h) fun v s1 ⟨x,H1,I1,r1,q1⟩=>ho pins s1 σ H1 x v Q I1 r1 q1)
theorem opI{f:Value→Value→Sem Value}{C:Int→Int→Prop}{g:Int→Int→Int}
  (rule:∀(i j:Int)(t u:Tok)(s:Shared)(Q:Value→Shared→Prop)(E:Value→Shared→Prop),C i j→Q (.int (g i j) s.toks) {s with toks:=s.toks+1}→wpAny (model X.prog X.w) X.A (f (.int i t) (.int j u)) Q E s):
  OpR X f (rI C fun i j=>.int (g i j)):=by
 intro pins s σ H x y v u Q I rx ry h
 obtain⟨i,j,rfl,rfl,hc,q⟩:=h
 obtain⟨t,rfl⟩:=rx
 obtain⟨t',rfl⟩:=ry
 exact rule i j t t' s _ _ hc ⟨.int (g i j),H,I.tok _,⟨_,rfl⟩,q⟩
theorem opI0{f:Value→Value→Sem Value}{g:Int→Int→Int}
  (rule:∀(i j:Int)(t u:Tok)(s:Shared)(Q:Value→Shared→Prop)(E:Value→Shared→Prop),Q (.int (g i j) s.toks) {s with toks:=s.toks+1}→wpAny (model X.prog X.w) X.A (f (.int i t) (.int j u)) Q E s):
  OpR X f (rI0 fun i j=>.int (g i j)):=by
 intro pins s σ H x y v u Q I rx ry h
 obtain⟨i,j,rfl,rfl,q⟩:=h
 obtain⟨t,rfl⟩:=rx
 obtain⟨t',rfl⟩:=ry
 exact rule i j t t' s _ _ ⟨.int (g i j),H,I.tok _,⟨_,rfl⟩,q⟩
theorem opB0{f:Value→Value→Sem Value}{g:Int→Int→Bool}
  (rule:∀(i j:Int)(t u:Tok)(s:Shared)(Q:Value→Shared→Prop)(E:Value→Shared→Prop),Q (.bool (g i j)) s→wpAny (model X.prog X.w) X.A (f (.int i t) (.int j u)) Q E s):
  OpR X f (rI0 fun i j=>.bl (g i j)):=by
 intro pins s σ H x y v u Q I rx ry h
 obtain⟨i,j,rfl,rfl,q⟩:=h
 obtain⟨t,rfl⟩:=rx
 obtain⟨t',rfl⟩:=ry
 exact rule i j t t' s _ _ ⟨.bl (g i j),H,I,rfl,q⟩
noncomputable def CDiv(i j:Int):Prop:=0<j∧j<1073741824
noncomputable def CMul(i j:Int):Prop:=(-(2 ^ 64)<i∧i<2 ^ 64)∨(-(2 ^ 64)<j∧j<2 ^ 64)
theorem CMul.ok{i j:Int}(h:CMul i j):IntMulOk i j:=by
 rcases h with⟨h1,h2⟩|⟨h1,h2⟩
 ·exact .of_left (intBits_le_64 h1 h2)
 ·exact .of_right (intBits_le_64 h1 h2)
theorem kbm:OpR X (binaryOp .Add) (rI0 fun i j=>.int (i+j)):=opI0 fun _ _ _ _ _ _ _ q=>add_int q
theorem kfv:OpR X (binaryOp .Sub) (rI0 fun i j=>.int (i-j)):=opI0 fun _ _ _ _ _ _ _ q=>sub_int q
theorem kdX:OpR X (binaryOp .Mult) (rI CMul fun i j=>.int (i*j)):=opI fun _ _ _ _ _ _ _ hc q=>mul_int q hc.ok
theorem kaC:OpR X (binaryOp .FloorDiv) (rI CDiv fun i j=>.int (i/j)):=opI fun i j _ _ _ _ _ hc q=>by
 have h1:(0:Int)<j:=hc.1
 have h2:j<1073741824:=hc.2
 exact floordiv_int (by omega) (by rw[Int.fdiv_eq_ediv_of_nonneg i (by omega)];exact q) (.inl (PyProof.noPylong_small (by omega)))
theorem kaz:OpR X (binaryOp .Mod) (rI (fun _ j=>0<j) fun i j=>.int (i%j)):=opI fun i j _ _ _ _ _ hc q=>by
 have h1:(0:Int)<j:=hc
 exact mod_int' (by omega) (by rw[Int.fmod_eq_emod_of_nonneg i (by omega)];exact q)
theorem unI{f:Value→Sem Value}{g:Int→Int}
  (rule:∀(i:Int)(t:Tok)(s:Shared)(Q:Value→Shared→Prop)(E:Value→Shared→Prop),Q (.int (g i) s.toks) {s with toks:=s.toks+1}→wpAny (model X.prog X.w) X.A (f (.int i t)) Q E s):
  UnR X f (rU fun i=>.int (g i)):=by
 intro pins s σ H x v Q I rx h
 obtain⟨i,rfl,q⟩:=h
 obtain⟨t,rfl⟩:=rx
 exact rule i t s _ _ ⟨.int (g i),H,I.tok _,⟨_,rfl⟩,q⟩
theorem khO:UnR X (unaryOp .USub) (rU fun i=>.int (-i)):=unI fun _ _ _ _ _ q=>neg_int q
end
noncomputable def scal:V→V→Bool
 | .non, .non=>true| .non, .int _=>true| .int _, .non=>true| .non, .bl _=>true| .bl _, .non=>true| .non, .str _=>true| .str _, .non=>true
 | .int _, .int _=>true| .bl _, .bl _=>true| .str _, .str _=>true| .byt _, .byt _=>true
 | .int _, .str _=>true| .str _, .int _=>true| .bl _, .str _=>true| .str _, .bl _=>true
 |_,_=>false
noncomputable def rEq:R2:=fun x y H Q=>scal x y=true∧Q (.bl (decide (x=y))) H
noncomputable def rNe:R2:=fun x y H Q=>scal x y=true∧Q (.bl (!decide (x=y))) H
def kgt{i j:Int}:decide (V.int i=V.int j)=(i==j):=by
 rw[NA]
 simp
def kkn{i j:Bool}:decide (V.bl i=V.bl j)=(i==j):=by
 rw[NA]
 simp
def ki2{i j:Str}:decide (V.str i=V.str j)=(i==j):=by
 rw[NA]
 simp
def ki3{i j:Array UInt8}:decide (V.byt i=V.byt j)=(i.toList==j.toList):=by
 rw[NA]
 cases i
 cases j
 simp
section
variable {X:Cx} {a b c:Expr} {ta tb tc:TE} {pos:Pos}
theorem kaM{pins:List (Addr×Obj)}{σ:St}{H:Hp}{s:Shared}{Q:VK}{k k':Bool}(I:Inv X pins σ H s)(q:Q (.bl k) H)(e:k=k'):EP X pins σ Q (.bool k') s:=by
 subst e
 exact⟨.bl k,H,I,rfl,q⟩
theorem op_eq:OpR X (compareOp .Eq) rEq:=by
 intro pins s σ H x y v u Q I rx ry h
 obtain⟨hs,q⟩:=h
 cases x with
 |non=>
  cases rx
  cases y with
  |non=>cases ry;exact PySem.EqNone.eq_none_none (kaM I q (by simp))
  |bl j=>cases ry;exact PySem.EqNone.eq_none_bool (kaM I q (by simp))
  |int j=>obtain⟨t',rfl⟩:=ry;exact PySem.EqNone.eq_none_int (kaM I q (by simp))
  |str j=>obtain⟨t',rfl⟩:=ry;exact PySem.EqNone.eq_none_str (kaM I q (by simp))
  |_=>exact absurd (show false=true from hs) UX
 |bl i=>
  cases rx
  cases y with
  |non=>cases ry;exact PySem.EqNone.eq_bool_none (kaM I q (by simp))
  |bl j=>cases ry;exact eq_bool (kaM I q kkn)
  |str j=>obtain⟨t',rfl⟩:=ry;exact PySem.EqMixed.eq_bool_str (kaM I q (by simp))
  |_=>exact absurd (show false=true from hs) UX
 |int i=>
  obtain⟨t,rfl⟩:=rx
  cases y with
  |non=>cases ry;exact PySem.EqNone.eq_int_none (kaM I q (by simp))
  |int j=>obtain⟨t',rfl⟩:=ry;exact eq_int (kaM I q kgt)
  |str j=>obtain⟨t',rfl⟩:=ry;exact PySem.EqMixed.eq_int_str (kaM I q (by simp))
  |_=>exact absurd (show false=true from hs) UX
 |str i=>
  obtain⟨t,rfl⟩:=rx
  cases y with
  |non=>cases ry;exact PySem.EqNone.eq_str_none (kaM I q (by simp))
  |bl j=>cases ry;exact PySem.EqMixed.eq_str_bool (kaM I q (by simp))
  |int j=>obtain⟨t',rfl⟩:=ry;exact PySem.EqMixed.eq_str_int (kaM I q (by simp))
  |str j=>obtain⟨t',rfl⟩:=ry;exact eq_str (kaM I q ki2)
  |_=>exact absurd (show false=true from hs) UX
 |byt i=>
  obtain⟨t,rfl⟩:=rx
  cases y with
  |byt j=>obtain⟨t',rfl⟩:=ry;exact PySem.W.eq_bytes (kaM I q ki3)
  |_=>exact absurd (show false=true from hs) UX
 |_=>cases y <;> exact absurd (show false=true from hs) UX
theorem op_ne:OpR X (compareOp .NotEq) rNe:=by
 intro pins s σ H x y v u Q I rx ry h
 obtain⟨hs,q⟩:=h
 cases x with
 |non=>
  cases rx
  cases y with
  |non=>cases ry;exact PySem.EqNone.ne_none_none (kaM I q (by simp))
  |bl j=>cases ry;exact PySem.EqNone.ne_none_bool (kaM I q (by simp))
  |int j=>obtain⟨t',rfl⟩:=ry;exact PySem.EqNone.ne_none_int (kaM I q (by simp))
  |str j=>obtain⟨t',rfl⟩:=ry;exact PySem.EqNone.ne_none_str (kaM I q (by simp))
  |_=>exact absurd (show false=true from hs) UX
 |bl i=>
  cases rx
  cases y with
  |non=>cases ry;exact PySem.EqNone.ne_bool_none (kaM I q (by simp))
  |bl j=>cases ry;exact ne_bool (kaM I q (congrArg not kkn))
  |str j=>obtain⟨t',rfl⟩:=ry;exact PySem.EqMixed.ne_bool_str (kaM I q (by simp))
  |_=>exact absurd (show false=true from hs) UX
 |int i=>
  obtain⟨t,rfl⟩:=rx
  cases y with
  |non=>cases ry;exact PySem.EqNone.ne_int_none (kaM I q (by simp))
  |int j=>obtain⟨t',rfl⟩:=ry;exact ne_int (kaM I q (congrArg not kgt))
  |str j=>obtain⟨t',rfl⟩:=ry;exact PySem.EqMixed.ne_int_str (kaM I q (by simp))
  |_=>exact absurd (show false=true from hs) UX
 |str i=>
  obtain⟨t,rfl⟩:=rx
  cases y with
  |non=>cases ry;exact PySem.EqNone.ne_str_none (kaM I q (by simp))
  |bl j=>cases ry;exact PySem.EqMixed.ne_str_bool (kaM I q (by simp))
  |int j=>obtain⟨t',rfl⟩:=ry;exact PySem.EqMixed.ne_str_int (kaM I q (by simp))
  |str j=>obtain⟨t',rfl⟩:=ry;exact ne_str (kaM I q (congrArg not ki2))
  |_=>exact absurd (show false=true from hs) UX
 |byt i=>
  obtain⟨t,rfl⟩:=rx
  cases y with
  |byt j=>obtain⟨t',rfl⟩:=ry;exact PySem.W.ne_bytes (kaM I q (congrArg not ki3))
  |_=>exact absurd (show false=true from hs) UX
 |_=>cases y <;> exact absurd (show false=true from hs) UX
theorem op_lt:OpR X (compareOp .Lt) (rI0 fun i j=>.bl (decide (i<j))):=opB0 fun _ _ _ _ _ _ _ q=>lt_int q
theorem op_gt:OpR X (compareOp .Gt) (rI0 fun i j=>.bl (decide (j<i))):=opB0 fun _ _ _ _ _ _ _ q=>gt_int q
theorem kcv:OpR X (compareOp .Is) (fun x y H Q=>y=.non∧Q (.bl (decide (x=.non))) H):=by
 intro pins s σ H x y v u Q I rx ry h
 obtain⟨rfl,q⟩:=h
 cases ry
 refine is_none_gen (kaM I q ?_)
 cases x <;> first
  |(cases rx;rfl)
  |(obtain⟨t,rfl⟩:=rx;rfl)
theorem kda:OpR X (compareOp .IsNot) (fun x y H Q=>y=.non∧Q (.bl (!decide (x=.non))) H):=by
 intro pins s σ H x y v u Q I rx ry h
 obtain⟨rfl,q⟩:=h
 cases ry
 refine isnot_none_gen (kaM I q ?_)
 cases x <;> first
  |(cases rx;rfl)
  |(obtain⟨t,rfl⟩:=rx;rfl)
theorem OpR.or{f:Value→Value→Sem Value}{r r':R2}(h:OpR X f r)(h':OpR X f r'):OpR X f (fun x y H Q=>r x y H Q∨r' x y H Q):=by
 intro pins s σ H x y v u Q I rx ry q
 rcases q with q|q
 ·exact h pins s σ H x y v u Q I rx ry q
 ·exact h' pins s σ H x y v u Q I rx ry q
theorem kau(b:Expr){op:CmpOp}(h:op≠.In:=by decide)(h2:op≠.NotIn:=by decide):behindInMarks op b=false:=by
 have e1:(op==CmpOp.In)=false:=by cases op <;> first|rfl|exact absurd rfl h
 have e2:(op==CmpOp.NotIn)=false:=by cases op <;> first|rfl|exact absurd rfl h2
 cases b <;> simp[behindInMarks,e1,e2]
theorem kbt{op:CmpOp}{r:R2}(ho:OpR X (compareOp op) r)(ha:PE X a ta)(hb:PE X b tb)(hm:behindInMarks op b=false):PE X (.Compare a [op] [b] pos) (tOp r ta tb):=by
 intro pins s σ H Q I h
 exact wpAny_Compare1 (binT ha hb I h fun v u s2 x y H2 I2 rx ry q=>ho pins s2 σ H2 x y v u Q I2 rx ry q) hm
noncomputable def tTest(t:TE):TT:=fun σ H Q=>t σ H fun x H'=>∃k,x=.bl k∧Q k H'
theorem kaq{op:CmpOp}{r:R2}(ho:OpR X (compareOp op) r)(ha:PE X a ta)(hb:PE X b tb)(hm:behindInMarks op b=false):PT X (.Compare a [op] [b] pos) (tTest (tOp r ta tb)):=by
 intro pins s σ H Q I h
 refine wpAny_isTrue_Compare1 (thn (ha pins s σ H _ I h) fun v s1 ⟨x,H1,I1,r1,q1⟩=>thn (hb pins s1 σ H1 _ I1 q1) fun u s2 ⟨y,H2,I2,r2,q2⟩=>
  thn (ho pins s2 σ H2 x y v u _ I2 r1 r2 q2) fun c s3 ⟨z,H3,I3,r3,k,e,q3⟩=>?_) hm
 subst e
 cases r3
 exact wpAny_truthy_bool ⟨H3,I3,q3⟩
theorem kg9:(sizeLine:Nat)<2 ^ 63:=by rw[sizeLine_eq];decide
theorem vals1{x:V}{us:List Value}(r:Vals [x] us):∃u,us=[u]∧RelV x u:=by
 cases r with
 |cons r1 r2=>cases r2;exact⟨_,rfl,r1⟩
theorem vals2{x y:V}{us:List Value}(r:Vals [x,y] us):∃u w',us=[u,w']∧RelV x u∧RelV y w':=by
 cases r with
 |cons r1 r2=>
  cases r2 with
  |cons r3 r4=>cases r4;exact⟨_,_,rfl,r1,r3⟩
theorem kja(hc:X.calm=true):CallR X (.builtin "max") (fun xs H Q=>∃i j,xs=[.int i, .int j]∧Q (.int (if j > i then j else i)) H):=by
 intro pins s σ H xs us Q I r h
 obtain⟨i,j,rfl,q⟩:=h
 obtain⟨u,w',rfl,⟨t,rfl⟩,⟨t',rfl⟩⟩:=vals2 r
 refine max_two_ints (I.ok.hd hc) fun h' tk k=>⟨_,H,I.kept k,?_,q⟩
 by_cases hj:j > i
 ·rw[if_pos hj,if_pos hj];exact⟨_,rfl⟩
 ·rw[if_neg hj,if_neg hj];exact⟨_,rfl⟩
theorem kfS(hc:X.calm=true):CallR X (.builtin "min") (fun xs H Q=>∃i j,xs=[.int i, .int j]∧Q (.int (if j<i then j else i)) H):=by
 intro pins s σ H xs us Q I r h
 obtain⟨i,j,rfl,q⟩:=h
 obtain⟨u,w',rfl,⟨t,rfl⟩,⟨t',rfl⟩⟩:=vals2 r
 refine min_two_ints (I.ok.hd hc) fun h' tk k=>⟨_,H,I.kept k,?_,q⟩
 by_cases hj:j<i
 ·rw[if_pos hj,if_pos hj];exact⟨_,rfl⟩
 ·rw[if_neg hj,if_neg hj];exact⟨_,rfl⟩
end
end L2
namespace L2
open PySem PySem.Spec PyProof.Rows
structure ObjM (h:Heap) (x dx C:Addr) (mA:Str→Option Value):Prop where
 obj:h.get? x=some (JV C dx)
 ns:h.Ns1 dx mA
 ne:dx≠x
def kiE{h:Heap}{dx:Addr}{mA:Str→Option Value}(n:h.Ns1 dx mA):∃od,h.get? dx=some od∧∀name,NB name od=some (mA name):=by
 obtain⟨o,es,ep,ho,hd,hk,_,hm⟩:=n
 refine⟨o,ho,fun name=>?_⟩
 have e:=hm name
 unfold nsFind findBy at e
 rw[←Array.find?_toList] at e
 unfold NB
 rw[hd]
 dsimp only
 split
 ·rename_i y q
  rw[q] at e
  exact congrArg some e
 ·rename_i q
  rw[q] at e
  have a:es.toList.any (·.refKey)=false:=by
   rw[List.any_eq_false]
   intro y hy
   obtain⟨z,t,hkey⟩:=hk y (Array.mem_toList_iff.mp hy)
   simp[DictEntry.refKey,hkey]
  have a':¬es.toList.any (·.refKey)=true:=by rw[a];exact UX
  rw[if_neg a']
  exact congrArg some e
def ObjM.look{h:Heap}{x dx C:Addr}{mA:Str→Option Value}(I:ObjM h x dx C mA):∃od,PySem.W.InstAt h x (JV C dx) C (some od)∧∀name,NB name od=some (mA name):=
 let⟨od,ho,hl⟩:=kiE I.ns
 ⟨od,⟨I.obj,rfl,rfl,ho⟩,hl⟩
section
variable {prog:Program} {w:World} {A:Around} {E:Value→Shared→Prop} {s:Shared} {K:UQ} {x dx C f:Addr} {mA:Str→Option Value} {name:Str} {v:Value}
theorem get_map{expr:Bool}{Q:Value→Shared→Prop}(X:K.In s.heap)(I:ObjM s.heap x dx C mA)(hg:Jr K C name=true)(hh:Ju K C=true)
  (ha:US K (.ref C) name=some none) (hv:mA name=some v) (hv':PySem.W.handedIn v=true) (h:Q v {s with toks:=s.toks+1}):
  wpAny (model prog w) A (getAttr (.ref x) name expr) Q E s:=by
 obtain⟨od,J,hl⟩:=I.look
 exact PySem.W.get_value X J (Md hg).1 (PySem.W.findObj_own hh ha rfl (by rw[hl,hv])) hv' h
theorem kjP{pl:Sem Bool}{Q:Value×List Value→Shared→Prop}(X:K.In s.heap)(I:ObjM s.heap x dx C mA)(hg:Jr K C name=true)
  (hf:US K (.ref C) name=some (some (.ref f))) (ht:Jv K (.ref f)=true) (hv:mA name=none) (h:Q (.ref f,[.ref x]) s):
  wpAny (model prog w) A (getMethod (.ref x) name pl) Q E s:=by
 obtain⟨od,J,hl⟩:=I.look
 exact PySem.W.method_fn X J (Md hg).1 (Md hg).2 hf (beq_iff_eq.mp ht) (by show(NB name od).map (·.isSome)=some false;rw[hl,hv];rfl) h
theorem kkA{ns:List Str}{Q:Unit→Shared→Prop}(X:K.In s.heap)(I:ObjM s.heap x dx C mA)
  (hs:US K (.ref C) "__setattr__"=some (some (.builtin "object.__setattr__"))) (hp:Jz K C=true) (ht:Me K C name=some none) (hh:Ju K C=true)
  (hw:PySem.Within mA ns) (hsz:ns.length≤sizeLine)
  (h:∀h',ObjM h' x dx C (fun y=>if y=name then some v else mA y)→Heap.SameBut dx s.heap h'→Q () {s with heap:=h',toks:=s.toks+2}):
  wpAny (model prog w) A (setAttr (.ref x) name v) Q E s:=by
 obtain⟨od,J,hl⟩:=I.look
 refine PySem.W.set_plain X J hs (PySem.W.osa_open (s:={s with toks:=s.toks+1}) (r:=none) X J hp ht fun b=>?_)
 obtain⟨cd,hc,hd'⟩:=PySem.W.any_some hh
 have hx:s.heap.get? x=some ⟨.ref C,some dx, .plain,#[]⟩:=I.obj
 refine wpAny_bind (wpAny_pure (wpAny_bind (wpAny_bind (wpAny_loadPart hx (wpAny_bind (PySem.W.Looks.here (s:={s with toks:=s.toks+1}) (PySem.W.looks_clsIn X hc) ?_))))))
 rw[hd']
 refine wpAny_pure (a:=some dx) (wpAny_bind (wpAny_pure (wpAny_bind ?_)))
 refine wpAny_nsSet1 (s:={s with toks:=s.toks+1}) I.ns fun h' hn2 hs2=>?_
 obtain⟨oD,esD,epD,hoD,hdD,hcD⟩:=hn2.count (PySem.Within.cons name v hw)
 refine wpAny_bind (wpAny_lookBehind hoD (by rw[hdD];exact pastItsLine_dict (UT hcD (by rw[Jp];omega))) ?_)
 exact wpAny_pure (h _ ⟨(hs2.2 _ (Ne.symm I.ne)).trans I.obj,hn2,I.ne⟩ hs2)
theorem kjE{R:Result→Shared→Prop}{vs:List Value}{kw:List (Str×Value)}(X:K.In s.heap)(hm:Jw K C=true)
  (hi:US K (.ref C) "__init__"=some (some (.ref f))) (hf:Js K (.ref f)=some (.type "function"))
  (h:codeAny (model prog w) (A.under (.builtin "type.__call__" ⟨.ref C::vs,kw⟩)) (.call (.ref f) ⟨.ref (s.heap.objs.size+1)::vs,kw⟩) (PySem.W.InitBack (s.heap.objs.size+1) R)
   {s with heap:=(s.heap.push JP).push (JV C s.heap.objs.size)}):
  codeAny (model prog w) A (.call (.ref C) ⟨vs,kw⟩) R s:=by
 obtain⟨hh,g,d,t,os⟩:=s
 exact PySem.W.make_core (PySem.W.makes_of X hm) (PySem.W.looks_findIn X hi) (fun self=>PySem.W.bind_fn X self hf) (.inl rfl) h
end
noncomputable def putF(f:Str)(v:V):List (Str×V)→List (Str×V)
 |[]=>[(f,v)]
 |(g,x)::r=>if g=f then(g,v)::r else(g,x)::putF f v r
theorem kab(f g:Str)(v:V):∀fs:List (Str×V),(putF f v fs).lookup g=if g=f then some v else fs.lookup g
 | []=>by
  show JH g [(f,v)]=_
  by_cases h:g=f
  ·have hb:(g==f)=true:=beq_iff_eq.mpr h
   simp only[JH,hb,if_pos h]
  ·have hb:(g==f)=false:=beq_eq_false_iff_ne.mpr h
   simp only[JH,hb,if_neg h]
 | (k,x)::r=>by
  have ih:=kab f g v r
  rw[show putF f v ((k,x)::r)=(if k=f then(k,v)::r else(k,x)::putF f v r) from rfl]
  by_cases hk:k=f
  ·rw[if_pos hk]
   by_cases h:g=k
   ·have hb:(g==k)=true:=beq_iff_eq.mpr h
    simp only[JH,hb,if_pos (h.trans hk)]
   ·have hb:(g==k)=false:=beq_eq_false_iff_ne.mpr h
    simp only[JH,hb,if_neg (fun e:g=f=>h (e.trans hk.symm))]
  ·rw[if_neg hk]
   by_cases h:g=k
   ·have hb:(g==k)=true:=beq_iff_eq.mpr h
    simp only[JH,hb,if_neg (fun e:g=f=>hk (h.symm.trans e))]
   ·have hb:(g==k)=false:=beq_eq_false_iff_ne.mpr h
    simp only[JH,hb]
    exact ih
theorem kd8(f:Str)(v:V):∀fs:List (Str×V),f∈(putF f v fs).map (·.1)∧∀g,g∈fs.map (·.1)→g∈(putF f v fs).map (·.1)
 |[]=>⟨by simp[putF],fun g h=>by simp at h⟩
 | (k,x)::r=>by
  obtain⟨i1,i2⟩:=kd8 f v r
  rw[show putF f v ((k,x)::r)=(if k=f then(k,v)::r else(k,x)::putF f v r) from rfl]
  by_cases hk:k=f
  ·rw[if_pos hk]
   subst hk
   exact⟨by simp,fun g h=>by simpa using h⟩
  ·rw[if_neg hk]
   refine⟨?_,fun g h=>?_⟩
   ·rw[U4]
    exact Jb _ i1
   ·rw[U4] at h⊢
    rcases Jd.mp h with e|e
    ·exact Jd.mpr (.inl e)
    ·exact Jb _ (i2 g e)
theorem kd6(f:Str)(v:V):∀fs:List (Str×V),(putF f v fs).length≤fs.length+1
 |[]=>by simp[putF]
 |(k,x)::r=>by
  have ih:=kd6 f v r
  rw[show putF f v ((k,x)::r)=(if k=f then(k,v)::r else(k,x)::putF f v r) from rfl]
  by_cases hk:k=f
  ·rw[if_pos hk,Jp,Jp];omega
  ·rw[if_neg hk,Jp,Jp];omega
theorem RelO.some_of{v:V}{o:Option Value}(r:RelO (some v) o):∃u,o=some u∧RelV v u:=by
 cases o with
 |none=>exact(show False from r).elim
 |some u=>exact⟨u,rfl,r⟩
theorem RelO.none_of{o:Option Value}(r:RelO none o):o=none:=by
 cases o with
 |none=>rfl
 |some u=>exact(show False from r).elim
theorem kiP{v:V}{u:Value}(r:RelV v u):PySem.W.handedIn u=true:=by
 cases v with
 |non=>cases(show u=Value.none from r);rfl
 |bl b=>cases(show u=Value.bool b from r);rfl
 |int i=>obtain⟨t,e⟩:=(show ∃t,u=Value.int i t from r);cases e;rfl
 |str x=>obtain⟨t,e⟩:=(show ∃t,u=Value.str x t from r);cases e;rfl
 |byt b=>obtain⟨t,e⟩:=(show ∃t,u=Value.bytes b t from r);cases e;rfl
 |flt b=>obtain⟨t,e⟩:=(show ∃t,u=Value.float b t from r);cases e;rfl
 |ref a=>cases(show u=Value.ref a from r);rfl
 |ty n=>cases(show u=Value.type n from r);rfl
section
variable {P:Program} {w:World} {H H':Hp} {h h':Heap} {a C dx:Addr} {fs fs':List (Str×V)}
theorem ke6(hok:HOk P w H h)(e:H a=some (.ins C dx fs)):∃mA,ObjM h a dx C mA∧(∀f,RelO (fs.lookup f) (mA f))∧PySem.Within mA (fs.map (·.1))∧fs.length≤1000∧H dx=some (.own a):=by
 obtain⟨d,z,ne,ob,mA,n,r,q⟩:=(show ObjOk P w H h a (.ins C dx fs) from hok a _ e)
 exact⟨mA,⟨ob,n,ne⟩,r,q,z,d⟩
end
structure Cls (K:UQ) (C:Addr):Prop where
 pg:Jr K C Str.empty=true
 hd:Ju K C=true
 po:Jz K C=true
 sa:US K (.ref C) "__setattr__"=some (some (.builtin "object.__setattr__"))
def Cls.get{K:UQ}{C:Addr}(c:Cls K C)(f:Str):Jr K C f=true:=c.pg
noncomputable def NoAttr(K:UQ)(C:Addr)(f:Str):Prop:=US K (.ref C) f=some none
def NoAttr.taker{K:UQ}{C:Addr}{f:Str}(n:NoAttr K C f):Me K C f=some none:=by
 unfold Me
 rw[show US K (.ref C) f=some none from n]
 rfl
structure Meth (K:UQ) (C:Addr) (m:Str) (f:Addr):Prop where
 at_:US K (.ref C) m=some (some (.ref f))
 fn:Jv K (.ref f)=true
 kp:U5 K (.ref f)=true
section
variable {X:Cx} {pins:List (Addr×Obj)} {σ:St} {H:Hp} {s:Shared} {a C dx:Addr} {fs:List (Str×V)} {f:Str} {v:V} {A:Around} {E:Value→Shared→Prop}
theorem khG{b:Bool}{Q:Value→Shared→Prop}(I:Inv X pins σ H s)(e:H a=some (.ins C dx fs))(c:Cls X.K C)(n:NoAttr X.K C f)(l:fs.lookup f=some v)
  (h:∀u s',Inv X pins σ H s'→RelV v u→Q u s'):wpAny (model X.prog X.w) A (getAttr (.ref a) f b) Q E s:=by
 obtain⟨mA,O,r,_,_,_⟩:=ke6 I.hok e
 obtain⟨u,hu,ru⟩:=RelO.some_of (v:=v) (o:=mA f) (by rw[←l];exact r f)
 exact get_map I.kIn O (c.get f) c.hd n hu (kiP ru) (h u _ (I.tok _) ru)
theorem keB{m:Str}{g:Addr}{pl:Sem Bool}{Q:Value×List Value→Shared→Prop}(I:Inv X pins σ H s)(e:H a=some (.ins C dx fs))(c:Cls X.K C)(k:Meth X.K C m g)(l:fs.lookup m=none)
  (h:Q (.ref g,[.ref a]) s):wpAny (model X.prog X.w) A (getMethod (.ref a) m pl) Q E s:=by
 obtain⟨mA,O,r,_,_,_⟩:=ke6 I.hok e
 have hn:mA m=none:=RelO.none_of (by rw[←l];exact r m)
 exact kjP I.kIn O (c.get m) k.at_ k.fn hn h
theorem khs{y:V}{u:Value}{Q:Unit→Shared→Prop}(I:Inv X pins σ H s)(e:H a=some (.ins C dx fs))(c:Cls X.K C)(n:NoAttr X.K C f)(hl:fs.length<1000)(ry:RelV y u)
  (h:∀s',Inv X pins σ (upd H a (.ins C dx (putF f y fs))) s'→Q () s'):wpAny (model X.prog X.w) A (setAttr (.ref a) f u) Q E s:=by
 obtain⟨mA,O,r,wi,_,ho⟩:=ke6 I.hok e
 have hz:(fs.map (·.1)).length≤sizeLine:=by rw[UP,sizeLine_eq];omega
 refine kkA I.kIn O c.sa c.po n.taker c.hd wi hz fun h' O' sb=>h _ ?_
 have hd:∃o,h'.get? dx=some o:=let⟨o,_,_,e',_⟩:=O'.ns;⟨o,e'⟩
 refine I.write (x:=a) (e:=dx) (by rw[e];exact True.intro) (.inr ho) (fun b q hb z=>(sb.2 b hb).trans z) hd ?_
 refine⟨by rw[kaj O.ne];exact ho,?_,O.ne,O'.obj,_,O'.ns,fun g=>?_,fun g hg=>?_⟩
 ·have:=kd6 f y fs;omega
 ·show RelO ((putF f y fs).lookup g) (if g=f then some u else mA g)
  rw[kab]
  by_cases q:g=f
  ·rw[if_pos q,if_pos q];exact ry
  ·rw[if_neg q,if_neg q];exact r g
 ·by_cases q:g=f
  ·rw[q];exact(kd8 f y fs).1
  ·refine(kd8 f y fs).2 g (wi g fun z=>hg ?_)
   show(if g=f then some u else mA g)=none
   rw[if_neg q];exact z
theorem Inv.made(I:Inv X pins σ H s):Inv X pins σ (upd (upd H s.heap.objs.size (.own (s.heap.objs.size+1))) (s.heap.objs.size+1) (.ins C s.heap.objs.size []))
  {s with heap:=(s.heap.push JP).push (JV C s.heap.objs.size)}:=by
 have e1:(s.heap.push JP).get? s.heap.objs.size=some JP:=Heap.get?_push_size s.heap rfl
 have e2:((s.heap.push JP).push (JV C s.heap.objs.size)).get? (s.heap.objs.size+1)=some (JV C s.heap.objs.size):=by
  have:=Heap.get?_push_size (s.heap.push JP) (o:=JV C s.heap.objs.size) rfl
  rwa [Heap.size_push] at this
 have e3:(s.heap.push JP).Ns s.heap.objs.size (fun _=>none):=⟨JP,#[],_,e1,rfl,(fun e he=>absurd he (by simp)),fun _=>rfl⟩
 have I1:=I.laid (a:=s.heap.objs.size) (o:=.own (s.heap.objs.size+1)) (h':=s.heap.push JP) (t':=s.toks) (fun b u q=>Heap.get?_push_of_some _ q) (UR _) ⟨_,e1⟩
 refine I1.laid (a:=s.heap.objs.size+1) (o:=.ins C s.heap.objs.size []) (t':=s.toks) (fun b u q=>Heap.get?_push_of_some _ q) (NC (Heap.size_push _ _)) ?_
 have ne:s.heap.objs.size≠s.heap.objs.size+1:=Je (Mf _)
 refine⟨by rw[kaj ne,kac],Jk _,ne,e2,fun _=>none,(Heap.Ns1.of_empty e3).at fun o q=>Heap.get?_push_of_some _ q,fun _=>True.intro,fun y hy=>absurd rfl hy⟩
theorem klc{prog:Program}{w:World}{env:Env}{e:Expr}{f:Str}{pos:Pos}{s:Shared}{Q:Value→Shared→Prop}(hb:attributeBase e f env (eval e env)=eval e env)
  (h:wpAny (model prog w) A (eval e env) (fun o s₁=>wpAny (model prog w) A (getAttr o f true) Q E s₁) E s):wpAny (model prog w) A (eval (.Attribute e f pos) env) Q E s:=
 Attribute_any_ h (by rw[arm_eval_Attribute,hb])
end
noncomputable def tFld(K:UQ)(ta:TE)(f:Str):TE:=fun σ H Q=>ta σ H fun x H1=>∃a C dx fs v,x=.ref a∧H1 a=some (.ins C dx fs)∧Cls K C∧NoAttr K C f∧fs.lookup f=some v∧Q v H1
noncomputable def sFld(K:UQ)(ta tv:TE)(f:Str):TS:=fun D σ H=>tv σ H fun y H1=>ta σ H1 fun x H2=>∃a C dx fs,x=.ref a∧H2 a=some (.ins C dx fs)∧Cls K C∧NoAttr K C f∧fs.length<1000∧
 D.nx σ (upd H2 a (.ins C dx (putF f y fs)))
section
variable {X:Cx} {o e value:Expr} {f:Str} {pos pos' tpos:Pos} {ta tv:TE}
theorem klw(he:PE X e ta)(hb:attributeBase e f X.env (eval e X.env)=eval e X.env):PE X (.Attribute e f pos) (tFld X.K ta f):=by
 intro pins s σ H Q I h
 refine klc hb (thn (he pins s σ H _ I h) fun u s1 ⟨x,H1,I1,rx,a,C,dx,fs,v,ex,ea,c,n,l,q⟩=>?_)
 subst ex
 obtain rfl:u=Value.ref a:=rx
 exact khG I1 ea c n l fun u' s2 I2 ru=>⟨v,H1,I2,ru,q⟩
theorem kaD(ha:PE X o ta)(hv:PE X value tv)(hs:swapsWith value (some (.Attribute o f pos')) pos.line X.env=pure false):PS X (.Assign [.Attribute o f pos'] value pos) (sFld X.K ta tv f):=by
 intro pins s σ H D I h
 refine plainObj_wpAny_Assign_Attribute (thn (hv pins s σ H _ I h) fun u s1 ⟨y,H1,I1,ry,q⟩=>thn (ha pins s1 σ H1 _ I1 q) fun ov s2 ⟨x,H2,I2,rx,a,C,dx,fs,ex,ea,c,n,l,q2⟩=>?_) hs
 subst ex
 obtain rfl:ov=Value.ref a:=rx
 exact khs I2 ea c n l ry fun s3 I3=>⟨σ,_,I3,q2⟩
end
section
variable {X:Cx} {pins:List (Addr×Obj)} {σ:St} {H:Hp} {s:Shared} {A:Around} {E:Value→Shared→Prop} {Q:Value→Shared→Prop} {c:Value} {b:Bool}
inductive TyOf (K:UQ) (H:Hp):V→Value→Prop where
 |non:TyOf K H .non (.type "NoneType")
 |bl (x:Bool):TyOf K H (.bl x) (.type "bool")
 |int (i:Int):TyOf K H (.int i) (.type "int")
 |str (x:Str):TyOf K H (.str x) (.type "str")
 |flt (x:UInt64):TyOf K H (.flt x) (.type "float")
 |lst {a:Addr} {xs:List V} (e:H a=some (.lst xs)):TyOf K H (.ref a) (.type "list")
 |frz {a:Addr} {o:Obj} {xs:List V} (e:H a=some (.frz o (.lst xs))):TyOf K H (.ref a) (.type "list")
 |tup {a:Addr} {xs:List V} (e:H a=some (.tup xs)):TyOf K H (.ref a) (.type "tuple")
 |dK {a:Addr} {kvs:List (Key×V)} (e:H a=some (.dK kvs)):TyOf K H (.ref a) (.type "dict")
 |dT {a:Addr} {kvs:List (List Key×V)} (e:H a=some (.dT kvs)):TyOf K H (.ref a) (.type "dict")
 | ins {a C dx:Addr} {fs:List (Str×V)} (e:H a=some (.ins C dx fs)) (cl:Cls K C) (ha:US K (.ref C) "__class__"=some (some (.builtin "object.__class__")))
   (hn:Nj K (.builtin "object.__class__") "__get__"=some (some (.builtin "getset_descriptor.__get__"))) (htk:Mg K (.builtin "object.__class__")=some true)
   (hm:UW K C (.type "object")=some true):TyOf K H (.ref a) (.ref C)
theorem kiL{x:V}{u t:Value}(I:Inv X pins σ H s)(rx:RelV x u)(ty:TyOf X.K H x t)(e:U6 X.K t c=some b)(h:∀tk,Q (.bool b) {s with toks:=tk}):
  wpAny (model X.prog X.w) A (call (.builtin "isinstance") [u,c]) Q E s:=by
 cases ty with
 |non=>cases(show u=Value.none from rx);exact JI PySem.W.kitx_none I.kIn True.intro e (fun z=>nomatch z) h
 |bl y=>cases(show u=Value.bool y from rx);exact JI PySem.W.kitx_bool I.kIn True.intro e (fun z=>nomatch z) h
 |int i=>obtain⟨t,q⟩:=(show ∃t,u=Value.int i t from rx);cases q;exact JI PySem.W.kitx_int I.kIn True.intro e (fun z=>nomatch z) h
 |str y=>obtain⟨t,q⟩:=(show ∃t,u=Value.str y t from rx);cases q;exact JI PySem.W.kitx_str I.kIn True.intro e (fun z=>nomatch z) h
 |flt y=>obtain⟨t,q⟩:=(show ∃t,u=Value.float y t from rx);cases q;exact JI PySem.W.kitx_float I.kIn True.intro e (fun z=>nomatch z) h
 | @lst a xs ea=>
  cases(show u=Value.ref a from rx)
  obtain⟨_,_,n,_,h1⟩:=(show ObjOk X.prog X.w H s.heap a (.lst xs) from I.hok a _ ea)
  exact JI PySem.W.kitx_list I.kIn ⟨_,h1,rfl⟩ e (fun z=>nomatch z) h
 | @frz a ob xs ea=>
  cases(show u=Value.ref a from rx)
  obtain⟨_,_,_,n,_,h1⟩:=(show ObjOk X.prog X.w H s.heap a (.frz ob (.lst xs)) from I.hok a _ ea)
  exact JI PySem.W.kitx_list I.kIn ⟨_,h1,rfl⟩ e (fun z=>nomatch z) h
 | @tup a xs ea=>
  cases(show u=Value.ref a from rx)
  obtain⟨_,_,_,p⟩:=(show ObjOk X.prog X.w H s.heap a (.tup xs) from I.hok a _ ea)
  obtain⟨o,h1,h2,_⟩:=p
  exact JI PySem.W.kitx_tuple I.kIn ⟨o,h1,h2⟩ e (fun z=>nomatch z) h
 | @dK a kvs ea=>
  cases(show u=Value.ref a from rx)
  obtain⟨_,_,vs,_,p⟩:=(show ObjOk X.prog X.w H s.heap a (.dK kvs) from I.hok a _ ea)
  obtain⟨o,es,ep,h1,h2,_⟩:=p
  exact JI PySem.W.kitx_dict I.kIn ⟨o,h1,h2.1⟩ e (fun z=>nomatch z) h
 | @dT a kvs ea=>
  cases(show u=Value.ref a from rx)
  obtain⟨_,_,xs,_,o,es,ep,h1,h2,_⟩:=(show ObjOk X.prog X.w H s.heap a (.dT kvs) from I.hok a _ ea)
  exact JI PySem.W.kitx_dict I.kIn ⟨o,h1,h2.1⟩ e (fun z=>nomatch z) h
 | @ins a C dx fs ea cl ha hn htk hm=>
  cases(show u=Value.ref a from rx)
  obtain⟨mA,O,_⟩:=ke6 I.hok ea
  obtain⟨od,J,_⟩:=O.look
  exact JI (PySem.W.kitx_own (cl.get _) cl.hd ha hn htk hm) I.kIn J e (fun z=>nomatch z) h
end
end L2
namespace L2
open PySem PySem.Spec PyProof.Rows
structure Room (k:Nat) (A:Around):Prop where
 hd:A.handled=none
 dp:A.depth+3*k+5<recursionLimit
 un:A.units+16*k+200<cLine
def Room.mono{j k:Nat}{A:Around}(r:Room k A)(h:j≤k):Room j A:=⟨r.hd,by have:=r.dp;omega,by have:=r.un;omega⟩
def Room.deeper{k:Nat}{A:Around}(r:Room (k+1) A)(env:Env):Room k (A.deeper env):=
 ⟨r.hd,by have:=r.dp;show A.depth+1+3*k+5<_;omega,by have:=r.un;show A.units+3+16*k+200<_;omega⟩
def Room.in1{k:Nat}{A:Around}(r:Room (k+1) A):Room k A.in1:=
 ⟨r.hd,by have:=r.dp;show A.depth+3*k+5<_;omega,by have:=r.un;show A.units+1+16*k+200<_;omega⟩
def khC{A:Around}{C:Addr}{us:List Value}{kw:List (Str×Value)}:(A.under (.builtin "type.__call__" ⟨.ref C::us,kw⟩)).depth=A.depth+1:=by
 first|rfl|simp[Around.under,Code.weight,Code.isCreation,Code.isGuard,Code.isCaller,Code.frames,Code.isFrame,guardIds]
def khB{A:Around}{C:Addr}{us:List Value}{kw:List (Str×Value)}:(A.under (.builtin "type.__call__" ⟨.ref C::us,kw⟩)).units=A.units+1:=by
 first|rfl|simp[Around.under,Code.cUnits,Code.frames,Code.isFrame]
def Room.make{k:Nat}{A:Around}(r:Room (k+1) A)(C:Addr)(us:List Value)(kw:List (Str×Value)):Room k (A.under (.builtin "type.__call__" ⟨.ref C::us,kw⟩)):=
 ⟨r.hd,by have:=r.dp;rw[khC];omega,by have:=r.un;rw[khB];omega⟩
def Room.depth{k:Nat}{A:Around}(r:Room k A):A.depth<recursionLimit:=by have:=r.dp;omega
def Room.units{k:Nat}{A:Around}(r:Room k A):A.units+64<cLine:=by have:=r.un;omega
def Room.units0{k:Nat}{A:Around}(r:Room k A):A.units<cLine:=by have:=r.un;omega
noncomputable def tNil:TA:=fun _ H Q=>Q [] H
noncomputable def tCons(ta:TE)(tr:TA):TA:=fun σ H Q=>ta σ H fun x H1=>tr σ H1 fun xs H2=>Q (x::xs) H2
section
variable {X:Cx} {e:Expr} {es:List Expr} {te:TE} {t:TA} {pos:Pos}
theorem kae:PA X [] tNil:=fun _ _ _ _ H Q I h=>Calls.spliced_nil ⟨[],H,I, .nil,h⟩
theorem kaa(ha:PE X e te)(hr:PA X es t)(hs:starEach (e::es) X.env=(false,eval e X.env)::starEach es X.env:=by rfl):PA X (e::es) (tCons te t):=by
 intro pos pins s σ H Q I h
 rw[hs]
 show wpAny _ _ (spliced ((false,eval e X.env)::backTo pos (starEach es X.env))) _ _ s
 refine Calls.spliced_cons (thn (ha pins s σ H _ I h) fun u s1 ⟨x,H1,I1,r1,q1⟩=>?_)
 exact thn (hr pos pins s1 σ H1 _ I1 q1) fun us s2 ⟨xs,H2,I2,r2,q2⟩=>⟨x::xs,H2,I2, .cons r1 r2,q2⟩
noncomputable def tTup(t:TA):TE:=fun σ H Q=>t σ H fun xs H1=>xs.length≤sizeLine∧∀p,H1 p=none→Q (.ref p) (upd H1 p (.tup xs))
noncomputable def tLst(t:TA):TE:=fun σ H Q=>t σ H fun xs H1=>xs.length≤sizeLine∧∀p,H1 p=none→Q (.ref p) (upd H1 p (.lst xs))
theorem kcN{x1}(h:PA X es t):PE X (.Tuple es x1 pos) (tTup t):=by
 intro pins s σ H Q I hq
 refine wpAny_Tuple_spliced (thn (h pos pins s σ H _ I hq) fun us s1 ⟨xs,H1,I1,r,z,q⟩=>⟨by rw[←r.length];exact z,?_⟩)
 have hf:H1 s1.heap.objs.size=none:=I1.hok.fresh (UR _)
 refine⟨.ref s1.heap.objs.size,upd H1 s1.heap.objs.size (.tup xs),I1.laid (t':=s1.toks) (fun b u e=>Heap.get?_push_of_some _ e) (UR _) ?_,rfl,q _ hf⟩
 exact⟨z,us,r,⟨_,Heap.get?_push_size _ rfl,rfl,_,rfl⟩⟩
theorem kaN(h:PA X es t):PE X (.List es pos) (tLst t):=by
 intro pins s σ H Q I hq
 refine wpAny_List_spliced (thn (h pos pins s σ H _ I hq) fun us s1 ⟨xs,H1,I1,r,z,q⟩=>⟨by rw[←r.length];exact z,?_⟩)
 have hf:H1 s1.heap.objs.size=none:=I1.hok.fresh (UR _)
 refine⟨.ref s1.heap.objs.size,upd H1 s1.heap.objs.size (.lst xs),I1.laid (t':=s1.toks) (fun b u e=>Heap.get?_push_of_some _ e) (UR _) ?_,rfl,q _ hf⟩
 exact⟨z,us,0,r,Heap.get?_push_size _ rfl⟩
end
noncomputable abbrev Sp:=List V→Hp→VK→XK→Prop
noncomputable abbrev CXT:=List Env→Hp→Shared→XK→Value→Shared→Prop
structure Env0 (P:Program) (w:World) (K:UQ) (mg:Str→Option Value) (base:Heap) (A:Around) (outer:List Env) (s:Shared) (H:Hp):Prop where
 frames:A.frames=some outer
 mod:Mod K mg base
 bs:∀b o,base.get? b=some o→s.heap.get? b=some o∧H b=none
 bsz:base.objs.size≤s.heap.objs.size
 funs:s.heap.FunFrames base outer
 frf:∀b∈frs outer,H b=none
 hok:HOk P w H s.heap
 bare:AllBare s.gens
noncomputable def CE(outer:List Env)(P:Program)(w:World)(H:Hp)(s:Shared)(Q:VK)(u:Value)(s':Shared):Prop:=
 ∃v H',s'.os=s.os∧AllBare s'.gens∧Un (frs outer) [] H H' s.heap s'.heap∧HOk P w H' s'.heap∧RelV v u∧Q v H'
noncomputable def CR(CX:CXT)(outer:List Env)(P:Program)(w:World)(H:Hp)(s:Shared)(Q:VK)(E:XK)(r:Result)(s':Shared):Prop:=
 match r with
 | .ok (.ret u)=>CE outer P w H s Q u s'
 | .ok _=>False
 | .error e=>CX outer H s E e s'
structure FnOk (P:Program) (w:World) (K:UQ) (mg:Str→Option Value) (base:Heap) (CX:CXT) (k:Nat) (f:Addr) (fd:FuncData) (ps:List Str) (sp:Sp):Prop where
 len:∀vs H Q E,sp vs H Q E→vs.length=ps.length
 run:∀(A:Around)(outer:List Env)(s:Shared)(H:Hp)(args:Args)(us:List Value)(vs:List V)(Q:VK)(E:XK),Room k A→Env0 P w K mg base A outer s H→BindsTo s fd args (ps.zip us)→Vals vs us→sp vs H Q E→
  codeAny (model P w) A (.call (.ref f) args) (CR CX outer P w H s Q E) s
theorem FnOk.mono{P:Program}{w:World}{K:UQ}{mg:Str→Option Value}{base:Heap}{CX:CXT}{j k:Nat}{f:Addr}{fd:FuncData}{ps:List Str}{sp:Sp}(F:FnOk P w K mg base CX j f fd ps sp)(h:j≤k):
  FnOk P w K mg base CX k f fd ps sp:=⟨F.len,fun A outer s H args us vs Q E hr=>F.run A outer s H args us vs Q E (hr.mono h)⟩
theorem FnOk.imp{P:Program}{w:World}{K:UQ}{mg:Str→Option Value}{base:Heap}{CX:CXT}{k:Nat}{f:Addr}{fd:FuncData}{ps:List Str}{sp sp':Sp}(F:FnOk P w K mg base CX k f fd ps sp)
  (h:∀vs H Q E,sp' vs H Q E→sp vs H Q E):FnOk P w K mg base CX k f fd ps sp':=
 ⟨fun vs H Q E q=>F.len vs H Q E (h _ _ _ _ q),fun A outer s H args us vs Q E hr he hb hv hs=>F.run A outer s H args us vs Q E hr he hb hv (h _ _ _ _ hs)⟩
theorem Env0.make{P:Program}{w:World}{K:UQ}{mg:Str→Option Value}{base:Heap}{A:Around}{outer:List Env}{s:Shared}{H:Hp}(e:Env0 P w K mg base A outer s H)(C:Addr)(us:List Value)(kw:List (Str×Value)):
  Env0 P w K mg base (A.under (.builtin "type.__call__" ⟨.ref C::us,kw⟩)) outer s H:=⟨by first|exact e.frames|(simpa[Around.under,Code.envs,Code.isFrame,pushEnvs] using e.frames),e.mod,e.bs,e.bsz,e.funs,e.frf,e.hok,e.bare⟩
theorem Env0.in1{P:Program}{w:World}{K:UQ}{mg:Str→Option Value}{base:Heap}{A:Around}{outer:List Env}{s:Shared}{H:Hp}(e:Env0 P w K mg base A outer s H):
  Env0 P w K mg base A.in1 outer s H:=⟨e.frames,e.mod,e.bs,e.bsz,e.funs,e.frf,e.hok,e.bare⟩
section
variable {X:Cx} {pins:List (Addr×Obj)} {σ:St} {H:Hp} {s s':Shared}
theorem Inv.env0(I:Inv X pins σ H s):Env0 X.prog X.w X.K X.mg X.base X.A X.stack s H:=
 ⟨I.ok.frames,I.ok.mod,I.bs,UT I.ok.bsz I.sz,I.stack,I.stkFree,I.hok,I.bare⟩
theorem Inv.after{Q:VK}{u:Value}(I:Inv X pins σ H s)(h:CE X.stack X.prog X.w H s Q u s'):EP X pins σ Q u s':=by
 obtain⟨v,H',os,bare,un,hok,r,q⟩:=h
 obtain⟨hh,g,d,t,os'⟩:=s'
 obtain rfl:os'=s.os:=os
 exact⟨v,H',I.call (h':=hh) (g':=g) (d':=d) (t':=t) (ch:=[]) un hok bare (fun b z=>absurd z (by simp)),r,q⟩
end
noncomputable def tCall(sp:Sp)(dvs:List V)(E:XK)(t:TA):TE:=fun σ H Q=>t σ H fun vs H1=>sp (vs++dvs) H1 Q E
noncomputable def tMeth(C:Addr)(m:Str)(sp:Sp)(dvs:List V)(E:XK)(ta:TE)(t:TA):TE:=fun σ H Q=>ta σ H fun x H1=>∃a dx fs,x=.ref a∧H1 a=some (.ins C dx fs)∧fs.lookup m=none∧
 t σ H1 fun vs H2=>sp (x::(vs++dvs)) H2 Q E
noncomputable def tMake(C:Addr)(sp:Sp)(dvs:List V)(E:XK)(t:TA):TE:=fun σ H Q=>t σ H fun vs H1=>∀x dx,H1 x=none→H1 dx=none→dx≠x→
 sp (.ref x::(vs++dvs)) (upd (upd H1 dx (.own x)) x (.ins C dx [])) (fun v H2=>v=.non∧Q (.ref x) H2) E
noncomputable def Binds(K:UQ)(fd:FuncData)(ps:List Str)(ds:List Value):Prop:=
 ∀(s:Shared)(us:List Value),K.In s.heap→(us++ds).length=ps.length→BindsTo s fd ⟨us,[]⟩ (ps.zip (us++ds))
def Binds.all{K:UQ}{fd:FuncData}{ps:List Str}(h:∀us:List Value,us.length=ps.length→bindArgs fd ⟨us,[]⟩=pure (ps.zip us)):Binds K fd ps []:=fun s us _ hl=>by
 rw[JQ] at hl⊢
 exact .of_eq (h us hl)
noncomputable def kc2(CX:CXT)(X:Cx)(E:XK):Prop:=∀(pins:List (Addr×Obj))(σ:St)(H:Hp)(s:Shared)(e:Value)(s':Shared),Inv X pins σ H s→CX X.stack H s E e s'→X.xe e s'
section
variable {X:Cx} {CX:CXT} {k:Nat} {f C:Addr} {fd:FuncData} {ps:List Str} {sp:Sp} {dvs:List V} {ds:List Value} {E:XK} {x m:Str} {p pos apos:Pos} {e o:Expr} {es:List Expr} {ta:TE} {t:TA}
theorem kft{pins:List (Addr×Obj)}{σ:St}{H:Hp}{s:Shared}{Q:VK}{us:List Value}{vs:List V}(F:FnOk X.prog X.w X.K X.mg X.base CX k f fd ps sp)(hr:Room k X.A)(hb:Binds X.K fd ps ds)(hd:Vals dvs ds)(hx:kc2 CX X E)
  (I:Inv X pins σ H s) (r:Vals vs us) (h:sp (vs++dvs) H Q E):wpAny (model X.prog X.w) X.A (call (.ref f) us) (EP X pins σ Q) X.xe s:=by
 have r2:Vals (vs++dvs) (us++ds):=r.append hd
 have hl:(us++ds).length=ps.length:=by rw[←r2.length];exact F.len _ _ _ _ h
 refine wpAny_call (codeAny_mono (F.run X.A X.stack s H ⟨us,[]⟩ (us++ds) (vs++dvs) Q E hr I.env0 (hb s us I.kIn hl) r2 h) fun r s' hq=>?_)
 cases r with
 |error e=>exact hx pins σ H s e s' I hq
 |ok fl=>
  cases fl with
  |ret u=>exact I.after hq
  |next=>exact False.elim hq
  |brk=>exact False.elim hq
  |cont=>exact False.elim hq
theorem kiu(F:FnOk X.prog X.w X.K X.mg X.base CX k f fd ps sp)(hr:Room k X.A)(hg:Gl X x)(hm:X.mg x=some (.ref f))(hk:U5 X.K (.ref f)=true)(hb:Binds X.K fd ps ds)(hd:Vals dvs ds)(hx:kc2 CX X E)
  (ha:PA X (e::es) t) (hdb:(x==("__debug__" :Str))=false:=by decide) (he:starEach (e::es) X.env=(false,eval e X.env)::starEach es X.env:=by rfl) (hpl:(backTo pos (starEach es X.env)).any (·.1)=false:=by rfl):
  PE X (.Call (.Name x p) (e::es) [] pos) (tCall sp dvs E t):=by
 intro pins s σ H Q I h
 refine wpAny_Call_Name_kw (kd7 I hg hm ?_ hdb)
 refine Nk (h₀:=X.base) I.ok.mod.kin hk (thn (ha pos pins s σ H _ I h) fun us s1 ⟨vs,H1,I1,r,q⟩=>⟨I1.kIn,?_⟩) he hpl
 exact kft F hr hb hd hx I1 r q
theorem kit{pl:Sem Bool}(he:PE X o ta)(c:Cls X.K C)(hm:Meth X.K C m f)(F:FnOk X.prog X.w X.K X.mg X.base CX k f fd ps sp)(hr:Room k X.A)(hb:Binds X.K fd ps ds)(hd:Vals dvs ds)(hx:kc2 CX X E)(ha:PA X (e::es) t)
  (hst:starEach (e::es) X.env=(false,eval e X.env)::starEach es X.env:=by rfl) (hpl:(backTo pos (starEach es X.env)).any (·.1)=false:=by rfl)
  (ht:eval (.Call (.Attribute o m apos) (e::es) [] pos) X.env=(do
   let ov ←eval o X.env
   standAt apos.atName
   let(f,first) ←holding [ov] (getMethod ov m pl)
   callWith pos f first (backTo pos (starEach (e::es) X.env)) (backToKw pos (keywordEach [] X.env))):=by rfl):
  PE X (.Call (.Attribute o m apos) (e::es) [] pos) (tMeth C m sp dvs E ta t):=by
 intro pins s σ H Q I h
 refine Mh (pl:=pl) (thn (he pins s σ H _ I h) fun u s1 ⟨x,H1,I1,rx,a,dx,fs,ex,ea,l,q⟩=>?_) ht
 subst ex
 obtain rfl:u=Value.ref a:=rx
 refine keB I1 ea c hm l ?_
 refine Nk (first:=[.ref a]) (h₀:=X.base) I.ok.mod.kin hm.kp (thn (ha pos pins s1 σ H1 _ I1 q) fun us s2 ⟨vs,H2,I2,r,q2⟩=>⟨I2.kIn,?_⟩) hst hpl
 exact kft (us:=.ref a::us) (vs:=.ref a::vs) F hr hb hd hx I2 (.cons rfl r) q2
theorem kg0{pl:Sem Bool}(he:PE X o ta)(c:Cls X.K C)(hm:Meth X.K C m f)(F:FnOk X.prog X.w X.K X.mg X.base CX k f fd ps sp)(hr:Room k X.A)(hb:Binds X.K fd ps ds)(hd:Vals dvs ds)(hx:kc2 CX X E)
  (ht:eval (.Call (.Attribute o m apos) [] [] pos) X.env=(do
   let ov ←eval o X.env
   standAt apos.atName
   let(f,first) ←holding [ov] (getMethod ov m pl)
   callWith pos f first (backTo pos (starEach [] X.env)) (backToKw pos (keywordEach [] X.env))):=by rfl):
  PE X (.Call (.Attribute o m apos) [] [] pos) (tMeth C m sp dvs E ta tNil):=by
 intro pins s σ H Q I h
 refine Mh (pl:=pl) (thn (he pins s σ H _ I h) fun u s1 ⟨x,H1,I1,rx,a,dx,fs,ex,ea,l,q⟩=>?_) ht
 subst ex
 obtain rfl:u=Value.ref a:=rx
 refine keB I1 ea c hm l ?_
 exact MD (first:=[.ref a]) I1.kIn hm.kp (kft (us:=[.ref a]) (vs:=[.ref a]) F hr hb hd hx I1 (.cons rfl .nil) q)
structure Mk (K:UQ) (C f:Addr):Prop where
 makes:Jw K C=true
 init:US K (.ref C) "__init__"=some (some (.ref f))
 fn:Jv K (.ref f)=true
 kp:U5 K (.ref C)=true
theorem kgU{pins:List (Addr×Obj)}{σ:St}{H:Hp}{s:Shared}{Q:VK}{us:List Value}{vs:List V}(M:Mk X.K C f)(F:FnOk X.prog X.w X.K X.mg X.base CX k f fd ps sp)(hr:Room (k+1) X.A)(hb:Binds X.K fd ps ds)(hd:Vals dvs ds)
  (hx:kc2 CX X E) (I:Inv X pins σ H s) (r:Vals vs us)
  (h:∀x dx,H x=none→H dx=none→dx≠x→sp (.ref x::(vs++dvs)) (upd (upd H dx (.own x)) x (.ins C dx [])) (fun v H2=>v=.non∧Q (.ref x) H2) E):
  wpAny (model X.prog X.w) X.A (call (.ref C) us) (EP X pins σ Q) X.xe s:=by
 have hq:=h (s.heap.objs.size+1) s.heap.objs.size (I.hok.fresh (J6 _)) (I.hok.fresh (UR _)) (Je (Mf _))
 have I2:=Inv.made (C:=C) I
 have r2:Vals (V.ref (s.heap.objs.size+1)::(vs++dvs)) (Value.ref (s.heap.objs.size+1)::(us++ds)):=.cons rfl (r.append hd)
 have hl:(Value.ref (s.heap.objs.size+1)::us++ds).length=ps.length:=by
  have e:=r2.length
  rw[F.len _ _ _ _ hq] at e
  exact e.symm
 refine wpAny_call (kjE (f:=f) I.kIn M.makes M.init (beq_iff_eq.mp M.fn) (codeAny_mono (F.run _ X.stack _ _ ⟨Value.ref (s.heap.objs.size+1)::us,[]⟩ (Value.ref (s.heap.objs.size+1)::(us++ds)) _ _ E (hr.make C us [])
  (I2.env0.make C us []) (hb _ (Value.ref (s.heap.objs.size+1)::us) I2.kIn hl) r2 hq) fun r s' hq'=>?_))
 cases r with
 |error e=>exact hx pins σ _ _ e s' I2 hq'
 | ok fl=>
  cases fl with
  |ret u=>
   obtain⟨v,H',I3,rv,ev,q3⟩:=I2.after hq'
   subst ev
   exact⟨rv,⟨V.ref (s.heap.objs.size+1),H',I3,rfl,q3⟩⟩
  |next=>exact False.elim hq'
  |brk=>exact False.elim hq'
  |cont=>exact False.elim hq'
theorem ka7(M:Mk X.K C f)(F:FnOk X.prog X.w X.K X.mg X.base CX k f fd ps sp)(hr:Room (k+1) X.A)(hg:Gl X x)(hm:X.mg x=some (.ref C))(hb:Binds X.K fd ps ds)(hd:Vals dvs ds)(hx:kc2 CX X E)
  (ha:PA X (e::es) t) (hdb:(x==("__debug__" :Str))=false:=by decide) (he:starEach (e::es) X.env=(false,eval e X.env)::starEach es X.env:=by rfl) (hpl:(backTo pos (starEach es X.env)).any (·.1)=false:=by rfl):
  PE X (.Call (.Name x p) (e::es) [] pos) (tMake C sp dvs E t):=by
 intro pins s σ H Q I h
 refine wpAny_Call_Name_kw (kd7 I hg hm ?_ hdb)
 refine Nk (h₀:=X.base) I.ok.mod.kin M.kp (thn (ha pos pins s σ H _ I h) fun us s1 ⟨vs,H1,I1,r,q⟩=>⟨I1.kIn,?_⟩) he hpl
 exact kgU M F hr hb hd hx I1 r q
theorem kjr(M:Mk X.K C f)(F:FnOk X.prog X.w X.K X.mg X.base CX k f fd ps sp)(hr:Room (k+1) X.A)(hg:Gl X x)(hm:X.mg x=some (.ref C))(hb:Binds X.K fd ps ds)(hd:Vals dvs ds)(hx:kc2 CX X E)
  (hdb:(x==("__debug__" :Str))=false:=by decide):PE X (.Call (.Name x p) [] [] pos) (tMake C sp dvs E tNil):=by
 intro pins s σ H Q I h
 refine wpAny_Call_Name_kw (kd7 I hg hm ?_ hdb)
 exact MD I.kIn M.kp (kgU (us:=[]) M F hr hb hd hx I .nil h)
end
section
variable {X:Cx} {CX:CXT} {k:Nat} {f C:Addr} {fd:FuncData} {ps ks:List Str} {sp:Sp} {E:XK} {x m:Str} {p pos apos kpos:Pos} {e o:Expr} {es:List Expr} {kws:List Keyword} {te ta:TE} {t tk:TA} {nm:Option Str}
variable {g:List Value→List Value→List Value} {gV:List V→List V→List V}
end
structure kao (N P:List Str) (sc:Scope):Prop where
 kind:sc.kind=.function
 co:sc.isCoroutine=false
 gen:sc.isGenerator=false
 nd:N.Nodup
 pre:N.take P.length=P
 par:∀x∈P,sc.names.lookup x=some .local∨sc.names.lookup x=some .cell
 nofree:∀y∈sc.names,y.2≠.free
theorem kfU{kindOf:Str→Option NameKind}{x:Str}:∀{binds:List (Str×Value)}{m:Str→Option Value},(∀v,(x,v)∉binds)→bindL kindOf binds m x=m x
 |[],_,_=>rfl
 | (n,v)::r,m,h=>by
  unfold bindL
  rw[kfU fun w hw=>h w (Jb _ hw)]
  split
  ·have:x≠n:=by rintro rfl;exact h v Ji
   simp[this]
  ·rfl
theorem kfW{kindOf:Str→Option NameKind}{x:Str}:∀{binds:List (Str×Value)}{m:Str→Option Value},(∀v,(x,v)∉binds)→bindC kindOf binds m x=m x
 |[],_,_=>rfl
 | (n,v)::r,m,h=>by
  unfold bindC
  rw[kfW fun w hw=>h w (Jb _ hw)]
  split
  ·rfl
  ·have:x≠n:=by rintro rfl;exact h v Ji
   simp[this]
theorem kfV{kindOf:Str→Option NameKind}{x:Str}{v:Value}:∀{P:List Str}{vs:List Value}{i:Nat}{m:Str→Option Value},P.Nodup→P[i]?=some x→vs[i]?=some v→kindOf x=some .local→
  bindL kindOf (P.zip vs) m x=some v
 |[],_,_,_,_,h,_,_=>by simp at h
 |_::_,[],_,_,_,_,h,_=>by simp at h
 |p::P,w::vs,0,m,nd,h1,h2,hk=>by
  simp at h1 h2;subst h1;subst h2
  show bindL kindOf ((p,w)::P.zip vs) m p=_
  unfold bindL
  rw[kfU fun v hv=>(JJ.mp nd).1 (JW hv).1,if_pos hk]
  simp
 |p::P,w::vs,i+1,m,nd,h1,h2,hk=>by
  show bindL kindOf ((p,w)::P.zip vs) m x=_
  unfold bindL
  exact kfV (i:=i) (JJ.mp nd).2 (by simpa using h1) (by simpa using h2) hk
theorem kfX{kindOf:Str→Option NameKind}{x:Str}{v:Value}:∀{P:List Str}{vs:List Value}{i:Nat}{m:Str→Option Value},P.Nodup→P[i]?=some x→vs[i]?=some v→kindOf x≠some .local→
  bindC kindOf (P.zip vs) m x=some v
 |[],_,_,_,_,h,_,_=>by simp at h
 |_::_,[],_,_,_,_,h,_=>by simp at h
 |p::P,w::vs,0,m,nd,h1,h2,hk=>by
  simp at h1 h2;subst h1;subst h2
  show bindC kindOf ((p,w)::P.zip vs) m p=_
  unfold bindC
  rw[kfW fun v hv=>(JJ.mp nd).1 (JW hv).1,if_neg hk]
  simp
 |p::P,w::vs,i+1,m,nd,h1,h2,hk=>by
  show bindC kindOf ((p,w)::P.zip vs) m x=_
  unfold bindC
  exact kfX (i:=i) (JJ.mp nd).2 (by simpa using h1) (by simpa using h2) hk
noncomputable def start(N:List Str)(vs:List V):St:=vs.map some++UV (N.length-vs.length) none
noncomputable def cxOf(CX:CXT)(P:Program)(w:World)(K:UQ)(mg:Str→Option Value)(base:Heap)(N:List Str)(qual:Str)(scope:Scope)(f:Addr)(cd:Value)(A:Around)(outer:List Env)(s:Shared)(H:Hp)(E:XK):Cx where
 prog:=P
 w:=w
 K:=K
 mg:=mg
 base:=base
 A:=A.deeper (envOfC qual scope s.heap.objs.size f cd)
 N:=N
 s₀:=s
 H₀:=H
 env:=envOfC qual scope s.heap.objs.size f cd
 outer:=outer
 stack:=envOfC qual scope s.heap.objs.size f cd::outer
 ex:=[]
 calm:=true
 fn:=fun _=>true
 pn:=[]
 xe:=fun e s'=>wpAny (model P w) (A.deeper (envOfC qual scope s.heap.objs.size f cd)) (leaving (envOfC qual scope s.heap.objs.size f cd) e) (fun _ s''=>CX outer H s E e s'') (fun e' s''=>CX outer H s E e' s'') s'
def kdJ{sc:Scope}{n:Nat}{x:Str}(h:sc.names.lookup x=some .cell):∃c,(cellsFrom n sc.names []).lookup x=some c:=by
 have q:=ME sc.names n [] (.inl h)
 exact Option.isSome_iff_exists.mp q
theorem kiM{CX:CXT}{P:Program}{w:World}{K:UQ}{mg:Str→Option Value}{base:Heap}{N ps:List Str}{qual:Str}{scope:Scope}{f:Addr}{cd:Value}{A:Around}{outer:List Env}{s s1:Shared}{H:Hp}{E:XK}{us:List Value}{vs:List V}
  (S:kao N ps scope) (hd:A.handled=none) (e0:Env0 P w K mg base A outer s H) (hl:vs.length=ps.length) (r:Vals vs us)
  (x:InCallC s s.heap.objs.size (bindL (envOfC qual scope s.heap.objs.size f cd).kindOf (ps.zip us) fun _=>none) (cellsFrom (s.heap.objs.size+1) scope.names []) (bindC (envOfC qual scope s.heap.objs.size f cd).kindOf (ps.zip us) fun _=>none) s1):
  Inv (cxOf CX P w K mg base N qual scope f cd A outer s H E) [] (start N vs) H s1:=by
 have hpl:ps.length≤N.length:=by have:=congrArg ND S.pre;rw[U8] at this;omega
 obtain⟨h1,tk,rfl,hk⟩:=x.done
 have noA:∀b:Addr,b∉(cxOf CX P w K mg base N qual scope f cd A outer s H E).ex:=fun b z=>absurd (show b∈([]:List Addr) from z) (by simp)
 refine⟨⟨e0.mod,S.kind,rfl,rfl,UR _,fun y z c h1 h2=>?_,fun y hy=>?_,fun y c _ h=>?_,fun _=>hd,Around.frames_deeper e0.frames, .inr ⟨rfl,rfl⟩,fun b z=>absurd z (noA b),e0.bs,e0.bsz,fun b _ _=>noA b,fun b z=>absurd z (noA b),e0.funs,e0.frf⟩,
  rfl,e0.bare,Un.kept hk,⟨_,x.toInCall.ns,fun i y v h1 h2 h3=>?_⟩,fun y c h=>⟨_,x.cell y c h⟩,e0.hok.fresh (UR _),fun y c h=>?_,fun p hp=>absurd (show p∈([]:List (Addr×Obj)) from hp) (by simp),e0.hok.kept hk,?_⟩
 ·exact name_of_addr x.apart (PySem.mem_of_lookup h1) (PySem.mem_of_lookup h2)
 ·have hy:scope.names.lookup y=some .cell∨scope.names.lookup y=some .free:=hy
  rcases hy with hy|hy
  ·exact kdJ hy
  ·exact absurd rfl (S.nofree _ (PySem.mem_of_lookup hy))
 ·exact U3 (x.above y c (PySem.mem_of_lookup h))
 ·have hi:i<vs.length:=by
   unfold start at h2
   by_cases hi:i<vs.length
   ·exact hi
   ·rw[Nd (by simpa using hi)] at h2
    rw[Mi] at h2
    split at h2 <;> cases h2
  have ha:vs[i]?=some v:=by
   unfold start at h2
   rw[Nl (by simpa using hi),UY] at h2
   cases e:vs[i]? with
   |none=>rw[e] at h2;cases h2
   |some a=>rw[e] at h2;cases h2;rfl
  obtain⟨u,hu,rv⟩:=r.get ha
  have hp:ps[i]?=some y:=by
   rw[←S.pre,MF (by omega)];exact h1
  have ndP:ps.Nodup:=by rw[←S.pre];exact S.nd.sublist (List.take_sublist _ _)
  refine⟨u,rv,?_⟩
  rcases S.par y (U1 hp) with k|k
  ·exact .inl ⟨k,kfV ndP hp hu k⟩
  ·obtain⟨c,e⟩:=kdJ (n:=s.heap.objs.size+1) k
   refine .inr ⟨.inl k,c,e,?_⟩
   have q:=x.cell y c e
   rw[kfX ndP hp hu (by show scope.names.lookup y≠_;rw[k];decide)] at q
   exact q
 ·exact e0.hok.fresh (U3 (x.above y c (PySem.mem_of_lookup h)))
 ·unfold start
  show _=N.length
  rw[U9,UP,JX]
  omega
theorem fn_of{CX:CXT}{P:Program}{w:World}{K:UQ}{mg:Str→Option Value}{base:Heap}{k:Nat}{f:Addr}{name qual:Str}{params:Arguments}{body:List Stmt}{scope:Scope}{dV kV doc pm cdv ct oc:Value}{an od:Option Addr}
  {osl:Array (Option Value)} {N ps:List Str} {sp:Sp} (lk:K.lookup f=some ⟨oc,od, .func (U2 name qual params body scope dV kV doc pm an cdv ct),osl⟩) (hcd:Jm K cdv qual=true) (S:kao N ps scope)
  (len:∀vs H Q E,sp vs H Q E→vs.length=ps.length)
  (hbody:∀(A:Around)(outer:List Env)(s:Shared)(H:Hp)(vs:List V)(Q:VK)(E:XK),Room k (A.deeper (envOfC qual scope s.heap.objs.size f cdv))→sp vs H Q E→
   ∃t,PSs (cxOf CX P w K mg base N qual scope f cdv A outer s H E) body t∧t {nx:=fun _ H'=>Q .non H',rt:=Q} (start N vs) H):
  FnOk P w K mg base CX (k+1) f (U2 name qual params body scope dV kV doc pm an cdv ct) ps sp:=by
 refine⟨len,fun A outer s H args us vs Q E hr e0 hb r hsp=>?_⟩
 have hl:=len _ _ _ _ hsp
 have KX:K.In s.heap:=e0.mod.kin.keeps fun b o e=>(e0.bs b o e).1
 have lim:s.heap.NoLimit:=e0.mod.nolimit.keeps fun b o e=>(e0.bs b o e).1
 have hkind:∀y∈ps.zip us,scope.names.lookup y.1=some .local∨(scope.names.lookup y.1=some .cell∧((cellsFrom (s.heap.objs.size+1) scope.names []).lookup y.1).isSome=true):=fun⟨n,v⟩ hy=>by
  rcases S.par n (JW hy).1 with q|q
  ·exact .inl q
  ·exact .inr ⟨q,ME _ _ _ (.inl q)⟩
 refine codeAny_call_function hr.depth (KX _ _ lk) rfl S.co S.gen rfl (PySem.W.codeRec_of KX hcd) (hb _ _ _ _ ?_)
 refine wpAny_newFunctionEnv_cells S.kind hkind fun env he s1 x=>?_
 subst he
 refine⟨lim.keeps x.toInCall.keep,codeAny_func ?_⟩
 obtain⟨t,ht,hq⟩:=hbody A outer s H vs Q E (hr.deeper _) hsp
 have I:Inv (cxOf CX P w K mg base N qual scope f cdv A outer s H E) [] (start N vs) H s1:=kiM S hr.hd e0 hl r x
 refine wpAny_mono (ht [] s1 (start N vs) H _ I hq) (fun fl s' hs=>?_) fun e s' hs=>hs
 have fin:∀{σ':St}{H':Hp}{v:V}{u:Value},Inv (cxOf CX P w K mg base N qual scope f cdv A outer s H E) [] σ' H' s'→RelV v u→Q v H'→CE outer P w H s Q u s':=
  fun {σ' H' v u} J rv q=>⟨v,H',J.os,J.bare,J.base,J.hok,rv,q⟩
 cases fl with
 |ret u=>
  obtain⟨v,σ',H',J,rv,q⟩:=hs
  exact fin J rv q
 |next=>
  obtain⟨σ',H',J,q⟩:=hs
  exact fin (v:=V.non) (u:=Value.none) J rfl q
 |brk=>
  obtain⟨_,_,_,q⟩:=hs
  exact False.elim q
 |cont=>
  obtain⟨_,_,_,q⟩:=hs
  exact False.elim q
end L2
namespace L2
open PySem PySem.Spec PyProof.Rows
section
variable {X:Cx} {x:Str} {p pos:Pos} {e:Expr} {es:List Expr} {t:TA} {id T:String} {r:List V→Hp→VK→Prop}
noncomputable def tCB(r:List V→Hp→VK→Prop)(t:TA):TE:=fun σ H Q=>t σ H fun vs H1=>r vs H1 Q
theorem kaw(hc:CallR X (.builtin id) r)(hg:Gl X x)(hm:X.mg x=none)(hv:bootBuiltins x=some (.builtin id))(ha:PA X (e::es) t)(hn:x≠"__name__":=by decide)(hdb:(x==("__debug__" :Str))=false:=by decide)
  (he:starEach (e::es) X.env=(false,eval e X.env)::starEach es X.env:=by rfl) (hpl:(backTo pos (starEach es X.env)).any (·.1)=false:=by rfl):PE X (.Call (.Name x p) (e::es) [] pos) (tCB r t):=by
 intro pins s σ H Q I h
 refine wpAny_Call_Name_kw (kcm I hg hm hv ?_ hn hdb)
 exact PyProof.Rows.callWith_builtin1 (thn (ha pos pins s σ H _ I h) fun us s1 ⟨vs,H1,I1,r1,q1⟩=>hc pins s1 σ H1 vs us Q I1 r1 q1) he hpl
theorem ka2(hc:CallR X (.type T) r)(hg:Gl X x)(hm:X.mg x=none)(hv:bootBuiltins x=some (.type T))(ha:PA X (e::es) t)(hn:x≠"__name__":=by decide)(hdb:(x==("__debug__" :Str))=false:=by decide)
  (he:starEach (e::es) X.env=(false,eval e X.env)::starEach es X.env:=by rfl) (hpl:(backTo pos (starEach es X.env)).any (·.1)=false:=by rfl):PE X (.Call (.Name x p) (e::es) [] pos) (tCB r t):=by
 intro pins s σ H Q I h
 refine wpAny_Call_Name_kw (kcm I hg hm hv ?_ hn hdb)
 exact PyProof.Rows.callWith_type1 (thn (ha pos pins s σ H _ I h) fun us s1 ⟨vs,H1,I1,r1,q1⟩=>hc pins s1 σ H1 vs us Q I1 r1 q1) he hpl
end
end L2
namespace HT
open PySem PyProof.Rows
section
open PySem.SeqAt
open PySem.AutoSeq1 (wpAny_loadPart')
open PySem.MeetsSeq PySem.MeetsSeq2 PySem.MeetsSeq3
end
section
variable {prog:Program} {w:World} {A:Around} {E:Value→Shared→Prop} {s:Shared}
theorem cat_tup{t b:Addr}{vs ws:List Value}{Q:Value→Shared→Prop}(ht:IsTup s.heap t vs.toArray)(hb:IsTup s.heap b ws.toArray)(hv:vs≠[])
  (h1:ws=[]→Q (.ref t) s) (h2:ws≠[]→Q (.ref s.heap.objs.size) {s with heap:=s.heap.push {cls:=.type "tuple",data:=.seq (vs++ws).toArray}})
  (hsz:vs.length+ws.length≤sizeLine):wpAny (model prog w) A (binaryOp .Add (.ref t) (.ref b)) Q E s:=by
 obtain⟨⟨cls,dd,data,sl⟩,ho,hc,n,hd⟩:=id ht
 obtain⟨⟨cls2,dd2,data2,sl2⟩,ho2,hc2,n2,hd2⟩:=id hb
 simp only at hc hd hc2 hd2
 subst hc hd hc2 hd2
 have e:vs.toArray++ws.toArray=(vs++ws).toArray:=by simp
 by_cases hw:ws=[]
 ·exact concat_meets ⟨_,ho,rfl⟩ ⟨_,ho2,rfl⟩ noFill_tuple_add seq_tuple_add MG MH (MI _ _)
   (tuple_addW1 t b vs.toArray ws.toArray n n2 dd dd2 sl sl2 (by simpa using hv) (by simp[hw])) ⟨ho,ho2,h1 hw⟩
 ·refine concat_meets ⟨_,ho,rfl⟩ ⟨_,ho2,rfl⟩ noFill_tuple_add seq_tuple_add MG MH (MI _ _)
   (tuple_addW2 t b vs.toArray ws.toArray n n2 dd dd2 sl sl2 (by simpa using hv) (by simpa using hw) (by rw[Ja,Ja];exact hsz)) ⟨ho,ho2,?_⟩
  rw[e]
  exact h2 hw
noncomputable def sIx(n d:Nat):Option Int→Nat
 |none=>d
 |some v=>if v<0 then(v+(n:Int)).toNat else min v.toNat n
theorem sIx_none(n d:Nat):sIx n d none=d:=rfl
theorem sIx_nat(n d k:Nat):sIx n d (some (k:Int))=min k n:=by
 show(if(k:Int)<0 then((k:Int)+(n:Int)).toNat else min (k:Int).toNat n)=min k n
 rw[if_neg (by omega),Int.toNat_natCast]
end
end HT
namespace L2
open PySem PySem.Spec PyProof.Rows
noncomputable abbrev TO:=St→Hp→(Option Int→Hp→Prop)→Prop
noncomputable def PO(X:Cx)(e:Option Expr)(t:TO):Prop:=
 ∀(pins:List (Addr×Obj))(s:Shared)(σ:St)(H:Hp)(Q:Option Int→Hp→Prop),Inv X pins σ H s→t σ H Q→
  wpAny (model X.prog X.w) X.A (evalPart e X.env) (fun u s'=>∃o H',Inv X pins σ H' s'∧IsPart u o∧Q o H') X.xe s
noncomputable def kkx:TO:=fun _ H Q=>Q none H
noncomputable def tPart(t:TE):TO:=fun σ H Q=>t σ H fun x H1=>∃i,x=.int i∧Q (some i) H1
theorem intsAre_of{ns:List Int}:∀{us:List Value},Vals (ns.map V.int) us→IntsAre us ns:=by
 induction ns with
 |nil=>intro us r;rw[Nf] at r;cases r;exact .nil
 | cons n ns ih=>
  intro us r
  rw[U4] at r
  cases r with
  |cons r1 r2=>
   obtain⟨t,e⟩:=r1
   subst e
   exact .cons n t (ih r2)
section
variable {X:Cx} {e:Expr} {te:TE} {lo hi:Option Expr} {tl th:TO} {pos p2:Pos}
theorem kdS:PO X none kkx:=by
 intro pins s σ H Q I h
 rw[evalPart_none]
 exact wpAny_pure ⟨none,H,I, .none,h⟩
theorem kb6(h:PE X e te):PO X (some e) (tPart te):=by
 intro pins s σ H Q I hw
 rw[evalPart_some]
 refine thn (h pins s σ H _ I hw) fun u s1 ⟨x,H1,I1,r1,q1⟩=>?_
 obtain⟨i,rfl,q⟩:=q1
 obtain⟨t,rfl⟩:=r1
 exact⟨some i,H1,I1, .int i t,q⟩
noncomputable def SlR(X:Cx)(r:V→Option Int→Option Int→Hp→VK→Prop):Prop:=
 ∀(pins:List (Addr×Obj))(s:Shared)(σ:St)(H:Hp)(x:V)(v vl vu:Value)(lo hi:Option Int)(sl:Addr)(Q:VK),Inv X pins σ H s→RelV x v→s.heap.IsSliceOf sl vl vu .none→IsPart vl lo→IsPart vu hi→r x lo hi H Q→
  ∃T id,typeLookup (.type T) "__getitem__"=pure (some (.builtin id))∧s.TypeIs v T∧wpAny (model X.prog X.w) X.A (getItem v (.ref sl)) (EP X pins σ Q) X.xe s
theorem SlR.or{r r':V→Option Int→Option Int→Hp→VK→Prop}(h:SlR X r)(h':SlR X r'):SlR X (fun x lo hi H Q=>r x lo hi H Q∨r' x lo hi H Q):=by
 intro pins s σ H x v vl vu lo hi sl Q I rx hs pl pu q
 rcases q with q|q
 ·exact h pins s σ H x v vl vu lo hi sl Q I rx hs pl pu q
 ·exact h' pins s σ H x v vl vu lo hi sl Q I rx hs pl pu q
noncomputable def tSl(r:V→Option Int→Option Int→Hp→VK→Prop)(te:TE)(tl th:TO):TE:=fun σ H Q=>te σ H fun x H1=>tl σ H1 fun l H2=>th σ H2 fun u H3=>r x l u H3 Q
theorem kb7{r:V→Option Int→Option Int→Hp→VK→Prop}(hr:SlR X r)(he:PE X e te)(hl:PO X lo tl)(hu:PO X hi th):PE X (.Subscript e (.Slice lo hi none p2) pos) (tSl r te tl th):=by
 intro pins s σ H Q I h
 refine Subscript_ (thn (he pins s σ H _ I h) fun v s1 ⟨x,H1,I1,r1,q1⟩=>?_)
 refine wpAny_Slice (thn (hl pins s1 σ H1 _ I1 q1) fun vl s2 ⟨l,H2,I2,pl,q2⟩=>thn (hu pins s2 σ H2 _ I2 q2) fun vu s3 ⟨u,H3,I3,pu,q3⟩=>?_)
 rw[evalPart_none]
 refine wpAny_pure ?_
 have I4:Inv X pins σ H3 {s3 with heap:=s3.heap.push {cls:=.type "slice",data:=.fields #[vl,vu, .none]}}:=I3.kept (t':=s3.toks) fun b ob q=>Heap.get?_push_of_some _ q
 obtain⟨T,id,hT,ht,hg⟩:=hr pins {s3 with heap:=s3.heap.push {cls:=.type "slice",data:=.fields #[vl,vu, .none]}} σ H3 x v vl vu l u s3.heap.objs.size Q I4 r1 (Heap.IsSliceOf.new ..) pl pu q3
 show wpAny (model X.prog X.w) X.A (subscriptTail e (.Slice lo hi none p2) v (.ref s3.heap.objs.size)) (EP X pins σ Q) X.xe {s3 with heap:=s3.heap.push {cls:=.type "slice",data:=.fields #[vl,vu, .none]}}
 exact tail_any (ops:=[.ref s3.heap.objs.size,v]) ht hT hg (by with_unfolding_all rfl)
noncomputable def cutV(xs:List V)(lo hi:Option Int):List V:=(xs.drop (HT.sIx xs.length 0 lo)).take (HT.sIx xs.length xs.length hi-HT.sIx xs.length 0 lo)
theorem kgu(xs:List V)(lo hi:Option Int):(cutV xs lo hi).length≤xs.length:=by
 unfold cutV
 rw[U8,Nm]
 omega
noncomputable def rCatT(K:UQ):R2:=fun x y H Q=>∃a b xs ys,x=.ref a∧y=.ref b∧SqT K H a xs∧SqT K H b ys∧xs≠[]∧xs.length+ys.length≤sizeLine∧
 (ys=[]→Q (.ref a) H)∧(ys≠[]→∀p,H p=none→Q (.ref p) (upd H p (.tup (xs++ys))))
theorem Vals.nil_iff{xs:List V}{us:List Value}(r:Vals xs us):us=[]↔xs=[]:=by
 cases r with
 |nil=>simp
 |cons _ _=>simp
theorem kkO:OpR X (binaryOp .Add) (rCatT X.K):=by
 intro pins s σ H x y v u Q I rx ry h
 obtain⟨a,b,xs,ys,rfl,rfl,ha,hb,hx,hz,q1,q2⟩:=h
 cases rx
 cases ry
 obtain⟨its,r1,p1,_⟩:=I.tuple ha
 obtain⟨its2,r2,p2,_⟩:=I.tuple hb
 refine HT.cat_tup p1 p2 (fun z=>hx (r1.nil_iff.mp z)) (fun z=>⟨.ref a,H,I,rfl,q1 (r2.nil_iff.mp z)⟩) (fun z=>?_) (by rw[←r1.length,←r2.length];exact hz)
 refine⟨.ref s.heap.objs.size,_,I.laid (t':=s.toks) (o:=.tup (xs++ys)) (fun b ob q=>Heap.get?_push_of_some _ q) (UR _) ?_,rfl,q2 (fun w=>z (r2.nil_iff.mpr w)) _ (I.hok.fresh (UR _))⟩
 exact⟨by rw[U9];exact hz,_,r1.append r2,IsTup.new _ _⟩
end
end L2
namespace L2
open PySem PySem.Spec PyProof.Rows
noncomputable def ixN(n:Nat)(i:Int):Option Nat:=if 0≤i then(if i<n then some i.toNat else none) else if -(n:Int)≤i then some (i+n).toNat else none
noncomputable def atI{α:Type}(xs:List α)(i:Int):Option α:=(ixN xs.length i).bind fun j=>xs[j]?
def kiJ{n:Nat}{i:Int}{j:Nat}(h:ixN n i=some j):seqIndex? i n=some j∧j<n∧-(n:Int)≤i∧i<n:=by
 unfold ixN at h
 by_cases h0:0≤i
 ·rw[if_pos h0] at h
  by_cases h1:i<n
  ·rw[if_pos h1] at h
   have e:i.toNat=j:=Option.some.inj h
   exact⟨by rw[seqIndex_of h0 h1,e],by omega,by omega,h1⟩
  ·rw[if_neg h1] at h;cases h
 ·rw[if_neg h0] at h
  by_cases h1: -(n:Int)≤i
  ·rw[if_pos h1] at h
   have e:(i+n).toNat=j:=Option.some.inj h
   exact⟨by rw[seqIndex_neg (by omega) h1,e],by omega,h1,by omega⟩
  ·rw[if_neg h1] at h;cases h
theorem kjd{α:Type}{xs:List α}{i:Int}{v: α}(h:atI xs i=some v):∃j,seqIndex? i xs.length=some j∧xs[j]?=some v∧j<xs.length∧-(xs.length:Int)≤i∧i<xs.length:=by
 unfold atI at h
 cases e:ixN xs.length i with
 |none=>rw[e] at h;cases h
 |some j=>
  rw[e] at h
  obtain⟨h1,h2,h3,h4⟩:=kiJ e
  exact⟨j,h1,h,h2,h3,h4⟩
def ka5{α:Type}{xs:List α}{j:Nat}{v: α}(h:xs[j]?=some v):atI xs (j:Int)=some v:=by
 have hj:j<xs.length:=(U0.mp h).1
 have e:ixN xs.length (j:Int)=some j:=by
  unfold ixN
  rw[if_pos (by omega),if_pos (by omega)];simp
 unfold atI;rw[e];exact h
noncomputable def klh(b:Expr):Prop:=∀o i,subscripted b false o i=operate [o,i] (getItem o i)
noncomputable def IxR(X:Cx)(r:R2):Prop:=
 ∀(value slice:Expr)(pins:List (Addr×Obj))(s:Shared)(σ:St)(H:Hp)(x y:V)(v u:Value)(Q:VK),Inv X pins σ H s→RelV x v→RelV y u→r x y H Q→
  subscripted slice false v u=operate [v,u] (getItem v u)→wpAny (model X.prog X.w) X.A (subscriptTail value slice v u) (EP X pins σ Q) X.xe s
noncomputable def MtR(X:Cx)(id:String)(r:V→List V→Hp→VK→Prop):Prop:=
 ∀(pins:List (Addr×Obj))(s:Shared)(σ:St)(H:Hp)(x:V)(xs:List V)(v:Value)(us:List Value)(Q:VK),Inv X pins σ H s→RelV x v→Vals xs us→r x xs H Q→
  wpAny (model X.prog X.w) X.A (call (.builtin id) (v::us)) (EP X pins σ Q) X.xe s
section
variable {X:Cx} {a b:Expr} {ta tb:TE} {pos:Pos}
theorem IxR.or{r r':R2}(h:IxR X r)(h':IxR X r'):IxR X (fun x y H Q=>r x y H Q∨r' x y H Q):=by
 intro value slice pins s σ H x y v u Q I rx ry q hs
 rcases q with q|q
 ·exact h value slice pins s σ H x y v u Q I rx ry q hs
 ·exact h' value slice pins s σ H x y v u Q I rx ry q hs
theorem MtR.or{id:String}{r r':V→List V→Hp→VK→Prop}(h:MtR X id r)(h':MtR X id r'):MtR X id (fun x xs H Q=>r x xs H Q∨r' x xs H Q):=by
 intro pins s σ H x xs v us Q I rx rs q
 rcases q with q|q
 ·exact h pins s σ H x xs v us Q I rx rs q
 ·exact h' pins s σ H x xs v us Q I rx rs q
theorem pe_ix{r:R2}(hr:IxR X r)(ha:PE X a ta)(hb:PE X b tb)(hs:klh b):PE X (.Subscript a b pos) (tOp r ta tb):=by
 intro pins s σ H Q I h
 exact Subscript_ (binT ha hb I h fun v u s2 x y H2 I2 rx ry q=>hr a b pins s2 σ H2 x y v u Q I2 rx ry q (hs _ _))
noncomputable def rIxL(K:UQ):R2:=fun x y H Q=>∃p xs i v,x=.ref p∧y=.int i∧SqL K H p xs∧atI xs i=some v∧Q v H
noncomputable def rIxT(K:UQ):R2:=fun x y H Q=>∃p xs i v,x=.ref p∧y=.int i∧SqT K H p xs∧atI xs i=some v∧Q v H
theorem kaK:IxR X (rIxL X.K):=by
 intro value slice pins s σ H x y v u Q I rx ry h hs
 obtain⟨p,xs,i,z,rfl,rfl,hq,he,q⟩:=h
 cases rx
 obtain⟨t,rfl⟩:=ry
 obtain⟨its,r,pl,hz⟩:=I.list hq
 obtain⟨j,h1,h2,h3,h4,h5⟩:=kjd he
 obtain⟨w,ew,rw'⟩:=r.get h2
 have hl:=r.length
 have hn:=kg9
 have fin:EP X pins σ Q w s:=⟨z,H,I,rw',q⟩
 by_cases h0:0≤i
 ·have hj:i.toNat=j:=by
   rw[seqIndex_of h0 h5] at h1
   exact Option.some.inj h1
  exact item_listR pl.isList h0 (by omega) (by rw[hj];simpa using ew) fin hs
 ·have hj:(i+(its.toArray.size:Int)).toNat=j:=by
   rw[seqIndex_neg (by omega) h4] at h1
   rw[Ja,←hl]
   exact Option.some.inj h1
  exact subscriptTail_builtinR (x:=w) pl.isList.typeIs slot_list_getitem.lookup
   (wpAny_getItem_list_neg (Q:=fun r s'=>r=w∧EP X pins σ Q r s') pl.isList (by omega) (by rw[Ja] <;> omega) (by omega) (by rw[hj];simpa using ew) ⟨rfl,fin⟩) hs
theorem kdo:IxR X (rIxT X.K):=by
 intro value slice pins s σ H x y v u Q I rx ry h hs
 obtain⟨p,xs,i,z,rfl,rfl,hq,he,q⟩:=h
 cases rx
 obtain⟨t,rfl⟩:=ry
 obtain⟨its,r,pl,hz⟩:=I.tuple hq
 obtain⟨j,h1,h2,h3,h4,h5⟩:=kjd he
 obtain⟨w,ew,rw'⟩:=r.get h2
 have hl:=r.length
 have hn:=kg9
 have fin:EP X pins σ Q w s:=⟨z,H,I,rw',q⟩
 exact subscriptTail_builtinR (x:=w) pl.typeIs slot_tuple_getitem.lookup
  (getItem_tuple (j:=j) (Q:=fun r s'=>r=w∧EP X pins σ Q r s') pl (by omega) (by omega) (by rw[Ja,←hl];exact h1) (by simpa using ew) ⟨rfl,fin⟩) hs
theorem khA(its:List Value)(n j:Nat)(u:Value):Obj.mapSeq (·.setIfInBounds j u) {cls:=.type "list",data:=.seq its.toArray n}= {cls:=.type "list",data:=.seq (its.set j u).toArray n}:=by
 simp[Obj.mapSeq]
theorem Inv.lst{pins:List (Addr×Obj)}{σ:St}{H:Hp}{s:Shared}{p:Addr}{xs:List V}(I:Inv X pins σ H s)(h:H p=some (.lst xs)):
  ∃(its:List Value)(n:Nat),Vals xs its∧s.heap.get? p=some {cls:=.type "list",data:=.seq its.toArray n}∧xs.length≤sizeLine:=by
 obtain⟨z,its,n,r,e⟩:=I.hok p _ h
 exact⟨its,n,r,e,z⟩
theorem Inv.lstUpd{pins:List (Addr×Obj)}{σ:St}{H:Hp}{s:Shared}{p:Addr}{xs ys:List V}{its its':List Value}{n n':Nat}{f:Obj→Obj}(I:Inv X pins σ H s)(h:H p=some (.lst xs))
  (ho:s.heap.get? p=some {cls:=.type "list",data:=.seq its.toArray n}) (hf:f {cls:=.type "list",data:=.seq its.toArray n}= {cls:=.type "list",data:=.seq its'.toArray n'}) (r:Vals ys its') (hz:ys.length≤sizeLine) (t:Nat):
  Inv X pins σ (upd H p (.lst ys)) {s with heap:=s.heap.update p f,toks:=t}:=by
 have e:(s.heap.update p f).get? p=some {cls:=.type "list",data:=.seq its'.toArray n'}:=by
  rw[Heap.get?_update_self f ho (by rw[hf] <;> rfl),hf]
 refine I.write (x:=p) (e:=p) (by rw[h];trivial) (.inl rfl) (fun b u hb q=>(Heap.get?_update_other _ _ (Ne.symm hb)).trans q) ⟨_,e⟩ ?_
 exact⟨hz,its',n',r,e⟩
noncomputable def rSetL:V→V→V→Hp→(Hp→Prop)→Prop:=fun o i v H Q=>∃p xs k j,o=.ref p∧i=.int k∧H p=some (.lst xs)∧ixN xs.length k=some j∧Q (upd H p (.lst (xs.set j v)))
theorem set_list:PSet X rSetL:=by
 intro pins s σ H o i v ov iv u Q I ro ri rv h
 obtain⟨p,xs,k,j,rfl,rfl,hp,hj,q⟩:=h
 cases ro
 obtain⟨t,rfl⟩:=ri
 obtain⟨its,n,r,ho,hz⟩:=I.lst hp
 obtain⟨h1,h2,h3,h4⟩:=kiJ hj
 have hl:=r.length
 have hn:=kg9
 have I':Inv X pins σ (upd H p (.lst (xs.set j v))) {s with heap:=s.heap.update p (Obj.mapSeq (·.setIfInBounds j u))}:=
  I.lstUpd hp ho (khA its n j u) (r.set rv j) (by rw[List.length_set];exact hz) s.toks
 by_cases h0:0≤k
 ·have hk:k.toNat=j:=by
   rw[seqIndex_of h0 h4] at h1
   exact Option.some.inj h1
  exact PySem.W.ki_setAt ho h0 (by omega) (by rw[Ja,←hl];exact h4) (by rw[hk];exact⟨_,I',q⟩)
 ·have hk:(k+(its.toArray.size:Int)).toNat=j:=by
   rw[seqIndex_neg (by omega) h3] at h1
   rw[Ja,←hl]
   exact Option.some.inj h1
  exact PySem.W.ki_setBack ho (by omega) (by rw[Ja,←hl];exact h3) (by omega) (by rw[hk];exact⟨_,I',q⟩)
theorem kfl(lo hi:Option Int)(n:Nat):(sliceBounds lo hi none n).1=((HT.sIx n 0 lo:Nat):Int)∧(sliceBounds lo hi none n).2.1=((HT.sIx n n hi:Nat):Int)∧(sliceBounds lo hi none n).2.2=1:=by
 refine⟨?_,?_,rfl⟩
 ·cases lo with
  |none=>simp[sliceBounds,HT.sIx]
  |some i=>
   simp only[sliceBounds,HT.sIx,Mj,show(1:Int) > 0 by decide,if_true]
   by_cases h:i<0
   ·simp only[h,if_true] <;> omega
   ·simp only[h,if_false] <;> omega
 ·cases hi with
  |none=>simp[sliceBounds,HT.sIx]
  |some i=>
   simp only[sliceBounds,HT.sIx,Mj,show(1:Int) > 0 by decide,if_true]
   by_cases h:i<0
   ·simp only[h,if_true] <;> omega
   ·simp only[h,if_false] <;> omega
theorem keL(its:List Value)(lo hi:Option Int):slicePick its.toArray lo hi none=((its.drop (HT.sIx its.length 0 lo)).take (HT.sIx its.length its.length hi-HT.sIx its.length 0 lo)).toArray:=by
 obtain⟨h1,h2,h3⟩:=kfl lo hi its.toArray.size
 unfold slicePick
 rw[h1,h2,h3]
 simp only[sliceRange_one,pick_run,Ja] <;> rfl
noncomputable def rSlL(K:UQ):V→Option Int→Option Int→Hp→VK→Prop:=fun x lo hi H Q=>∃a xs,x=.ref a∧SqL K H a xs∧∀p,H p=none→Q (.ref p) (upd H p (.lst (cutV xs lo hi)))
theorem kcz:SlR X (rSlL X.K):=by
 intro pins s σ H x v vl vu lo hi sl Q I rx hs pl pu h
 obtain⟨a,xs,rfl,hx,q⟩:=h
 cases rx
 obtain⟨its,r,ht,hz⟩:=I.list hx
 have hlen:=r.length
 refine⟨"list",_,slot_list_getitem.lookup,ht.isList.typeIs,?_⟩
 refine wpAny_getItem_list_slice ht.isList hs pl pu .none (by simp) ?_ (by rw[Ja] <;> omega)
 rw[keL,←hlen]
 refine⟨.ref s.heap.objs.size,_,I.laid (t':=s.toks) (o:=.lst (cutV xs lo hi)) (fun b ob q=>Heap.get?_push_of_some _ q) (UR _) ?_,rfl,q _ (I.hok.fresh (UR _))⟩
 exact⟨UT (kgu xs lo hi) hz,_,0,(r.drop (HT.sIx xs.length 0 lo)).take (HT.sIx xs.length xs.length hi-HT.sIx xs.length 0 lo),Heap.get?_push_size _ rfl⟩
noncomputable def flatV:V→Bool
 | .non=>true
 | .bl _=>true
 | .int _=>true
 | .str _=>true
 |_=>false
noncomputable def eqV:V→V→Bool
 | .non, .non=>true
 | .bl a, .bl b=>a==b
 | .bl a, .int b=>(if a then 1 else 0)==b
 | .int a, .bl b=>a==(if b then 1 else 0)
 | .int a, .int b=>a==b
 | .str a, .str b=>a==b
 |_,_=>false
theorem kiZ{A:Around}{s:Shared}{y x:V}{u v:Value}(ry:RelV y u)(rx:RelV x v)(fy:flatV y=true)(fx:flatV x=true):SeqAt.EqAt A s u v (eqV y x):=by
 cases y with
 |non=>
  cases ry
  cases x with
  |non=>cases rx;exact SeqAt.EqAt.same _
  |bl b=>cases rx;exact SeqAt.EqAt.none_bool b
  |int b=>obtain⟨t,rfl⟩:=rx;exact SeqAt.EqAt.none_int b t
  |str b=>obtain⟨t,rfl⟩:=rx;exact SeqAt.EqAt.none_str b t
  |_=>exact absurd (show false=true from fx) UX
 |bl a=>
  cases ry
  cases x with
  |non=>cases rx;exact SeqAt.EqAt.bool_none a
  |bl b=>cases rx;exact SeqAt.EqAt.bool_bool a b
  |int b=>obtain⟨t,rfl⟩:=rx;exact SeqAt.EqAt.bool_int a b t
  |str b=>obtain⟨t,rfl⟩:=rx;exact SeqAt.EqAt.bool_str a b t
  |_=>exact absurd (show false=true from fx) UX
 |int a=>
  obtain⟨t',rfl⟩:=ry
  cases x with
  |non=>cases rx;exact SeqAt.EqAt.int_none a t'
  |bl b=>cases rx;exact SeqAt.EqAt.int_bool a t' b
  |int b=>obtain⟨t,rfl⟩:=rx;exact SeqAt.EqAt.int_int a t' b t
  |str b=>obtain⟨t,rfl⟩:=rx;exact SeqAt.EqAt.int_str a t' b t
  |_=>exact absurd (show false=true from fx) UX
 |str a=>
  obtain⟨t',rfl⟩:=ry
  cases x with
  |non=>cases rx;exact SeqAt.EqAt.str_none a t'
  |bl b=>cases rx;exact SeqAt.EqAt.str_bool a t' b
  |int b=>obtain⟨t,rfl⟩:=rx;exact SeqAt.EqAt.str_int a t' b t
  |str b=>obtain⟨t,rfl⟩:=rx;exact SeqAt.EqAt.str_str a t' b t
  |_=>exact absurd (show false=true from fx) UX
 |_=>exact absurd (show false=true from fy) UX
noncomputable def eqU(x:V)(u:Value):Bool:=match u with
 | .none=>eqV .non x
 | .bool b=>eqV (.bl b) x
 | .int i _=>eqV (.int i) x
 | .str z _=>eqV (.str z) x
 |_=>false
theorem kkl{x y:V}{u:Value}(r:RelV y u)(f:flatV y=true):eqU x u=eqV y x:=by
 cases y with
 |non=>cases r;rfl
 |bl b=>cases r;rfl
 |int i=>obtain⟨t,rfl⟩:=r;rfl
 |str z=>obtain⟨t,rfl⟩:=r;rfl
 |_=>exact absurd (show false=true from f) UX
theorem kef{x:V}:∀{xs:List V}{us:List Value},Vals xs us→xs.all flatV=true→us.any (eqU x)=xs.any fun y=>eqV y x
 |_,_, .nil,_=>rfl
 |y::xs,u::us, .cons r t,f=>by
  rw[Ml,Np] at f
  rw[JL,JL,kkl r f.1,kef t f.2]
theorem kcV{A:Around}{s:Shared}{x:V}{v:Value}(rx:RelV x v)(fx:flatV x=true):∀{xs:List V}{us:List Value},Vals xs us→xs.all flatV=true→∀u∈us,SeqAt.EqAt A s u v (eqU x u)
 |_,_, .nil,_=>fun u hu=>by cases hu
 |y::xs,u::us, .cons r t,f=>fun u' hu=>by
  rw[Ml,Np] at f
  rcases Jd.mp hu with rfl|hu
  ·rw[kkl r f.1];exact kiZ r rx f.1 fx
  ·exact kcV rx fx t f.2 u' hu
noncomputable def inV(x:V)(xs:List V):Bool:=xs.any fun y=>eqV y x
noncomputable def rIn(K:UQ)(neg:Bool):R2:=fun x y H Q=>∃p xs,y=.ref p∧(SqL K H p xs∨SqT K H p xs)∧flatV x=true∧xs.all flatV=true∧Q (.bl (if neg then !inV x xs else inV x xs)) H
theorem kbG:OpR X (compareOp .In) (rIn X.K false):=by
 intro pins s σ H x y v u Q I rx ry h
 obtain⟨p,xs,rfl,hq,fx,fs,q⟩:=h
 cases ry
 rcases hq with hq|hq
 ·obtain⟨its,r,pl,hz⟩:=I.list hq
  refine SeqAt.in_listAt (eqU x) pl.isList (fun w hw=>kcV rx fx r fs w (by simpa using hw)) ⟨.bl _,H,I,rfl,?_⟩
  rw[show its.toArray.any (eqU x)=its.any (eqU x) by simp,kef r fs]
  exact q
 ·obtain⟨its,r,pl,hz⟩:=I.tuple hq
  refine SeqAt.in_tupleAt (eqU x) pl (fun w hw=>kcV rx fx r fs w (by simpa using hw)) ⟨.bl _,H,I,rfl,?_⟩
  rw[show its.toArray.any (eqU x)=its.any (eqU x) by simp,kef r fs]
  exact q
theorem kfw:OpR X (compareOp .NotIn) (rIn X.K true):=by
 intro pins s σ H x y v u Q I rx ry h
 obtain⟨p,xs,rfl,hq,fx,fs,q⟩:=h
 cases ry
 rcases hq with hq|hq
 ·obtain⟨its,r,pl,hz⟩:=I.list hq
  refine SeqAt.notIn_listAt (eqU x) pl.isList (fun w hw=>kcV rx fx r fs w (by simpa using hw)) ⟨.bl _,H,I,rfl,?_⟩
  rw[show its.toArray.any (eqU x)=its.any (eqU x) by simp,kef r fs]
  exact q
 ·obtain⟨its,r,pl,hz⟩:=I.tuple hq
  refine SeqAt.notIn_tupleAt (eqU x) pl (fun w hw=>kcV rx fx r fs w (by simpa using hw)) ⟨.bl _,H,I,rfl,?_⟩
  rw[show its.toArray.any (eqU x)=its.any (eqU x) by simp,kef r fs]
  exact q
theorem kaA:CallR X (.builtin "len") (fun xs H Q=>∃p ys,xs=[.ref p]∧(SqL X.K H p ys∨SqT X.K H p ys)∧Q (.int ys.length) H):=by
 intro pins s σ H xs us Q I r h
 obtain⟨p,ys,rfl,hq,q⟩:=h
 obtain⟨u,rfl,rx⟩:=vals1 r
 cases rx
 have hn:=kg9
 rcases hq with hq|hq
 ·obtain⟨its,r',pl,hz⟩:=I.list hq
  have hlen:=r'.length
  exact Calls.call_len_list pl.isList (by simp only[Ja] <;> omega) ⟨.int ys.length,H,I.tok _,⟨s.toks+1,by rw[Ja,hlen]⟩,q⟩
 ·obtain⟨its,r',pl,hz⟩:=I.tuple hq
  have hlen:=r'.length
  exact len_tuple pl (by simp only[Ja] <;> omega) ⟨.int ys.length,H,I.tok _,⟨s.toks+1,by rw[Ja,hlen]⟩,q⟩
theorem CallR.or{f:Value}{r r':List V→Hp→VK→Prop}(h:CallR X f r)(h':CallR X f r'):CallR X f (fun xs H Q=>r xs H Q∨r' xs H Q):=by
 intro pins s σ H xs us Q I rs q
 rcases q with q|q
 ·exact h pins s σ H xs us Q I rs q
 ·exact h' pins s σ H xs us Q I rs q
theorem kaI:CallR X (.type "list") (fun xs H Q=>∃p ys,xs=[.ref p]∧(SqL X.K H p ys∨SqT X.K H p ys)∧∀l,H l=none→Q (.ref l) (upd H l (.lst ys))):=by
 intro pins s σ H xs us Q I r h
 obtain⟨p,ys,rfl,hq,q⟩:=h
 obtain⟨u,rfl,rx⟩:=vals1 r
 cases rx
 have fin:∀(its:List Value),Vals ys its→ys.length≤sizeLine→∀(h':Heap)(c':Nat),(∀b o',s.heap.get? b=some o'→h'.get? b=some o')→
   h'.get? s.heap.objs.size=some {cls:=.type "list",dict:=none,data:=.seq its.toArray c',slots:=#[]}→EP X pins σ Q (.ref s.heap.objs.size) {s with heap:=h'}:=fun its r' hz h' c' kp e=>
  ⟨.ref s.heap.objs.size,_,I.laid (t':=s.toks) kp (UR _) (show ObjOk X.prog X.w _ h' _ (.lst ys) from⟨hz,its,c',r',e⟩),rfl,q _ (I.hok.fresh (UR _))⟩
 rcases hq with hq|hq
 ·obtain⟨its,r',pl,hz⟩:=I.list hq
  have hlen:=r'.length
  obtain⟨o,ho,hc,n,hd⟩:=pl.isList
  exact call_list_seq p (.inl rfl) ho hc hd (fun h' c' kp e=>fin its r' hz h' c' kp e) (by simp only[Ja] <;> omega)
 ·obtain⟨its,r',pl,hz⟩:=I.tuple hq
  have hlen:=r'.length
  obtain⟨o,ho,hc,n,hd⟩:=pl
  exact call_list_seq p (.inr rfl) ho hc hd (fun h' c' kp e=>fin its r' hz h' c' kp e) (by simp only[Ja] <;> omega)
noncomputable def tyV(K:UQ)(T:String)(x:V)(H:Hp):Prop:=match x with
 | .str _=>T="str"
 | .int _=>T="int"
 | .ref p=>(T="list"∧∃xs,SqL K H p xs)∨(T="tuple"∧∃o,K.lookup p=some o∧o.cls=.type "tuple"∧o.dict=none)∨
   (T="dict"∧((∃kvs,H p=some (.dK kvs))∨∃kvs,H p=some (.dT kvs)))∨(T="set"∧∃S n,H p=some (.set S n))
 |_=>False
theorem kj1{pins:List (Addr×Obj)}{σ:St}{H:Hp}{s:Shared}{T:String}{x:V}{v:Value}(I:Inv X pins σ H s)(r:RelV x v)(ty:tyV X.K T x H):
  s.TypeIs v T∧∀a,v=.ref a→∃ob,s.heap.get? a=some ob∧ob.dict=none:=by
 cases x with
 |str z=>
  obtain⟨t,rfl⟩:=r
  cases(show T="str" from ty)
  exact⟨typeIs_str s z t,fun _ e=>nomatch e⟩
 |int i=>
  obtain⟨t,rfl⟩:=r
  cases(show T="int" from ty)
  exact⟨typeIs_int s i t,fun _ e=>nomatch e⟩
 | ref p=>
  cases r
  rcases ty with⟨rfl,xs,hq⟩|⟨rfl,o,hk,hc,hd⟩|⟨rfl,hk⟩|⟨rfl,S,n,hk⟩
  ·obtain⟨its,_,pl,_⟩:=I.list hq
   refine⟨pl.isList.typeIs,fun a e=>?_⟩
   cases e
   obtain⟨o,n,e,c,hd,_⟩:=pl
   exact⟨o,e,hd⟩
  ·refine⟨⟨o,I.kIn p o hk,hc⟩,fun a e=>?_⟩
   cases e
   exact⟨o,I.kIn _ o hk,hd⟩
  ·have z:∃o,s.heap.get? p=some o∧o.ExactDict:=by
    rcases hk with⟨kvs,hk⟩|⟨kvs,hk⟩
    ·obtain⟨_,_,_,_,o,_,_,e,ex,_⟩:=I.hok p _ hk
     exact⟨o,e,ex⟩
    ·obtain⟨_,_,_,_,o,_,_,e,ex,_⟩:=I.hok p _ hk
     exact⟨o,e,ex⟩
   obtain⟨o,e,ex⟩:=z
   refine⟨⟨o,e,ex.1⟩,fun a e2=>?_⟩
   cases e2
   exact⟨o,e,ex.2.1⟩
  ·obtain⟨o,_,_,_,e,ex,_⟩:=I.hok p _ hk
   refine⟨⟨o,e,ex.1⟩,fun a e2=>?_⟩
   cases e2
   exact⟨o,e,ex.2.1⟩
 |_=>exact False.elim ty
noncomputable def tBM(K:UQ)(T:String)(r:V→List V→Hp→VK→Prop)(to:TE)(t:TA):TE:=fun σ H Q=>to σ H fun x H1=>tyV K T x H1∧t σ H1 fun xs H2=>r x xs H2 Q
variable {o e:Expr} {es:List Expr} {to:TE} {t:TA} {name:Str} {apos cpos:Pos} {T id:String} {r:V→List V→Hp→VK→Prop}
theorem pe_bm(pa:PlainAttrs T)(slot:Slot T name id)(hty:typeOf (.builtin id)=pure (.type "method_descriptor"))(hm:MtR X id r)(ho:PE X o to)(ha:PA X (e::es) t)
  (hbase:attributeBase o name X.env (eval o X.env)=eval o X.env:=by rfl)
  (hfew:((backTo cpos (starEach (e::es) X.env)).all (fun x=>!x.1)&&(backToKw cpos (keywordEach [] X.env)).all (fun x=>x.1.isSome)
   &&decide ((e::es).length+([]:List Keyword).length+(if([]:List Keyword).isEmpty then 0 else 1)<30))=true:=by rfl)
  (hline:(apos.endLine==cpos.line)=true:=by rfl) (hs:starEach (e::es) X.env=(false,eval e X.env)::starEach es X.env:=by rfl) (hplain:(backTo cpos (starEach es X.env)).any (·.1)=false:=by rfl):
  PE X (.Call (.Attribute o name apos) (e::es) [] cpos) (tBM X.K T r to t):=by
 intro pins s σ H Q I h
 refine wpAny_Call_method_late hbase hfew hline rfl (thn (ho pins s σ H _ I h) fun v s1 ⟨x,H1,I1,r1,ty,q1⟩=>?_)
 obtain⟨h1,h2⟩:=kj1 I1 r1 ty
 refine⟨T,id,pa,slot,hty,h1,h2,?_⟩
 have hA:=ha cpos pins s1 σ H1 _ I1 q1
 rw[hs] at hA⊢
 refine Calls.callWith_builtin (by show(false||(backTo cpos (starEach es X.env)).any (·.1))=false;rw[hplain] <;> rfl) (Calls.evalArgs_plain ?_)
 exact thn hA fun us s2 ⟨vs,H2,I2,r2,q2⟩=>hm pins s2 σ H2 x vs v us Q I2 r1 r2 q2
end
end L2
namespace L2
open PySem PySem.Spec PyProof.Rows
noncomputable def MtM(X:Cx)(id:String)(r:V→List V→Hp→VK→Prop):Prop:=
 ∀(pins:List (Addr×Obj))(s:Shared)(σ:St)(H:Hp)(x:V)(xs:List V)(v:Value)(us:List Value)(Q:VK),Inv X pins σ H s→RelV x v→Vals xs us→r x xs H Q→
  wpAny (model X.prog X.w) X.A (call (.builtin id) (v::us)) (EP X pins σ Q) X.xe s
theorem Vals.one:∀{x:V}{us:List Value},Vals [x] us→∃u,us=[u]∧RelV x u
 |_,_, .cons r .nil=>⟨_,rfl,r⟩
theorem Vals.two:∀{x y:V}{us:List Value},Vals [x,y] us→∃u v,us=[u,v]∧RelV x u∧RelV y v
 |_,_,_, .cons r (.cons q .nil)=>⟨_,_,rfl,r,q⟩
theorem Vals.zero:∀{us:List Value},Vals [] us→us=[]
 |_, .nil=>rfl
theorem Vals.dropLast{xs:List V}{us:List Value}(h:Vals xs us):Vals xs.dropLast us.dropLast:=by
 induction h with
 |nil=>exact .nil
 |cons r t ih=>
  cases t with
  |nil=>exact .nil
  |cons q t'=>exact .cons r ih
theorem Vals.reverse{xs:List V}{us:List Value}(h:Vals xs us):Vals xs.reverse us.reverse:=by
 induction h with
 |nil=>exact .nil
 |cons r t ih=>rw[NF,NF];exact Vals.append ih (.cons r .nil)
theorem Vals.rep{xs:List V}{us:List Value}(h:Vals xs us):∀k:Nat,Vals (UV k xs).flatten (UV k us).flatten
 |0=>.nil
 |k+1=>by
  rw[JR,JR,Jl,Jl]
  exact Vals.append h (Vals.rep h k)
theorem foldl_rep(its:List Value):∀(k:Nat)(acc:List Value),
  List.foldl (fun x1 x2=>x1++x2) acc.toArray (UV k its.toArray)=(acc++(UV k its).flatten).toArray
 |0,acc=>by simp
 | k+1,acc=>by
  have e:acc.toArray++its.toArray=(acc++its).toArray:=by simp
  have e2:(acc++its)++(UV k its).flatten=acc++(UV (k+1) its).flatten:=by
   rw[JR,Jl,J7]
  rw[←e2,←foldl_rep its k (acc++its),←e,JR,List.foldl_cons]
section
variable {X:Cx} {pins:List (Addr×Obj)} {σ:St} {H:Hp} {s:Shared} {l b:Addr} {xs ys zs:List V}
theorem Inv.lset{its its':List Value}{n:Nat}{f:Array Value→Array Value}{t':Nat}(I:Inv X pins σ H s)(hH:H l=some (.lst xs))
  (e:s.heap.get? l=some {cls:=.type "list",data:=.seq its.toArray n}) (hf:f its.toArray=its'.toArray) (hv:Vals ys its') (hz:ys.length≤sizeLine):
  Inv X pins σ (upd H l (.lst ys)) {s with heap:=s.heap.update l (Obj.mapSeq f),toks:=t'}:=by
 have q:=PySem.IsL.update e f
 rw[hf] at q
 refine I.write (x:=l) (e:=l) (by rw[hH];exact trivial) (.inl rfl) (fun b' u hb hu=>(Heap.get?_update_other s.heap (Obj.mapSeq f) (Ne.symm hb)).trans hu) ⟨_,q⟩ ?_
 exact⟨hz,its',_,hv,q⟩
theorem Inv.lnew{its:List Value}{t':Nat}(I:Inv X pins σ H s)(hv:Vals ys its)(hz:ys.length≤sizeLine):
  Inv X pins σ (upd H s.heap.objs.size (.lst ys)) {s with heap:=s.heap.push {cls:=.type "list",data:=.seq its.toArray},toks:=t'}:=
 I.laid (fun _ _ q=>Heap.get?_push_of_some _ q) (UR _) ⟨hz,its,0,hv,Heap.get?_push_size _ rfl⟩
theorem Inv.fresh(I:Inv X pins σ H s):H s.heap.objs.size=none:=I.hok.fresh (UR _)
theorem Inv.lstM(I:Inv X pins σ H s)(hH:H l=some (.lst xs)):xs.length≤sizeLine∧∃(its:List Value)(n:Nat),Vals xs its∧xs.length=its.length∧s.heap.get? l=some {cls:=.type "list",data:=.seq its.toArray n}:=by
 obtain⟨z,its,n,r,e⟩:=I.hok l _ hH
 exact⟨z,its,n,r,r.length,e⟩
theorem kg6{n:Nat}(h:n≤sizeLine):Builtin.List.listTooLong n=false:=by
 unfold Builtin.List.listTooLong
 exact decide_eq_false (by omega)
end
section
variable {X:Cx}
noncomputable def kkI:V→List V→Hp→VK→Prop:=fun x vs H Q=>∃l xs y,x=.ref l∧vs=[y]∧H l=some (.lst xs)∧xs.length<sizeLine∧Q .non (upd H l (.lst (xs++[y])))
theorem kbn:MtM X "list.append" kkI:=by
 intro pins s σ H x vs v us Q I rx rv h
 obtain⟨l,xs,y,rfl,rfl,hH,hz,q⟩:=h
 cases rx
 obtain⟨u,rfl,ru⟩:=rv.one
 obtain⟨z,its,n,r,hl,e⟩:=I.lstM hH
 refine call_meets F.slot_list_append ⟨_,e,rfl⟩ F.entry_list_append (F.args_list_append_2 _ _) (PySem.list_append l its.toArray n u (by rw[Ja];omega)) ⟨e,?_⟩
 refine⟨.non,_,I.lset (its':=its++[u]) hH e (by simp) (r.append (.cons ru .nil)) ?_,rfl,q⟩
 rw[U9,Ng]
 omega
noncomputable def kkH:V→List V→Hp→VK→Prop:=fun x vs H Q=>∃l b xs zs,x=.ref l∧vs=[.ref b]∧H l=some (.lst xs)∧H b=some (.lst zs)∧xs.length+zs.length≤sizeLine∧Q .non (upd H l (.lst (xs++zs)))
theorem kcU:MtM X "list.extend" kkH:=by
 intro pins s σ H x vs v us Q I rx rv h
 obtain⟨l,b,xs,zs,rfl,rfl,hH,hB,hz,q⟩:=h
 cases rx
 obtain⟨u,rfl,ru⟩:=rv.one
 cases ru
 obtain⟨z,its,n,r,hl,e⟩:=I.lstM hH
 obtain⟨z2,its2,n2,r2,hl2,e2⟩:=I.lstM hB
 have hsz:its.toArray.size+its2.toArray.size≤sizeLine:=by rw[Ja,Ja];omega
 have hlong:¬(!its.toArray.isEmpty&&Builtin.List.listTooLong (its.toArray.size+its2.toArray.size))=true:=by
  rw[kg6 hsz,Bool.and_false]
  exact UX
 refine call_meets F.slot_list_extend ⟨_,e,rfl⟩ F.entry_list_extend (F.args_list_extend_2 _ _)
  (AutoSeq1.list_extend_list_list_0 l its.toArray n b its2.toArray n2 hlong (by rw[Ja];omega) (by omega)) ⟨e,e2,?_⟩
 refine⟨.non,_,I.lset (its':=its++its2) hH e (by simp) (r.append r2) ?_,rfl,q⟩
 rw[U9]
 omega
noncomputable def rCat:R2:=fun x y H Q=>∃l b xs zs,x=.ref l∧y=.ref b∧H l=some (.lst xs)∧H b=some (.lst zs)∧xs.length+zs.length≤sizeLine∧∀p,H p=none→Q (.ref p) (upd H p (.lst (xs++zs)))
theorem klz:OpR X (binaryOp .Add) rCat:=by
 intro pins s σ H x y v u Q I rx ry h
 obtain⟨l,b,xs,zs,rfl,rfl,hH,hB,hz,q⟩:=h
 cases rx
 cases ry
 obtain⟨z,its,n,r,hl,e⟩:=I.lstM hH
 obtain⟨z2,its2,n2,r2,hl2,e2⟩:=I.lstM hB
 refine PySem.P.add_list e e2 ?_ (by rw[Ja,Ja];omega)
 have ea:its.toArray++its2.toArray=(its++its2).toArray:=by simp
 rw[ea]
 exact⟨.ref _,_,I.lnew (t':=s.toks) (r.append r2) (by rw[U9];omega),rfl,q _ I.fresh⟩
noncomputable def rRep:R2:=fun x y H Q=>∃l k xs,x=.ref l∧y=.int k∧H l=some (.lst xs)∧-(2 ^ 63)≤k∧k<2 ^ 63∧xs.length*k.toNat≤sizeLine∧
 ∀p,H p=none→Q (.ref p) (upd H p (.lst (UV k.toNat xs).flatten))
theorem len_rep{α:Type}(xs:List α)(k:Nat):(UV k xs).flatten.length=k*xs.length:=by
 induction k with
 |zero=>simp
 |succ k ih=>rw[JR,Jl,U9,ih,Nat.succ_mul,Nat.add_comm]
theorem kg3:OpR X (binaryOp .Mult) rRep:=by
 intro pins s σ H x y v u Q I rx ry h
 obtain⟨l,k,xs,rfl,rfl,hH,h1,h2,hz,q⟩:=h
 cases rx
 obtain⟨t,rfl⟩:=ry
 obtain⟨z,its,n,r,hl,e⟩:=I.lstM hH
 have hlen:its.toArray.size*k.toNat≤sizeLine:=by rw[Ja,←hl];exact hz
 have hcap:¬its.toArray.size*k.toNat > (2 ^ 63-1)/8:=by
  have:(sizeLine:Nat)≤(2 ^ 63-1)/8:=by decide
  omega
 have hfit:¬(!Builtin.List.listFitsIndex k)=true:=by
  rw[fitsIndex_both h1 h2]
  exact UX
 have hlong:¬Builtin.List.listTooLong (its.toArray.size*k.toNat)=true:=by
  rw[kg6 hlen]
  exact UX
 have hnew:List.foldl (fun x1 x2=>x1++x2) #[] (UV (if its.toArray.isEmpty=true then 0 else k.toNat) its.toArray)=(UV k.toNat its).flatten.toArray:=by
  have f0:∀m:Nat,List.foldl (fun x1 x2=>x1++x2) #[] (UV m its.toArray)=(UV m its).flatten.toArray:=fun m=>by
   have:=foldl_rep its m []
   rw[NG] at this
   exact this
  rw[f0]
  cases its with
  |nil=>simp
  |cons a r'=>rw[if_neg (by simp)]
 refine wpAny_binaryOp_repeat_ref (T:="list") (U:="int") (by decide) ⟨_,e,rfl⟩ (fun s'=>typeIs_int s' k t) noFill_list_mul F.fills_int_mul F.slot_int_rmul repeat_list F.slot_int_index.lookup
  (call_meets F.slot_int_rmul (typeIs_int s k t) F.entry_int_rmul (F.args_int_rmul_2 _ _) (int___rmul___int_list k t l its.toArray n)
   ⟨e,rfl,⟨_,e,rfl⟩,call_meets F.slot_list_mul ⟨_,e,rfl⟩ F.entry_list_mul (F.args_list_mul_2 _ _) (AutoListH.list___mul___list_int_3 l its.toArray n k t hfit hcap hlong) ⟨e,?_⟩⟩)
 rw[hnew]
 exact⟨.ref _,_,I.lnew (t':=s.toks) (r.rep k.toNat) (by rw[len_rep,Nat.mul_comm];exact hz),rfl,q _ I.fresh⟩
end
section
variable {prog:Program} {w:World} {A:Around} {E:Value→Shared→Prop} {s:Shared}
set_option maxRecDepth 100000 in
end
section
variable {X:Cx}
end
end L2
namespace Att
open PySem PySem.W PySem.Calls PyProof.Rows
theorem kd9{P:Params}{h:Heap}:∀(ns:List Int)(vs:List Value),WellAll P h vs (ns.map WData.int)→IntsAre vs ns:=by
 intro ns
 induction ns with
 |nil=>
  intro vs w
  rw[Nf] at w
  cases w
  exact .nil
 | cons n ns ih=>
  intro vs w
  rw[U4] at w
  cases w with
  |cons a b=>
   cases a
   exact .cons _ _ (ih _ b)
theorem kid{l:OpenLaw}{n:Nat}(hn:l.most=some n){P:Params}{h:Heap}{args:List WData}{vals:List Value}
  (hpre:l.row.toRowW.claim.pre args=true) (hwl:WellAll P h vals args):
  ∃a vs ns,vals=[Value.ref a]∧args=[WData.list (ns.map WData.int)]∧h.get? a=some {cls:=.type "list",data:=.seq vs.toArray}∧IntsAre vs ns∧ns.length≤n:=by
 have hsh:WShape.hasAll [] args [.list .int]=true:=(pre_splitW hpre).1
 have hc:l.pre.holds [] {args:=args}=true:=(pre_splitW hpre).2
 obtain⟨d,r,rfl,h1,h2⟩:=hasAllW_cons hsh
 obtain rfl:=hasAllW_nil h2
 obtain⟨xs,rfl,h3⟩:=hasW_list h1
 obtain⟨ns,rfl⟩:=items_int h3
 have hlen:ns.length≤n:=by
  unfold OpenLaw.pre at hc
  have h4:(WTm.not (.lt (.lit (.int (n:Int))) (.len (.arg 0)))).holds [] {args:=[.list (ns.map .int)]}=true:=by
   have h4:=(holds_andW hc).1
   rw[hn] at h4
   exact h4
  have h5:=condW_of h4 (w_not (w_lt w_lit (w_len_list (w_arg rfl))))
  rw[UP] at h5
  refine Nat.le_of_not_lt fun q=>?_
  have q':(n:Int)<((ns.length:Nat):Int):=by omega
  first
   |(rw[decide_eq_true q'] at h5;exact absurd h5 (by decide))
   |(simp at h5;omega)
 cases hwl with
 |cons w1 w2=>
  cases w2
  cases w1 with
  |list ho hall=>exact⟨_,_,ns,rfl,rfl,ho,kd9 ns _ hall,hlen⟩
def kiq(l:OpenLaw)(args:List WData):l.row.toRowW.claim.post args (.bool true) args=true:=
 postW_of (r:=l.row.toRowW) (X:=(true==true))
  (show WShape.has [] (.bool true) .bool=true by first|rfl|decide|simp[WShape.has,WShape.arms,WShape.armsAll])
  (show(WTm.eq .res (.lit (.bool true))).value [] {args:=args,res:=some (.bool true),after:=args}=some (.bool (true==true)) from w_eq_bool (w_res rfl) w_lit) rfl
theorem attach_call{l:OpenLaw}{n:Nat}{q:Program}{loose:List Str}{XP:(Str→Option Value)→Heap→Prop}{YP:World→Heap→Prop}{d:DefRec}
  (hn:l.most=some n) (hdf:d.params.defaults=[])
  (call:∀(w:World)(s₀ s₁:Shared)(mg mb:Str→Option Value)(fa:Addr)(o:Obj)(pm cd doc:Value)(a:Addr)(vs:List Value)(ns:List Int),
   Ground q loose [] XP w s₀ mg mb s₁.heap→YP w s₁.heap→
   s₁.heap.get? fa=some o→o.data=.func (docDef d.name d.params d.body d.scope pm cd doc)→s₁.heap.CodeRec cd d.name→mg d.name=some (.ref fa)→
   s₁.heap.get? a=some {cls:=.type "list",data:=.seq vs.toArray}→IntsAre vs ns→ns.length≤n→s₁.gens= #[]→
   codeAny (model l.prog w) callerA (.call (.ref fa) ⟨[.ref a],[]⟩) (fun r s'=>r=.ok (.ret (.bool true))∧OldK s₁.heap s'.heap∧s'.os=s₁.os∧AllBare s'.gens) s₁):
  WalkO q loose XP YP l.row.toRowW d [] (fun f vs=>PySem.call f vs):=by
 intro w s₀ s₁ mg mb G Y fa o pm cd doc dV kV ho hd hcd hD hmg hg args vals as hpre hlay hrd hwl hlo
 obtain rfl:dV=.none:=Dflts.none hD hdf
 obtain rfl:kV=.none:=Dflts.noKw hD
 obtain⟨a,vs,ns,rfl,rfl,hobj,hints,hlen⟩:=kid hn hpre hwl
 refine enter_call (codeAny_mono (call w s₀ s₁ mg mb fa o pm cd doc a vs ns G Y ho (fd_plain hd) hcd hmg hobj hints hlen hg) fun r s' hq=>?_)
 obtain⟨rfl,h2,h3,h4⟩:=hq
 exact⟨.inl ⟨.bool true, .bool true,[],rfl,fun _=>rfl, .bool true,kiq l _,fun _=>⟨Nh.nil,fun _ hm=>(nomatch hm)⟩⟩,h2,h3,h4⟩
section
variable {prog:Program} {w:World} {A:Around} {E:Value→Shared→Prop} {s:Shared} {K:Frag}
end
end Att
namespace L2
open PySem PySem.Spec PyProof.Rows
theorem kfe:∀{vs:List Value}{ns:List Int},IntsAre vs ns→Vals (ns.map V.int) vs
 |_,_, .nil=>.nil
 |_,_, .cons n t h=>.cons ⟨t,rfl⟩ (kfe h)
end L2
namespace L2
open PySem PySem.Spec PyProof.Rows
end L2
namespace L2
open PySem PySem.Spec PyProof.Rows
noncomputable def inClass(s:Stmt)(j:Nat):Stmt:=match s with
 | .ClassDef _ _ _ body _ _ _ _ _ _ _=>body.getD j (.Pass ⟨0,0,0,0⟩)
 |_=>.Pass ⟨0,0,0,0⟩
noncomputable def kax(s:Stmt):Arguments:=match s with
 | .FunctionDef _ a _ _ _ _ _ _ _ _=>a
 |_=>{posonlyargs:=[],args:=[],vararg:=none,kwonlyargs:=[],kw_defaults:=[],kwarg:=none,defaults:=[]}
noncomputable def kav(s:Stmt):List Stmt:=match s with
 | .FunctionDef _ _ b _ _ _ _ _ _ _=>b
 |_=>[]
noncomputable def kaf(s:Stmt):Scope:=match s with
 | .FunctionDef _ _ _ _ _ _ sc _ _ _=>sc
 |_=>{kind:=.function,names:=[],isGenerator:=false,isCoroutine:=false}
noncomputable abbrev CX0:CXT:=fun _ _ _ _ _ _=>False
noncomputable abbrev E0:XK:=fun _ _ _=>False
def pass0{X:Cx}:kc2 CX0 X E0:=fun _ _ _ _ _ _ _ h=>h.elim
structure Fun (K:UQ) (x qual:Str) (st:Stmt) (f:Addr) (fd:FuncData):Prop where
 ex:∃(oc:Value)(od:Option Addr)(kV doc pm:Value)(an:Option Addr)(cdv ct:Value)(osl:Array (Option Value)),
  fd=U2 x qual (kax st) (kav st) (kaf st) .none kV doc pm an cdv ct∧K.lookup f=some ⟨oc,od, .func fd,osl⟩∧Jm K cdv qual=true
 kp:U5 K (.ref f)=true
section
variable {P:Program} {w:World} {K:UQ} {mg:Str→Option Value} {base:Heap}
theorem Fun.ok{x qual:Str}{st:Stmt}{f:Addr}{fd:FuncData}{N ps:List Str}{k:Nat}{sp:Sp}(F:Fun K x qual st f fd)(S:kao N ps (kaf st))(len:∀vs H Q E,sp vs H Q E→vs.length=ps.length)
  (hbody:∀(cdv:Value)(A:Around)(outer:List Env)(s:Shared)(H:Hp)(vs:List V)(Q:VK)(E:XK),Room k (A.deeper (envOfC qual (kaf st) s.heap.objs.size f cdv))→sp vs H Q E→
   ∃t,PSs (cxOf CX0 P w K mg base N qual (kaf st) f cdv A outer s H E).nox (kav st) t∧t {nx:=fun _ H'=>Q .non H',rt:=Q} (start N vs) H):FnOk P w K mg base CX0 (k+1) f fd ps sp:=by
 obtain⟨oc,od,kV,doc,pm,an,cdv,ct,osl,rfl,lk,hcd⟩:=F.ex
 refine fn_of lk hcd S len fun A outer s H vs Q E hr hsp=>?_
 obtain⟨t,h,q⟩:=hbody cdv A outer s H vs Q E hr hsp
 exact⟨t,h.nox,q⟩
theorem Fun.binds{x qual:Str}{st:Stmt}{f:Addr}{fd:FuncData}{ps:List Str}(F:Fun K x qual st f fd)
  (h:∀(kV doc pm:Value)(an:Option Addr)(cdv ct:Value)(us:List Value),us.length=ps.length→bindArgs (U2 x qual (kax st) (kav st) (kaf st) .none kV doc pm an cdv ct) ⟨us,[]⟩=pure (ps.zip us)):Binds K fd ps []:=by
 obtain⟨oc,od,kV,doc,pm,an,cdv,ct,osl,rfl,lk,hcd⟩:=F.ex
 exact .all (h kV doc pm an cdv ct)
end
def kap{n:Nat}(h:n≤1000):n<sizeLine:=JS h (by decide)
section
variable {X:Cx}
theorem pv(i:Nat){x:Str}{pos:Pos}(hN:X.N[i]?=some x:=by rfl)(hv:Vis X.env.scope x:=by first|exact Or.inl rfl|exact Or.inr (Or.inl rfl)|exact Or.inr (Or.inr rfl))(hd:(x==("__debug__" :Str))=false:=by decide)
  (hcd:(x==("__classdict__" :Str))=false:=by decide):PE X (.Name x pos) (tVar i):=kls hN hv hd hcd
end
def iteF{A B:Prop}(h:B):if false=true then A else B:=by
 rw[if_neg UX]
 exact h
def iteT{A B:Prop}(h:A):if true=true then A else B:=by
 rw[if_pos rfl]
 exact h
def ite2{c A B:Prop} [Decidable c] (h1:c→A) (h2:¬c→B):if c then A else B:=by
 by_cases h:c
 ·rw[if_pos h]
  exact h1 h
 ·rw[if_neg h]
  exact h2 h
end L2
set_option maxHeartbeats 4000000
namespace L3
end L3
namespace L2
open PySem PySem.Spec PyProof.Rows
section
variable {X:Cx}
theorem log2_small{n:Nat}(h:n<2 ^ 200):n.log2<9000:=by
 by_cases h0:n=0
 ·subst h0
  decide
 ·have h1:n.log2<200:=(Nat.log2_lt h0).mpr h
  omega
noncomputable def CDivB(_ j:Int):Prop:=0<j∧j<2 ^ 199
theorem kjx:OpR X (binaryOp .FloorDiv) (rI CDivB fun i j=>.int (i/j)):=opI fun i j _ _ _ _ _ hc q=>by
 have h1:(0:Int)<j:=hc.1
 have h2:j<2 ^ 199:=hc.2
 have h3:j.natAbs<2 ^ 200:=by omega
 exact floordiv_int (by omega) (by rw[Int.fdiv_eq_ediv_of_nonneg i (by omega)];exact q) (.inl (PyProof.noPylong_of_log2 (log2_small h3)))
theorem kc1(hc:X.calm=true):CallR X (.builtin "sum") (fun xs H Q=>∃(p:Addr)(ns:List Int),xs=[.ref p]∧SqL X.K H p (ns.map V.int)∧Q (.int ns.sum) H):=by
 intro pins s σ H xs us Q I r h
 obtain⟨p,ns,rfl,hq,q⟩:=h
 obtain⟨u,rfl,rx⟩:=vals1 r
 cases rx
 obtain⟨its,r',pl,hz⟩:=I.list hq
 have hi:IntsAre its ns:=intsAre_of r'
 have ha:=hi.allInts
 obtain⟨zs,hx⟩:=ha.items
 have hl:=pl.isList
 rw[hx] at hl
 refine sum_intListG (I.ok.hd hc) hl fun h' tk t' hk=>⟨.int ns.sum,H,I.kept hk,⟨t',?_⟩,q⟩
 have e2:preSum (numAt zs) zs.size=(numsOf (intItems zs).toList).sum:=by
  rw[nums_intItems,preSum_eq,JY (by simp)]
 have e3:numsOf its.toArray.toList=ns:=hi.numsOf
 rw[e2,←hx,e3]
noncomputable def eqVs:List V→List V→Bool
 |[],[]=>true
 |x::xs,y::ys=>eqV x y&&eqVs xs ys
 |_,_=>false
theorem khj:∀{xs ys:List V},xs.length≠ys.length→eqVs xs ys=false
 |[],[],h=>absurd rfl h
 |[],_::_,_=>rfl
 |_::_,[],_=>rfl
 |x::xs,y::ys,h=>by
  show(eqV x y&&eqVs xs ys)=false
  rw[khj (fun e=>h (by simp[e])),Bool.and_false]
theorem ker:∀(xs ys:List V),xs.length=ys.length→(UU xs.length).all (fun j=>eqV (xs.getD j .non) (ys.getD j .non))=eqVs xs ys
 |[],[],_=>rfl
 |[],_::_,h=>by simp at h
 |_::_,[],h=>by simp at h
 |x::xs,y::ys,h=>by
  have ih:=ker xs ys (by simpa using h)
  show(UU (xs.length+1)).all _=(eqV x y&&eqVs xs ys)
  rw[List.range_succ_eq_map,Ml,List.all_map]
  show(eqV x y&&_)=_
  rw[←ih]
  rfl
theorem kjS:∀{x:V},flatV x=true→eqV x x=true
 | .non,_=>rfl
 | .bl b,_=>by simp[eqV]
 | .int i,_=>by simp[eqV]
 | .str z,_=>by simp[eqV]
theorem kfO:∀{ns ms:List Int},eqVs (ns.map V.int) (ms.map V.int)=decide (ns=ms)
 |[],[]=>by simp[eqVs]
 |[],_::_=>by simp[eqVs]
 |_::_,[]=>by simp[eqVs]
 |n::ns,m::ms=>by
  show((n==m)&&eqVs (ns.map V.int) (ms.map V.int))=_
  rw[kfO]
  by_cases h:n=m <;> by_cases h':ns=ms <;> simp[h,h']
noncomputable def rEqL(K:UQ)(neg:Bool):R2:=fun x y H Q=>∃a b xs ys,x=.ref a∧y=.ref b∧SqL K H a xs∧SqL K H b ys∧xs.all flatV=true∧ys.all flatV=true∧Q (.bl (if neg then !eqVs xs ys else eqVs xs ys)) H
theorem kiX{xs:List V}(h:xs.all flatV=true){j:Nat}(hj:j<xs.length):flatV xs[j]=true:=by
 rw[NH] at h
 exact h _ (Mm hj)
theorem kk7{A:Around}{s:Shared}{xs ys:List V}{us ws:List Value}(r:Vals xs us)(q:Vals ys ws)(fx:xs.all flatV=true)(fy:ys.all flatV=true):
  ∀j (h1:j<us.toArray.size) (h2:j<ws.toArray.size),SeqAt.EqAt A s us.toArray[j] ws.toArray[j] (eqV (xs.getD j .non) (ys.getD j .non)):=by
 intro j h1 h2
 have l1:=r.length
 have l2:=q.length
 have h1':j<us.length:=by simpa using h1
 have h2':j<ws.length:=by simpa using h2
 have k1:j<xs.length:=by omega
 have k2:j<ys.length:=by omega
 obtain⟨u,e1,r1⟩:=r.get (i:=j) (x:=xs[j]) (by simp[k1])
 obtain⟨w,e2,r2⟩:=q.get (i:=j) (x:=ys[j]) (by simp[k2])
 have g1:us.toArray[j]=u:=by
  have:=U0.mp e1
  obtain⟨_,e⟩:=this
  simpa using e
 have g2:ws.toArray[j]=w:=by
  have:=U0.mp e2
  obtain⟨_,e⟩:=this
  simpa using e
 have d1:xs.getD j .non=xs[j]:=by simp[k1]
 have d2:ys.getD j .non=ys[j]:=by simp[k2]
 rw[g1,g2,d1,d2]
 exact kiZ r1 r2 (kiX fx k1) (kiX fy k2)
theorem klx(hu:X.A.units<cLine):OpR X (compareOp .NotEq) (rEqL X.K true):=by
 intro pins s σ H x y v u Q I rx ry h
 obtain⟨a,b,xs,ys,rfl,rfl,hx,hy,fx,fy,q⟩:=h
 cases rx
 cases ry
 obtain⟨us,r1,p1,z1⟩:=I.list hx
 obtain⟨ws,r2,p2,z2⟩:=I.list hy
 have l1:=r1.length
 have l2:=r2.length
 show wpAny _ _ (richCompare .NotEq (.ref a) (.ref b)) _ _ s
 by_cases hl:xs.length=ys.length
 ·refine SeqAt.RcNeAt.lists p1.isList p2.isList (by simp;omega) hu (kk7 r1 r2 fx fy) _ _ _ _ ⟨.bl (!eqVs xs ys),H,I,?_,q⟩
  have e:us.toArray.size=xs.length:=by simp[l1]
  rw[e,ker xs ys hl]
  rfl
 ·refine SeqAt.RcNeAt.lists_lengths p1.isList p2.isList (by simp;omega) hu _ _ _ _ ⟨.bl (!eqVs xs ys),H,I,?_,q⟩
  rw[khj hl]
  rfl
noncomputable def cV:V→Value
 | .ty n=>.type n
 | .ref a=>.ref a
 |_=>.none
theorem kaW:CallR X (.builtin "isinstance") (fun xs H Q=>∃x c t b,xs=[x,c]∧((∃n,c=.ty n)∨∃a,c=.ref a)∧TyOf X.K H x t∧U6 X.K t (cV c)=some b∧Q (.bl b) H):=by
 intro pins s σ H xs us Q I r h
 obtain⟨x,c,t,b,rfl,hc,ty,e,q⟩:=h
 obtain⟨u,w',rfl,r1,r2⟩:=vals2 r
 have ew:w'=cV c:=by
  rcases hc with⟨n,rfl⟩|⟨a,rfl⟩
  ·exact r2
  ·exact r2
 subst ew
 exact kiL I r1 ty e fun tk=>⟨.bl b,H,I.tok tk,rfl,q⟩
theorem b_isi:bootBuiltins "isinstance"=some (.builtin "isinstance"):=by decide +kernel
theorem b_int:bootBuiltins "int"=some (.type "int"):=by decide +kernel
theorem klO:bootBuiltins "bool"=some (.type "bool"):=by decide +kernel
theorem kbP:bootBuiltins "list"=some (.type "list"):=by decide +kernel
theorem b_sum:bootBuiltins "sum"=some (.builtin "sum"):=by decide +kernel
theorem b_min:bootBuiltins "min"=some (.builtin "min"):=by decide +kernel
theorem b_max:bootBuiltins "max"=some (.builtin "max"):=by decide +kernel
theorem b_len:bootBuiltins "len"=some (.builtin "len"):=by decide +kernel
theorem kbO(K:UQ)(t:Value):U6 K t t=some true:=by
 unfold U6
 rw[if_pos (by simp)]
theorem kfH(K:UQ):U6 K (.type "int") (.type "bool")=some false:=by
 have e:(Value.type "int" ==Value.type "bool")=false:=by decide +kernel
 unfold U6 PySem.W.kitCls PySem.W.subIn
 rw[e,if_neg UX]
 show(if PySem.W.kitMeta "bool"=true then _ else _)=_
 rw[if_pos (by decide +kernel)]
 show(fastBuiltinMro "int").map (·.contains (Value.type "bool"))=some false
 decide +kernel
noncomputable def tCut(t:TS):TS:=fun D σ H=>∃P:St→Hp→Prop,t {D with nx:=P} σ H∧∀σ' H',P σ' H'→D.nx σ' H'
theorem kim{st:Stmt}{t:TS}(h:PS X st t):PS X st (tCut t):=by
 intro pins s σ H D I hw
 obtain⟨P,h1,h2⟩:=hw
 refine thn (h pins s σ H {D with nx:=P} I h1) fun f s' q=>?_
 cases f with
 |next=>
  obtain⟨σ',H',I',q'⟩:=q
  exact⟨σ',H',I',h2 σ' H' q'⟩
 |brk=>exact q
 |cont=>exact q
 |ret u=>exact q
noncomputable def tCutE(t:TE):TE:=fun σ H Q=>∃P:V→Hp→Prop,t σ H P∧∀v H',P v H'→Q v H'
theorem kdi{e:Expr}{t:TE}(h:PE X e t):PE X e (tCutE t):=by
 intro pins s σ H Q I hw
 obtain⟨P,h1,h2⟩:=hw
 exact thn (h pins s σ H P I h1) fun u s' ⟨v,H',I',r,q⟩=>⟨v,H',I',r,h2 v H' q⟩
noncomputable def Its(lo st:Int)(n:Nat):It:=⟨fun i _=>i<n,fun i H x H'=>H'=H∧x=.int (lo+i*st),fun i _=>n≤i⟩
theorem khP{P:Program}{w:World}{K:UQ}{tg:Expr}(it:Addr)(lo st:Int)(n:Nat):Turn P w K tg (Its lo st n) [it] it (fun i h=>IsRangeIter h it (lo+(i:Nat)*st) ((n:Int)-(i:Nat)) st) where
 mem:=by simp
 obj:=fun i h st b hb=>by
  have e:b=it:=by simpa using hb
  subst e
  exact⟨_,st,fun v z=>by
   have z':Data.fields _=Data.cell v:=z
   cases z'⟩
 keep:=fun i h h' st k=>k it (by simp) _ st
 item:=by
  intro X hP hw hK hc i pins s σ H E I hf st' hg
  subst hP hw hK
  obtain⟨f0,f1,f2,f3,f4,f5⟩:=hf it (by simp)
  have W:=Walks.range (prog:=X.prog) (w:=X.w) (I.ok.hd hc) it lo st n
  refine W.item i s _ _ hg st' fun v h' tk hv st'' kk=>?_
  obtain⟨t,rfl⟩:=hv
  have I1:Inv X pins σ H {s with heap:=h',toks:=tk}:=I.turned (fun b o hb e=>kk b o (by simpa using hb) e) f0 f1 f3 f4 f5
  exact⟨_,rfl,go_of (s:={s with heap:=h',toks:=tk}) (n:="range_iterator") st'' rfl rfl (by decide) ⟨.int (lo+i*st),H,I1,⟨t,rfl⟩,⟨rfl,rfl⟩,st'',fun b hb=>(hf b hb).1⟩⟩
 done:=by
  intro X hP hw hK hc i pins s σ H E I hf st hg
  subst hP hw hK
  obtain⟨f0,f1,f2,f3,f4,f5⟩:=hf it (by simp)
  exact wpAny_pyNext_range_end (I.ok.hd hc) st (by have:n≤i:=hg;omega) fun h' eb=>⟨rfl,I.turned (t':=s.toks) (fun b o hb e=>eb b o hb e) f0 f1 f3 f4 f5⟩
 self:=fun _ _ _ _ _ st h=>wpAny_pyIter_rangeiter st h
theorem kfm{a b c:Int}(hc:0<c)(ha: -(2 ^ 31)≤a∧a<2 ^ 31)(hb: -(2 ^ 31)≤b∧b<2 ^ 31):0≤Builtin.Range.rangeSize a b c∧Builtin.Range.rangeSize a b c<2 ^ 33:=by
 unfold Builtin.Range.rangeSize
 rw[if_pos hc]
 split
 ·have h1:0≤(b-a-1)/c:=Int.ediv_nonneg (by omega) (by omega)
  have h2:(b-a-1)/c≤b-a-1:=Int.ediv_le_self _ (by omega)
  omega
 ·omega
theorem khr{a b c:Int}(hc:0<c)(hc2:c<2 ^ 30)(ha: -(2 ^ 31)≤a∧a<2 ^ 31)(hb: -(2 ^ 31)≤b∧b<2 ^ 31):Builtin.Range.small a b c=true:=by
 have h:=kfm hc ha hb
 unfold Builtin.Range.small
 generalize Builtin.Range.rangeSize a b c=n at h
 simp only[Builtin.Range.rangeFitsLong,Np,Mn,decide_eq_true_eq,beq_iff_eq,show c > 0 from hc,if_true]
 omega
end
theorem kjQ{lo st:Int}{n:Nat}{g:TG}{tb:TS}{D:Ends}{σ:St}{H:Hp}(Pv:Nat→St→Hp→Prop)(h0:Pv 0 σ H)
  (hs:∀i σ H,i<n→Pv i σ H→g (.int (lo+i*st)) σ H fun σ2 H2=>tb {D with nx:=Pv (i+1),ct:=Pv (i+1),bk:=D.nx} σ2 H2) (hd:∀σ H,Pv n σ H→D.nx σ H):
  ∃W:Nat→Nat→St→Hp→Prop,(∃m,W 0 m σ H)∧∀i m σ H,W i m σ H→
   ((Its lo st n).stop i H∧D.nx σ H)∨((Its lo st n).go i H∧∃N:St→Hp→Prop,(∀σ' H',N σ' H'→∃m',m'<m∧W (i+1) m' σ' H')∧∀x H',(Its lo st n).yld i H x H'→g x σ H' fun σ2 H2=>tb {D with nx:=N,ct:=N,bk:=D.nx} σ2 H2):=by
 refine⟨fun i m σ H=>m=n-i∧i≤n∧Pv i σ H,⟨n,by simp,Jk _,h0⟩,?_⟩
 rintro i m σ H ⟨rfl,hi,p⟩
 by_cases hlt:i<n
 ·refine .inr ⟨hlt,Pv (i+1),fun σ' H' p'=>⟨n-(i+1),by omega,rfl,hlt,p'⟩,fun x H' y=>?_⟩
  obtain⟨e,y⟩:=y
  subst e y
  exact hs i σ _ hlt p
 ·have e:i=n:=by omega
  subst e
  exact .inl ⟨UR _,hd σ H p⟩
def kfP(xs:List V)(k:Nat):cutV xs none (some (k:Int))=xs.take k:=by
 unfold cutV
 rw[HT.sIx_none,HT.sIx_nat,List.drop_zero,Nat.sub_zero,MJ]
 omega
end L2
namespace L2
open PySem PySem.Spec PyProof.Rows
def Inv.adopt{X:Cx}{pins:List (Addr×Obj)}{σ:St}{H:Hp}{s:Shared}{a:Addr}{o:HO}(I:Inv X pins σ H s)(f:FpOk X pins H a)(h0:X.s₀.heap.objs.size≤a)(new:ObjOk X.prog X.w (upd H a o) s.heap a o):Inv X pins σ (upd H a o) s:=by
 obtain⟨hn,hL,_,_,hC,hp⟩:=f
 have nt:∀b u,H b=some u→b≠a:=fun b u e=>kag e hn
 refine⟨I.ok,I.os,I.bare,⟨I.base.keep,I.base.slot,fun b ob e n hx=>?_,I.base.there,fun b xs e=>?_,fun b ob u e=>?_,fun b ps e=>?_⟩,I.loc,I.cell,?_,fun x c e=>?_,fun p hp'=>?_,fun b u e=>?_,I.len⟩
 ·rw[kaj (Je (Jh (Heap.lt_size e) h0))]
  exact I.base.free b ob e n hx
 ·have q:=I.base.tups b xs e
  rw[kaj (nt _ _ q)]
  exact q
 ·have q:=I.base.frzs b ob u e
  rw[kaj (nt _ _ q)]
  exact q
 ·obtain⟨m,q⟩:=I.base.tbls b ps e
  exact⟨m,by rw[kaj (nt _ _ q)];exact q⟩
 ·rw[kaj (Ne.symm hL)]
  exact I.free
 ·rw[kaj (hC x c e)]
  exact I.freeC x c e
 ·obtain⟨e,n,r⟩:=I.pin p hp'
  exact⟨e,by rw[kaj (hp p hp')];exact n,r⟩
 ·by_cases hb:b=a
  ·subst hb
   rw[kac] at e
   cases e
   exact new
  ·rw[kaj hb] at e
   exact(I.hok b u e).stay (fun c v _ q=>q) (fun c q=>by rw[kaj (nt _ _ q)];exact q) fun c xs q=>by rw[kaj (nt _ _ q)];exact q
noncomputable def capσ(cap:List (Option Nat))(σ:St):St:=cap.map fun o=>match o with
 |some i=>(σ[i]?).getD none
 |none=>none
noncomputable def closL(cells:List (Str×Addr))(names:List (Str×NameKind)):List (Str×Addr)→List (Str×Addr):=fun acc=>names.foldl (fun acc p=>if p.2== .free then(p.1,(cells.lookup p.1).getD 0)::acc else acc) acc
theorem kea{α β:Type}{f: α→β→Sem (ForInStep β)}{g: β→α→β}:∀(l:List α)(b: β),(∀x∈l,∀b,f x b=pure (.yield (g b x)))→forIn l b f=pure (l.foldl g b)
 |[],b,_=>by rw[List.forIn_nil];rfl
 |x::l,b,h=>by
  rw[List.forIn_cons,h x Ji]
  show forIn l (g b x) f=_
  rw[kea l (g b x) fun y hy=>h y (Jb _ hy)]
  rfl
def ke8{scope:Scope}{env:Env}(h:∀x∈scope.names,x.2=.free→∃c,env.cells.lookup x.1=some c):closureFor scope env=pure (closL env.cells scope.names []):=by
 unfold closureFor
 dsimp only
 rw[kea (g:=fun acc p=>if p.2== .free then(p.1,(env.cells.lookup p.1).getD 0)::acc else acc) scope.names [] fun x hx b=>?_]
 ·rfl
 ·obtain⟨n,k⟩:=x
  by_cases hk:k=.free
  ·subst hk
   obtain⟨c,ec⟩:=h _ hx rfl
   have ec':env.cells.lookup n=some c:=ec
   have e1:cellOf env n=pure c:=by unfold cellOf;rw[ec']
   simp only[beq_self_eq_true,if_true,e1,ec',Option.getD_some]
   rfl
  ·have:(k==NameKind.free)=false:=by simpa using hk
   simp only[this,JD,if_false]
def keE(cells:List (Str×Addr))(p:Str×NameKind)(r:List (Str×NameKind))(acc:List (Str×Addr)):closL cells (p::r) acc=closL cells r (if p.2== .free then(p.1,(cells.lookup p.1).getD 0)::acc else acc):=rfl
theorem kc0{cells:List (Str×Addr)}{x:Str}{c:Addr}:∀(names:List (Str×NameKind))(acc:List (Str×Addr)),(closL cells names acc).lookup x=some c→(((x,NameKind.free)∈names∧c=(cells.lookup x).getD 0)∨acc.lookup x=some c)
 |[],acc,h=>.inr h
 | (n,k)::r,acc,h=>by
  rw[keE] at h
  rcases kc0 r _ h with⟨h1,h2⟩|h1
  ·exact .inl ⟨Jb _ h1,h2⟩
  ·by_cases hk:k=.free
   ·subst hk
    simp only[beq_self_eq_true,if_true] at h1
    rw[Jq] at h1
    by_cases hx:x=n
    ·subst hx
     simp only[beq_self_eq_true] at h1
     exact .inl ⟨Ji,(Option.some.inj h1).symm⟩
    ·have hb:(x==n)=false:=beq_eq_false_iff_ne.mpr hx
     rw[hb] at h1
     exact .inr h1
   ·have:(k==NameKind.free)=false:=by simpa using hk
    simp only[this,JD,if_false] at h1
    exact .inr h1
theorem kb3{cells:List (Str×Addr)}{x:Str}:∀(names:List (Str×NameKind))(acc:List (Str×Addr)),((x,NameKind.free)∈names∨∃c,acc.lookup x=some c)→∃c,(closL cells names acc).lookup x=some c
 |[],acc,h=>by
  rcases h with h|h
  ·cases h
  ·exact h
 | (n,k)::r,acc,h=>by
  rw[keE]
  refine kb3 r _ ?_
  by_cases hm:(x,NameKind.free)∈r
  ·exact .inl hm
  ·refine .inr ?_
   rcases h with h|⟨c,h⟩
   ·rcases Jd.mp h with e|h
    ·cases e
     simp[Jq]
    ·exact absurd h hm
   ·split
    ·rw[Jq]
     by_cases hx:x=n
     ·subst hx
      simp
     ·have hb:(x==n)=false:=beq_eq_false_iff_ne.mpr hx
      rw[hb]
      exact⟨c,h⟩
    ·exact⟨c,h⟩
theorem kb9:∀(names:List (Str×NameKind))(n:Nat)(acc acc':List (Str×Addr)),cellsFrom n names (acc++acc')=cellsFrom n names acc++acc'
 |[],_,_,_=>rfl
 |(m,k)::r,n,acc,acc'=>by
  unfold cellsFrom
  split
  ·exact kb9 r (n+1) ((m,n)::acc) acc'
  ·exact kb9 r n acc acc'
def kbK(names:List (Str×NameKind))(n:Nat)(acc:List (Str×Addr))(x:Str):(cellsFrom n names acc).lookup x=((cellsFrom n names []).lookup x).or (acc.lookup x):=by
 rw[←List.lookup_append,←kb9,NG]
theorem kb8{x:Str}:∀(names:List (Str×NameKind))(n:Nat)(acc:List (Str×Addr)),(x,NameKind.cell)∉names→(cellsFrom n names acc).lookup x=acc.lookup x
 |[],_,_,_=>rfl
 | (m,k)::r,n,acc,h=>by
  unfold cellsFrom
  by_cases hk:k=.cell
  ·subst hk
   simp only[beq_self_eq_true,if_true]
   rw[kb8 r _ _ fun z=>h (Jb _ z),Jq]
   have hx:x≠m:=fun e=>h (by rw[e];exact Ji)
   have hb:(x==m)=false:=beq_eq_false_iff_ne.mpr hx
   rw[hb]
  ·have:(k==NameKind.cell)=false:=by simpa using hk
   simp only[this,JD,if_false]
   exact kb8 r _ _ fun z=>h (Jb _ z)
noncomputable def relN(names ns:List (Str×NameKind)):List (Str×NameKind):=names.map fun(n,k)=>if(k== .free&&ns.lookup n==some .cell) then(n, .cell) else(n,k)
def kcM{scope:Scope}{env:Env}(hk:env.scope.kind=.function):(relabel scope env).names=relN scope.names env.scope.names:=by
 unfold relabel relN
 have e:(ScopeKind.function==ScopeKind.function)=true:=by decide
 simp only[hk,e,Bool.and_true]
 rfl
theorem kcG{ns:List (Str×NameKind)}{x:Str}:∀(names:List (Str×NameKind)),(relN names ns).lookup x=(names.lookup x).map fun k=>if(k== .free&&ns.lookup x==some .cell) then .cell else k
 |[]=>rfl
 | (n,k)::r=>by
  have ih:=kcG (ns:=ns) (x:=x) r
  show JH x ((if(k== .free&&ns.lookup n==some .cell)=true then(n,NameKind.cell) else(n,k))::relN r ns)=_
  by_cases hx:x=n
  ·subst hx
   by_cases hc:(k== .free&&ns.lookup x==some .cell)=true
   ·rw[if_pos hc]
    simp only[Jq,beq_self_eq_true,NI]
    rw[if_pos hc]
   ·rw[if_neg hc]
    simp only[Jq,beq_self_eq_true,NI]
    rw[if_neg hc]
  ·have hb:(x==n)=false:=beq_eq_false_iff_ne.mpr hx
   by_cases hc:(k== .free&&ns.lookup n==some .cell)=true
   ·rw[if_pos hc]
    simp only[Jq,hb]
    exact ih
   ·rw[if_neg hc]
    simp only[Jq,hb]
    exact ih
theorem kkG{names ns:List (Str×NameKind)}{x:Str}(h:(relN names ns).lookup x=some .cell∨(relN names ns).lookup x=some .free):names.lookup x=some .cell∨names.lookup x=some .free:=by
 rw[kcG] at h
 cases e:names.lookup x with
 |none=>rw[e] at h;simp at h
 |some k=>
  rw[e] at h
  cases k <;> simp_all
def kij{names ns:List (Str×NameKind)}{x:Str}(h:names.lookup x=some .free):(relN names ns).lookup x=some .cell∨(relN names ns).lookup x=some .free:=by
 rw[kcG,h]
 by_cases hc:ns.lookup x==some .cell
 ·left;simp[hc]
 ·right;simp[hc]
structure CompScope (X:Cx) (scope:Scope) (N:List Str) (cap:List (Option Nat)):Prop where
 kind:scope.kind=.function
 names:∀x∈scope.names,x.2=.local→scope.names.lookup x.1=some .local
 free:∀x∈scope.names,x.2=.free→X.env.scope.names.lookup x.1=some .cell∨X.env.scope.names.lookup x.1=some .free
 nd:N.Nodup
 len:cap.length=N.length
 cap:∀(j i:Nat)(x:Str),cap[j]?=some (some i)→N[j]?=some x→X.N[i]?=some x∧scope.names.lookup x=some .free∧(x,NameKind.cell)∉scope.names
noncomputable def kdq(X:Cx)(scope:Scope)(C:Addr):List (Str×Addr):=cellsFrom (C+1) scope.names (closL X.env.cells scope.names [])
noncomputable def cxC(X:Cx)(scope:Scope)(N:List Str)(fp:List Addr)(s:Shared)(H:Hp)(C:Addr):Cx:=
 {X with N:=N,s₀:=s,H₀:=H,env:=compEnvC scope (kdq X scope C) C X.env,outer:=X.stack,ex:=fp,fn:=fun x=>scope.names.lookup x==some .cell,pn:=[],xe:=fun _ _=>False}
theorem ke4{M:Model}{A:Around}{E:Value→Shared→Prop}{s:Shared}{scope:Scope}{globals:Addr}{cl:List (Str×Addr)}{qual:Str}{func:Option Addr}{code:Value}{outer:Env}{builtins:Addr}{Q:Env→Shared→Prop}
  (hQ:Q (newEnv scope s.heap.objs.size globals (cellsFrom (s.heap.objs.size+1) scope.names cl) qual func code (some outer) builtins) {s with heap:=pushCells (s.heap.push {cls:=.type "dict",data:=.dict #[]}) scope.names}):
  wpAny M A (newFunctionEnv scope globals cl [] qual func code (some outer) builtins) Q E s:=by
 simp only[newFunctionEnv,Option.isSome_some,if_true]
 refine wpAny_bind (wpAny_alloc ?_)
 refine wpAny_bind (wpAny_layCells _ (fun name kind cells=>by cases hkc:kind==NameKind.cell <;> simp[hkc]) _ _ _ _ ?_)
 rw[show({s with heap:=s.heap.push {cls:=.type "dict",data:=.dict #[]}}:Shared).heap.objs.size=s.heap.objs.size+1 from Heap.size_push ..]
 exact wpAny_bind (wpAny_pure (wpAny_pure hQ))
section
variable {X:Cx} {scope:Scope} {N:List Str} {cap:List (Option Nat)} {pins:List (Addr×Obj)} {σ:St} {H:Hp} {s:Shared}
theorem khV(I:Inv X pins σ H s){b:Addr}(hb:b∈frs X.stack):b<s.heap.objs.size:=by
 obtain⟨_,o,ho,_⟩:=I.stack.mem hb
 exact Heap.lt_size ho
theorem kcr(S:CompScope X scope N cap)(I:Inv X pins σ H s):closureFor scope X.env=pure (closL X.env.cells scope.names []):=
 ke8 fun x hx hf=>I.ok.has x.1 (S.free x hx hf)
theorem kbL{C:Addr}{x:Str}{c:Addr}(S:CompScope X scope N cap)(I:Inv X pins σ H s)(h:(kdq X scope C).lookup x=some c):(cellsFrom (C+1) scope.names []).lookup x=some c∨X.env.cells.lookup x=some c:=by
 unfold kdq at h
 rw[kbK] at h
 cases e:(cellsFrom (C+1) scope.names []).lookup x with
 |some c'=>
  rw[e] at h
  exact .inl h
 | none=>
  rw[e] at h
  have h':(closL X.env.cells scope.names []).lookup x=some c:=h
  rcases kc0 _ _ h' with⟨h1,h2⟩|h1
  ·obtain⟨c',ec⟩:=I.ok.has x (S.free _ h1 rfl)
   rw[ec] at h2
   rw[h2]
   exact .inr ec
  ·cases h1
theorem kjK{fp:List Addr}{C D:Addr}{o:Obj}{s4:Shared}{m:Str→Option Value}(S:CompScope X scope N cap)(I:Inv X pins σ H s)(f:∀b∈fp,FpOk X pins H b)(hfp:∀b∈fp,b<s.heap.objs.size)
  (hk:∀b u,s.heap.get? b=some u→s4.heap.get? b=some u) (hns:s4.heap.Ns C m) (hC:s.heap.objs.size≤C) (hD:s.heap.objs.size≤D) (hDC:D≠C) (eD:s4.heap.get? D=some o) (hcell:∀v,o.data≠.cell v)
  (hnew:CellsOk s4.heap (C+1) (cellsFrom (C+1) scope.names [])) (hos:s4.os=s.os) (hg:s4.gens=s.gens):Inv (cxC X scope N fp s H C) [(D,o)] (capσ cap σ) H s4:=by
 have stkne:∀b∈fp,b∉frs X.stack:=fun b hb hz=>by
  obtain⟨_,h1,h2,_⟩:=f b hb
  rcases Jd.mp (I.stkSub b hz) with e|e
  ·exact h1 e
  ·exact h2 e
 have nw:∀{x:Str}{c:Addr},(cellsFrom (C+1) scope.names []).lookup x=some c→s4.heap.IsCell c none∧Nat.lt C c:=fun {x c} h=>hnew.empty x c (PySem.mem_of_lookup h)
 have od:∀{x:Str}{c:Addr},X.env.cells.lookup x=some c→c<s.heap.objs.size:=fun {x c} h=>let⟨_,q⟩:=I.cell x c h;q.lt
 refine⟨⟨I.ok.mod,S.kind,I.ok.glob,I.ok.blt,hC,fun x y c h1 h2=>?_,fun x h=>?_,fun x c h1 h2=>?_,I.ok.hd,I.ok.frames, .inl rfl,fun b hb=>⟨?_,fun x c e=>?_⟩,I.bs,UT I.ok.bsz I.sz,fun b ob e hb=>?_,stkne,I.stack,I.stkFree⟩,
  hos,by rw[hg];exact I.bare,Un.kept hk,⟨m,hns,fun j x v e1 e2 e3=>?_⟩,fun x c e=>?_,I.hok.fresh hC,fun x c e=>?_,fun p hp=>?_,I.hok.kept hk,?_⟩
 ·rcases kbL S I h1 with q1|q1 <;> rcases kbL S I h2 with q2|q2
  ·exact name_of_addr hnew.apart (PySem.mem_of_lookup q1) (PySem.mem_of_lookup q2)
  ·exact absurd (JS hC (nw q1).2) (Nat.not_lt_of_lt (od q2))
  ·exact absurd (JS hC (nw q2).2) (Nat.not_lt_of_lt (od q1))
  ·exact I.ok.inj x y c q1 q2
 ·have h':(relabel scope X.env).names.lookup x=some .cell∨(relabel scope X.env).names.lookup x=some .free:=h
  rw[kcM I.ok.kind] at h'
  show ∃c,(cellsFrom (C+1) scope.names (closL X.env.cells scope.names [])).lookup x=some c
  rw[kbK]
  rcases kkG h' with q|q
  ·obtain⟨c,e⟩:=kdJ (n:=C+1) q
   exact⟨c,by rw[e];rfl⟩
  ·obtain⟨c,e⟩:=kb3 (cells:=X.env.cells) scope.names [] (.inl (PySem.mem_of_lookup q))
   cases e2:(cellsFrom (C+1) scope.names []).lookup x with
   |some c'=>exact⟨c',rfl⟩
   |none=>exact⟨c,e⟩
 ·have h1':(scope.names.lookup x==some .cell)=true:=h1
  have q:scope.names.lookup x=some .cell:=by simpa using h1'
  obtain⟨c',e⟩:=kdJ (n:=C+1) q
  have h2':(cellsFrom (C+1) scope.names (closL X.env.cells scope.names [])).lookup x=some c:=h2
  rw[kbK,e] at h2'
  have h3:c'=c:=Option.some.inj h2'
  rw[←h3]
  exact U3 (JS hC (nw e).2)
 ·exact Je (Jh (hfp b hb) hC)
 ·rcases kbL S I e with q|q
  ·exact JC (NJ (Jh (hfp b hb) hC) (nw q).2)
  ·exact(f b hb).2.2.2.2.1 x c q
 ·obtain⟨_,_,_,h4,_⟩:=f b hb
  rcases h4 with h4|h4
  ·exact I.ok.noex b ob e h4
  ·exact absurd (Jh (Heap.lt_size e) (UT I.ok.bsz h4)) (JO _)
 ·
  have e2':(cap.map fun o=>match o with|some i=>(σ[i]?).getD none|none=>none)[j]?=some (some v):=e2
  rw[UY] at e2'
  cases ec:cap[j]? with
  |none=>rw[ec] at e2';cases e2'
  | some oi=>
   rw[ec] at e2'
   cases oi with
   |none=>cases e2'
   | some i=>
    have e4:(σ[i]?).getD none=some v:=Option.some.inj e2'
    have e5: σ[i]?=some (some v):=by
     cases q: σ[i]? with
     |none=>rw[q] at e4;cases e4
     |some w=>rw[q] at e4;exact congrArg some e4
    obtain⟨h1,hf,hnc⟩:=S.cap j i x ec e1
    have hm:=PySem.mem_of_lookup hf
    have h2:=S.free _ hm rfl
    obtain⟨mo,_,hl⟩:=I.loc
    obtain⟨u,ru,lk⟩:=hl i x v h1 e5 (.inr h2)
    have h3:(relabel scope X.env).names.lookup x=some .cell∨(relabel scope X.env).names.lookup x=some .free:=by
     rw[kcM I.ok.kind]
     exact kij hf
    refine⟨u,ru, .inr ⟨h3,?_⟩⟩
    rcases lk with⟨k1,_⟩|⟨_,c,ec',z⟩
    ·have k1':X.env.scope.names.lookup x=some .local:=k1
     rcases h2 with h2|h2 <;> rw[h2] at k1' <;> cases k1'
    ·obtain⟨c',ec2⟩:=kb3 (cells:=X.env.cells) scope.names [] (.inl hm)
     have ec3:(kdq X scope C).lookup x=some c':=by
      unfold kdq
      rw[kb8 _ _ _ hnc]
      exact ec2
     rcases kc0 _ _ ec2 with⟨_,q2⟩|q2
     ·rw[ec'] at q2
      have q3:c'=c:=q2
      subst q3
      obtain⟨oc,ho,hd⟩:=z
      exact⟨c',ec3,oc,hk _ _ ho,hd⟩
     ·cases q2
 ·rcases kbL S I e with q|q
  ·exact⟨none,(nw q).1⟩
  ·obtain⟨v,oc,ho,hd⟩:=I.cell x c q
   exact⟨v,oc,hk _ _ ho,hd⟩
 ·rcases kbL S I e with q|q
  ·exact I.hok.fresh (UT hC (U3 (nw q).2))
  ·exact I.freeC x c q
 ·have e:p=(D,o):=by simpa[cxC] using hp
  subst e
  exact⟨eD,I.hok.fresh hD,hDC,fun hz=>absurd (khV I hz) (NK.mpr hD),hcell⟩
 ·show(cap.map _).length=N.length
  rw[UP,S.len]
theorem comp_back{fp:List Addr}{C:Addr}{σ':St}{H':Hp}{s':Shared}(I:Inv X pins σ H s)(f:∀b∈fp,FpOk X pins H b)(J:Inv (cxC X scope N fp s H C) [] σ' H' s'):Inv X pins σ H' s':=
 I.call' (ch:=fp) J.os J.base J.hok J.bare fun b hb=>let⟨_,h1,_,h3,h4,h5⟩:=f b hb;⟨h3,h1,h4,h5⟩
end
noncomputable def PIf(X:Cx)(ifs:List Expr)(t:TT):Prop:=∀(pins:List (Addr×Obj))(s:Shared)(σ:St)(H:Hp)(Q:Bool→Hp→Prop),Inv X pins σ H s→t σ H Q→
 wpAny (model X.prog X.w) X.A (forIn ifs true fun c r=>if r=true then do let ok ←isTrue c X.env (eval c X.env);pure (ForInStep.yield ok) else pure (ForInStep.yield r)) (TP X pins σ Q) X.xe s
noncomputable def tYes:TT:=fun _ H Q=>Q true H
def kis{X:Cx}:PIf X [] tYes:=fun _ _ _ H _ I h=>wpAny_tests_nil ⟨H,I,h⟩
def kir{X:Cx}{c:Expr}{t:TT}(h:PT X c t):PIf X [c] t:=fun pins s σ H Q I hw=>wpAny_tests_one (h pins s σ H Q I hw)
theorem kfR{prog:Program}{w:World}{A:Around}{R:Result→Shared→Prop}{s:Shared}{elt target iter:Expr}{ifs:List Expr}{scope:Scope}{pos:Pos}{it acc:Value}{env:Env}(I:Nat→Shared→Prop)
  (turn:∀n s,I n s→wpAny (model prog w) A (pyNext it) (fun r s₁=>match r with
   |none=>R (.ok .next) s₁
   | some v=>wpAny (model prog w) A (letOwnedTupleGo target it v) (fun _ s₁'=>wpAny (model prog w) A (assign target env v) (fun _ s₂=>
     wpAny (model prog w) A (forIn ifs true fun c r=>if r=true then do let ok ←isTrue c env (eval c env);pure (ForInStep.yield ok) else pure (ForInStep.yield r)) (fun ok s₂'=>
      if ok=true then wpAny (model prog w) A (eval elt env) (fun x s₃=>
       wpAny (model prog w) A (call (.builtin "list.append") [acc,x]) (fun _ s₄=>∃m,m<n∧I m s₄) (fun _ _=>False) s₃) (fun _ _=>False) s₂'
      else ∃m,m<n∧I m s₂') (fun _ _=>False) s₂) (fun _ _=>False) s₁') (fun _ _=>False) s₁) (fun _ _=>False) s)
  (n:Nat) (h:I n s):codeAny (model prog w) A (.compLoop (.ListComp elt [⟨target,iter,ifs,0⟩] scope pos) 0 it acc env) R s:=by
 refine codeAny_loop rfl I (fun n s hI=>?_) n h
 show wpAny _ _ ((compTurn (.ListComp elt [⟨target,iter,ifs,0⟩] scope pos) 0 it acc env).onRaise (fun x=>do noteFrame x env;theTreesLotGoes x)) _ _ s
 refine wpAny_noted ?_
 rw[compTurn_list]
 refine wpAny_bind (wpAny_standAt (wpAny_bind (wpAny_mono (turn n s hI) (fun r s₁ h₁=>?_) fun _ _ h'=>h'.elim)))
 cases r with
 |none=>exact wpAny_pure h₁
 | some v=>
  refine wpAny_bind (wpAny_mono h₁ (fun _ s₁' h₁'=>?_) fun _ _ h'=>h'.elim)
  refine wpAny_bind (wpAny_mono h₁' (fun _ s₂ h₂=>wpAny_bind (wpAny_mono h₂ (fun ok s₂' h₂'=>?_) fun _ _ h'=>h'.elim)) fun _ _ h'=>h'.elim)
  cases ok with
  |false=>exact wpAny_pure ⟨rfl,h₂'⟩
  |true=>
   exact wpAny_bind (wpAny_bind (wpAny_mono h₂' (fun x s₃ h₃=>wpAny_bind (wpAny_mono h₃ (fun _ s₄ h₄=>wpAny_pure (wpAny_pure ⟨rfl,h₄⟩)) fun _ _ h'=>h'.elim)) fun _ _ h'=>h'.elim))
noncomputable def klj(wi:TI)(cap:List (Option Nat))(g:TG)(tt:TT)(te:TE):TE:=fun σ H Q=>wi σ H fun J H1=>∃W:Nat→Nat→St→List V→Hp→Prop,(∃m,W 0 m (capσ cap σ) [] H1)∧∀i m σ' ys H',W i m σ' ys H'→
 (J.stop i H'∧∀D,H' D=none→Q (.ref D) (upd H' D (.lst ys)))∨(J.go i H'∧ys.length<sizeLine∧∃(N:St→V→Hp→Prop)(N0:St→Hp→Prop),(∀σ2 y H4,N σ2 y H4→∃m',m'<m∧W (i+1) m' σ2 (ys++[y]) H4)∧(∀σ2 H4,N0 σ2 H4→∃m',m'<m∧W (i+1) m' σ2 ys H4)∧
  ∀x H2,J.yld i H' x H2→g x σ' H2 fun σ2 H3=>tt σ2 H3 fun b H4=>if b=true then te σ2 H4 (N σ2) else N0 σ2 H4)
noncomputable def tComp(wi:TI)(cap:List (Option Nat))(g:TG)(te:TE):TE:=fun σ H Q=>wi σ H fun J H1=>∃W:Nat→Nat→St→List V→Hp→Prop,(∃m,W 0 m (capσ cap σ) [] H1)∧∀i m σ' ys H',W i m σ' ys H'→
 (J.stop i H'∧∀D,H' D=none→Q (.ref D) (upd H' D (.lst ys)))∨(J.go i H'∧ys.length<sizeLine∧∃N:St→V→Hp→Prop,(∀σ2 y H4,N σ2 y H4→∃m',m'<m∧W (i+1) m' σ2 (ys++[y]) H4)∧
  ∀x H2,J.yld i H' x H2→g x σ' H2 fun σ2 H3=>te σ2 H3 (N σ2))
section
variable {X:Cx} {scope:Scope} {N:List Str} {cap:List (Option Nat)} {pins:List (Addr×Obj)} {σ:St} {H2:Hp} {s2:Shared} {tg elt iter:Expr} {ifs:List Expr} {pos:Pos} {g:TG} {tt:TT} {te:TE}
theorem kdg{fp:List Addr}{it:Addr}{tn:Nat→Heap→Prop}{J:It}{Q:VK}{RR:Value→Addr→Result→Shared→Prop}{E:Value→Shared→Prop}(S:CompScope X scope N cap)(hc:X.calm=true)
  (hg:∀fp s H C,PG (cxC X scope N fp s H C) tg g) (ht:∀fp s H C,PIf (cxC X scope N fp s H C) ifs tt) (he:∀fp s H C,PE (cxC X scope N fp s H C) elt te)
  (I2:Inv X pins σ H2 s2) (T:Turn X.prog X.w X.K tg J fp it tn) (st2:tn 0 s2.heap) (f2:∀b∈fp,FpOk X pins H2 b)
  (W:Nat→Nat→St→List V→Hp→Prop) {m0:Nat} (w0:W 0 m0 (capσ cap σ) [] H2)
  (turn:∀i m σ' ys H',W i m σ' ys H'→(J.stop i H'∧∀D,H' D=none→Q (.ref D) (upd H' D (.lst ys)))∨(J.go i H'∧ys.length<sizeLine∧∃(N:St→V→Hp→Prop)(N0:St→Hp→Prop),(∀σ2 y H4,N σ2 y H4→∃m',m'<m∧W (i+1) m' σ2 (ys++[y]) H4)∧(∀σ2 H4,N0 σ2 H4→∃m',m'<m∧W (i+1) m' σ2 ys H4)∧
   ∀x H2,J.yld i H' x H2→g x σ' H2 fun σ2 H3=>tt σ2 H3 fun b H4=>if b=true then te σ2 H4 (N σ2) else N0 σ2 H4))
  (hRR:∀(D C:Addr)(H':Hp)(s':Shared)(m:Str→Option Value),Inv X pins σ H' s'→FpOk X pins H' C→C≠D→s'.heap.Ns C m→Q (.ref D) H'→RR (.ref D) C (.ok .next) s'):
  wpAny (model X.prog X.w) X.A (newList []) (fun acc s₃=>wpAny (model X.prog X.w) X.A (newFunctionEnv scope X.env.globals (closL X.env.cells scope.names []) [] X.env.qual none .none (some X.env)) (fun cenv s₄=>
   codeAny (model X.prog X.w) X.A (.compStart (.ListComp elt [⟨tg,iter,ifs,0⟩] scope pos) 0 (.ref it) acc {cenv with scope:=relabel scope X.env}) (RR acc cenv.locals) s₄) E s₃) E s2:=by
 refine wpAny_newObj_type (ke4 ?_)
 dsimp only
 generalize hP:s2.heap.push {cls:=.type "list",dict:=none,data:=.seq ([]:List Value).toArray}=P
 have hnew:CellsOk (pushCells (P.push {cls:=.type "dict",data:=.dict #[]}) scope.names) (P.objs.size+1) (cellsFrom (P.objs.size+1) scope.names []):=by
  have q:=cellsFrom_ok scope.names (P.push {cls:=.type "dict",data:=.dict #[]}) (P.objs.size+1) [] ⟨fun _ _ hm=>(nomatch hm),Nh.nil⟩ (by rw[Heap.size_push];exact UR _)
  rwa [Heap.size_push] at q
 have hns₁:(pushCells (P.push {cls:=.type "dict",data:=.dict #[]}) scope.names).Ns P.objs.size (fun _=>none):=(Heap.Ns.new P (.type "dict")).keeps (pushCells_keeps _ _)
 have keep₁:∀b o,P.get? b=some o→(pushCells (P.push {cls:=.type "dict",data:=.dict #[]}) scope.names).get? b=some o:=fun b o e=>pushCells_keeps _ _ b o (Heap.get?_push_of_some _ e)
 generalize pushCells (P.push {cls:=.type "dict",data:=.dict #[]}) scope.names=h₁ at hnew hns₁ keep₁⊢
 have hC:P.objs.size=s2.heap.objs.size+1:=by rw[←hP,Heap.size_push]
 have hDC:s2.heap.objs.size≠P.objs.size:=by rw[hC];exact Je (Mf _)
 have hCle:s2.heap.objs.size≤P.objs.size:=by rw[hC];exact J6 _
 have hDle:s2.heap.objs.size≤s2.heap.objs.size:=UR _
 have old:∀b o,s2.heap.get? b=some o→h₁.get? b=some o:=fun b o e=>keep₁ b o (hP▸Heap.get?_push_of_some _ e)
 have hacc:h₁.get? s2.heap.objs.size=some {cls:=.type "list",data:=.seq ([]:List Value).toArray}:=keep₁ _ _ (hP▸Heap.get?_push_size _ rfl)
 have hfp:∀b∈fp,b<s2.heap.objs.size:=fun b hb=>let⟨_,e,_⟩:=T.obj 0 _ st2 b hb;Heap.lt_size e
 generalize hDd:s2.heap.objs.size=D at hacc hDC hDle⊢
 rw[hDd] at hCle hC
 generalize P.objs.size=C at hnew hns₁ hC hDC hCle⊢
 have dne:∀b∈fp,D≠b:=fun b hb=>JC (hDd▸hfp b hb)
 have cne:∀b∈fp,b≠C:=fun b hb=>Je (Jh (hDd▸hfp b hb) hCle)
 have stkne:∀b∈fp,b∉frs X.stack:=fun b hb hz=>by
  obtain⟨_,h1,h2,_⟩:=f2 b hb
  rcases Jd.mp (I2.stkSub b hz) with e|e
  ·exact h1 e
  ·exact h2 e
 have dfs:D∉frs X.stack:=fun hz=>absurd (khV I2 hz) (by rw[hDd];exact JO _)
 have dcell:∀x c,(kdq X scope C).lookup x=some c→c≠D:=fun x c e z=>by
  rcases kbL S I2 e with e|e
  ·have q:Nat.lt C c:=(hnew.empty x c (PySem.mem_of_lookup e)).2
   rw[z] at q
   exact absurd (JS hCle q) (JO _)
  ·obtain⟨v,q⟩:=I2.cell x c e
   have:=q.lt
   rw[z,hDd] at this
   exact absurd this (JO _)
 have bcell:∀b∈fp,∀x c,(kdq X scope C).lookup x=some c→c≠b:=fun b hb x c e=>by
  rcases kbL S I2 e with e|e
  ·have q:Nat.lt C c:=(hnew.empty x c (PySem.mem_of_lookup e)).2
   exact JC (NJ (Jh (hDd▸hfp b hb) hCle) q)
  ·exact(f2 b hb).2.2.2.2.1 x c e
 have stat:∀{o:Obj}{H':Hp},(∀b∈fp,H' b=none)→∀b∈fp,FpOk (cxC X scope N fp s2 H2 C) [(D,o)] H' b:=fun {o H'} hn b hb=>
  ⟨hn b hb,cne b hb,stkne b hb, .inl hb,bcell b hb,fun p hp=>by
   have e:p=(D,o):=by simpa[cxC] using hp
   subst e
   exact dne b hb⟩
 have loop:∀s₃:Shared,s₃= {s2 with heap:=h₁}→
   codeAny (model X.prog X.w) X.A (.compLoop (.ListComp elt [⟨tg,iter,ifs,0⟩] scope pos) 0 (.ref it) (.ref D) (compEnvC scope (kdq X scope C) C X.env)) (RR (.ref D) C) s₃:=by
  rintro s₃ rfl
  have I3:Inv (cxC X scope N fp s2 H2 C) [(D,_)] (capσ cap σ) H2 {s2 with heap:=h₁}:=
   kjK S I2 f2 hfp old hns₁ (by rw[hDd];exact hCle) (by rw[hDd];exact UR _) hDC hacc (fun v z=>by cases z) hnew rfl rfl
  refine kfR (fun n s'=>∃i σ' ys H' its k,Inv (cxC X scope N fp s2 H2 C) [] σ' H' s'∧tn i s'.heap∧(∀b∈fp,H' b=none)∧H' D=none∧s'.heap.get? D=some {cls:=.type "list",data:=.seq (its:List Value).toArray k}∧Vals ys its∧ys.length≤sizeLine∧W i n σ' ys H') ?_ m0
   ⟨0,_,[],H2,[],_,I3.pins_of (fun p hp=>nomatch hp),T.keep _ _ _ st2 (fun b hb o e=>old b o e),fun b hb=>(f2 b hb).1,I2.hok.fresh (by rw[hDd];exact UR _),hacc, .nil,Jk _,w0⟩
  rintro n s3 ⟨i,σ3,ys,H3,its,k,J3,st3,fr3,hD3,e3,r3,z3,w3⟩
  have J3':Inv (cxC X scope N fp s2 H2 C) [(D,{cls:=.type "list",data:=.seq its.toArray k})] σ3 H3 s3:=J3.pins_of fun p hp=>by
   have e:p=(D,{cls:=.type "list",data:=.seq its.toArray k}):=by simpa using hp
   subst e
   exact⟨e3,hD3,hDC,dfs,fun v z=>by cases z⟩
  rcases turn i n σ3 ys H3 w3 with⟨stop,qn⟩|⟨go,hlt,N',N0',hN,hN0,step⟩
  ·refine thn (T.done (cxC X scope N fp s2 H2 C) rfl rfl rfl hc i _ s3 σ3 H3 (fun _ _=>False) J3' (stat fr3) st3 stop) fun r s4 ⟨hr,I4⟩=>?_
   subst hr
   have e4:=(I4.pin (D,{cls:=.type "list",data:=.seq its.toArray k}) (by simp[cxC])).1
   have B:Inv X pins σ H3 s4:=comp_back I2 f2 (I4.pins_of fun p hp=>nomatch hp)
   obtain⟨m,hm,_⟩:=I4.loc
   have fD:FpOk X pins H3 D:=I2.fpOk (by rw[hDd];exact UR _) hD3
   have B':Inv X pins σ (upd H3 D (.lst ys)) s4:=B.adopt fD (by rw[←hDd];exact I2.sz) ⟨z3,its,k,r3,e4⟩
   refine hRR D C _ s4 m B' (I2.fpOk (by rw[hDd];exact hCle) ?_) hDC.symm hm (qn D hD3)
   rw[kaj hDC.symm]
   exact I4.free
  ·refine thn (T.item (cxC X scope N fp s2 H2 C) rfl rfl rfl hc i _ s3 σ3 H3 (fun _ _=>False) J3' (stat fr3) st3 go) fun r s4 ⟨u,hr,h4⟩=>?_
   subst hr
   refine thn h4 fun _ s5 ⟨x,H5,I5,r5,y5,st5,fr5⟩=>?_
   have I5':=I5.pinned (stat fr5) (T.obj _ _ st5)
   refine thn (hg fp s2 H2 C _ s5 σ3 H5 x u _ I5' r5 (step x H5 y5)) fun _ s6 ⟨σ6,H6,I6,q6⟩=>?_
   refine thn (ht fp s2 H2 C _ s6 σ6 H6 _ I6 q6) fun ok s6' ⟨H6',I6',q6'⟩=>?_
   cases ok with
   | false=>
    have q6':N0' σ6 H6':=by simpa using q6'
    obtain⟨m',hm',w7⟩:=hN0 σ6 H6' q6'
    have p7:=I6'.pin (D,{cls:=.type "list",data:=.seq its.toArray k}) (by simp[cxC])
    have e7:s6'.heap.get? D=some {cls:=.type "list",data:=.seq its.toArray k}:=p7.1
    have pf:∀b∈fp,∀o,s5.heap.get? b=some o→s6'.heap.get? b=some o∧H6' b=none:=fun b hb o e=>
     let z:=I6'.pin (b,o) (Jt _ (Jt _ (kcs hb e)))
     ⟨z.1,z.2.1⟩
    refine⟨m',hm',i+1,σ6,ys,H6',its,_,I6'.pins_of (fun p hp=>nomatch hp),T.keep _ _ _ st5 (fun b hb o e=>(pf b hb o e).1),fun b hb=>?_,p7.2.1,e7,r3,z3,w7⟩
    obtain⟨o,e,_⟩:=T.obj _ _ st5 b hb
    exact(pf b hb o e).2
   |true=>
   have q6':te σ6 H6' (N' σ6):=by simpa using q6'
   refine thn (he fp s2 H2 C _ s6' σ6 H6' _ I6' q6') fun v s7 ⟨y,H7,I7,r7,q7⟩=>?_
   obtain⟨m',hm',w7⟩:=hN σ6 y H7 q7
   have p7:=I7.pin (D,{cls:=.type "list",data:=.seq its.toArray k}) (by simp[cxC])
   have e7:s7.heap.get? D=some {cls:=.type "list",data:=.seq its.toArray k}:=p7.1
   have hl7:=r3.length
   refine call_meets F.slot_list_append ⟨_,e7,rfl⟩ F.entry_list_append (F.args_list_append_2 _ _) (PySem.list_append D its.toArray k v (by rw[Ja];omega)) ⟨e7,?_⟩
   have q8:=PySem.IsL.update e7 (·.push v)
   have ex8:its.toArray.push v=(its++[v]).toArray:=by simp
   rw[ex8] at q8
   have pf:∀b∈fp,∀o,s5.heap.get? b=some o→s7.heap.get? b=some o∧H7 b=none:=fun b hb o e=>
    let z:=I7.pin (b,o) (Jt _ (Jt _ (kcs hb e)))
    ⟨z.1,z.2.1⟩
   have I7':Inv (cxC X scope N fp s2 H2 C) [] σ6 H7 s7:=I7.pins_of fun p hp=>nomatch hp
   refine⟨m',hm',i+1,σ6,ys++[y],H7,its++[v],_,I7'.turned (it:=D) (fun b o hb e=>(Heap.get?_update_other _ _ (Ne.symm hb)).trans e) p7.2.1 hDC (.inr (by show s2.heap.objs.size≤D;rw[hDd];exact UR _)) dcell (fun p hp=>nomatch hp),
    T.keep _ _ _ st5 (fun b hb o e=>(Heap.get?_update_other _ _ (dne b hb)).trans (pf b hb o e).1),fun b hb=>?_,p7.2.1,q8,r3.append (.cons r7 .nil),by rw[U9,Ng];omega,w7⟩
   obtain⟨o,e,_⟩:=T.obj _ _ st5 b hb
   exact(pf b hb o e).2
 have st1:tn 0 h₁:=T.keep _ _ _ st2 (fun b hb o e=>old b o e)
 exact codeAny_compStart_list (loop _ rfl) (T.self X.A 0 _ _ _ st1 (loop _ rfl))
theorem kg1{wi:TI}(S:CompScope X scope N cap)(hc:X.calm=true)(hi:PI X tg iter wi)(hg:∀fp s H C,PG (cxC X scope N fp s H C) tg g)(ht:∀fp s H C,PIf (cxC X scope N fp s H C) ifs tt)(he:∀fp s H C,PE (cxC X scope N fp s H C) elt te)
  (hs:∀x,foldedSetIterable iter X.env x=pure x:=by intro _;rfl):PE X (.ListComp elt [⟨tg,iter,ifs,0⟩] scope pos) (klj wi cap g tt te):=by
 intro pins s σ H Q I h
 rw[eval_ListComp]
 refine wpAny_comprehension_free (use:=none) rfl hs (kcr S I) S.kind S.names (thn (hi pins s σ H _ I h) fun v s1 h1=>thn h1 fun itv s2 h2=>?_)
 obtain⟨it,fp,tn,J,H2,e,I2,T,st2,f2,W,⟨m0,w0⟩,turn⟩:=h2
 subst e
 refine kdg (RR:=fun acc C=>compPost (model X.prog X.w) X.A X.xe none (EP X pins σ Q) acc C) S hc hg ht he I2 T st2 f2 W w0 turn fun D C H' s' m B fC hCD hm q=>?_
 obtain⟨c0,c1,c2,c3,c4,c5⟩:=fC
 exact⟨m,hm,fun h' hs'=>⟨.ref D,H',B.turned (t':=s'.toks) (fun b o hb e=>(hs'.2 b hb).trans e) c0 c1 c3 c4 c5,rfl,q⟩⟩
theorem kfQ{J:It}{Q:VK}{W:Nat→Nat→St→List V→Hp→Prop}(h:∀i m σ' ys H',W i m σ' ys H'→(J.stop i H'∧∀D,H' D=none→Q (.ref D) (upd H' D (.lst ys)))∨(J.go i H'∧ys.length<sizeLine∧∃N:St→V→Hp→Prop,(∀σ2 y H4,N σ2 y H4→∃m',m'<m∧W (i+1) m' σ2 (ys++[y]) H4)∧
   ∀x H2,J.yld i H' x H2→g x σ' H2 fun σ2 H3=>te σ2 H3 (N σ2))):∀i m σ' ys H',W i m σ' ys H'→(J.stop i H'∧∀D,H' D=none→Q (.ref D) (upd H' D (.lst ys)))∨(J.go i H'∧ys.length<sizeLine∧∃(N:St→V→Hp→Prop)(N0:St→Hp→Prop),(∀σ2 y H4,N σ2 y H4→∃m',m'<m∧W (i+1) m' σ2 (ys++[y]) H4)∧(∀σ2 H4,N0 σ2 H4→∃m',m'<m∧W (i+1) m' σ2 ys H4)∧
   ∀x H2,J.yld i H' x H2→g x σ' H2 fun σ2 H3=>tYes σ2 H3 fun b H4=>if b=true then te σ2 H4 (N σ2) else N0 σ2 H4):=by
 intro i m σ' ys H' w
 rcases h i m σ' ys H' w with h|⟨go,hl,N,hN,st⟩
 ·exact .inl h
 ·refine .inr ⟨go,hl,N,fun _ _=>False,hN,(fun _ _ z=>z.elim),fun x H2 y=>?_⟩
  have e:(fun(σ2:St)(H3:Hp)=>tYes σ2 H3 fun b H4=>if b=true then te σ2 H4 (N σ2) else False)=fun σ2 H3=>te σ2 H3 (N σ2):=by
   funext σ2 H3
   show(if true=true then te σ2 H3 (N σ2) else False)=te σ2 H3 (N σ2)
   rw[if_pos rfl]
  rw[e]
  exact st x H2 y
theorem kbF{wi:TI}(S:CompScope X scope N cap)(hc:X.calm=true)(hi:PI X tg iter wi)(hg:∀fp s H C,PG (cxC X scope N fp s H C) tg g)(he:∀fp s H C,PE (cxC X scope N fp s H C) elt te)
  (hs:∀x,foldedSetIterable iter X.env x=pure x:=by intro _;rfl):PE X (.ListComp elt [⟨tg,iter,[],0⟩] scope pos) (tComp wi cap g te):=by
 intro pins s σ H Q I h
 rw[eval_ListComp]
 refine wpAny_comprehension_free (use:=none) rfl hs (kcr S I) S.kind S.names (thn (hi pins s σ H _ I h) fun v s1 h1=>thn h1 fun itv s2 h2=>?_)
 obtain⟨it,fp,tn,J,H2,e,I2,T,st2,f2,W,⟨m0,w0⟩,turn⟩:=h2
 subst e
 refine kdg (RR:=fun acc C=>compPost (model X.prog X.w) X.A X.xe none (EP X pins σ Q) acc C) S hc hg (fun _ _ _ _=>kis) he I2 T st2 f2 W w0 (kfQ turn) fun D C H' s' m B fC hCD hm q=>?_
 obtain⟨c0,c1,c2,c3,c4,c5⟩:=fC
 exact⟨m,hm,fun h' hs'=>⟨.ref D,H',B.turned (t':=s'.toks) (fun b o hb e=>(hs'.2 b hb).trans e) c0 c1 c3 c4 c5,rfl,q⟩⟩
theorem keT{wi:TI}{i:Nat}{y:Str}{py spos:Pos}(S:CompScope X scope N cap)(hc:X.calm=true)(hi:PI X tg iter wi)(hg:∀fp s H C,PG (cxC X scope N fp s H C) tg g)(he:∀fp s H C,PE (cxC X scope N fp s H C) elt te)
  (hA:PG X (.Name y py) (gName i)) (hsw:swapsWith (.ListComp elt [⟨tg,iter,[],0⟩] scope pos) (some (.Name y py)) spos.line X.env=pure true:=by rfl)
  (hs:∀x,foldedSetIterable iter X.env x=pure x:=by intro _;rfl):PS X (.Assign [.Name y py] (.ListComp elt [⟨tg,iter,[],0⟩] scope pos) spos) (tAsg (tComp wi cap g te) (gName i)):=by
 intro pins s σ H D I h
 rw[exec_Assign_Name_used _ _ _ _ hsw]
 refine wpAny_bind (wpAny_standAt (wpAny_bind ?_))
 show wpAny _ X.A (do let _ ←comprehension (.ListComp elt [⟨tg,iter,[],0⟩] scope pos) scope X.env _ (newList []) false (eval iter X.env) (some (assign (.Name y py) X.env))) _ _ s
 refine wpAny_bind (wpAny_mono (wpAny_comprehension_free (use:=some (assign (.Name y py) X.env)) (Q:=fun _ s'=>SP X pins D .next s') rfl hs (kcr S I) S.kind S.names
  (thn (hi pins s σ H _ I h) fun v s1 h1=>thn h1 fun itv s2 h2=>?_)) (fun _ s' hq=>wpAny_pure (wpAny_pure hq)) fun _ _ e=>e)
 obtain⟨it,fp,tn,J,H2,e,I2,T,st2,f2,W,⟨m0,w0⟩,turn⟩:=h2
 subst e
 refine kdg (Q:=fun v H'=>gName i v σ H' D.nx) (RR:=fun acc C=>compPost (model X.prog X.w) X.A X.xe (some (assign (.Name y py) X.env)) (fun _ s'=>SP X pins D .next s') acc C) S hc hg (fun _ _ _ _=>kis) he I2 T st2 f2 W w0 (kfQ (Q:=fun v H'=>gName i v σ H' D.nx) turn) fun D' C H' s' m B fC hCD hm q=>?_
 obtain⟨c0,c1,c2,c3,c4,c5⟩:=fC
 obtain⟨oC,es,ep,eC,dC,kC⟩:=hm
 have B':Inv X (pins++[(C,oC)]) σ H' s':=B.pins_of fun p hp=>by
  rcases Jy.mp hp with hp|hp
  ·exact B.pin p (Jt _ hp)
  ·have e:p=(C,oC):=by simpa using hp
   subst e
   exact⟨eC,c0,c1,c2,fun v z=>by rw[dC] at z;cases z⟩
 refine thn (hA _ s' σ H' (.ref D') (.ref D') _ B' rfl q) fun _ s'' ⟨σ2,H3,I3,q3⟩=>?_
 obtain⟨e3,n3,_⟩:=I3.pin (C,oC) (Jt _ (Jt _ (by simp)))
 exact⟨m,⟨oC,es,ep,e3,dC,kC⟩,fun h' hs'=>⟨σ2,H3,I3.unpinned.turned (t':=s''.toks) (fun b o hb e=>(hs'.2 b hb).trans e) n3 c1 c3 c4 c5,q3⟩⟩
end
section
variable {g:TG} {te:TE} {σ:St} {H:Hp} {R:List V→Hp→Addr→Prop}
theorem kaY{K:UQ}{a:Addr}{xs:List V}(Pv:Nat→St→List V→Hp→Prop)(h0:Pv 0 σ [] H)(hz:xs.length≤sizeLine)(hl:∀i σ ys H,i≤xs.length→Pv i σ ys H→SqL K H a xs∧ys.length=i)
  (hs:∀i x σ ys H,xs[i]?=some x→Pv i σ ys H→g x σ H fun σ2 H2=>te σ2 H2 fun y H3=>Pv (i+1) σ2 (ys++[y]) H3) (hd:∀σ ys H,Pv xs.length σ ys H→∀D,H D=none→R ys H D):
  ∃ W:Nat→Nat→St→List V→Hp→Prop,(∃m,W 0 m σ [] H)∧∀i m σ' ys H',W i m σ' ys H'→
   ((Itl K a).stop i H'∧∀D,H' D=none→R ys H' D)∨((Itl K a).go i H'∧ys.length<sizeLine∧∃N:St→V→Hp→Prop,(∀σ2 y H4,N σ2 y H4→∃m',m'<m∧W (i+1) m' σ2 (ys++[y]) H4)∧
    ∀x H2,(Itl K a).yld i H' x H2→g x σ' H2 fun σ2 H3=>te σ2 H3 (N σ2)):=by
 refine⟨fun i m σ ys H=>m=xs.length-i∧i≤xs.length∧Pv i σ ys H,⟨xs.length,by simp,Jk _,h0⟩,?_⟩
 rintro i m σ ys H ⟨rfl,hi,p⟩
 obtain⟨q,el⟩:=hl i σ ys H hi p
 by_cases hlt:i<xs.length
 ·refine .inr ⟨⟨xs,xs[i],q,by simp[hlt]⟩,by omega,fun σ2 y H3=>Pv (i+1) σ2 (ys++[y]) H3,fun σ' y H' p'=>⟨xs.length-(i+1),by omega,rfl,hlt,p'⟩,fun x H' yl=>?_⟩
  obtain⟨e,yl⟩:=yl
  subst e
  exact hs i x σ ys _ (yl xs q) p
 ·have e:i=xs.length:=by omega
  subst e
  exact .inl ⟨⟨xs,q,UR _⟩,hd σ ys H p⟩
end
theorem CompScope.plain{X:Cx}{scope:Scope}{N:List Str}(kind:scope.kind=.function)(names:∀x∈scope.names,x.2=.local→scope.names.lookup x.1=some .local)(_:∀x∈scope.names,x.2≠.cell)(nf:∀x∈scope.names,x.2≠.free)(nd:N.Nodup):
  CompScope X scope N (UV N.length none):=by
 refine⟨kind,names,fun x hx hf=>absurd hf (nf x hx),nd,by simp,fun j i x e _=>?_⟩
 rw[Mi] at e
 split at e
 ·cases e
 ·cases e
noncomputable def kkp(scope:Scope)(ns:List (Str×NameKind))(XN N:List Str)(cap:List (Option Nat)):Bool:=
 scope.kind== .function&&scope.names.all (fun x=>!(x.2== .local)||scope.names.lookup x.1==some .local)&&scope.names.all (fun x=>!(x.2== .free)||(ns.lookup x.1==some .cell||ns.lookup x.1==some .free))&&decide N.Nodup&&decide (cap.length=N.length) &&
  (cap.zip N).all fun p=>match p.1 with
   |none=>true
   |some i=>XN[i]? ==some p.2&&scope.names.lookup p.2==some .free&&scope.names.all fun y=>!(y.1==p.2&&y.2== .cell)
def CompScope.of{X:Cx}{scope:Scope}{N:List Str}{cap:List (Option Nat)}(ns:List (Str×NameKind))(XN:List Str)(hn:X.env.scope.names=ns)(hN:X.N=XN)(h:kkp scope ns XN N cap=true):CompScope X scope N cap:=by
 unfold kkp at h
 simp only[Np,decide_eq_true_eq,NH,Mn,Bool.not_eq_true',beq_iff_eq,beq_eq_false_iff_ne] at h
 obtain⟨⟨⟨⟨⟨h1,h2⟩,h3⟩,h4⟩,h5⟩,h6⟩:=h
 refine⟨h1,fun x hx hl=>?_,fun x hx hf=>?_,h4,h5,fun j i x e1 e2=>?_⟩
 ·rcases h2 x hx with q|q
  ·exact absurd hl q
  ·exact q
 ·rw[hn]
  rcases h3 x hx with q|q
  ·exact absurd hf q
  ·exact q
 ·have hz:(cap.zip N)[j]?=some (some i,x):=by
   rw[List.getElem?_zip_eq_some]
   exact⟨e1,e2⟩
  have q:=h6 _ (U1 hz)
  simp only[Np,beq_iff_eq,NH,Bool.not_eq_true',Bool.and_eq_false_iff,beq_eq_false_iff_ne] at q
  obtain⟨⟨q1,q2⟩,q3⟩:=q
  refine⟨by rw[hN];exact q1,q2,fun z=>?_⟩
  rcases q3 _ z with q|q
  ·exact q rfl
  ·exact q rfl
end L2
namespace L2
open PySem PySem.Spec PyProof.Rows
theorem Inv.turnedL{X:Cx}{pins:List (Addr×Obj)}{σ:St}{H:Hp}{s:Shared}{h':Heap}{t':Nat}{ch:List Addr}(I:Inv X pins σ H s)(k:∀b o,b∉ch→s.heap.get? b=some o→h'.get? b=some o)(hf:∀b∈ch,FpOk X pins H b):
  Inv X pins σ H {s with heap:=h',toks:=t'}:=by
 have nch:∀b u,H b=some u→b∉ch:=fun b u e z=>by
  have:=(hf b z).1
  rw[this] at e
  cases e
 refine I.step (g':=s.gens) (d':=s.drawn) (ch:=ch) (fun b hb=>let⟨_,h1,_,h3,h4,h5⟩:=hf b hb;⟨h3,h1,h4,h5⟩) (fun b o _ _ hc e _=>k b o hc e) (fun b o _ _ hc e _=>⟨o.slots,k b o hc e⟩) (fun _ _ _ _ n=>n)
  (fun b o hc e=>⟨o,k b o hc e⟩) (fun _ _ e=>e) (fun _ _ _ e=>e) (fun b ps e=>⟨#[],by rw[e];simp⟩) (fun m hm=>?_) (fun b u e=>?_) I.bare
 ·obtain⟨o,es,ep,ho,r⟩:=hm
  exact⟨o,es,ep,k _ o (fun z=>(hf _ z).2.1 rfl) ho,r⟩
 ·refine(I.hok b u e).stay (fun c v hc q=>k c v ?_ q) (fun _ q=>q) fun _ _ q=>q
  rcases hc with z|z
  ·rw[z];exact nch b u e
  ·exact nch c _ z
noncomputable def Ite(a:Addr):It:=⟨fun i H=>∃xs x,H a=some (.lst xs)∧xs[i]?=some x,fun i H x H'=>∃t y,H t=none∧x=.ref t∧H'=upd H t (.tup [.int i,y])∧∀xs,H a=some (.lst xs)→xs[i]?=some y,fun i H=>∃xs,H a=some (.lst xs)∧xs.length≤i⟩
theorem khR{P:Program}{w:World}{K:UQ}{es:List Expr}{k:Nat}{pos:Pos}(a e it:Addr)(hne:e≠it):Turn P w K (.Tuple es k pos) (Ite a) [e,it] e (fun i h=>(∃old,IsEnum h e it ((i:Nat):Int) old)∧h.IsListIter it a i) where
 mem:=by simp
 obj:=fun i h st b hb=>by
  obtain⟨⟨old,he⟩,o,eo,c,d⟩:=st
  have hb':b=e∨b=it:=by simpa using hb
  rcases hb' with rfl|rfl
  ·exact⟨_,he,fun v z=>by
    have z':Data.fields _=Data.cell v:=z
    cases z'⟩
  ·exact⟨o,eo,fun v z=>by rw[d] at z;cases z⟩
 keep:=fun i h h' st k=>⟨let⟨old,he⟩:=st.1;⟨old,k e (by simp) _ he⟩,st.2.at fun o eo=>k it (by simp) o eo⟩
 item:=by
  intro X hP hw hK hc i pins s σ H E I hf st hg
  subst hP hw hK
  obtain⟨⟨old,he⟩,hit⟩:=st
  obtain⟨xs,x,hq,hx⟩:=hg
  obtain⟨its,n,r,ho,hz⟩:=I.lst hq
  obtain⟨u,hu,ru⟩:=r.get hx
  have hl:s.heap.IsList a its.toArray:=⟨_,ho,rfl,n,rfl⟩
  refine wpAny_pyNext_enum_item he hit hl (x:=u) (by simpa using hu) hne fun h1 heo hit1 ht1 hz1 hk1=>?_
  refine⟨.ref s.heap.objs.size,rfl,wpAny_letOwnedTupleGo_enum heo fun h2 he2 hs2=>?_⟩
  have hs2':Heap.SameBut e h1 h2:=hs2
  have el:e<s.heap.objs.size:=Heap.lt_size he
  have kk:∀b o,b∉[e,it]→s.heap.get? b=some o→h2.get? b=some o:=fun b o hb eo=>by
   have hb':b≠e∧b≠it:=by simpa using hb
   exact(hs2'.2 b hb'.1).trans (hk1 b o hb'.1 hb'.2 eo)
  have I1:Inv X pins σ H {s with heap:=h2,toks:=s.toks+1}:=I.turnedL (ch:=[e,it]) kk hf
  have fr:H s.heap.objs.size=none:=I.hok.fresh (UR _)
  have ft:FpOk X pins H s.heap.objs.size:=I.fpOk (UR _) fr
  have ht2:h2.get? s.heap.objs.size=some {cls:=.type "tuple",data:=.seq #[.int i s.toks,u]}:=(hs2'.2 _ (JC el)).trans ht1
  have I2:Inv X pins σ (upd H s.heap.objs.size (.tup [.int i,x])) {s with heap:=h2,toks:=s.toks+1}:=
   I1.adopt ft I.sz ⟨by show 2≤sizeLine;decide,[.int i s.toks,u], .cons ⟨_,rfl⟩ (.cons ru .nil),_,ht2,rfl,_,rfl⟩
  have hit2:h2.IsListIter it a (i+1):=hit1.extBut hs2'.extBut (Ne.symm hne)
  refine⟨.ref s.heap.objs.size,_,I2,rfl,⟨s.heap.objs.size,x,fr,rfl,rfl,fun ys hy=>by rw[hq] at hy;cases hy;exact hx⟩,⟨⟨u,?_⟩,hit2⟩,fun b hb=>?_⟩
  ·have e1:((i+1:Nat):Int)=(i:Int)+1:=rfl
   rw[e1]
   exact he2
  ·have hbl:b<s.heap.objs.size:=by
    have hb':b=e∨b=it:=by simpa using hb
    rcases hb' with rfl|rfl
    ·exact el
    ·obtain⟨o,eo,_⟩:=hit
     exact Heap.lt_size eo
   rw[kaj (Je hbl)]
   exact(hf b hb).1
 done:=by
  intro X hP hw hK hc i pins s σ H E I hf st hg
  subst hP hw hK
  obtain⟨⟨old,he⟩,hit⟩:=st
  obtain⟨xs,hq,hx⟩:=hg
  obtain⟨its,n,r,ho,hz⟩:=I.lst hq
  have hl:s.heap.IsList a its.toArray:=⟨_,ho,rfl,n,rfl⟩
  have hlen:=r.length
  obtain⟨f0,f1,f2,f3,f4,f5⟩:=hf it (by simp)
  exact wpAny_pyNext_enum_end (I.ok.hd hc) he hit hl (by simp;omega) fun h' eb=>⟨rfl,I.turned (t':=s.toks) (fun b o hb e=>eb b o hb e) f0 f1 f3 f4 f5⟩
 self:=fun _ _ _ _ _ st h=>let⟨_,he⟩:=st.1;wpAny_pyIter_enum he h
section
variable {X:Cx}
noncomputable def iEnum(ta:TA):TI:=fun σ H R=>ta σ H fun vs H1=>∃a xs,vs=[.ref a]∧H1 a=some (.lst xs)∧R (Ite a) H1
theorem kge{es:List Expr}{k:Nat}{tpos:Pos}{e:Expr}{ta:TA}{p pos:Pos}(hg:Gl X "enumerate")(hm:X.mg "enumerate"=none)(ha:PA X [e] ta)(he:starEach [e] X.env=(false,eval e X.env)::starEach [] X.env:=by rfl)
  (hpl:(backTo pos (starEach [] X.env)).any (·.1)=false:=by rfl):PI X (.Tuple es k tpos) (.Call (.Name "enumerate" p) [e] [] pos) (iEnum ta):=by
 intro pins s σ H R I h
 refine Call_ (kcm I hg hm boot_enumerate (PyProof.Rows.callWith_type1 (thn (ha pos pins s σ H _ I h) fun us s1 ⟨vs,H1,I1,r1,q1⟩=>?_) he hpl))
 obtain⟨a,xs,rfl,hq,q⟩:=q1
 obtain⟨u,rfl,rx⟩:=vals1 r1
 cases rx
 obtain⟨its,n,r,ho,hz⟩:=I1.lst hq
 refine call_enumerate_1 ho fun h' he' hit' hsz hk=>wpAny_pyIter_enum he' ?_
 have I2:Inv X pins σ H1 {s1 with heap:=h'}:=I1.kept (t':=s1.toks) hk
 refine⟨s1.heap.objs.size+1,[s1.heap.objs.size+1,s1.heap.objs.size],_,_,H1,rfl,I2,khR a (s1.heap.objs.size+1) s1.heap.objs.size (Nat.succ_ne_self _),⟨⟨_,he'⟩,hit'⟩,fun b hb=>?_,q⟩
 have hb':b=s1.heap.objs.size+1∨b=s1.heap.objs.size:=by simpa using hb
 have hle:s1.heap.objs.size≤b:=by rcases hb' with rfl|rfl <;> omega
 exact I1.fpOk hle (I1.hok.fresh hle)
end
theorem khf{a:Addr}{xs:List V}{g:TG}{tb:TS}{D:Ends}{σ:St}{H:Hp}(Pv:Nat→St→Hp→Prop)(h0:Pv 0 σ H)(hl:∀i σ H,i≤xs.length→Pv i σ H→H a=some (.lst xs))
  (hs:∀i y t σ H,xs[i]?=some y→Pv i σ H→H t=none→g (.ref t) σ (upd H t (.tup [.int (i:Nat),y])) fun σ2 H2=>tb {D with nx:=Pv (i+1),ct:=Pv (i+1),bk:=D.nx} σ2 H2) (hd:∀σ H,Pv xs.length σ H→D.nx σ H):
  ∃W:Nat→Nat→St→Hp→Prop,(∃m,W 0 m σ H)∧∀i m σ H,W i m σ H→
   ((Ite a).stop i H∧D.nx σ H)∨((Ite a).go i H∧∃N:St→Hp→Prop,(∀σ' H',N σ' H'→∃m',m'<m∧W (i+1) m' σ' H')∧∀x H',(Ite a).yld i H x H'→g x σ H' fun σ2 H2=>tb {D with nx:=N,ct:=N,bk:=D.nx} σ2 H2):=by
 refine⟨fun i m σ H=>m=xs.length-i∧i≤xs.length∧Pv i σ H,⟨xs.length,by simp,Jk _,h0⟩,?_⟩
 rintro i m σ H ⟨rfl,hi,p⟩
 have q:=hl i σ H hi p
 by_cases hlt:i<xs.length
 ·refine .inr ⟨⟨xs,xs[i],q,by simp[hlt]⟩,Pv (i+1),fun σ' H' p'=>⟨xs.length-(i+1),by omega,rfl,hlt,p'⟩,fun x H' y=>?_⟩
  obtain⟨t,y,hn,rfl,rfl,hy⟩:=y
  exact hs i y t σ _ (hy xs q) p hn
 ·have e:i=xs.length:=by omega
  subst e
  exact .inl ⟨⟨xs,q,UR _⟩,hd σ H p⟩
section
variable {X:Cx}
end
section
variable {X:Cx}
end
end L2
namespace L2
open PySem PySem.Spec PyProof.Rows
def khD:typeLookup (.type "list_reverseiterator") "__len__"=pure none:=by rw[typeLookup_type,builtinLookup_eq_fast];kernel_rfl
def kjF:typeLookup (.type "list_reverseiterator") "__length_hint__"=pure (some (.builtin "list_reverseiterator.__length_hint__")):=by rw[typeLookup_type,builtinLookup_eq_fast];kernel_rfl
section
variable {prog:Program} {w:World} {A:Around} {E:Value→Shared→Prop} {s:Shared}
theorem kjL{it l:Addr}{i:Int}{Q:Bool→Shared→Prop}(x:s.heap.IsRevIter it l i)(h:Q false s):wpAny (model prog w) A (Builtin.List.listLengthHint (.ref it)) Q E s:=by
 unfold Builtin.List.listLengthHint
 refine wpAny_bind (wpAny_specialOf x.typeIs khD ?_)
 show wpAny _ A (specialOf (Value.ref it) (Str.ofString "__length_hint__") >>= _) _ _ _
 refine wpAny_bind (wpAny_specialOf x.typeIs kjF ?_)
 generalize hid:("list_reverseiterator.__length_hint__" :String)=id0
 wp_delta
 rw[show splitId id0=some ("list_reverseiterator","__length_hint__") from by subst hid;decide +kernel]
 subst hid
 refine wpAny_bind (wpAny_isInstance (T:="list_reverseiterator") (b:=true) x.typeIs (by rw[isSubtype_type];kernel_rfl) ?_)
 refine wpAny_ite_split (fun z=>absurd z (by decide)) (fun _=>?_)
 refine wpAny_ite_split (fun _=>?_) (fun z=>absurd (by decide +kernel) z)
 refine wpAny_ite_split (fun z=>absurd z (by decide +kernel)) (fun _=>wpAny_pure h)
theorem khI{R:Result→Shared→Prop}(hh:A.handled=none){it l S:Addr}{items:Array Value}{res:Value}{c0:Nat}(x:s.heap.IsRevIter it l ((items.size:Int)-1))(hl:s.heap.IsList l items)(hne:l≠it)(hSi:S≠it)(hSl:S≠l)(hz:items.size≤sizeLine)
  (hS:s.heap.get? S=some {cls:=.type "list",data:=.seq #[] c0})
  (hR:∀h' tk acc' c',(∀b o,b≠S→b≠it→s.heap.get? b=some o→h'.get? b=some o)→h'.get? S=some {cls:=.type "list",dict:=none,data:=.seq acc' c',slots:=#[]}→ItemsOf (fun i v=>items[items.size-1-i]?=some v) acc' items.size→
   R (.ok (.ret res)) {s with heap:=h',toks:=tk}):
  wpAny (model prog w) A.in1 (Builtin.List.listExtendWith (.ref S) (.ref it) res)
   (fun fin s'=>match fin with| .done f=>R (.ok f) s'| .again c'=>c'.quiet=true∧codeAny (model prog w) A c' R s') (fun e s'=>R (.error e) s') s:=by
 unfold Builtin.List.listExtendWith
 refine wpAny_bind (wpAny_typeOf x.typeIs ?_)
 have a1:Builtin.List.listSameRef (.ref S) (.ref it)=false:=by simp[Builtin.List.listSameRef,hSi]
 have a2:(Value.type "list_reverseiterator" ==Value.type "list")=false:=by decide
 have a3:(Value.type "list_reverseiterator" ==Value.type "tuple")=false:=by decide
 simp only[a1,a2,a3,Mo,JD,if_false]
 refine wpAny_bind (wpAny_pyIter_revIter x (wpAny_bind (wpAny_holding (kjL x ?_))))
 rw[if_neg (by decide)]
 have W:=(Walks.listRev (prog:=prog) (w:=w) (A:=A.in1) hh it l hne items).toS
 have hSf:S∉[it,l]:=fun hm=>by
  rcases Jd.mp hm with e|hm
  ·exact hSi e
  ·exact hSl (JG.mp hm)
 have st:0≤items.size∧s.heap.IsRevIter it l ((items.size:Int)-1-((0:Nat):Int))∧s.heap.IsList l items:=⟨Jk _,by rw[show(items.size:Int)-1-((0:Nat):Int)=(items.size:Int)-1 by omega];exact x,hl⟩
 refine wpAny_pure ⟨plainId_quiet F.plain_extend_loop _,codeAny_extend_loopS W hz S hSf res items.size 0 s #[] c0 rfl (Jk _) st hS (ItemsOf.nil _) fun s' acc' c' hm hS' hacc=>?_⟩
 rw[Moved.eq_with hm]
 refine hR s'.heap s'.toks acc' c' (fun b o h1 h2 e=>hm.heap b o (fun q=>?_) e) hS' hacc
 rcases Jd.mp q with e|q
 ·exact h1 e
 ·exact h2 (JG.mp q)
theorem kfG{R:Result→Shared→Prop}(hh:A.handled=none){it l S:Addr}{items:Array Value}(x:s.heap.IsRevIter it l ((items.size:Int)-1))(hl:s.heap.IsList l items)(hne:l≠it)(hSi:S≠it)(hSl:S≠l)(hz:items.size≤sizeLine)
  (hS:s.heap.get? S=some {cls:=.type "list",data:=.seq #[]})
  (hR:∀h' tk acc' c',(∀b o,b≠S→b≠it→s.heap.get? b=some o→h'.get? b=some o)→h'.get? S=some {cls:=.type "list",dict:=none,data:=.seq acc' c',slots:=#[]}→ItemsOf (fun i v=>items[items.size-1-i]?=some v) acc' items.size→
   R (.ok (.ret .none)) {s with heap:=h',toks:=tk}):
  wpAny (model prog w) A.in1 (Builtin.«list.__init__» ⟨[.ref S, .ref it],[]⟩)
   (fun fin s'=>match fin with| .done f=>R (.ok f) s'| .again c'=>c'.quiet=true∧codeAny (model prog w) A c' R s') (fun e s'=>R (.error e) s') s:=by
 show wpAny _ A.in1 (do let was ←Builtin.List.listItems (.ref S);Builtin.List.listUpdate (.ref S) (fun _=>#[]);letGo was.toList.reverse;Builtin.List.listExtendWith (.ref S) (.ref it) .none) _ _ s
 refine wpAny_bind ?_
 unfold Builtin.List.listItems
 refine wpAny_bind (wpAny_seqItems hS rfl (wpAny_pure ?_))
 show wpAny _ A.in1 (updateSeq S (fun _=>#[]) >>= fun _=>letGo (#[]:Array Value).toList.reverse >>= fun _=>Builtin.List.listExtendWith (.ref S) (.ref it) .none) _ _ s
 refine wpAny_bind (wpAny_updateSeq hS rfl ?_)
 have g2:=Heap.get?_update_self (Obj.mapSeq (fun _=>(#[]:Array Value))) hS rfl
 have ot:∀b o,b≠S→s.heap.get? b=some o→(s.heap.update S (Obj.mapSeq (fun _=>(#[]:Array Value)))).get? b=some o:=fun b o hb e=>(Heap.get?_update_other _ _ (Ne.symm hb)).trans e
 refine wpAny_bind (wpAny_letGo ?_)
 refine khI hh (x.at fun o e=>ot it o (Ne.symm hSi) e) (hl.at fun o e=>ot l o (Ne.symm hSl) e) hne hSi hSl hz g2 fun h' tk acc' c' hk hS' hacc=>?_
 exact hR h' tk acc' c' (fun b o h1 h2 e=>hk b o h1 h2 (ot b o h1 e)) hS' hacc
theorem kfa{Q:Value→Shared→Prop}(hh:A.handled=none){it l:Addr}{items:Array Value}(x:s.heap.IsRevIter it l ((items.size:Int)-1))(hl:s.heap.IsList l items)(hne:l≠it)(hz:items.size≤sizeLine)
  (hQ:∀h' tk acc' c',(∀b o,b≠it→s.heap.get? b=some o→h'.get? b=some o)→h'.get? s.heap.objs.size=some {cls:=.type "list",dict:=none,data:=.seq acc' c',slots:=#[]}→ItemsOf (fun i v=>items[items.size-1-i]?=some v) acc' items.size→
   Q (.ref s.heap.objs.size) {s with heap:=h',toks:=tk}):wpAny (model prog w) A (call (.type "list") [.ref it]) Q E s:=by
 have il:it<s.heap.objs.size:=by obtain⟨o,e,_⟩:=x;exact Heap.lt_size e
 have ll:l<s.heap.objs.size:=by obtain⟨o,e,_⟩:=hl;exact Heap.lt_size e
 refine callType_codes (Q₁:=fun u s1=>u=.ref s.heap.objs.size∧s1= {s with heap:=s.heap.push {cls:=.type "list",data:=.seq #[]}}) F.called_list (F.typeCall_list_1 _) F.entry_list_init (code_list_new _ ⟨rfl,rfl⟩) fun u s1 q=>?_
 obtain⟨rfl,rfl⟩:=q
 have hS:(s.heap.push {cls:=.type "list",data:=.seq #[]}).get? s.heap.objs.size=some {cls:=.type "list",data:=.seq #[]}:=Heap.get?_push_size _ rfl
 refine⟨⟨_,hS,rfl⟩,F.args_list_init_2 _ _,kfG (A:=A.in1) hh (x.at fun o e=>Heap.get?_push_of_some _ e) (hl.at fun o e=>Heap.get?_push_of_some _ e) hne (JC il) (JC ll) hz hS fun h' tk acc' c' hk hS' hacc=>?_⟩
 exact⟨rfl,hQ h' tk acc' c' (fun b o hb e=>hk b o (Je (Heap.lt_size e)) hb (Heap.get?_push_of_some _ e)) hS' hacc⟩
end
def klg{its:List Value}{acc:Array Value}(h:ItemsOf (fun i v=>its.toArray[its.toArray.size-1-i]?=some v) acc its.toArray.size):acc=its.reverse.toArray:=by
 obtain⟨h1,h2⟩:=h
 apply Array.ext'
 apply Mp
 intro i
 rcases Nat.lt_or_ge i acc.size with hi|hi
 ·have e:=h2 i acc[i] (by simp[hi])
  have hi':i<its.length:=by simpa[h1] using hi
  simp only[Ja,List.getElem?_toArray] at e
  rw[Mq,NL hi]
  show _=its.reverse[i]?
  rw[List.getElem?_reverse hi',e]
 ·rw[Mq,MK hi]
  show _=its.reverse[i]?
  rw[NM (by simpa[h1] using hi)]
section
variable {X:Cx}
noncomputable def kgD(K:UQ)(te:TE):TE:=fun σ H Q=>te σ H fun v H1=>∃a xs,v=.ref a∧SqL K H1 a xs∧∀l,H1 l=none→Q (.ref l) (upd H1 l (.lst xs.reverse))
theorem khw{e:Expr}{te:TE}{p1 p2 pos1 pos2:Pos}(hc:X.calm=true)(h1:Gl X "list")(m1:X.mg "list"=none)(h2:Gl X "reversed")(m2:X.mg "reversed"=none)(he:PE X e te)(s1:starEach [e] X.env=[(false,eval e X.env)]:=by rfl)
  (s2:starEach [.Call (.Name "reversed" p2) [e] [] pos2] X.env=[(false,eval (.Call (.Name "reversed" p2) [e] [] pos2) X.env)]:=by rfl):PE X (.Call (.Name "list" p1) [.Call (.Name "reversed" p2) [e] [] pos2] [] pos1) (kgD X.K te):=by
 intro pins s σ H Q I h
 refine wpAny_Call_Name_kw (kcm I h1 m1 kbP ?_ (by decide) (by decide))
 refine PyProof.Rows.callWith_type1 ?_ s2 rfl
 rw[s2]
 refine Calls.spliced_cons (wpAny_Call_Name_kw (kcm I h2 m2 boot_reversed ?_ (by decide) (by decide)))
 refine PyProof.Rows.callWith_type1 ?_ s1 rfl
 rw[s1]
 refine Calls.spliced_cons (thn (he pins s σ H _ I h) fun u s3 ⟨v,H1,I1,r1,a,xs,ev,hq,q⟩=>Calls.spliced_nil ?_)
 subst ev
 cases r1
 obtain⟨its,r',pl,hz⟩:=I1.list hq
 have hl:=pl.isList
 have hlen:=r'.length
 have al:a<s3.heap.objs.size:=by obtain⟨_,e,_⟩:=hl;exact Heap.lt_size e
 refine call_reversed_list hl (Calls.spliced_nil ?_)
 refine kfa (I1.ok.hd hc) (it:=s3.heap.objs.size) (items:=its.toArray) ⟨_,Heap.get?_push_size _ rfl,rfl,rfl⟩ (hl.push _) (Je al) (by simp;omega) fun h' tk acc' c' hk hS hacc=>?_
 have e:=klg hacc
 subst e
 have hsz:(s3.heap.push (revObj a ((its.toArray.size:Int)-1))).objs.size=s3.heap.objs.size+1:=Heap.size_push ..
 have I2:Inv X pins σ (upd H1 (s3.heap.push (revObj a ((its.toArray.size:Int)-1))).objs.size (.lst xs.reverse)) {s3 with heap:=h',toks:=tk}:=
  I1.laid (fun b o e=>hk b o (Je (Heap.lt_size e)) (Heap.get?_push_of_some _ e)) (by rw[hsz];exact J6 _) (show ObjOk X.prog X.w _ h' _ (.lst xs.reverse) from⟨by rw[NN];exact hz,its.reverse,c',r'.reverse,hS⟩)
 exact⟨.ref _,_,I2,rfl,q _ (I1.hok.fresh (by rw[hsz];exact J6 _))⟩
end
section
variable {X:Cx} {CX:CXT} {k:Nat} {f C:Addr} {fd:FuncData} {ps ks:List Str} {sp:Sp} {E:XK} {x:Str} {p pos:Pos} {e:Expr} {es:List Expr} {kws:List Keyword} {t tk:TA} {g:List Value→List Value→List Value} {gV:List V→List V→List V}
end
end L2
namespace L2
open PySem PySem.Spec PyProof.Rows
noncomputable def kbC(K:UQ):List V→Hp→VK→Prop:=fun xs H Q=>∃p ys,xs=[.ref p]∧(SqL K H p ys∨SqT K H p ys)∧∀l,H l=none→Q (.ref l) (upd H l (.lst ys))
noncomputable def kbd(K:UQ):List V→Hp→VK→Prop:=fun xs H Q=>∃p ys,xs=[.ref p]∧(SqL K H p ys∨SqT K H p ys)∧Q (.int ys.length) H
noncomputable def rSum(K:UQ):List V→Hp→VK→Prop:=fun xs H Q=>∃(p:Addr)(ns:List Int),xs=[.ref p]∧SqL K H p (ns.map V.int)∧Q (.int ns.sum) H
noncomputable def rIsi(K:UQ):List V→Hp→VK→Prop:=fun xs H Q=>∃x c t b,xs=[x,c]∧((∃n,c=.ty n)∨∃a,c=.ref a)∧TyOf K H x t∧U6 K t (cV c)=some b∧Q (.bl b) H
section
variable {X:Cx} {K:UQ} {pos:Pos}
theorem kam{e:Expr}{ta:TE}{f:Str}(he:PE X e ta)(hb:attributeBase e f X.env (eval e X.env)=eval e X.env)(hK:X.K=K:=by rfl):PE X (.Attribute e f pos) (tFld K ta f):=by
 subst hK
 exact klw he hb
theorem kaE{tg l:Expr}{tl:TE}(hl:PE X l tl)(hK:X.K=K:=by rfl):PI X tg l (iList K tl):=by
 subst hK
 exact kkK hl
theorem kbE{es:List Expr}{k:Nat}{t:TGs}{n:Nat}(hc:X.calm=true)(h:PGs X es t)(hK:X.K=K:=by rfl)
  (hn:(assignEach es X.env).length=n:=by rfl) (hst:(assignEach es X.env).findIdx? (·.1)=none:=by rfl):PG X (.Tuple es k pos) (gTup K n t):=by
 subst hK
 exact klr hc h hn hst
theorem kgg{e:Expr}{te:TE}{p1 p2 pos1 pos2:Pos}(hc:X.calm=true)(h1:Gl X "list")(m1:X.mg "list"=none)(h2:Gl X "reversed")(m2:X.mg "reversed"=none)(he:PE X e te)(hK:X.K=K:=by rfl)(s1:starEach [e] X.env=[(false,eval e X.env)]:=by rfl)
  (s2:starEach [.Call (.Name "reversed" p2) [e] [] pos2] X.env=[(false,eval (.Call (.Name "reversed" p2) [e] [] pos2) X.env)]:=by rfl):PE X (.Call (.Name "list" p1) [.Call (.Name "reversed" p2) [e] [] pos2] [] pos1) (kgD K te):=by
 subst hK
 exact khw hc h1 m1 h2 m2 he s1 s2
end
end L2
namespace L2
open PySem PySem.Spec PyProof.Rows
inductive DEq (K:UQ) (H:Hp):Nat→V→V→Prop
 |flat {n:Nat} {x y:V} (fx:flatV x=true) (fy:flatV y=true) (e:eqV x y=true):DEq K H n x y
 |same {n:Nat} (a:Addr):DEq K H n (.ref a) (.ref a)
 |lst {n:Nat} {a b:Addr} {xs ys:List V} (ha:SqL K H a xs) (hb:SqL K H b ys) (hl:xs.length=ys.length) (h:∀(i:Nat)(x y:V),xs[i]?=some x→ys[i]?=some y→DEq K H n x y):DEq K H (n+1) (.ref a) (.ref b)
 |tup {n:Nat} {a b:Addr} {xs ys:List V} (ha:SqT K H a xs) (hb:SqT K H b ys) (hl:xs.length=ys.length) (h:∀(i:Nat)(x y:V),xs[i]?=some x→ys[i]?=some y→DEq K H n x y):DEq K H (n+1) (.ref a) (.ref b)
def DEq.self{K:UQ}{H:Hp}{n:Nat}{x:V}(h:flatV x=true):DEq K H n x x:=.flat h h (kjS h)
def DEq.int{K:UQ}{H:Hp}{n:Nat}(i:Int):DEq K H n (.int i) (.int i):=.self rfl
def DEq.bl{K:UQ}{H:Hp}{n:Nat}(i:Bool):DEq K H n (.bl i) (.bl i):=.self rfl
def DEq.non{K:UQ}{H:Hp}{n:Nat}:DEq K H n .non .non:=.self rfl
def DEq.str{K:UQ}{H:Hp}{n:Nat}(i:Str):DEq K H n (.str i) (.str i):=.self rfl
section
variable {X:Cx}
theorem all_true(n:Nat):(UU n).all (fun _=>true)=true:=by simp
theorem kdp{xs:List V}{us:List Value}(r:Vals xs us){j:Nat}(h:j<us.toArray.size):∃x,xs[j]?=some x∧RelV x us.toArray[j]:=by
 have h':j<us.length:=by simpa using h
 have l:=r.length
 obtain⟨u,e,ru⟩:=r.get (i:=j) (x:=xs[j]'(by omega)) (by simp[show j<xs.length by omega])
 refine⟨xs[j]'(by omega),by simp[show j<xs.length by omega],?_⟩
 have:us.toArray[j]=u:=by
  obtain⟨_,e'⟩:=U0.mp e
  simpa using e'
 rw[this]
 exact ru
theorem kkm{pins:List (Addr×Obj)}{σ:St}{H:Hp}{s:Shared}(I:Inv X pins σ H s){n:Nat}{x y:V}(h:DEq X.K H n x y):∀{A:Around}{u w:Value},A.units+n<cLine→RelV x u→RelV y w→SeqAt.EqAt A s u w true:=by
 induction h with
 |flat fx fy e=>
  intro A u w _ r1 r2
  have:=kiZ (A:=A) (s:=s) r1 r2 fx fy
  rw[e] at this
  exact this
 |same a=>
  intro A u w _ r1 r2
  cases r1
  cases r2
  exact SeqAt.EqAt.same _
 | @lst n a b xs ys ha hb hl h ih=>
  intro A u w hu r1 r2
  cases r1
  cases r2
  by_cases e:a=b
  ·subst e
   exact SeqAt.EqAt.same _
  obtain⟨us,q1,p1,z1⟩:=I.list ha
  obtain⟨ws,q2,p2,z2⟩:=I.list hb
  have l1:=q1.length
  have l2:=q2.length
  have key:=SeqAt.RcAt.lists (A:=A) (e:=fun _=>true) p1.isList p2.isList (by simp;omega) (by omega) fun j h1 h2=>by
   obtain⟨x,e1,g1⟩:=kdp q1 h1
   obtain⟨y,e2,g2⟩:=kdp q2 h2
   exact ih j x y e1 e2 (A:=A.in1) (by show A.units+1+n<cLine;omega) g1 g2
  rw[all_true] at key
  exact SeqAt.EqAt.of_refs e key
 | @tup n a b xs ys ha hb hl h ih=>
  intro A u w hu r1 r2
  cases r1
  cases r2
  by_cases e:a=b
  ·subst e
   exact SeqAt.EqAt.same _
  obtain⟨us,q1,p1,z1⟩:=I.tuple ha
  obtain⟨ws,q2,p2,z2⟩:=I.tuple hb
  have l1:=q1.length
  have l2:=q2.length
  have key:=SeqAt.RcAt.tuples (A:=A) (e:=fun _=>true) p1 p2 (by omega) fun j h1 h2=>by
   obtain⟨x,e1,g1⟩:=kdp q1 h1
   obtain⟨y,e2,g2⟩:=kdp q2 h2
   exact ih j x y e1 e2 (A:=A.in1) (by show A.units+1+n<cLine;omega) g1 g2
  rw[all_true,show(us.toArray.size==ws.toArray.size)=true by simp;omega] at key
  exact SeqAt.EqAt.of_refs e key
noncomputable def klo(K:UQ)(b:Bool):R2:=fun x y H Q=>∃(a c:Addr)(xs ys:List V),x=.ref a∧y=.ref c∧((SqL K H a xs∧SqL K H c ys)∨(SqT K H a xs∧SqT K H c ys))∧xs.length=ys.length∧(∀(i:Nat)(x y:V),xs[i]?=some x→ys[i]?=some y→DEq K H 32 x y)∧Q (.bl b) H
theorem kly(hu:X.A.units+64<cLine):OpR X (compareOp .NotEq) (klo X.K false):=by
 intro pins s σ H x y v u Q I rx ry h
 obtain⟨a,c,xs,ys,rfl,rfl,hq,hl,hd,q⟩:=h
 cases rx
 cases ry
 show wpAny _ _ (richCompare .NotEq (.ref a) (.ref c)) _ _ s
 rcases hq with⟨ha,hb⟩|⟨ha,hb⟩
 ·obtain⟨us,q1,p1,z1⟩:=I.list ha
  obtain⟨ws,q2,p2,z2⟩:=I.list hb
  have l1:=q1.length
  have l2:=q2.length
  refine SeqAt.RcNeAt.lists (e:=fun _=>true) p1.isList p2.isList (by simp;omega) (by omega) (fun j h1 h2=>?_) _ _ _ _ ⟨.bl false,H,I,?_,q⟩
  ·obtain⟨x,e1,g1⟩:=kdp q1 h1
   obtain⟨y,e2,g2⟩:=kdp q2 h2
   exact kkm I (hd j x y e1 e2) (by show X.A.units+1+32<cLine;omega) g1 g2
  ·rw[all_true]
   rfl
 ·obtain⟨us,q1,p1,z1⟩:=I.tuple ha
  obtain⟨ws,q2,p2,z2⟩:=I.tuple hb
  have l1:=q1.length
  have l2:=q2.length
  refine SeqAt.RcNeAt.tuples (e:=fun _=>true) p1 p2 (by omega) (fun j h1 h2=>?_) _ _ _ _ ⟨.bl false,H,I,?_,q⟩
  ·obtain⟨x,e1,g1⟩:=kdp q1 h1
   obtain⟨y,e2,g2⟩:=kdp q2 h2
   exact kkm I (hd j x y e1 e2) (by show X.A.units+1+32<cLine;omega) g1 g2
  ·rw[all_true,show(us.toArray.size==ws.toArray.size)=true by simp;omega]
   rfl
end
noncomputable def Itz(a b:Addr):It:=⟨fun i H=>∃xs ys x y,H a=some (.lst xs)∧H b=some (.lst ys)∧xs[i]?=some x∧ys[i]?=some y,
 fun i H v H'=>∃t x y,H t=none∧v=.ref t∧H'=upd H t (.tup [x,y])∧(∀xs,H a=some (.lst xs)→xs[i]?=some x)∧∀ys,H b=some (.lst ys)→ys[i]?=some y,
 fun i H=>∃xs ys,H a=some (.lst xs)∧H b=some (.lst ys)∧(xs.length≤i∨ys.length≤i)⟩
theorem kjj{P:Program}{w:World}{K:UQ}{es:List Expr}{k:Nat}{pos:Pos}(a b z TI TO i1 i2:Addr)(nd:[z,TI,TO,i1,i2].Nodup):
  Turn P w K (.Tuple es k pos) (Itz a b) [z,TI,TO,i1,i2] z (fun i h=>IsZip h z TI TO .none∧IsPair h TI (.ref i1) (.ref i2)∧(∃u v,IsPair h TO u v)∧h.IsListIter i1 a i∧h.IsListIter i2 b i) where
 mem:=by simp
 obj:=fun i h st b hb=>by
  obtain⟨hz,hI,⟨_,_,hO⟩,⟨o1,e1,_,d1⟩,⟨o2,e2,_,d2⟩⟩:=st
  simp only[Jd,JZ,or_false] at hb
  rcases hb with rfl|rfl|rfl|rfl|rfl
  ·exact⟨_,hz,fun v q=>by cases(show Data.fields _=Data.cell v from q)⟩
  ·exact⟨_,hI,fun v q=>by cases(show Data.seq _ _=Data.cell v from q)⟩
  ·exact⟨_,hO,fun v q=>by cases(show Data.seq _ _=Data.cell v from q)⟩
  ·exact⟨o1,e1,fun v q=>by rw[d1] at q;cases q⟩
  ·exact⟨o2,e2,fun v q=>by rw[d2] at q;cases q⟩
 keep:=fun i h h' st kk=>by
  obtain⟨hz,hI,⟨u,v,hO⟩,h1,h2⟩:=st
  exact⟨kk z (by simp) _ hz,kk TI (by simp) _ hI,⟨u,v,kk TO (by simp) _ hO⟩,h1.at fun o e=>kk i1 (by simp) o e,h2.at fun o e=>kk i2 (by simp) o e⟩
 item:=by
  intro X hP hw hK hc i pins s σ H E I hf st hg
  subst hP hw hK
  obtain⟨hz,hI,⟨u,v,hO⟩,h1,h2⟩:=st
  obtain⟨xs,ys,x,y,ha,hb,hx,hy⟩:=hg
  obtain⟨its1,n1,r1,ho1,_⟩:=I.lst ha
  obtain⟨its2,n2,r2,ho2,_⟩:=I.lst hb
  obtain⟨u1,g1,ru1⟩:=r1.get hx
  obtain⟨u2,g2,ru2⟩:=r2.get hy
  have L1:s.heap.IsList a its1.toArray:=⟨_,ho1,rfl,n1,rfl⟩
  have L2':s.heap.IsList b its2.toArray:=⟨_,ho2,rfl,n2,rfl⟩
  have off:∀{l:Addr}{zs:List V},H l=some (.lst zs)→l∉[z,TI,TO,i1,i2]:=fun {l zs} e m=>by
   have:=(hf l m).1
   rw[this] at e
   cases e
  have oa:=off ha
  have ob:=off hb
  have nd':=nd
  simp only[JJ,Jd,JZ,or_false,not_or,NO,and_true,not_false_eq_true] at nd' oa ob
  obtain⟨⟨nzI,nzO,nz1,nz2⟩,⟨nIO,nI1,nI2⟩,⟨nO1,nO2⟩,n12⟩:=nd'
  have D:ZipApart z TI TO i1 i2 a b:=⟨Ne.symm nzI,Ne.symm nzO,Ne.symm nz1,Ne.symm nz2,nIO,nI1,nI2,nO1,nO2,n12,oa.1,oa.2.2.1,oa.2.2.2.1,oa.2.2.2.2,ob.1,ob.2.2.1,ob.2.2.2.1,ob.2.2.2.2⟩
  refine wpAny_pyNext_zip_item D hz hI hO h1 h2 L1 L2' (x:=u1) (y:=u2) (by simpa using g1) (by simpa using g2) fun h' a1 a2 a3 a4 a5 a6 a7=>?_
  refine⟨.ref s.heap.objs.size,rfl,wpAny_letOwnedTupleGo_zip a1 fun h2' z2 s2=>?_⟩
  have s2':Heap.SameBut z h' h2':=s2
  have zl:z<s.heap.objs.size:=Heap.lt_size hz
  have kk:∀b o,b∉[z,TI,TO,i1,i2]→s.heap.get? b=some o→h2'.get? b=some o:=fun b o hb eo=>by
   simp only[Jd,JZ,or_false,not_or] at hb
   exact(s2'.2 b hb.1).trans (a7 b o hb.1 hb.2.2.1 hb.2.2.2.1 hb.2.2.2.2 eo)
  have I1:Inv X pins σ H {s with heap:=h2',toks:=s.toks}:=I.turnedL (ch:=[z,TI,TO,i1,i2]) kk hf
  have fr:H s.heap.objs.size=none:=I.hok.fresh (UR _)
  have ft:FpOk X pins H s.heap.objs.size:=I.fpOk (UR _) fr
  have t2:h2'.get? s.heap.objs.size=some {cls:=.type "tuple",data:=.seq #[u1,u2]}:=(s2'.2 _ (JC zl)).trans a5
  have I2:Inv X pins σ (upd H s.heap.objs.size (.tup [x,y])) {s with heap:=h2',toks:=s.toks}:=
   I1.adopt ft I.sz ⟨by show 2≤sizeLine;decide,[u1,u2], .cons ru1 (.cons ru2 .nil),_,t2,rfl,_,rfl⟩
  have hI2:IsPair h2' TI (.ref i1) (.ref i2):=(s2'.2 _ (Ne.symm nzI)).trans (a7 TI _ (Ne.symm nzI) nIO nI1 nI2 hI)
  refine⟨.ref s.heap.objs.size,_,I2,rfl,⟨s.heap.objs.size,x,y,fr,rfl,rfl,fun ws e=>by rw[ha] at e;cases e;exact hx,fun ws e=>by rw[hb] at e;cases e;exact hy⟩,
   ⟨z2,hI2,⟨_,_,(s2'.2 _ (Ne.symm nzO)).trans a2⟩,a3.extBut s2'.extBut (Ne.symm nz1),a4.extBut s2'.extBut (Ne.symm nz2)⟩,fun b hb=>?_⟩
  have hbl:b<s.heap.objs.size:=by
   simp only[Jd,JZ,or_false] at hb
   rcases hb with rfl|rfl|rfl|rfl|rfl
   ·exact zl
   ·exact Heap.lt_size hI
   ·exact Heap.lt_size hO
   ·obtain⟨o,e,_⟩:=h1;exact Heap.lt_size e
   ·obtain⟨o,e,_⟩:=h2;exact Heap.lt_size e
  rw[kaj (Je hbl)]
  exact(hf b hb).1
 done:=by
  intro X hP hw hK hc i pins s σ H E I hf st hg
  subst hP hw hK
  obtain⟨hz,hI,⟨u,v,hO⟩,h1,h2⟩:=st
  obtain⟨xs,ys,ha,hb,hx⟩:=hg
  obtain⟨its1,n1,r1,ho1,_⟩:=I.lst ha
  obtain⟨its2,n2,r2,ho2,_⟩:=I.lst hb
  have L1:s.heap.IsList a its1.toArray:=⟨_,ho1,rfl,n1,rfl⟩
  have L2':s.heap.IsList b its2.toArray:=⟨_,ho2,rfl,n2,rfl⟩
  have hlen1:=r1.length
  have hlen2:=r2.length
  have off:∀{l:Addr}{zs:List V},H l=some (.lst zs)→l∉[z,TI,TO,i1,i2]:=fun {l zs} e m=>by
   have:=(hf l m).1
   rw[this] at e
   cases e
  have oa:=off ha
  have ob:=off hb
  have nd':=nd
  simp only[JJ,Jd,JZ,or_false,not_or,NO,and_true,not_false_eq_true] at nd' oa ob
  obtain⟨⟨nzI,nzO,nz1,nz2⟩,⟨nIO,nI1,nI2⟩,⟨nO1,nO2⟩,n12⟩:=nd'
  have D:ZipApart z TI TO i1 i2 a b:=⟨Ne.symm nzI,Ne.symm nzO,Ne.symm nz1,Ne.symm nz2,nIO,nI1,nI2,nO1,nO2,n12,oa.1,oa.2.2.1,oa.2.2.2.1,oa.2.2.2.2,ob.1,ob.2.2.1,ob.2.2.2.1,ob.2.2.2.2⟩
  refine wpAny_pyNext_zip_end (I.ok.hd hc) D hz hI hO h1 h2 L1 L2' ?_ fun h' hk=>⟨rfl,?_⟩
  ·rcases hx with hx|hx
   ·exact .inl (by simp;omega)
   ·exact .inr (by simp;omega)
  ·refine I.turnedL (t':=s.toks) (ch:=[z,TI,TO,i1,i2]) (fun b o hb e=>?_) hf
   simp only[Jd,JZ,or_false,not_or] at hb
   exact hk b o hb.1 hb.2.2.1 hb.2.2.2.1 hb.2.2.2.2 e
 self:=fun _ _ _ _ _ st h=>wpAny_pyIter_zip st.1 h
def kk3(n:Nat):([n+4,n+2,n+3,n,n+1]:List Nat).Nodup:=by
 simp only[JJ,Jd,JZ,or_false,not_or,NO,and_true,not_false_eq_true]
 omega
def kk4{n x:Nat}(h:x∈([n+4,n+2,n+3,n,n+1]:List Nat)):n≤x:=by
 simp only[Jd,JZ,or_false] at h
 omega
section
variable {X:Cx}
noncomputable def iZip(ta:TA):TI:=fun σ H R=>ta σ H fun vs H1=>∃a b xs ys,vs=[.ref a, .ref b]∧H1 a=some (.lst xs)∧H1 b=some (.lst ys)∧R (Itz a b) H1
theorem klN:bootBuiltins "zip"=some (.type "zip"):=by decide +kernel
theorem keV{es:List Expr}{k:Nat}{tpos:Pos}{e1 e2:Expr}{ta:TA}{p pos:Pos}(hg:Gl X "zip")(hm:X.mg "zip"=none)(ha:PA X [e1,e2] ta)(he:starEach [e1,e2] X.env=(false,eval e1 X.env)::starEach [e2] X.env:=by rfl)
  (hpl:(backTo pos (starEach [e2] X.env)).any (·.1)=false:=by rfl):PI X (.Tuple es k tpos) (.Call (.Name "zip" p) [e1,e2] [] pos) (iZip ta):=by
 intro pins s σ H R I h
 refine Call_ (kcm I hg hm klN (PyProof.Rows.callWith_type1 (thn (ha pos pins s σ H _ I h) fun us s1 ⟨vs,H1,I1,r1,q1⟩=>?_) he hpl))
 obtain⟨a,b,xs,ys,rfl,qa,qb,q⟩:=q1
 cases r1 with
 | cons ra rr=>
  cases rr with
  |cons rb rr=>
   cases rr
   cases ra
   cases rb
   obtain⟨its1,n1,_,ho1,_⟩:=I1.lst qa
   obtain⟨its2,n2,_,ho2,_⟩:=I1.lst qb
   refine call_zip_2 (xs:=its1.toArray) (ys:=its2.toArray) ⟨_,ho1,rfl,n1,rfl⟩ ⟨_,ho2,rfl,n2,rfl⟩ fun h' b1 b2 b3 b4 b5 _ hk=>wpAny_pyIter_zip b1 ?_
   have I2:Inv X pins σ H1 {s1 with heap:=h'}:=I1.kept (t':=s1.toks) hk
   refine⟨s1.heap.objs.size+4,[s1.heap.objs.size+4,s1.heap.objs.size+2,s1.heap.objs.size+3,s1.heap.objs.size,s1.heap.objs.size+1],_,_,H1,rfl,I2,kjj a b _ _ _ _ _ (kk3 _),⟨b1,b2,⟨_,_,b3⟩,b4,b5⟩,fun x hx=>?_,q⟩
   have hle:s1.heap.objs.size≤x:=kk4 hx
   exact I1.fpOk hle (I1.hok.fresh hle)
end
theorem kiW{a b:Addr}{xs ys:List V}{g:TG}{tb:TS}{D:Ends}{σ:St}{H:Hp}(Pv:Nat→St→Hp→Prop)(h0:Pv 0 σ H)(hl:∀i σ H,i≤min xs.length ys.length→Pv i σ H→H a=some (.lst xs)∧H b=some (.lst ys))
  (hs:∀i x y t σ H,xs[i]?=some x→ys[i]?=some y→Pv i σ H→H t=none→g (.ref t) σ (upd H t (.tup [x,y])) fun σ2 H2=>tb {D with nx:=Pv (i+1),ct:=Pv (i+1),bk:=D.nx} σ2 H2) (hd:∀σ H,Pv (min xs.length ys.length) σ H→D.nx σ H):
  ∃W:Nat→Nat→St→Hp→Prop,(∃m,W 0 m σ H)∧∀i m σ H,W i m σ H→
   ((Itz a b).stop i H∧D.nx σ H)∨((Itz a b).go i H∧∃N:St→Hp→Prop,(∀σ' H',N σ' H'→∃m',m'<m∧W (i+1) m' σ' H')∧∀x H',(Itz a b).yld i H x H'→g x σ H' fun σ2 H2=>tb {D with nx:=N,ct:=N,bk:=D.nx} σ2 H2):=by
 refine⟨fun i m σ H=>m=min xs.length ys.length-i∧i≤min xs.length ys.length∧Pv i σ H,⟨min xs.length ys.length,by simp,Jk _,h0⟩,?_⟩
 rintro i m σ H ⟨rfl,hi,p⟩
 obtain⟨q1,q2⟩:=hl i σ H hi p
 by_cases hlt:i<min xs.length ys.length
 ·refine .inr ⟨⟨xs,ys,xs[i]'(by omega),ys[i]'(by omega),q1,q2,by simp[show i<xs.length by omega],by simp[show i<ys.length by omega]⟩,Pv (i+1),fun σ' H' p'=>⟨min xs.length ys.length-(i+1),by omega,rfl,hlt,p'⟩,fun x H' y=>?_⟩
  obtain⟨t,x,y,hn,rfl,rfl,h1,h2⟩:=y
  exact hs i x y t σ _ (h1 _ q1) (h2 _ q2) p hn
 ·have e:i=min xs.length ys.length:=by omega
  refine .inl ⟨⟨xs,ys,q1,q2,by omega⟩,?_⟩
  rw[e] at p
  exact hd σ H p
theorem khl{a b:Addr}{xs ys:List V}{g:TG}{te:TE}{σ:St}{H:Hp}{R:List V→Hp→Addr→Prop}(Pv:Nat→St→List V→Hp→Prop)(h0:Pv 0 σ [] H)(hz:min xs.length ys.length≤sizeLine)(hl:∀i σ zs H,i≤min xs.length ys.length→Pv i σ zs H→H a=some (.lst xs)∧H b=some (.lst ys)∧zs.length=i)
  (hs:∀i x y t σ zs H,xs[i]?=some x→ys[i]?=some y→Pv i σ zs H→H t=none→g (.ref t) σ (upd H t (.tup [x,y])) fun σ2 H2=>te σ2 H2 fun z H3=>Pv (i+1) σ2 (zs++[z]) H3) (hd:∀σ zs H,Pv (min xs.length ys.length) σ zs H→∀D,H D=none→R zs H D):
  ∃ W:Nat→Nat→St→List V→Hp→Prop,(∃m,W 0 m σ [] H)∧∀i m σ' zs H',W i m σ' zs H'→
   ((Itz a b).stop i H'∧∀D,H' D=none→R zs H' D)∨((Itz a b).go i H'∧zs.length<sizeLine∧∃N:St→V→Hp→Prop,(∀σ2 y H4,N σ2 y H4→∃m',m'<m∧W (i+1) m' σ2 (zs++[y]) H4)∧
    ∀x H2,(Itz a b).yld i H' x H2→g x σ' H2 fun σ2 H3=>te σ2 H3 (N σ2)):=by
 refine⟨fun i m σ zs H=>m=min xs.length ys.length-i∧i≤min xs.length ys.length∧Pv i σ zs H,⟨min xs.length ys.length,by simp,Jk _,h0⟩,?_⟩
 rintro i m σ zs H ⟨rfl,hi,p⟩
 obtain⟨q1,q2,el⟩:=hl i σ zs H hi p
 by_cases hlt:i<min xs.length ys.length
 ·refine .inr ⟨⟨xs,ys,xs[i]'(by omega),ys[i]'(by omega),q1,q2,by simp[show i<xs.length by omega],by simp[show i<ys.length by omega]⟩,by omega,fun σ2 y H3=>Pv (i+1) σ2 (zs++[y]) H3,fun σ' y H' p'=>⟨min xs.length ys.length-(i+1),by omega,rfl,hlt,p'⟩,fun x H' yl=>?_⟩
  obtain⟨t,x,y,hn,rfl,rfl,h1,h2⟩:=yl
  exact hs i x y t σ zs _ (h1 _ q1) (h2 _ q2) p hn
 ·have e:i=min xs.length ys.length:=by omega
  refine .inl ⟨⟨xs,ys,q1,q2,by omega⟩,?_⟩
  rw[e] at p
  exact hd σ zs H p
end L2
namespace L2
open PySem PySem.Spec PyProof.Rows
section
variable {g:TG} {tt:TT} {te:TE} {σ:St} {H:Hp} {R:List V→Hp→Addr→Prop}
theorem khm{J:It}{n:Nat}(Pv:Nat→St→List V→Hp→Prop)(h0:Pv 0 σ [] H)(hz:n≤sizeLine)(hl:∀i σ ys H,i≤n→Pv i σ ys H→ys.length≤i)(hgo:∀i σ ys H,i<n→Pv i σ ys H→J.go i H)(hst:∀σ ys H,Pv n σ ys H→J.stop n H)
  (hs:∀i σ ys H x H',i<n→Pv i σ ys H→J.yld i H x H'→g x σ H' fun σ2 H2=>tt σ2 H2 fun b H3=>if b=true then te σ2 H3 (fun y H4=>Pv (i+1) σ2 (ys++[y]) H4) else Pv (i+1) σ2 ys H3) (hd:∀σ ys H,Pv n σ ys H→∀D,H D=none→R ys H D):
  ∃ W:Nat→Nat→St→List V→Hp→Prop,(∃m,W 0 m σ [] H)∧∀i m σ' ys H',W i m σ' ys H'→
   (J.stop i H'∧∀D,H' D=none→R ys H' D)∨(J.go i H'∧ys.length<sizeLine∧∃(N:St→V→Hp→Prop)(N0:St→Hp→Prop),(∀σ2 y H4,N σ2 y H4→∃m',m'<m∧W (i+1) m' σ2 (ys++[y]) H4)∧(∀σ2 H4,N0 σ2 H4→∃m',m'<m∧W (i+1) m' σ2 ys H4)∧
    ∀x H2,J.yld i H' x H2→g x σ' H2 fun σ2 H3=>tt σ2 H3 fun b H4=>if b=true then te σ2 H4 (N σ2) else N0 σ2 H4):=by
 refine⟨fun i m σ ys H=>m=n-i∧i≤n∧Pv i σ ys H,⟨n,by simp,Jk _,h0⟩,?_⟩
 rintro i m σ ys H ⟨rfl,hi,p⟩
 have el:=hl i σ ys H hi p
 by_cases hlt:i<n
 ·refine .inr ⟨hgo i σ ys H hlt p,by omega,fun σ2 y H3=>Pv (i+1) σ2 (ys++[y]) H3,fun σ2 H3=>Pv (i+1) σ2 ys H3,fun σ' y H' p'=>⟨n-(i+1),by omega,rfl,hlt,p'⟩,fun σ' H' p'=>⟨n-(i+1),by omega,rfl,hlt,p'⟩,fun x H' yl=>?_⟩
  exact hs i σ ys H x H' hlt p yl
 ·have e:i=n:=by omega
  subst e
  exact .inl ⟨hst σ ys H p,hd σ ys H p⟩
theorem kgw{lo:Int}{n:Nat}(Pv:Nat→St→List V→Hp→Prop)(h0:Pv 0 σ [] H)(hz:n≤sizeLine)(hl:∀i σ ys H,i≤n→Pv i σ ys H→ys.length≤i)
  (hs:∀i σ ys H,i<n→Pv i σ ys H→g (.int (lo+i)) σ H fun σ2 H2=>tt σ2 H2 fun b H3=>if b=true then te σ2 H3 (fun y H4=>Pv (i+1) σ2 (ys++[y]) H4) else Pv (i+1) σ2 ys H3) (hd:∀σ ys H,Pv n σ ys H→∀D,H D=none→R ys H D):
  ∃ W:Nat→Nat→St→List V→Hp→Prop,(∃m,W 0 m σ [] H)∧∀i m σ' ys H',W i m σ' ys H'→
   ((Itr lo n).stop i H'∧∀D,H' D=none→R ys H' D)∨((Itr lo n).go i H'∧ys.length<sizeLine∧∃(N:St→V→Hp→Prop)(N0:St→Hp→Prop),(∀σ2 y H4,N σ2 y H4→∃m',m'<m∧W (i+1) m' σ2 (ys++[y]) H4)∧(∀σ2 H4,N0 σ2 H4→∃m',m'<m∧W (i+1) m' σ2 ys H4)∧
    ∀x H2,(Itr lo n).yld i H' x H2→g x σ' H2 fun σ2 H3=>tt σ2 H3 fun b H4=>if b=true then te σ2 H4 (N σ2) else N0 σ2 H4):=
 khm Pv h0 hz hl (fun _ _ _ _ hi _=>hi) (fun _ _ _ _=>UR _) (fun i σ ys H x H' hi p yl=>by
  obtain⟨e,q⟩:=yl
  subst e q
  exact hs i σ ys _ hi p) hd
theorem khJ{a:Addr}{xs:List V}(Pv:Nat→St→List V→Hp→Prop)(h0:Pv 0 σ [] H)(hz:xs.length≤sizeLine)(hl:∀i σ ys H,i≤xs.length→Pv i σ ys H→H a=some (.lst xs)∧ys.length≤i)
  (hs:∀i y t σ ys H,xs[i]?=some y→Pv i σ ys H→H t=none→g (.ref t) σ (upd H t (.tup [.int (i:Nat),y])) fun σ2 H2=>tt σ2 H2 fun b H3=>if b=true then te σ2 H3 (fun y H4=>Pv (i+1) σ2 (ys++[y]) H4) else Pv (i+1) σ2 ys H3) (hd:∀σ ys H,Pv xs.length σ ys H→∀D,H D=none→R ys H D):
  ∃ W:Nat→Nat→St→List V→Hp→Prop,(∃m,W 0 m σ [] H)∧∀i m σ' ys H',W i m σ' ys H'→
   ((Ite a).stop i H'∧∀D,H' D=none→R ys H' D)∨((Ite a).go i H'∧ys.length<sizeLine∧∃(N:St→V→Hp→Prop)(N0:St→Hp→Prop),(∀σ2 y H4,N σ2 y H4→∃m',m'<m∧W (i+1) m' σ2 (ys++[y]) H4)∧(∀σ2 H4,N0 σ2 H4→∃m',m'<m∧W (i+1) m' σ2 ys H4)∧
    ∀x H2,(Ite a).yld i H' x H2→g x σ' H2 fun σ2 H3=>tt σ2 H3 fun b H4=>if b=true then te σ2 H4 (N σ2) else N0 σ2 H4):=
 khm Pv h0 hz (fun i σ ys H hi p=>(hl i σ ys H hi p).2) (fun i σ ys H hi p=>⟨xs,xs[i],(hl i σ ys H (U3 hi) p).1,by simp[hi]⟩) (fun σ ys H p=>⟨xs,(hl _ σ ys H (UR _) p).1,UR _⟩)
  (fun i σ ys H x H' hi p yl=>by
   obtain⟨t,y,hn,rfl,rfl,hy⟩:=yl
   exact hs i y t σ ys _ (hy xs (hl i σ ys _ (U3 hi) p).1) p hn) hd
end
section
variable {X:Cx}
noncomputable def isI(k:Int):Value→Bool
 | .int a _=>a==k
 |_=>false
theorem kfJ:∀{ns:List Int}{us:List Value},Vals (ns.map V.int) us→∀(j:Nat)(n:Int),ns[j]?=some n→∃t,us[j]?=some (.int n t)
 |[],_,_,j,n,e=>by simp at e
 | m::ns,u::us, .cons r t,j,n,e=>by
  cases j with
  |zero=>
   have e':m=n:=by simpa using e
   subst e'
   obtain⟨t,rfl⟩:=r
   exact⟨t,rfl⟩
  |succ j=>
   obtain⟨q,h⟩:=kfJ t j n (by simpa using e)
   exact⟨q,by simpa using h⟩
end
end L2
namespace L2
open PySem PySem.Spec PyProof.Rows
structure BaseT (K:UQ) (C:Addr) (m:Str) (f:Addr):Prop where
 rd:PySem.W.readsIn K C (.type "type")=true
 ga:Nj K (.ref C) "__getattribute__"=some (some (.builtin "type.__getattribute__"))
 fc:PySem.W.findCls K (.ref C) (.type "type") m=some (.val (.ref f))
section
variable {X:Cx} {CX:CXT} {k:Nat} {f C:Addr} {fd:FuncData} {ps:List Str} {sp:Sp} {dvs:List V} {ds:List Value} {E:XK} {x m:Str} {p pos apos:Pos} {e o:Expr} {es:List Expr} {ta:TE} {t:TA}
theorem kdT{pl:Sem Bool}(B:BaseT X.K C m f)(F:FnOk X.prog X.w X.K X.mg X.base CX k f fd ps sp)(hr:Room k X.A)(hg:Gl X x)(hm:X.mg x=some (.ref C))(hk:U5 X.K (.ref f)=true)(hb:Binds X.K fd ps ds)(hd:Vals dvs ds)(hx:kc2 CX X E)
  (ha:PA X (e::es) t) (hdb:(x==("__debug__" :Str))=false:=by decide)
  (hst:starEach (e::es) X.env=(false,eval e X.env)::starEach es X.env:=by rfl) (hpl:(backTo pos (starEach es X.env)).any (·.1)=false:=by rfl)
  (ht:eval (.Call (.Attribute (.Name x p) m apos) (e::es) [] pos) X.env=(do
   let ov ←eval (.Name x p) X.env
   standAt apos.atName
   let(f,first) ←holding [ov] (getMethod ov m pl)
   callWith pos f first (backTo pos (starEach (e::es) X.env)) (backToKw pos (keywordEach [] X.env))):=by rfl):
  PE X (.Call (.Attribute (.Name x p) m apos) (e::es) [] pos) (tCall sp dvs E t):=by
 intro pins s σ H Q I h
 refine Mh (pl:=pl) (thn (kc9 (v:=.ref C) hg hm rfl hdb pins s σ H (fun y H1=>y=.ref C∧H1=H) I ⟨rfl,rfl⟩) fun u s1 ⟨y,H1,I1,ry,ey,eH⟩=>?_) ht
 subst ey eH
 obtain rfl:u=Value.ref C:=ry
 refine PySem.W.method_cls I1.kIn B.ga (PySem.W.cls_value I1.kIn B.rd B.fc rfl ?_)
 have I2:=I1.tok (s1.toks+1)
 refine Nk (h₀:=X.base) I.ok.mod.kin hk (thn (ha pos pins _ σ H1 _ I2 h) fun us s2 ⟨vs,H2,I3,r,q2⟩=>⟨I3.kIn,?_⟩) hst hpl
 exact kft F hr hb hd hx I3 r q2
end
def klb:bootBuiltins "tuple"=some (.type "tuple"):=by decide +kernel
def kiK{n j:Nat}(h:j<n):ixN n (j:Int)=some j:=by
 unfold ixN
 rw[if_pos (by omega),if_pos (by omega)]
 simp
section
variable {X:Cx}
end
section
variable {X:Cx}
noncomputable def klI(ta:TA):TI:=fun σ H R=>ta σ H fun vs H1=>∃i j k:Int,vs=[.int i, .int j, .int k]∧(-(2 ^ 31)≤i∧i<2 ^ 31)∧(-(2 ^ 31)≤j∧j<2 ^ 31)∧0<k∧k<2 ^ 30∧R (Its i k (Builtin.Range.rangeSize i j k).toNat) H1
theorem ket{tg a b c:Expr}{ta:TA}{p pos:Pos}(hg:Gl X "range")(hm:X.mg "range"=none)(ha:PA X [a,b,c] ta)(he:starEach [a,b,c] X.env=(false,eval a X.env)::starEach [b,c] X.env:=by rfl)
  (hpl:(backTo pos (starEach [b,c] X.env)).any (·.1)=false:=by rfl):PI X tg (.Call (.Name "range" p) [a,b,c] [] pos) (klI ta):=by
 intro pins s σ H R I h
 refine Call_ (kcm I hg hm boot_range (PyProof.Rows.callWith_type1 (thn (ha pos pins s σ H _ I h) fun us s1 ⟨vs,H1,I1,r1,q1⟩=>?_) he hpl))
 obtain⟨i,j,k,e,hi,hj,hk,hk2,q⟩:=q1
 subst e
 cases r1 with
 | cons r rr=>
  cases rr with
  | cons r' rr=>
   cases rr with
   | cons r'' rr=>
    cases rr
    obtain⟨t,rfl⟩:=r
    obtain⟨t',rfl⟩:=r'
    obtain⟨t'',rfl⟩:=r''
    refine call_range_3 (by omega) ?_ (.inl (PyProof.noPylong_small (by omega)))
    refine wpAny_pyIter_range (IsRange.new ..) (khr hk hk2 hi hj) ?_
    have I2:Inv X pins σ H1 {s1 with heap:=s1.heap.push {cls:=.type "range",data:=.fields #[.int i t, .int j t', .int k t'']},toks:=s1.toks}:=I1.kept fun b o e=>Heap.get?_push_of_some _ e
    have hn:=kfm hk hi hj
    refine⟨(s1.heap.push {cls:=.type "range",data:=.fields #[.int i t, .int j t', .int k t'']}).objs.size,[(s1.heap.push {cls:=.type "range",data:=.fields #[.int i t, .int j t', .int k t'']}).objs.size],_,_,H1,rfl,
     I2.kept (t':=s1.toks) fun b o e=>Heap.get?_push_of_some _ e,khP _ i k (Builtin.Range.rangeSize i j k).toNat,?_,fun b hb=>?_,q⟩
    ·have e1:i+((0:Nat):Int)*k=i:=by simp
     have e2:(((Builtin.Range.rangeSize i j k).toNat:Nat):Int)-((0:Nat):Int)=Builtin.Range.rangeSize i j k:=by omega
     show IsRangeIter _ _ (i+((0:Nat):Int)*k) ((((Builtin.Range.rangeSize i j k).toNat:Nat):Int)-((0:Nat):Int)) k
     rw[e1,e2]
     exact Heap.get?_push_size _ rfl
    ·have e:b=(s1.heap.push {cls:=.type "range",data:=.fields #[.int i t, .int j t', .int k t'']}).objs.size:=by simpa using hb
     subst e
     exact I2.fpOk (UR _) (I2.hok.fresh (UR _))
end
section
variable {g:TG} {te:TE} {σ:St} {H:Hp} {R:List V→Hp→Addr→Prop}
theorem ki5{lo st:Int}{n:Nat}(Pv:Nat→St→List V→Hp→Prop)(h0:Pv 0 σ [] H)(hz:n≤sizeLine)(hl:∀i σ ys H,i≤n→Pv i σ ys H→ys.length=i)
  (hs:∀i σ ys H,i<n→Pv i σ ys H→g (.int (lo+i*st)) σ H fun σ2 H2=>te σ2 H2 fun y H3=>Pv (i+1) σ2 (ys++[y]) H3) (hd:∀σ ys H,Pv n σ ys H→∀D,H D=none→R ys H D):
  ∃ W:Nat→Nat→St→List V→Hp→Prop,(∃m,W 0 m σ [] H)∧∀i m σ' ys H',W i m σ' ys H'→
   ((Its lo st n).stop i H'∧∀D,H' D=none→R ys H' D)∨((Its lo st n).go i H'∧ys.length<sizeLine∧∃N:St→V→Hp→Prop,(∀σ2 y H4,N σ2 y H4→∃m',m'<m∧W (i+1) m' σ2 (ys++[y]) H4)∧
    ∀x H2,(Its lo st n).yld i H' x H2→g x σ' H2 fun σ2 H3=>te σ2 H3 (N σ2)):=by
 refine⟨fun i m σ ys H=>m=n-i∧i≤n∧Pv i σ ys H,⟨n,by simp,Jk _,h0⟩,?_⟩
 rintro i m σ ys H ⟨rfl,hi,p⟩
 have el:=hl i σ ys H hi p
 by_cases hlt:i<n
 ·refine .inr ⟨hlt,by omega,fun σ2 y H3=>Pv (i+1) σ2 (ys++[y]) H3,fun σ' y H' p'=>⟨n-(i+1),by omega,rfl,hlt,p'⟩,fun x H' yl=>?_⟩
  obtain⟨e,yl⟩:=yl
  subst e yl
  exact hs i σ ys _ hlt p
 ·have e:i=n:=by omega
  subst e
  exact .inl ⟨UR _,hd σ ys H p⟩
end
def kf7{L m:Nat}(hm:0<m):(Builtin.Range.rangeSize 0 ((L:Int)-(m:Int)+1) (m:Int)).toNat=L/m:=by
 unfold Builtin.Range.rangeSize
 rw[if_pos (by omega)]
 by_cases h:m≤L
 ·rw[if_pos (by omega),show(L:Int)-(m:Int)+1-0-1=((L-m:Nat):Int) by omega,←Int.natCast_ediv,Nat.div_eq_sub_div hm h]
  generalize (L-m)/m=q
  omega
 ·rw[if_neg (by omega),Nat.div_eq_of_lt (by omega)]
  rfl
end L2
namespace L2
open PySem PySem.Spec PyProof.Rows
inductive Src where
 |p (i:Nat)
 |k (j:Nat)
 |d (v:Value) (x:V)
noncomputable def Src.val(us ws:List Value):Src→Value
 | .p i=>us.getD i .none
 | .k j=>ws.getD j .none
 | .d v _=>v
noncomputable def Src.abs(vs zs:List V):Src→V
 | .p i=>vs.getD i .non
 | .k j=>zs.getD j .non
 | .d _ x=>x
noncomputable def Src.Ok:Src→Prop
 | .d v x=>RelV x v
 |_=>True
section
variable {X:Cx} {CX:CXT} {k:Nat} {f C:Addr} {fd:FuncData} {ps ks:List Str} {sp:Sp} {E:XK} {x:Str} {p pos:Pos} {kws:List Keyword} {tk:TA} {g:List Value→List Value→List Value} {gV:List V→List V→List V}
end
end L2
namespace L2
open PySem PySem.Spec PyProof.Rows
noncomputable def atK(kvs:List (Key×V))(k:Key):Option V:=(kvs.find? fun p=>decide (p.1=k)).map Prod.snd
theorem kgy:∀{kvs:List (Key×V)}{vs:List (Key×Value)},KV kvs vs→∀k,RelO (atK kvs k) (valueAt vs k)
 |_,_, .nil,_=>True.intro
 | p::ps,q::qs, .cons h t,k=>by
  obtain⟨h1,h2⟩:=h
  have ih:=kgy t k
  unfold atK valueAt at *
  by_cases e:p.1=k
  ·have e':q.1=k:=h1.symm.trans e
   simp only[JK,e,e',decide_true,NI]
   exact h2
  ·have e':¬q.1=k:=fun z=>e (h1.trans z)
   simp only[JK,e,e',decide_false]
   exact ih
theorem kvAny:∀{kvs:List (Key×V)}{vs:List (Key×Value)},KV kvs vs→∀k:Key,atK kvs k=none→(vs.any fun p=>decide (p.1=k))=false
 |_,_, .nil,_,_=>rfl
 | p::ps,q::qs, .cons h t,k,hn=>by
  obtain⟨h1,h2⟩:=h
  unfold atK at hn
  by_cases e:p.1=k
  ·simp[JK,e] at hn
  ·have e':¬q.1=k:=fun z=>e (h1.trans z)
   rw[JL,decide_eq_false e',Bool.false_or]
   refine kvAny t k ?_
   unfold atK
   simpa[JK,e] using hn
theorem kkh:∀{kvs:List (Key×V)}{vs:List (Key×Value)},KV kvs vs→∀{k:Key}{y:V}{u:Value},RelV y u→KV (kvs++[(k,y)]) (vs++[(k,u)])
 |_,_, .nil,_,_,_,r=>.cons ⟨rfl,r⟩ .nil
 |_,_, .cons h t,_,_,_,r=>.cons h (kkh t r)
theorem kvLen:∀{kvs:List (Key×V)}{vs:List (Key×Value)},KV kvs vs→kvs.length=vs.length
 |_,_, .nil=>rfl
 |_,_, .cons _ t=>by rw[Jp,Jp,kvLen t]
theorem kkg:∀{kvs:List (Key×V)}{vs:List (Key×Value)},KV kvs vs→Vals (kvs.map Prod.snd) (vs.map Prod.snd)
 |_,_, .nil=>.nil
 |_,_, .cons h t=>.cons h.2 (kkg t)
section
variable {X:Cx}
noncomputable def kli:TE:=fun _ H Q=>∀p,H p=none→Q (.ref p) (upd H p (.dK []))
theorem kjs{pos:Pos}:PE X (.Dict [] [] pos) kli:=fun pins s σ H Q I h=>
 have big:sysModules<s.heap.objs.size:=NJ (by decide) (show mainGlobals<s.heap.objs.size from(I.mod.glob.keeps I.bk).lt)
 wpAny_Dict_empty ⟨.ref s.heap.objs.size,_,I.laid (a:=s.heap.objs.size) (o:=.dK []) (t':=s.toks) (fun _ _ q=>Heap.get?_push_of_some _ q) (UR _)
  (show ObjOk X.prog X.w _ _ _ (.dK []) from⟨Jk _,beq_eq_false_iff_ne.mpr (Ne.symm (Je big)),[], .nil,Heap.DictOf.new _⟩),rfl,h _ (I.hok.fresh (UR _))⟩
noncomputable def rSetd:V→List V→Hp→VK→Prop:=fun x vs H Q=>∃(a:Addr)(kvs:List (Key×V))(i:Int)(y:V),x=.ref a∧vs=[.int i,y]∧H a=some (.dK kvs)∧kvs.length<sizeLine∧(∀v,atK kvs (.inl i)=some v→Q v H)∧(atK kvs (.inl i)=none→Q y (upd H a (.dK (kvs++[(.inl i,y)]))))
theorem ke5:MtM X "dict.setdefault" rSetd:=by
 intro pins s σ H x vs v us Q I rx rv h
 obtain⟨a,kvs,i,y,rfl,rfl,e,hz,h1,h2⟩:=h
 cases rx
 obtain⟨u1,u2,rfl,⟨t,rfl⟩,ru2⟩:=vals2 rv
 obtain⟨z,hd,ws,rel,dd⟩:=(show ObjOk X.prog X.w H s.heap a (.dK kvs) from I.hok a _ e)
 have key:(kcI X.prog X.w).is (Sum.inl i:Key) (.int i t)=true:=kgk _ _ i t
 refine call_meetsIn ML dd.typeIs PySem.F.entry_dict_setdefault (PySem.F.args_dict_setdefault_3 _ _ _) (kt_meets_setdefault (kcI X.prog X.w) a key hd u2)
  ⟨ws,dd,by rw[←kvLen rel];exact z,fun v hv=>?_,fun hn h' dd' hs=>?_⟩
 ·have r:=kgy rel (Sum.inl i)
  rw[hv] at r
  cases ea:atK kvs (Sum.inl i) with
  |none=>rw[ea] at r;exact(show False from r).elim
  |some w'=>
   rw[ea] at r
   exact⟨w',H,I.tok _,r,h1 w' ea⟩
 ·have r:=kgy rel (Sum.inl i)
  rw[hn] at r
  have ea:atK kvs (Sum.inl i)=none:=by
   cases ea:atK kvs (Sum.inl i) with
   |none=>rfl
   |some w'=>rw[ea] at r;exact(show False from r).elim
  have est:stored ws (Sum.inl i:Key) u2=ws++[(Sum.inl i,u2)]:=by
   unfold stored
   rw[kvAny rel _ ea,if_neg UX]
  rw[est] at dd'
  have he:∃q,h'.get? a=some q:=let⟨q,_,_,hq,_⟩:=dd';⟨q,hq⟩
  refine⟨y,_,I.write (x:=a) (e:=a) (by rw[e];exact True.intro) (.inl rfl) (fun b q hb w'=>(hs.2 b hb).trans w') he ?_,ru2,h2 ea⟩
  exact(show ObjOk X.prog X.w _ h' a (.dK (kvs++[(.inl i,y)])) from⟨by rw[U9,Ng];omega,hd,_,kkh rel ru2,dd'⟩)
noncomputable def khS(te:TE):TE:=fun σ H Q=>te σ H fun v H1=>∃(a:Addr)(kvs:List (Key×V)),v=.ref a∧H1 a=some (.dK kvs)∧∀l,H1 l=none→Q (.ref l) (upd H1 l (.lst (kvs.map Prod.snd)))
theorem kgf{e:Expr}{te:TE}{p1 pos1 apos cpos:Pos}(hc:X.calm=true)(h1:Gl X "list")(m1:X.mg "list"=none)(he:PE X e te)
  (hbase:attributeBase e "values" X.env (eval e X.env)=eval e X.env:=by rfl) (hline:(apos.endLine==cpos.line)=true:=by rfl)
  (s2:starEach [.Call (.Attribute e "values" apos) [] [] cpos] X.env=[(false,eval (.Call (.Attribute e "values" apos) [] [] cpos) X.env)]:=by rfl):PE X (.Call (.Name "list" p1) [.Call (.Attribute e "values" apos) [] [] cpos] [] pos1) (khS te):=by
 intro pins s σ H Q I h
 refine wpAny_Call_Name_kw (kcm I h1 m1 kbP ?_ (by decide) (by decide))
 refine PyProof.Rows.callWith_type1 ?_ s2 rfl
 rw[s2]
 refine Calls.spliced_cons (wpAny_Call_method0_late hbase hline (thn (he pins s σ H _ I h) fun u s3 ⟨v,H1,I1,r1,a,kvs,ev,ea,q⟩=>?_))
 subst ev
 cases r1
 obtain⟨t1,t2⟩:=kj1 (T:="dict") (x:=.ref a) (v:=.ref a) I1 rfl (.inr (.inr (.inl ⟨rfl, .inl ⟨kvs,ea⟩⟩)))
 obtain⟨z,hd,ws,rel,dd⟩:=(show ObjOk X.prog X.w H1 s3.heap a (.dK kvs) from I1.hok a _ ea)
 obtain⟨ep,hat⟩:=dd.dictAt
 refine⟨"dict","dict.values",MM,MN,PySem.F.type_dict_values,t1,t2,Calls.callWith_builtin rfl (PySem.evalArgs_none ?_)⟩
 refine call_meetsIn MN dd.typeIs PySem.F.entry_dict_values (PySem.F.args_dict_values_1 _) (meets_dict_values (kcI X.prog X.w) a hd) ⟨⟨ws,dd⟩,Calls.spliced_nil ?_⟩
 refine PySem.W.kdl_call (PySem.W.kdl_values (knd:=kcI X.prog X.w) (kvs:=ws) (ep:=ep)) (I1.ok.hd hc) ⟨⟨_,Heap.get?_push_size _ rfl,rfl,rfl⟩,hat.push _⟩ (by rw[←kvLen rel];exact z) fun h' tk acc' c' hk hS hacc=>?_
 have hv:acc'.toList=ws.map (·.2):=PySem.W.kdl_vals_eq acc'.toList (by rw[Nc];exact hacc.1) fun j v' ej=>hacc.2 j v' (by rw[←Mq];exact ej)
 generalize ho:({cls:=.type "dict_values",data:=.fields #[.ref a]}:Obj)=ob at *
 have hsz:(s3.heap.push ob).objs.size=s3.heap.objs.size+1:=Heap.size_push ..
 have rv:Vals (kvs.map Prod.snd) acc'.toList:=by rw[hv];exact kkg rel
 have I2:Inv X pins σ (upd H1 (s3.heap.push ob).objs.size (.lst (kvs.map Prod.snd))) {s3 with heap:=h',toks:=tk}:=
  I1.laid (fun b o e=>hk b o (Heap.get?_push_of_some _ e)) (by rw[hsz];exact J6 _) (show ObjOk X.prog X.w _ h' _ (.lst (kvs.map Prod.snd)) from⟨by rw[UP];exact z,acc'.toList,c',rv,by simpa using hS⟩)
 exact⟨.ref _,_,I2,rfl,q _ (I1.hok.fresh (by rw[hsz];exact J6 _))⟩
end
end L2
namespace L2
open PySem PySem.Spec PyProof.Rows
section
variable {X:Cx}
noncomputable def rCatS(K:UQ):R2:=fun x y H Q=>∃(l b:Addr)(xs zs:List V),x=.ref l∧y=.ref b∧SqL K H l xs∧SqL K H b zs∧xs.length+zs.length≤sizeLine∧∀p,H p=none→Q (.ref p) (upd H p (.lst (xs++zs)))
theorem kkP:OpR X (binaryOp .Add) (rCatS X.K):=by
 intro pins s σ H x y v u Q I rx ry h
 obtain⟨l,b,xs,zs,rfl,rfl,hl,hb,hz,q⟩:=h
 cases rx
 cases ry
 obtain⟨us,r1,⟨⟨c1,d1,t1,f1⟩,n1,g1,z1,z2,z3⟩,_⟩:=I.list hl
 obtain⟨ws,r2,⟨⟨c2,d2,t2,f2⟩,n2,g2,y1,y2,y3⟩,_⟩:=I.list hb
 have lu:=r1.length
 have lw:=r2.length
 simp only at z1 z2 z3 y1 y2 y3
 subst z1 z2 z3 y1 y2 y3
 refine concat_meets ⟨_,g1,rfl⟩ ⟨_,g2,rfl⟩ noFill_list_add seq_list_add PySem.F.slot_list_add PySem.F.entry_list_add (PySem.F.args_list_add_2 _ _)
  (list_addW l b us.toArray ws.toArray n1 n2 none none f1 f2 (by rw[Ja,Ja];omega)) ⟨g1,g2,?_⟩
 have ea:us.toArray++ws.toArray=(us++ws).toArray:=by simp
 rw[ea]
 exact⟨.ref _,_,I.lnew (t':=s.toks) (r1.append r2) (by rw[U9];omega),rfl,q _ I.fresh⟩
end
end L2
namespace Stb
open PySem PyProof.Rows
noncomputable def T(xs:Array Keyed)(i:Nat):Int:=match xs[i]? with
 |some p=>numOf p.2
 |none=>0
def T_at{xs ys:Array Keyed}{i j:Nat}(h:xs[i]?=ys[j]?):T xs i=T ys j:=by unfold T;rw[h]
noncomputable def Lx(xs:Array Keyed)(i j:Nat):Prop:=K xs i<K xs j∨(K xs i=K xs j∧T xs i<T xs j)
def Lx.trans{xs:Array Keyed}{i j k:Nat}(h:Lx xs i j)(h':Lx xs j k):Lx xs i k:=by unfold Lx at *;omega
def Lx.le{xs:Array Keyed}{i j:Nat}(h:Lx xs i j):K xs i≤K xs j:=by unfold Lx at *;omega
noncomputable def Up(xs:Array Keyed)(k:Nat):Prop:=∀i j,i<j→j<k→Lx xs i j
noncomputable def Dn(xs:Array Keyed)(k:Nat):Prop:=∀i j,i<j→j<k→Lx xs j i
noncomputable def Lat(a₀ xs:Array Keyed)(k:Nat):Prop:=∀i j,i<j→k≤j→j<a₀.size→T xs i<T xs j
def Lat.mono{a₀ xs:Array Keyed}{k k':Nat}(h:Lat a₀ xs k)(hk:k≤k'):Lat a₀ xs k':=fun i j h1 h2 h3=>h i j h1 (by omega) h3
theorem khn{xs:Array Keyed}{src d:Nat}(hs:src<xs.size)(hd:d≤src)(k:Nat):
  ∃k',(K (bubble xs src d) k=K xs k'∧T (bubble xs src d) k=T xs k')∧k'=if k=src-d then src else if src-d<k∧k≤src then k-1 else k:=by
 refine⟨_,?_,rfl⟩
 have e:=getElem?_bubble hs d hd k
 have e':(bubble xs src d)[k]?=xs[if k=src-d then src else if src-d<k∧k≤src then k-1 else k]?:=by
  rw[e]
  split
  ·rfl
  ·split <;> rfl
 exact⟨K_congr e',T_at e'⟩
theorem kcd{xs:Array Keyed}{i j:Nat}(hj:j≤xs.size)(k:Nat):
  ∃k',(K (mirror xs i j ((j-i)/2)) k=K xs k'∧T (mirror xs i j ((j-i)/2)) k=T xs k')∧k'=if i≤k∧k<j then i+j-1-k else k:=by
 refine⟨_,?_,rfl⟩
 have e:=getElem?_mirror_all (i:=i) hj k
 have e':(mirror xs i j ((j-i)/2))[k]?=xs[if i≤k∧k<j then i+j-1-k else k]?:=by
  rw[e]
  split <;> rfl
 exact⟨K_congr e',T_at e'⟩
def kgn{a₀ xs:Array Keyed}{i j k:Nat}(hj:j≤xs.size)(hk:j≤k)(h:Lat a₀ xs k):Lat a₀ (mirror xs i j ((j-i)/2)) k:=by
 intro a b hab hkb hb
 obtain⟨a',⟨_,ea⟩,ha⟩:=kcd (i:=i) hj a
 obtain⟨b',⟨_,eb⟩,hb'⟩:=kcd (i:=i) hj b
 rw[ea,eb]
 rw[if_neg (by omega)] at hb'
 subst hb'
 refine h _ _ ?_ hkb hb
 rw[ha]
 split <;> omega
section
variable {prog:Program} {w:World} {A:Around} {E:Value→Shared→Prop} {s:Shared} {a₀:Array Keyed}
theorem asc{st:SortSt}{a nrem:Nat}{Q:AscSt→SortSt→Prop}(h0:IntKeys a₀)(hn:nrem≤a₀.size)(ha:1≤a)(han:a≤nrem)(hB:SBase a₀ st)(hs:Up (arrOf st) a)(hl:Lat a₀ (arrOf st) a)
  (h:∀n,a≤n→n≤nrem→Up (arrOf st) n→(n=nrem∨K (arrOf st) n<K (arrOf st) (n-1))→Q (none,n) st):wpS (model prog w) A E s (ascLoop a nrem) Q st:=by
 unfold ascLoop
 refine wpS_forRange (I:=fun x c st'=>st'=st∧c=(none,x)∧Up (arrOf st) x) ?turn ?over ⟨rfl,rfl,hs⟩
 case over=>
  rintro c st' ⟨rfl,rfl,u⟩
  rw[show max a nrem=nrem by omega] at u⊢
  exact h nrem han (UR _) u (.inl rfl)
 case turn=>
  rintro x c st' hax hxn ⟨rfl,rfl,u⟩
  dsimp only
  refine wpS_bind (wpS_ltK hB h0 (by omega) (by omega) ?_)
  by_cases c1:K (arrOf st') x<K (arrOf st') (x-1)
  ·simp only[c1,decide_true,if_true]
   exact wpS_pure (h x hax (by omega) u (.inr c1))
  ·simp only[c1,decide_false,JD,if_false]
   refine wpS_pure ⟨rfl,rfl,fun i j hij hj=>?_⟩
   by_cases hjx:j<x
   ·exact u i j hij hjx
   ·have e:j=x:=by omega
    subst e
    have t1:=hl (j-1) j (by omega) hax (by omega)
    have l1:Lx (arrOf st') (j-1) j:=by unfold Lx;omega
    by_cases e2:i=j-1
    ·rw[e2];exact l1
    ·exact(u i (j-1) (by omega) (by omega)).trans l1
theorem tail{st:SortSt}{n nrem:Nat}{Q:Option Nat→SortSt→Prop}(h0:IntKeys a₀)(hn:nrem≤a₀.size)(h1:1≤n)(hnn:n≤nrem)(hB:SBase a₀ st)(hs:Dn (arrOf st) n)(hl:Lat a₀ (arrOf st) n)
  (h:∀m st',SBase a₀ st'→1≤m→m≤nrem→Up (arrOf st') m→Lat a₀ (arrOf st') m→Q (some m) st'):wpS (model prog w) A E s (tail3 n nrem) Q st:=by
 unfold tail3
 have sz:n≤(arrOf st).size:=by rw[hB.size];omega
 refine wpS_bind (wpS_reverse ?_)
 have hB2:SBase a₀ (setArr st (mirror (arrOf st) 0 n ((n-0)/2))):=hB.setArr (mirror_perm _ _ _ _)
 have hl2:Lat a₀ (mirror (arrOf st) 0 n ((n-0)/2)) n:=kgn sz (UR _) hl
 refine wpS_bind (asc h0 hn h1 hnn hB2 ?_ hl2 fun m hm1 hm2 hu _=>wpS_pure (h m _ hB2 (by omega) hm2 hu (hl2.mono hm1)))
 intro i j hij hj
 show Lx (mirror (arrOf st) 0 n ((n-0)/2)) i j
 obtain⟨i',⟨k1,t1⟩,e1⟩:=kcd (i:=0) sz i
 obtain⟨j',⟨k2,t2⟩,e2⟩:=kcd (i:=0) sz j
 rw[if_pos (by omega)] at e1 e2
 have:=hs j' i' (by omega) (by omega)
 unfold Lx at this⊢
 rw[k1,k2,t1,t2]
 exact this
structure Fl (a₀ xs:Array Keyed) (x neq:Nat):Prop where
 few:neq+1≤x
 hd:Dn xs (x-(neq+1))
 cr:∀i j,i<x-(neq+1)→x-(neq+1)≤j→j<x→K xs j<K xs i
 tl:∀i j,x-(neq+1)≤i→i<j→j<x→K xs i=K xs j∧T xs i<T xs j
 lat:Lat a₀ xs x
theorem Fl.turned{xs:Array Keyed}{x neq:Nat}(h:Fl a₀ xs x neq)(hx:x≤xs.size):Dn (mirror xs (x-(neq+1)) x ((x-(x-(neq+1)))/2)) x∧(∀i,i<x→K xs (x-1)≤K (mirror xs (x-(neq+1)) x ((x-(x-(neq+1)))/2)) i)∧Lat a₀ (mirror xs (x-(neq+1)) x ((x-(x-(neq+1)))/2)) x∧
  ∀k,x≤k→K (mirror xs (x-(neq+1)) x ((x-(x-(neq+1)))/2)) k=K xs k:=by
 have hf:=h.few
 refine⟨fun i j hij hj=>?_,fun i hi=>?_,kgn hx (UR _) h.lat,fun k hk=>?_⟩
 ·obtain⟨i',⟨k1,t1⟩,e1⟩:=kcd (i:=x-(neq+1)) hx i
  obtain⟨j',⟨k2,t2⟩,e2⟩:=kcd (i:=x-(neq+1)) hx j
  unfold Lx
  rw[k1,k2,t1,t2]
  by_cases c1:j<x-(neq+1)
  ·rw[if_neg (by omega)] at e1 e2
   subst e1 e2
   exact h.hd i' j' hij c1
  ·rw[if_pos (by omega)] at e2
   by_cases c2:i<x-(neq+1)
   ·rw[if_neg (by omega)] at e1
    subst e1
    exact .inl (h.cr i' j' c2 (by omega) (by omega))
   ·rw[if_pos (by omega)] at e1
    have:=h.tl j' i' (by omega) (by omega) (by omega)
    omega
 ·obtain⟨i',⟨k1,_⟩,e1⟩:=kcd (i:=x-(neq+1)) hx i
  rw[k1]
  by_cases c2:i<x-(neq+1)
  ·rw[if_neg (by omega)] at e1
   subst e1
   have:=h.cr i' (x-1) c2 (by omega) (by omega)
   omega
  ·rw[if_pos (by omega)] at e1
   by_cases c3:i'=x-1
   ·rw[c3];exact Int.le_refl _
   ·have:=h.tl i' (x-1) (by omega) (by omega) (by omega)
    omega
 ·obtain⟨k',⟨k1,_⟩,e1⟩:=kcd (i:=x-(neq+1)) hx k
  rw[if_neg (by omega)] at e1
  rw[k1,e1]
theorem Fl.plain{xs:Array Keyed}{x:Nat}(h:Fl a₀ xs x 0):Dn xs x∧(∀i,i<x→K xs (x-1)≤K xs i):=by
 have hf:=h.few
 refine⟨fun i j hij hj=>?_,fun i hi=>?_⟩
 ·by_cases c1:j<x-(0+1)
  ·exact h.hd i j hij c1
  ·exact .inl (h.cr i j (by omega) (by omega) hj)
 ·by_cases c3:i=x-1
  ·rw[c3];exact Int.le_refl _
  ·have:=h.cr i (x-1) (by omega) (by omega) (by omega)
   omega
theorem Fl.next{xs:Array Keyed}{x:Nat}(hd:Dn xs x)(hk:∀i,i<x→K xs x<K xs i)(hl:Lat a₀ xs x):Fl a₀ xs (x+1) 0:=
 ⟨by omega,fun i j h1 h2=>hd i j h1 (by omega),fun i j h1 h2 h3=>by
  have e:j=x:=by omega
  subst e
  exact hk i (by omega),fun i j h1 h2 h3=>by omega,hl.mono (by omega)⟩
theorem desc{st:SortSt}{n nrem:Nat}{Q:DescSt→SortSt→Prop}(h0:IntKeys a₀)(hn:nrem≤a₀.size)(hnn:n≤nrem)(hB:SBase a₀ st)(hs:Fl a₀ (arrOf st) n 0)
  (h:∀m neq st',SBase a₀ st'→n≤m→m≤nrem→Fl a₀ (arrOf st') m neq→Q (none,m,neq) st'):wpS (model prog w) A E s (descLoop n nrem) Q st:=by
 unfold descLoop
 refine wpS_forRange (I:=fun x c st'=>∃neq,c=(none,x,neq)∧SBase a₀ st'∧Fl a₀ (arrOf st') x neq) ?turn ?over ⟨0,rfl,hB,hs⟩
 case over=>
  rintro c st' ⟨neq,rfl,hB',f⟩
  rw[show max n nrem=nrem by omega] at f⊢
  exact h nrem neq st' hB' hnn (UR _) f
 case turn=>
  rintro x c st' hax hxn ⟨neq,rfl,hB',f⟩
  dsimp only
  have few:=f.few
  have sz:x≤(arrOf st').size:=by rw[hB'.size];omega
  refine wpS_bind (wpS_ltK hB' h0 (by omega) (by omega) ?_)
  by_cases c1:K (arrOf st') x<K (arrOf st') (x-1)
  ·simp only[c1,decide_true,if_true]
   by_cases c2:neq > 0
   ·rw[if_pos c2]
    obtain⟨d1,d2,d3,d4⟩:=f.turned sz
    refine wpS_bind (wpS_reverse (wpS_pure ⟨0,rfl,hB'.setArr (mirror_perm _ _ _ _),Fl.next d1 (fun i hi=>?_) d3⟩))
    have:=d2 i hi
    have e:=d4 x (UR _)
    show K (mirror (arrOf st') _ _ _) x<K (mirror (arrOf st') _ _ _) i
    omega
   ·rw[if_neg c2]
    have e:neq=0:=by omega
    subst e
    obtain⟨d1,d2⟩:=f.plain
    exact wpS_pure ⟨0,rfl,hB',Fl.next d1 (fun i hi=>by have:=d2 i hi;omega) f.lat⟩
  ·simp only[c1,decide_false,JD,if_false]
   refine wpS_bind (wpS_ltK hB' h0 (by omega) (by omega) ?_)
   by_cases c2:K (arrOf st') (x-1)<K (arrOf st') x
   ·simp only[c2,decide_true,if_true]
    exact wpS_pure (h x neq st' hB' hax (by omega) f)
   ·simp only[c2,decide_false,JD,if_false]
    have ek:K (arrOf st') x=K (arrOf st') (x-1):=by omega
    refine wpS_pure ⟨neq+1,rfl,hB',⟨by omega,?_,?_,?_,f.lat.mono (by omega)⟩⟩
    ·rw[show x+1-(neq+1+1)=x-(neq+1) by omega]
     exact f.hd
    ·rw[show x+1-(neq+1+1)=x-(neq+1) by omega]
     intro i j h1 h2 h3
     by_cases c3:j<x
     ·exact f.cr i j h1 h2 c3
     ·have e:j=x:=by omega
      subst e
      rw[ek]
      exact f.cr i (j-1) h1 (by omega) (by omega)
    ·rw[show x+1-(neq+1+1)=x-(neq+1) by omega]
     intro i j h1 h2 h3
     by_cases c3:j<x
     ·exact f.tl i j h1 h2 c3
     ·have e:j=x:=by omega
      subst e
      refine⟨?_,f.lat i j h2 (UR _) (by omega)⟩
      rw[ek]
      by_cases c4:i=j-1
      ·rw[c4]
      ·exact(f.tl i (j-1) h1 (by omega) (by omega)).1
theorem falls{st:SortSt}{n nrem:Nat}{Q:Option Nat→SortSt→Prop}(h0:IntKeys a₀)(hn:nrem≤a₀.size)(hnn:n+1≤nrem)(hB:SBase a₀ st)(hs:Fl a₀ (arrOf st) (n+1) 0)
  (h:∀m st',SBase a₀ st'→1≤m→m≤nrem→Up (arrOf st') m→Lat a₀ (arrOf st') m→Q (some m) st'):wpS (model prog w) A E s (descPart n nrem) Q st:=by
 unfold descPart
 refine wpS_bind (wpS_lift (wpAny_rule ⟨rfl,?_⟩))
 refine wpS_bind (desc h0 hn hnn hB hs fun m neq st' hB' hm1 hm2 f=>?_)
 dsimp only
 have sz:m≤(arrOf st').size:=by rw[hB'.size];omega
 by_cases c2:neq > 0
 ·rw[if_pos c2]
  obtain⟨d1,_,d3,_⟩:=f.turned sz
  exact wpS_bind (wpS_reverse (tail h0 hn (by omega) hm2 (hB'.setArr (mirror_perm _ _ _ _)) d1 d3 h))
 ·rw[if_neg c2]
  have e:neq=0:=by omega
  subst e
  exact tail h0 hn (by omega) hm2 hB' f.plain.1 f.lat h
theorem count{st:SortSt}{nrem:Nat}{Q:Option Nat→SortSt→Prop}(h0:IntKeys a₀)(hn:nrem≤a₀.size)(h1:1≤nrem)(hB:SBase a₀ st)(hl:Lat a₀ (arrOf st) 1)
  (h:∀m st',SBase a₀ st'→1≤m→m≤nrem→Up (arrOf st') m→Lat a₀ (arrOf st') m→Q (some m) st'):wpS (model prog w) A E s (countRun' 0 nrem) Q st:=by
 rw[countRun0_eq]
 refine wpS_bind (asc h0 hn (UR 1) h1 hB (fun i j hij hj=>by omega) hl fun n hn1 hn2 hu hor=>?_)
 dsimp only
 by_cases c1:n=nrem
 ·rw[if_pos (by simpa using c1)]
  exact wpS_pure (h n st hB hn1 hn2 hu (hl.mono hn1))
 ·rw [if_neg (by simpa using c1)]
  have lt:K (arrOf st) n<K (arrOf st) (n-1):=hor.resolve_left c1
  by_cases c2:n > 1
  ·rw [if_pos c2]
   refine wpS_bind (wpS_ltK hB h0 (by omega) (by omega) ?_)
   by_cases c3:K (arrOf st) 0<K (arrOf st) (n-1)
   ·simp only[c3,decide_true,if_true]
    exact wpS_pure (h n st hB hn1 hn2 hu (hl.mono hn1))
   ·simp only[c3,decide_false,JD,if_false]
    have sz:n≤(arrOf st).size:=by rw[hB.size];omega
    have same:∀i,i<n→K (arrOf st) i=K (arrOf st) (n-1):=fun i hi=>by
     by_cases z:i=0
     ·subst z
      have:=(hu 0 (n-1) (by omega) (by omega)).le
      omega
     ·have a1:=(hu 0 i (by omega) hi).le
      by_cases z2:i=n-1
      ·rw[z2]
      ·have a2:=(hu i (n-1) (by omega) (by omega)).le
       omega
    refine wpS_bind (wpS_reverse (falls h0 hn (by omega) (hB.setArr (mirror_perm _ _ _ _)) (Fl.next (fun i j hij hj=>?_) (fun i hi=>?_) (kgn sz (UR _) (hl.mono hn1))) h))
    ·show Lx (mirror (arrOf st) 0 n ((n-0)/2)) j i
     obtain⟨i',⟨k1,t1⟩,e1⟩:=kcd (i:=0) sz i
     obtain⟨j',⟨k2,t2⟩,e2⟩:=kcd (i:=0) sz j
     rw[if_pos (by omega)] at e1 e2
     have:=hu j' i' (by omega) (by omega)
     unfold Lx at this⊢
     rw[k1,k2,t1,t2]
     exact this
    ·show K (mirror (arrOf st) 0 n ((n-0)/2)) n<K (mirror (arrOf st) 0 n ((n-0)/2)) i
     obtain⟨i',⟨k1,_⟩,e1⟩:=kcd (i:=0) sz i
     obtain⟨n',⟨k2,_⟩,e2⟩:=kcd (i:=0) sz n
     rw[if_pos (by omega)] at e1
     rw[if_neg (by omega)] at e2
     subst e2
     rw[k1,k2,same i' (by omega)]
     exact lt
  ·rw[if_neg c2]
   have e:n=1:=by omega
   subst e
   refine falls h0 hn (by omega) hB (Fl.next (fun i j hij hj=>by omega) (fun i hi=>?_) hl) h
   have z:i=0:=by omega
   subst z
   exact lt
theorem insert{st:SortSt}{n ok:Nat}{Q:Bool→SortSt→Prop}(h0:IntKeys a₀)(hn:n≤a₀.size)(h1:1≤ok)(hok:ok≤n)(hB:SBase a₀ st)(hs:Up (arrOf st) ok)(hl:Lat a₀ (arrOf st) ok)
  (h:∀st',SBase a₀ st'→Up (arrOf st') n→Q true st'):wpS (model prog w) A E s (binarySort' 0 n ok) Q st:=by
 rw[binarySort'_eq]
 simp only[Nat.zero_add]
 refine wpS_bind (wpS_mono (wpS_forRange (I:=fun k c st'=>c=(none,())∧SBase a₀ st'∧Up (arrOf st') (min k n)∧Lat a₀ (arrOf st') (min k n)) (Q:=fun c st'=>c=(none,())∧SBase a₀ st'∧Up (arrOf st') n) ?turn ?over ?begin) ?behind)
 case behind=>
  rintro c st' ⟨rfl,hB',hu⟩
  exact wpS_pure (h st' hB' hu)
 case begin=>
  rw[show max ok 1=ok by omega,show min ok n=ok by omega]
  exact⟨rfl,hB,hs,hl⟩
 case over=>
  rintro c st' ⟨hc,hB',hu,_⟩
  refine⟨hc,hB',?_⟩
  rwa [show min (max (max ok 1) n) n=n by omega] at hu
 case turn=>
  rintro k c st' hak hkn ⟨rfl,hB',hu,hla⟩
  rw[show min k n=k by omega] at hu hla
  have hk:k<a₀.size:=by omega
  refine wpS_bind (wpS_mono (wpS_forRange (I:=fun x c st''=>st''=st'∧∃l r,c=(none,l,r)∧l≤r∧r≤k∧r-l≤k-x∧(∀i,i<l→K (arrOf st') i≤K (arrOf st') k)∧(∀i,r≤i→i<k→K (arrOf st') k<K (arrOf st') i))
   (Q:=fun c st''=>st''=st'∧∃l r,c=(none,l,r)∧l≤k∧(∀i,i<l→K (arrOf st') i≤K (arrOf st') k)∧(∀i,l≤i→i<k→K (arrOf st') k<K (arrOf st') i)) ?turn2 ?over2 ?begin2) ?behind2)
  case begin2=>exact⟨rfl,0,k,rfl,by omega,by omega,by omega,fun i hi=>by omega,fun i a b=>by omega⟩
  case over2=>
   rintro c st'' ⟨rfl,l,r,rfl,hlr,hrk,hm,lo,hi⟩
   have e:l=r:=by omega
   subst e
   exact⟨rfl,l,l,rfl,hrk,lo,hi⟩
  case turn2=>
   rintro x c st'' _ hxk ⟨rfl,l,r,rfl,hlr,hrk,hm,lo,hi⟩
   dsimp only
   by_cases c1:l≥r
   ·rw[if_pos c1]
    have e:l=r:=by omega
    subst e
    exact wpS_pure ⟨rfl,l,l,rfl,hrk,lo,hi⟩
   ·rw[if_neg c1]
    refine wpS_bind (wpS_ltK hB' h0 hk (by omega) ?_)
    by_cases c2:K (arrOf st'') k<K (arrOf st'') ((l+r)/2)
    ·simp only[c2,decide_true,if_true]
     refine wpS_pure ⟨rfl,l,(l+r)/2,rfl,by omega,by omega,by omega,lo,fun i a b=>?_⟩
     by_cases z:i=(l+r)/2
     ·rw[z];exact c2
     ·exact Int.lt_of_lt_of_le c2 (hu _ _ (by omega) b).le
    ·simp only[c2,decide_false,JD,if_false]
     refine wpS_pure ⟨rfl,(l+r)/2+1,r,rfl,by omega,by omega,by omega,fun i a=>?_,hi⟩
     by_cases z:i=(l+r)/2
     ·rw[z];omega
     ·exact Int.le_trans (hu i ((l+r)/2) (by omega) (by omega)).le (Int.not_lt.mp c2)
  case behind2=>
   rintro c st'' ⟨rfl,l,r,rfl,hlk,lo,hi⟩
   show wpS _ _ _ _ (do moveDown' k l;pure (ForInStep.yield (none,()))) _ _
   rw[moveDown'_eq]
   have hks:k<(arrOf st'').size:=by rw[hB'.size];exact hk
   refine wpS_bind (wpS_modify (wpS_pure ⟨rfl,hB'.setArr (bubble_perm _ _ _),?_,?_⟩))
   ·rw [show min (k+1) n=k+1 by omega]
    intro i j hij hj
    show Lx (bubble (arrOf st'') k (k-l)) i j
    obtain⟨i',⟨k1,t1⟩,e1⟩:=khn hks (show k-l≤k by omega) i
    obtain⟨j',⟨k2,t2⟩,e2⟩:=khn hks (show k-l≤k by omega) j
    rw[show k-(k-l)=l by omega] at e1 e2
    unfold Lx
    rw[k1,k2,t1,t2]
    by_cases z1:i=l
    ·rw[if_pos z1] at e1
     rw[if_neg (by omega),if_pos (by omega)] at e2
     subst e1
     exact .inl (hi j' (by omega) (by omega))
    ·rw[if_neg z1] at e1
     by_cases z2:j=l
     ·rw[if_pos z2] at e2
      rw[if_neg (by omega)] at e1
      subst e2
      have a1:=lo i' (by omega)
      have a2:=hla i' j' (by omega) (UR _) hk
      omega
     ·rw[if_neg z2] at e2
      refine hu i' j' ?_ ?_
      ·rw[e1,e2]
       repeat' split
       all_goals omega
      ·rw[e2]
       split <;> omega
   ·rw[show min (k+1) n=k+1 by omega]
    intro a b hab hkb hb
    show T (bubble (arrOf st'') k (k-l)) a<T (bubble (arrOf st'') k (k-l)) b
    obtain⟨a',⟨_,t1⟩,e1⟩:=khn hks (show k-l≤k by omega) a
    obtain⟨b',⟨_,t2⟩,e2⟩:=khn hks (show k-l≤k by omega) b
    rw[show k-(k-l)=l by omega] at e1 e2
    rw[if_neg (by omega),if_neg (by omega)] at e2
    subst e2
    rw[t1,t2]
    refine hla a' b' ?_ (by omega) hb
    rw[e1]
    repeat' split
    all_goals omega
noncomputable def Done(a₀:Array Keyed)(st:SortSt):Prop:=(arrOf st).Perm a₀∧failedOf st=none∧pendingOf st= #[(0,a₀.size,0)]∧Up (arrOf st) a₀.size
theorem done{st:SortSt}(hB:SBase a₀ st)(hu:Up (arrOf st) a₀.size):Done a₀ (setPending st ((pendingOf st).push (0,a₀.size,0))):=⟨hB.perm,hB.failed,by show(pendingOf st).push _=_;rw[hB.pend];rfl,hu⟩
theorem runs{st:SortSt}{Q:Unit→SortSt→Prop}(h0:IntKeys a₀)(hB:SBase a₀ st)(h2:2≤a₀.size)(h64:a₀.size<64)(hl:Lat a₀ (arrOf st) 1)
  (h:∀st',(arrOf st').Perm a₀→failedOf st'=none→Up (arrOf st') a₀.size→Q () st'):wpS (model prog w) A E s sortRuns' Q st:=by
 rw[sortRuns'_eq]
 refine wpS_bind (wpS_get ?_)
 dsimp only
 have mr:minRun' a₀.size a₀.size 0=a₀.size:=by
  obtain⟨f,hf⟩:∃f,a₀.size=f+1:=⟨a₀.size-1,by omega⟩
  have z:minRun' (f+1) a₀.size 0=a₀.size:=by rw[minRun'_succ,if_pos h64];rfl
  rwa [←hf] at z
 simp only[hB.size,mr]
 refine wpS_bind (wpS_mono (wpS_forRange (I:=fun x c st'=>(x=0∧c=(none,0)∧st'=st)∨(1≤x∧c=(none,a₀.size)∧Done a₀ st')) (Q:=fun c st'=>c=(none,a₀.size)∧Done a₀ st') ?turn ?over (.inl ⟨rfl,rfl,rfl⟩)) ?behind)
 case over=>
  rintro c st' (⟨hx,_,_⟩|⟨_,hc,hD⟩)
  ·omega
  ·exact⟨hc,hD⟩
 case turn=>
  rintro x c st' _ hx (⟨rfl,rfl,rfl⟩|⟨hx1,rfl,hD⟩)
  ·dsimp only
   rw[if_neg (by omega)]
   simp only[Nat.sub_zero,Nq,Nat.zero_add]
   refine wpS_bind (count h0 (UR _) (by omega) hB hl fun m st2 hB2 hm1 hm2 hu2 hl2=>?_)
   dsimp only
   by_cases c1:m<a₀.size
   ·rw[if_pos c1]
    refine wpS_bind (wpS_lift (wpAny_rule ⟨rfl,?_⟩))
    refine wpS_bind (insert h0 (UR _) hm1 hm2 hB2 hu2 hl2 fun st3 hB3 hu3=>?_)
    simp only[Bool.not_true,JD,if_false]
    refine wpS_bind (wpS_get ?_)
    have hb:(pendingOf st3).back?=none:=by rw[hB3.pend];rfl
    rw[hb]
    dsimp only
    exact wpS_bind (wpS_modify (wpS_pure (.inr ⟨by omega,rfl,done hB3 hu3⟩)))
   ·rw[if_neg c1]
    have e:m=a₀.size:=by omega
    subst e
    refine wpS_bind (wpS_get ?_)
    have hb:(pendingOf st2).back?=none:=by rw[hB2.pend];rfl
    rw[hb]
    dsimp only
    exact wpS_bind (wpS_modify (wpS_pure (.inr ⟨by omega,rfl,done hB2 hu2⟩)))
  ·dsimp only
   rw[if_pos (UR _)]
   exact wpS_pure ⟨rfl,hD⟩
 case behind=>
  rintro c st' ⟨rfl,hD⟩
  dsimp only
  refine wpS_bind (wpS_mono (wpS_forRange (I:=fun _ c st''=>st''=st'∧c=(none,())) (Q:=fun c st''=>st''=st'∧c=(none,())) ?_ (fun _ _ z=>z) ⟨rfl,rfl⟩) ?_)
  ·rintro x c st'' _ _ ⟨rfl,rfl⟩
   refine wpS_bind (wpS_get ?_)
   rw[if_pos (by rw[hD.2.2.1];exact UR 1)]
   exact wpS_pure ⟨rfl,rfl⟩
  ·rintro c st'' ⟨rfl,rfl⟩
   exact wpS_pure (h _ hD.1 hD.2.1 hD.2.2.2)
end
end Stb
namespace Stb
open PySem PyProof.Rows
structure SJ (J:Shared→Prop) (n0:Nat):Prop where
 sz:∀s,J s→n0≤s.heap.objs.size
 push:∀s c xs n,J s→J {s with heap:=s.heap.push (seqObj c xs n)}
 upd:∀s b g,J s→n0≤b→J {s with heap:=s.heap.update b (Obj.mapSeq g)}
noncomputable def Tells(J:Shared→Prop)(n0:Nat)(k:Int)(s:Shared)(v:Value)(s':Shared):Prop:=(∃t,v=.int k t)∧J s'∧∀b o,n0≤b→s.heap.get? b=some o→s'.heap.get? b=some o
noncomputable def Rows(keys:Array Value)(vs:List Value)(out:Array Value):Prop:=∃xs:Array Keyed,xs.Perm (keys.zip vs.toArray)∧Up xs xs.size∧out=xs.map (·.2)
section
variable {prog:Program} {w:World} {A:Around} {E:Value→Shared→Prop} {s:Shared} {J:Shared→Prop} {n0:Nat} {a kS:Addr} {vs:List Value} {kz:List Int} {keys:Array Value} {e e1:Nat} {P:PySem.Fin→Shared→Prop}
theorem tailK(S:SJ J n0)(hJ:J s)(hk:s.heap.get? kS=some (seqObj "list" keys e))(ha:s.heap.get? a=some (seqObj "list" #[] e1))(ne:kS≠a)(nk:n0≤kS)(na:n0≤a){st:SortSt}(hz:keys.size≤64)(hp:(arrOf st).Perm (keys.zip vs.toArray))(hu:Up (arrOf st) (arrOf st).size)
  (hf:failedOf st=none) (hv:vs.length≤64) (h:∀h' out c,J {s with heap:=h'}→h'.get? a=some (seqObj "list" out c)→Rows keys vs out→P (.done (.ret .none)) {s with heap:=h'}):wpAny (model prog w) A (ksk_tail a false e1 (.ref kS) st) P E s:=by
 have sz2:(arrOf st).size≤64:=by
  have hvs:vs.toArray.size=vs.length:=by simp
  rw[hp.size_eq,NP]
  omega
 have q1:=Heap.SameBut.update s.heap kS (Obj.mapSeq fun _=>(#[]:Array Value))
 have g1:(s.heap.update kS (Obj.mapSeq fun _=>(#[]:Array Value))).get? a=some (seqObj "list" #[] e1):=(q1.2 a ne.symm).trans ha
 have J1:=S.upd s kS (fun _=>#[]) hJ nk
 have J2:=S.upd _ a (fun _=>(arrOf st).map (·.2)) J1 na
 unfold ksk_tail
 try dsimp only
 refine wpAny_bind (listUpdate_at hk rfl ?_ (by rw[sizeLine_eq];omega) (Jk _))
 refine wpAny_bind (wpAny_letGo ?_)
 refine wpAny_bind (seqEpoch_at g1 rfl ?_)
 refine wpAny_bind (listUpdate_at g1 rfl ?_ (Jk _) (by simp only[JD,if_false,Array.size_map];rw[sizeLine_eq];omega))
 rw[hf]
 simp only[bne_self_eq_false,JD,if_false]
 exact wpAny_pure (h _ _ _ J2 (get?_update_seq g1 fun _=>(arrOf st).map (·.2)) ⟨arrOf st,hp,hu,rfl⟩)
theorem zip_T{keys:Array Value}{vs:List Value}{i:Nat}(hl:keys.size=vs.length):T (keys.zip vs.toArray) i=match vs[i]? with|some v=>numOf v|none=>0:=by
 unfold T
 have hvs:vs.toArray.size=vs.length:=by simp
 cases ev:vs[i]? with
 |none=>
  have hi:vs.length≤i:=N8.mp ev
  have e:(keys.zip vs.toArray)[i]?=none:=MK (by rw[NP];omega)
  rw[e]
 | some v=>
  have hi:i<vs.length:=(U0.mp ev).1
  have hz:i<(keys.zip vs.toArray).size:=by rw[NP];omega
  have ev':vs[i]=v:=by
   rw[JM hi] at ev
   exact Option.some.inj ev
  have e:(keys.zip vs.toArray)[i]?=some (keys[i]'(by omega),vs[i]):=by
   rw[NL hz]
   simp
  rw[e,ev']
theorem endK(S:SJ J n0)(hJ:J s)(hk:s.heap.get? kS=some (seqObj "list" keys e))(ha:s.heap.get? a=some (seqObj "list" #[] e1))(ne:kS≠a)(nk:n0≤kS)(na:n0≤a)(hi:IntsAre keys.toList kz)(hl:keys.size=vs.length)(h64:vs.length<64)
  (up:∀(i j:Nat)(x y:Value),i<j→vs[i]?=some x→vs[j]?=some y→numOf x<numOf y)
  (h:∀h' out c,J {s with heap:=h'}→h'.get? a=some (seqObj "list" out c)→Rows keys vs out→P (.done (.ret .none)) {s with heap:=h'}):wpAny (model prog w) A (ksk_end a false vs.toArray e1 (.ref kS) keys) P E s:=by
 have hvs:vs.toArray.size=vs.length:=by simp
 have zs:(keys.zip vs.toArray).size=vs.length:=by rw[NP];omega
 unfold ksk_end
 try dsimp only
 simp only[JD,if_false]
 by_cases h2:vs.toArray.size<2
 ·rw[if_pos h2,if_pos h2]
  refine wpAny_bind (wpAny_pure ?_)
  rw[StateT.run_pure]
  refine wpAny_bind (wpAny_pure ?_)
  try dsimp only
  refine tailK (st:=SortSt.mk' general' (keys.zip vs.toArray) #[] 7 none) S hJ hk ha ne nk na (by omega) (Array.Perm.refl _) ?_ rfl (by omega) h
  intro i j hij hj
  have hj2:j<(keys.zip vs.toArray).size:=hj
  rw[zs] at hj2
  rw[Ja] at h2
  omega
 ·rw[if_neg h2,if_neg h2]
  rw[Ja] at h2
  rw[ksk_kind hi (by rw[hl];omega)]
  refine wpAny_bind (wpAny_pure ?_)
  have lat:Lat (keys.zip vs.toArray) (keys.zip vs.toArray) 1:=fun i j hij _ hj=>by
   rw[zs] at hj
   rw[zip_T hl,zip_T hl,JM (show i<vs.length by omega),JM hj]
   exact up i j _ _ hij (JM (show i<vs.length by omega)) (JM hj)
  refine wpAny_bind (wpAny_mono (runs (a₀:=keys.zip vs.toArray) (st:=SortSt.mk' oneType' (keys.zip vs.toArray) #[] 7 none) (Q:=fun _ st'=>(arrOf st').Perm (keys.zip vs.toArray)∧failedOf st'=none∧Up (arrOf st') (keys.zip vs.toArray).size)
   (ksk_intKeys hi) ⟨Array.Perm.refl _,rfl,rfl,rfl⟩ (by rw[zs];omega) (by rw[zs];exact h64) lat fun st' b1 b2 b3=>⟨b1,b2,b3⟩) ?_ fun _ _ z=>z)
  rintro⟨⟨⟩,st'⟩ s' ⟨rfl,b1,b2,b3⟩
  try dsimp only
  exact tailK S hJ hk ha ne nk na (by omega) b1 (by rw[b1.size_eq];exact b3) b2 (by omega) h
theorem restK{f:Value}(S:SJ J n0)(hJ:J s)(hk:s.heap.get? kS=some (seqObj "list" #[] 0))(ha:s.heap.get? a=some (seqObj "list" #[] e1))(ne:kS≠a)(nk:n0≤kS)(na:n0≤a)(hl:kz.length=vs.length)(h64:vs.length<64)
  (up:∀(i j:Nat)(x y:Value),i<j→vs[i]?=some x→vs[j]?=some y→numOf x<numOf y)
  (turn:∀(i:Nat)(v:Value)(k:Int),vs[i]?=some v→kz[i]?=some k→∀s',J s'→wpAny (model prog w) A (call f [v]) (Tells J n0 k s') (fun _ _=>False) s')
  (h:∀s' keys out c,J s'→s'.heap.get? a=some (seqObj "list" out c)→IntsAre keys.toList kz→keys.size=vs.length→Rows keys vs out→P (.done (.ret .none)) s'):wpAny (model prog w) A (ksk_rest a f false vs.toArray e1 (.ref kS)) P E s:=by
 unfold ksk_rest
 refine wpAny_bind (wpAny_rule ?_)
 first
  |rw[List.forIn_toArray]
  |rw[←Array.forIn_toList]
 refine wpAny_bind (ksk_fold (fun i s'=>J s'∧∃kA e,s'.heap.get? kS=some (seqObj "list" kA e)∧s'.heap.get? a=some (seqObj "list" #[] e1)∧IntsAre kA.toList (kz.take i)) vs 0 s ⟨hJ,#[],0,hk,ha,by simpa using IntsAre.nil⟩ ?turnP ?doneP)
 case turnP=>
  rintro j x s' hx ⟨J',kA,e,g1,g2,hi⟩
  simp only[Nat.zero_add] at hi⊢
  have hj:j<vs.length:=(U0.mp hx).1
  obtain⟨k,ek⟩:∃k,kz[j]?=some k:=⟨_,JM (by omega)⟩
  have lz:kA.size≤vs.length:=by
   have h1:=hi.length
   rw[Nc,U8] at h1
   omega
  refine wpAny_bind (wpAny_attempt (wpAny_mono (turn j x k hx ek s' J') (fun v s'' hT=>?_) fun _ _ z=>z.elim))
  obtain⟨⟨t,rfl⟩,J2,kp⟩:=hT
  try dsimp only
  have g1':=kp _ _ nk g1
  have g2':=kp _ _ na g2
  have q1:=Heap.SameBut.update s''.heap kS (Obj.mapSeq (·.push (.int k t)))
  refine wpAny_bind (listUpdate_at g1' rfl ?_ (by rw[sizeLine_eq];omega) (UT (NC (Array.size_push ..)) (by rw[sizeLine_eq];omega)))
  have et:kz.take (j+1)=kz.take j++[k]:=by rw[JN,ek];simp
  have ep:(kA.push (Value.int k t)).toList=kA.toList++[Value.int k t]:=by simp
  exact wpAny_pure ⟨rfl,S.upd _ kS _ J2 nk,kA.push (.int k t),_,get?_update_seq g1' (·.push (.int k t)),(q1.2 a ne.symm).trans g2',by rw[ep,et];exact ksk_snoc hi⟩
 case doneP=>
  rintro s' ⟨J',kA,e,g1,g2,hi⟩
  have e3:kz.take (0+vs.length)=kz:=JY (by omega)
  rw[e3] at hi
  have lk:kA.size=vs.length:=by
   have:=hi.length
   rw[Nc] at this
   omega
  try dsimp only
  refine wpAny_bind (listItems_at g1 rfl ?_)
  exact endK S J' g1 g2 ne nk na hi lk h64 up fun h' out c z1 z2 z3=>h _ kA out c z1 z2 hi lk z3
theorem sortK{f:Value}{n:Nat}(S:SJ J n0)(hJ:J s)(ho:s.heap.get? a=some (seqObj "list" vs.toArray n))(na:n0≤a)(hl:kz.length=vs.length)(h64:vs.length<64)
  (up:∀(i j:Nat)(x y:Value),i<j→vs[i]?=some x→vs[j]?=some y→numOf x<numOf y)
  (turn:∀(i:Nat)(v:Value)(k:Int),vs[i]?=some v→kz[i]?=some k→∀s',J s'→wpAny (model prog w) A (call f [v]) (Tells J n0 k s') (fun _ _=>False) s')
  (h:∀s' keys out c,J s'→s'.heap.get? a=some (seqObj "list" out c)→IntsAre keys.toList kz→keys.size=vs.length→Rows keys vs out→P (.done (.ret .none)) s'):wpAny (model prog w) A (ksk_tree a f false) P E s:=by
 have la:a<s.heap.objs.size:=Heap.lt_size ho
 have J1:=S.upd s a (fun _=>#[]) hJ na
 have J2:=S.push _ "tuple" vs.toArray 0 J1
 have J3:=S.push _ "list" #[] 0 J2
 obtain⟨e1,g1⟩:∃e1,(s.heap.update a (Obj.mapSeq fun _=>(#[]:Array Value))).get? a=some (seqObj "list" #[] e1):=⟨_,get?_update_seq ho fun _=>#[]⟩
 have sz:((s.heap.update a (Obj.mapSeq fun _=>(#[]:Array Value))).push (seqObj "tuple" vs.toArray 0)).objs.size=s.heap.objs.size+1:=by rw[size_push',Heap.size_update]
 have n0s:=S.sz s hJ
 unfold ksk_tree
 refine wpAny_bind (listItems_at ho rfl ?_)
 refine wpAny_bind (listUpdate_at ho rfl ?_ (by rw[Ja,sizeLine_eq];omega) (Jk _))
 refine wpAny_bind (seqEpoch_at g1 rfl ?_)
 refine wpAny_bind (wpAny_newTuple ?_ (by show vs.length≤_;rw[sizeLine_eq];omega))
 refine wpAny_bind (wpAny_newList ?_ (Jk _))
 refine wpAny_holding ?_
 refine restK (s:={s with heap:=((s.heap.update a (Obj.mapSeq fun _=>(#[]:Array Value))).push (seqObj "tuple" vs.toArray 0)).push (seqObj "list" #[] 0)}) (kS:=((s.heap.update a (Obj.mapSeq fun _=>(#[]:Array Value))).push (seqObj "tuple" vs.toArray 0)).objs.size)
  S J3 (Heap.get?_push_size _ rfl) (Heap.get?_push_of_some _ (Heap.get?_push_of_some _ g1)) (by rw[sz];exact JC (Nat.lt_succ_of_lt la)) (by rw[sz];omega) na hl h64 up turn h
end
section
variable {prog:Program} {w:World} {A:Around} {E:Value→Shared→Prop} {s:Shared} {J:Shared→Prop} {n0:Nat} {vs:List Value} {kz:List Int} {Q:Value→Shared→Prop}
theorem sortedK{l f:Addr}(S:SJ J n0)(hJ:J s)(hL:s.heap.IsList l vs.toArray)(hl:kz.length=vs.length)(h64:vs.length<64)
  (up:∀(i j:Nat)(x y:Value),i<j→vs[i]?=some x→vs[j]?=some y→numOf x<numOf y)
  (turn:∀(i:Nat)(v:Value)(k:Int),vs[i]?=some v→kz[i]?=some k→∀s',J s'→wpAny (model prog w) A.in1.in1 (call (.ref f) [v]) (Tells J n0 k s') (fun _ _=>False) s')
  (h:∀s' D keys out c,n0≤D→J s'→s'.heap.get? D=some (seqObj "list" out c)→IntsAre keys.toList kz→keys.size=vs.length→Rows keys vs out→Q (.ref D) s'):wpAny (model prog w) A (call (.builtin "sorted") [.ref l] [(Str.ofString "key", .ref f)]) Q E s:=by
 refine call_function_entry_kw kind_sorted plain_sorted entry_sorted (ksk_s1 _ _) ?_
 unfold Builtin.«sorted»
 refine wpAny_bind (m:=checkCount "sorted" 1 1 _) (wpAny_pure ?_)
 refine wpAny_bind (collect_list hL ?_ (by rw[sizeLine_eq];omega))
 refine wpAny_bind (wpAny_newList ?_ (by rw[sizeLine_eq];omega))
 have n0s:=S.sz s hJ
 have J1:=S.push s "list" #[] 0 hJ
 have J2:=S.upd _ s.heap.objs.size (· ++vs.toArray) J1 n0s
 have J3:=S.push _ "list" vs.toArray 0 J2
 have sz:((s.heap.push (seqObj "list" #[] 0)).update s.heap.objs.size (Obj.mapSeq (· ++vs.toArray))).objs.size=s.heap.objs.size+1:=by rw[Heap.size_update,size_push']
 have g1:(((s.heap.push (seqObj "list" #[] 0)).update s.heap.objs.size (Obj.mapSeq (· ++vs.toArray))).push (seqObj "list" vs.toArray 0)).get? (s.heap.objs.size+1)=some (seqObj "list" vs.toArray 0):=by
  rw[←sz]
  exact Heap.get?_push_size _ rfl
 show wpAny _ _ _ _ _ {s with heap:=((s.heap.push (seqObj "list" #[] 0)).update s.heap.objs.size (Obj.mapSeq (· ++vs.toArray))).push (seqObj "list" vs.toArray 0)}
 rw[sz]
 refine wpAny_bind (wpAny_holding (wpAny_call_entry_kw slot_list_sort ⟨_,g1,rfl⟩ entry_list_sort ?inner (ksk_l1 _ _)))
 case inner=>
  show wpAny (model prog w) A.in1.in1 (Builtin.«list.sort» ⟨[.ref (s.heap.objs.size+1)],[(Str.ofString "key", .ref f)]⟩) _ _ _
  rw[ksk_t1]
  refine sortK (s:={s with heap:=((s.heap.push (seqObj "list" #[] 0)).update s.heap.objs.size (Obj.mapSeq (· ++vs.toArray))).push (seqObj "list" vs.toArray 0)}) S J3 g1 (by omega) hl h64 up turn fun s' keys out c z1 z2 z3 z4 z5=>⟨_,rfl,?_⟩
  exact wpAny_pure ⟨_,rfl,h s' _ keys out c (by omega) z1 z2 z3 z4 z5⟩
end
end Stb
namespace L2
open PySem PySem.Spec PyProof.Rows
structure kct (X:Cx) (scope:Scope) (x:Str) (N:List Str) (cap:List (Option Nat)):Prop where
 S:CompScope X scope N (none::cap)
 hd:N[0]?=some x
 par:scope.names.lookup x=some .local
 co:scope.isCoroutine=false
 gen:scope.isGenerator=false
 nocell:∀y∈scope.names,y.2≠.cell
noncomputable abbrev kiG(X:Cx)(scope:Scope)(qual:Str)(L f c:Addr):Env:=PySem.W.envX qual scope L f (.ref c) (closL X.env.cells scope.names [])
noncomputable def cxL(X:Cx)(A:Around)(scope:Scope)(N:List Str)(qual:Str)(f c:Addr)(s:Shared)(H:Hp):Cx:=
 {X with A:=A.deeper (kiG X scope qual s.heap.objs.size f c),N:=N,s₀:=s,H₀:=H,env:=kiG X scope qual s.heap.objs.size f c,outer:=X.stack,stack:=kiG X scope qual s.heap.objs.size f c::X.stack,ex:=[],fn:=fun _=>false,calm:=true,pn:=[],xe:=fun _ _=>False}
section
variable {X:Cx} {A:Around} {scope:Scope} {x:Str} {N:List Str} {cap:List (Option Nat)} {pins:List (Addr×Obj)} {σ:St} {H:Hp} {s s1:Shared} {qual:Str} {f c:Addr}
theorem kcn(S:kct X scope x N cap)(I:Inv X pins σ H s){y:Str}{a:Addr}(h:(closL X.env.cells scope.names []).lookup y=some a):X.env.cells.lookup y=some a:=by
 rcases kc0 _ _ h with⟨h1,h2⟩|h1
 ·obtain⟨a',ea⟩:=I.ok.has y (S.S.free _ h1 rfl)
  rw[ea] at h2
  rw[h2]
  exact ea
 ·cases h1
theorem kkY(S:kct X scope x N cap)(I:Inv X pins σ H s)(hfr:A.frames=some X.stack)(hh:A.handled=none){v:V}{u:Value}(r:RelV v u){h1:Heap}{t:Nat}(hns:h1.Ns s.heap.objs.size fun y=>[(x,u)].reverse.lookup y)(hk:∀b o,s.heap.get? b=some o→h1.get? b=some o):
  Inv (cxL X A scope N qual f c s H) [] (some v::capσ cap σ) H {s with heap:=h1,toks:=t}:=by
 have noA:∀b:Addr,b∉(cxL X A scope N qual f c s H).ex:=fun b z=>absurd (show b∈([]:List Addr) from z) (by simp)
 have od:∀{y:Str}{a:Addr},X.env.cells.lookup y=some a→a<s.heap.objs.size:=fun {y a} h=>let⟨_,q⟩:=I.cell y a h;q.lt
 refine⟨⟨I.ok.mod,S.S.kind,rfl,rfl,UR _,fun y z a e1 e2=>I.ok.inj y z a (kcn S I e1) (kcn S I e2),fun y hy=>?_,fun y a e1 _=>?_,fun _=>hh,Around.frames_deeper hfr, .inr ⟨rfl,rfl⟩,fun b z=>absurd z (noA b),I.bs,UT I.ok.bsz I.sz,fun b _ _=>noA b,fun b z=>absurd z (noA b),I.stack,I.stkFree⟩,
  rfl,I.bare,Un.kept hk,⟨_,hns,fun j y w e1 e2 e3=>?_⟩,fun y a e=>?_,I.hok.fresh (UR _),fun y a e=>I.freeC y a (kcn S I e),fun p hp=>absurd (show p∈([]:List (Addr×Obj)) from hp) (by simp),I.hok.kept hk,?_⟩
 ·have hy':scope.names.lookup y=some .cell∨scope.names.lookup y=some .free:=hy
  rcases hy' with q|q
  ·exact absurd rfl (S.nocell _ (PySem.mem_of_lookup q))
  ·exact kb3 (cells:=X.env.cells) scope.names [] (.inl (PySem.mem_of_lookup q))
 ·cases(show false=true from e1)
 ·cases j with
  | zero=>
   have ex:y=x:=by
    have e1':N[0]?=some y:=e1
    rw[S.hd] at e1'
    exact(Option.some.inj e1').symm
   have ev:w=v:=by
    have e2':some (some v)=some (some w):=e2
    exact(Option.some.inj (Option.some.inj e2')).symm
   subst ex ev
   refine⟨u,r, .inl ⟨S.par,?_⟩⟩
   simp
  | succ j=>
   have e2':(capσ cap σ)[j]?=some (some w):=by simpa using e2
   have e2'':(cap.map fun o=>match o with|some i=>(σ[i]?).getD none|none=>none)[j]?=some (some w):=e2'
   rw[UY] at e2''
   cases ec:cap[j]? with
   |none=>rw[ec] at e2'';cases e2''
   | some oi=>
    rw[ec] at e2''
    cases oi with
    |none=>cases e2''
    | some i=>
     have e4:(σ[i]?).getD none=some w:=Option.some.inj e2''
     have e5: σ[i]?=some (some w):=by
      cases q: σ[i]? with
      |none=>rw[q] at e4;cases e4
      |some w'=>rw[q] at e4;exact congrArg some e4
     obtain⟨q1,hf,_⟩:=S.S.cap (j+1) i y (by simpa using ec) e1
     have hm:=PySem.mem_of_lookup hf
     have q2:=S.S.free _ hm rfl
     obtain⟨mo,_,hl⟩:=I.loc
     obtain⟨u',ru,lk⟩:=hl i y w q1 e5 (.inr q2)
     refine⟨u',ru, .inr ⟨.inr hf,?_⟩⟩
     rcases lk with⟨k1,_⟩|⟨_,a,ea,z⟩
     ·have k1':X.env.scope.names.lookup y=some .local:=k1
      rcases q2 with q2|q2 <;> rw[q2] at k1' <;> cases k1'
     ·obtain⟨a',ea2⟩:=kb3 (cells:=X.env.cells) scope.names [] (.inl hm)
      have e6:=kcn S I ea2
      rw[ea] at e6
      have e7:a=a':=Option.some.inj e6
      subst e7
      obtain⟨oc,ho,hd⟩:=z
      exact⟨a,ea2,oc,hk _ _ ho,hd⟩
 ·obtain⟨w,oc,ho,hd⟩:=I.cell y a (kcn S I e)
  exact⟨w,oc,hk _ _ ho,hd⟩
 ·have:=S.S.len
  show(some v::capσ cap σ).length=N.length
  rw[←this,Jp,Jp]
  unfold capσ
  rw[UP]
theorem kjG{name:Str}{params:Arguments}{body:Expr}{pm ctv:Value}{te:TE}{v:V}{u:Value}{Q:VK}(S:kct X scope x N cap)(I:Inv X pins σ H s)(hfr:A.frames=some X.stack)(hh:A.handled=none)(hdp:A.depth<recursionLimit)
  (ho:s.heap.get? f=some (J8 name qual params body scope (closL X.env.cells scope.names []) pm c ctv)) (hcd:s.heap.CodeRec (.ref c) qual)
  (hbind:bindArgs (Mr name qual params body scope (closL X.env.cells scope.names []) pm (.ref c) ctv) ⟨[u],[]⟩=pure [(x,u)]) (r:RelV v u) (he:PE (cxL X A scope N qual f c s H) body te) (hq:te (some v::capσ cap σ) H Q):
  wpAny (model X.prog X.w) A (call (.ref f) [u]) (fun w' s'=>∃v' H',Inv X pins σ H' s'∧RelV v' w'∧Q v' H'∧Un (frs X.stack) [] H H' s.heap s'.heap∧s.heap.objs.size≤s'.heap.objs.size) (fun _ _=>False) s:=by
 refine wpAny_call (MO hdp ho rfl S.co S.gen rfl hcd ?_)
 rw[hbind]
 refine wpAny_pure (wpAny_newFunctionEnv S.nocell (fun y hy=>?_) (fun h1 hns hsb=>⟨I.nolimit.fresh _ hsb,?_⟩) S.S.kind)
 ·rw[JG] at hy
  subst hy
  exact S.par
 have hk:∀b o,s.heap.get? b=some o→h1.get? b=some o:=fun b o e=>hsb.extBut b o (Je (Heap.lt_size e)) (Heap.get?_push_of_some _ e)
 have J:=kkY (A:=A) (qual:=qual) (f:=f) (c:=c) (t:=s.toks+1) S I hfr hh r hns hk
 refine MP (wpAny_mono (he [] _ _ _ Q J hq) (fun w' s' hw=>?_) fun _ _ z=>z.elim)
 obtain⟨v',H',J',rv,qv⟩:=hw
 exact⟨v',H',I.call' (ch:=[]) J'.os J'.base J'.hok J'.bare (fun b hb=>by simp at hb),rv,qv,J'.base,J'.sz⟩
end
end L2
namespace L2
open PySem PySem.Spec PyProof.Rows
noncomputable def CodeO(c:Addr)(qual:Str):HO:=.ext fun h=>h.CodeRec (.ref c) qual
noncomputable def lamN(p:Pos):Str:=if p.col=38 then "first_use.<locals>.<lambda>" else "falling_groups.<locals>.<lambda>"
def kjH{p p':Pos}(h:p.col=p'.col):lamN p=lamN p':=by unfold lamN;rw[h]
noncomputable def TbAt(P:Addr)(H:Hp):Prop:=∃ps:Array Value,H P=some (.tbl ps)∧TriplesOk ps.toList∧∀pos c,codeAmong pos ps.toList=some c→∃c',c=.ref c'∧H c'=some (CodeO c' (lamN pos))
structure Grew (P:Addr) (H H':Hp):Prop where
 kp:∀b o,b≠P→H b=some o→H' b=some o
 tb:TbAt P H'
theorem kjg{pos:Pos}{a b:Int}{c:Value}(l:List Value)(h:TriplesOk l){x:Value}(e:codeAmong pos (l++[rawInt a,rawInt b,c])=some x):codeAmong pos l=some x∨(x=c∧b=pos.col):=by
 fun_induction TriplesOk l with
 |case1=>
  right
  unfold rawInt codeAmong at e
  simp only[NG] at e
  split at e
  next hc=>exact⟨(Option.some.inj e).symm,by simpa using(Bool.and_eq_true_iff.mp hc).2⟩
  ·simp[codeAmong] at e
 | case2 n t m u d rest ih=>
  simp only[NQ,codeAmong] at e⊢
  split at e
  ·left
   rename_i hc
   rw[if_pos hc]
   exact e
  ·rename_i hc
   rw[if_neg hc]
   exact ih h e
 |case3=>exact h.elim
noncomputable def CodeK(K:UQ)(c P:Addr):Prop:=
 ∃o vs file tf flags tg inF text tt,K.lookup c=some o∧o.cls=.type "code"∧o.data=.fields vs∧vs[11]?=some (.ref P)∧vs.getD 11 .none=.ref P∧vs.getD 18 .none=.str file tf∧vs.getD 7 .none=.int flags tg∧vs.getD 9 .none=.bool inF∧vs.getD 10 .none=.int text tt∧c≠P
def CodeK.hd{K:UQ}{c P:Addr}{h:Heap}(x:CodeK K c P)(X:K.In h):PySem.W.CodeHd h c P:=by
 obtain⟨o,vs,file,tf,flags,tg,inF,text,tt,e,r⟩:=x
 exact⟨o,vs,file,tf,flags,tg,inF,text,tt,X _ _ e,r⟩
noncomputable def BltM(mg:Str→Option Value)(base:Heap):Prop:=∃bm ob,mg "__builtins__"=some (.ref bm)∧bm≠builtinsNs∧base.get? bm=some ob∧ob.cls=.type "module"∧ob.dict=some builtinsNs∧ob.data=.plain
section
variable {X:Cx} {scope:Scope} {x:Str} {N:List Str} {cap:List (Option Nat)} {pins:List (Addr×Obj)} {σ:St} {H:Hp} {s:Shared} {c0 P:Addr} {params:Arguments} {body:Expr} {lpos:Pos}
theorem khb{E:Value→Shared→Prop}{Q:Value→Shared→Prop}(S:kct X scope x N cap)(I:Inv X pins σ H s)(hcode:X.env.code=.ref c0)(CK:CodeK X.K c0 P)(hB:BltM X.mg X.base)(TB:TbAt P H)(hq:X.env.qual++ "<lambda>"=(lamN lpos))(hdef:defaultsOf params X.env=([],[]))
  (h:∀(s':Shared)(H':Hp)(f c:Addr)(pm ctv:Value),Inv X pins σ H' s'→Grew P H H'→s'.heap.get? f=some (J8 "<lambda>" (lamN lpos) params body scope (closL X.env.cells scope.names []) pm c ctv)→H' f=none→s.heap.objs.size≤f→(∀b,s.heap.objs.size≤b→s'.heap.objs.size≤b→H' b=none)→H' c=some (CodeO c (lamN lpos))→Q (.ref f) s'):
  wpAny (model X.prog X.w) X.A (eval (.Lambda params body scope lpos) X.env) Q E s:=by
 obtain⟨ps,eP,ht,hor⟩:=TB
 have hP:s.heap.get? P=some (Ni ps):=(show ObjOk X.prog X.w H s.heap P (.tbl ps) from I.hok P _ eP)
 have hg:=I.mod.glob.keeps I.bk
 have nbP:∀b o,X.base.get? b=some o→b≠P:=fun b o e z=>by
  have:=(I.bs b o e).2
  rw[z,eP] at this
  cases this
 have hgP:mainGlobals≠P:=by
  obtain⟨o,_,_,e,_⟩:=I.mod.glob
  exact nbP _ o e
 have hb:s.heap.BuiltinsAt X.mg P:=by
  obtain⟨bm,ob,b1,b2,b3,b4,b5,b6⟩:=hB
  refine⟨bm,ob,b1,b2,fun z=>?_,nbP _ ob b3,I.bk _ _ b3,b4,b5,b6⟩
  obtain⟨o,es,ep,e,hd,_⟩:=I.mod.glob
  rw[←z,b3] at e
  cases e
  rw[b6] at hd
  cases hd
 have CH:=CK.hd I.kIn
 refine PySem.W.kla_eval hdef ?_
 rw[hq]
 cases hor':codeAmong lpos ps.toList with
 | none=>
  have hnf:=hor'
  refine PySem.W.kla_makeFunction (mg:=X.mg) (kcr S.S I) I.ok.glob hg hcode CH hP ht hnf hgP hb fun c' ctv h' tk hx hge hlt hrec htb=>?_
  have hc0:H c'=none:=I.hok.fresh hge
  have nPc:P≠c':=kag eP hc0
  have szP:P<s.heap.objs.size:=Heap.lt_size hP
  generalize hob:J8 "<lambda>" (lamN lpos) params body scope (closL X.env.cells scope.names []) ((X.mg "__name__").getD .none) c' ctv=ob
  have k2:∀b o,b≠P→s.heap.get? b=some o→(h'.push ob).get? b=some o:=fun b o hbp e=>Heap.get?_push_of_some _ (hx b o hbp e)
  have nN:∀{b:Addr},H b=none→b≠P:=fun {b} n z=>by rw[z,eP] at n;cases n
  have at2:∀{b:Addr},b≠P→b≠c'→(upd (upd H P (.tbl (ps++ #[rawInt lpos.line,rawInt lpos.col, .ref c']))) c' (CodeO c' (lamN lpos))) b=H b:=fun {b} h1 h2=>by rw[kaj h2,kaj h1]
  have eP2:(upd (upd H P (.tbl (ps++ #[rawInt lpos.line,rawInt lpos.col, .ref c']))) c' (CodeO c' (lamN lpos))) P=some (.tbl (ps++ #[rawInt lpos.line,rawInt lpos.col, .ref c'])):=by rw[kaj nPc,kac]
  have ec2:(upd (upd H P (.tbl (ps++ #[rawInt lpos.line,rawInt lpos.col, .ref c']))) c' (CodeO c' (lamN lpos))) c'=some (CodeO c' (lamN lpos)):=kac
  have fresh2:∀b,s.heap.objs.size≤b→(h'.push ob).objs.size≤b→(upd (upd H P (.tbl (ps++ #[rawInt lpos.line,rawInt lpos.col, .ref c']))) c' (CodeO c' (lamN lpos))) b=none:=fun b h1 h2=>by
   rw[Heap.size_push] at h2
   rw[at2 (JC (Jh szP h1)) (JC (Jh hlt (Nat.le_of_succ_le h2)))]
   exact I.hok.fresh h1
  have ff:(upd (upd H P (.tbl (ps++ #[rawInt lpos.line,rawInt lpos.col, .ref c']))) c' (CodeO c' (lamN lpos))) h'.objs.size=none:=by
   have h1:s.heap.objs.size≤h'.objs.size:=UT hge (U3 hlt)
   rw[at2 (JC (Jh szP h1)) (JC hlt)]
   exact I.hok.fresh h1
  generalize upd (upd H P (.tbl (ps++ #[rawInt lpos.line,rawInt lpos.col, .ref c']))) c' (CodeO c' (lamN lpos))=H2 at *
  have un:Un X.fs [] H H2 s.heap (h'.push ob):=by
   refine⟨fun b o e n _ _=>k2 b o (nN n) e,fun b o e n _ _=>⟨o.slots,k2 b o (nN n) e⟩,fun b o e n _=>?_,fun b o e _=>?_,fun b xs e=>?_,fun b o u e=>?_,fun b qs e=>?_⟩
   ·rw[at2 (nN n) (Je (Jh (Heap.lt_size e) hge))]
    exact n
   ·by_cases hbp:b=P
    ·subst hbp
     exact⟨_,Heap.get?_push_of_some _ htb⟩
    ·exact⟨o,k2 b o hbp e⟩
   ·rw[at2 (ne_of e eP (by intro z;cases z)) (kag e hc0)]
    exact e
   ·rw[at2 (ne_of e eP (by intro z;cases z)) (kag e hc0)]
    exact e
   ·by_cases hbp:b=P
    ·subst hbp
     rw[eP] at e
     cases e
     exact⟨_,eP2⟩
    ·refine⟨#[],?_⟩
     rw[at2 hbp (kag e hc0),e]
     simp
  have hok2:HOk X.prog X.w H2 (h'.push ob):=fun b u e=>by
   by_cases hbp:b=P
   ·subst hbp
    rw[eP2] at e
    cases e
    exact(show(h'.push ob).get? b=some _ from Heap.get?_push_of_some _ htb)
   ·by_cases hbc:b=c'
    ·subst hbc
     rw[ec2] at e
     cases e
     obtain⟨cc,oc,vs,t,e1,e2,e3,e4⟩:=hrec
     cases e1
     refine(show ObjOk X.prog X.w H2 (h'.push ob) b (CodeO b (lamN lpos)) from⟨⟨b,oc,vs,t,rfl,Heap.get?_push_of_some _ e2,e3,e4⟩,⟨oc,Heap.get?_push_of_some _ e2⟩,fun h1 h2 q k=>?_⟩)
     obtain⟨c3,o3,vs3,t3,z1,z2,z3,z4⟩:=q
     cases z1
     exact⟨b,o3,vs3,t3,rfl,k _ z2,z3,z4⟩
    ·rw[at2 hbp hbc] at e
     have nown:∀d y,H d=some (.own y)→d≠P∧d≠c':=fun d y r=>⟨ne_of r eP (by intro z;cases z),kag r hc0⟩
     refine(I.hok b u e).stay (fun d v hd r=>k2 d v ?_ r) (fun d r=>by rw[at2 (nown d b r).1 (nown d b r).2];exact r) fun d xs r=>by rw[at2 (ne_of r eP (by intro z;cases z)) (kag r hc0)];exact r
     rcases hd with rfl|hd
     ·exact hbp
     ·exact(nown d b hd).1
  subst hob
  refine h _ H2 h'.objs.size c' _ ctv (I.un (t':=tk) un hok2) ⟨fun b o hbp e=>by rw[at2 hbp (kag e hc0)];exact e,_,eP2,?_,fun pos d ed=>?_⟩ (Heap.get?_push_size _ rfl) ff (UT hge (U3 hlt)) fresh2 ec2
  ·have:=TriplesOk_snoc lpos.line lpos.col (.ref c') ps.toList ht
   simpa using this
  ·have ed':codeAmong pos (ps.toList++[rawInt lpos.line,rawInt lpos.col, .ref c'])=some d:=by simpa using ed
   rcases kjg ps.toList ht ed' with z|z
   ·obtain⟨d',rfl,ed2⟩:=hor pos d z
    exact⟨d',rfl,by rw[at2 (ne_of ed2 eP (by intro z;cases z)) (kag ed2 hc0)];exact ed2⟩
   ·exact⟨c',z.1,by rw[kjH (p:=pos) (p':=lpos) (by have:=z.2;omega)];exact ec2⟩
 |some cv=>
  have hf:=hor'
  obtain⟨c',rfl,ec'⟩:=hor lpos cv hf
  refine PySem.W.kla_makeFunctionHit (mg:=X.mg) (kcr S.S I) I.ok.glob hg hcode CH hP ht hf hb fun ctv h' tk hk hsz=>?_
  have k2:∀b o,s.heap.get? b=some o→(h'.push (J8 "<lambda>" (lamN lpos) params body scope (closL X.env.cells scope.names []) ((X.mg "__name__").getD .none) c' ctv)).get? b=some o:=fun b o e=>Heap.get?_push_of_some _ (hk b o e)
  exact h _ H h'.objs.size c' _ ctv (I.kept (t':=tk) k2) ⟨fun b o _ e=>e,ps,eP,ht,hor⟩ (Heap.get?_push_size _ rfl) (I.hok.fresh hsz) hsz (fun b h1 _=>I.hok.fresh h1) ec'
end
end L2
namespace L2
open PySem PySem.Spec PyProof.Rows
theorem khd:∀{ns:List Int}{us:List Value},Vals (ns.map V.int) us→IntsAre us ns
 |[],_, .nil=>.nil
 |n::ns,_, .cons h t=>by
  obtain⟨tk,rfl⟩:=h
  exact .cons n tk (khd t)
theorem kgB:∀{us:List Value}{ns:List Int},IntsAre us ns→Vals (ns.map V.int) us
 |_,_, .nil=>.nil
 |_,_, .cons n t h=>.cons ⟨t,rfl⟩ (kgB h)
theorem kjm{ns:List Int}{key:Int→Int}{keys:Array Value}{us:List Value}{out:Array Value}(hu:IntsAre us ns)(hk:IntsAre keys.toList (ns.map key))(hl:keys.size=us.length)(h:Stb.Rows keys us out):
  ∃ms:List Int,IntsAre out.toList ms∧ms.Perm ns∧ms.Pairwise fun a b=>key a<key b∨(key a=key b∧a<b):=by
 obtain⟨xs,hp,hup,rfl⟩:=h
 have pl:xs.toList.Perm (keys.toList.zip us):=by
  rw[←ksk_zip]
  exact Array.perm_iff_toList_perm.mp hp
 have mem:∀p∈keys.toList.zip us,p.2∈us∧numOf p.1=key (numOf p.2):=fun p hp=>by
  obtain⟨i,hi,rfl⟩:=List.mem_iff_getElem.mp hp
  have l1:i<keys.toList.length:=by
   rw[List.length_zip] at hi
   omega
  have l2:i<us.length:=by
   rw[List.length_zip] at hi
   omega
  rw[List.getElem_zip]
  refine⟨Mm l2,?_⟩
  have e1:(keys.toList.map numOf)[i]?=(ns.map key)[i]?:=by rw[hk.nums]
  have e2:(us.map numOf)[i]?=ns[i]?:=by rw[hu.nums]
  rw[UY,JM l1,UY] at e1
  rw[UY,JM l2] at e2
  rw[←e2] at e1
  exact Option.some.inj e1
 have memx:∀p∈xs.toList,p.2∈us∧numOf p.1=key (numOf p.2):=fun p hp=>mem p (pl.mem_iff.mp hp)
 refine⟨xs.toList.map fun p=>numOf p.2,?_,?_,?_⟩
 ·have e:(xs.map (·.2)).toList=xs.toList.map (·.2):=by simp
  rw[e]
  have:=intsAre_map (xs.toList.map (·.2)) fun v hv=>by
   obtain⟨p,hp',rfl⟩:=Jf.mp hv
   exact hu.all _ (memx p hp').1
  rw[Jg] at this
  exact this
 ·have h1:=pl.map (fun p:Keyed=>numOf p.2)
  have e2:(keys.toList.zip us).map (fun p:Keyed=>numOf p.2)=ns:=by
   have e3:(keys.toList.zip us).map (fun p:Keyed=>numOf p.2)=((keys.toList.zip us).map Prod.snd).map numOf:=by rw[Jg];rfl
   rw[e3,List.map_snd_zip (by have e:=Nc (xs:=keys);omega),hu.nums]
  rw[e2] at h1
  exact h1
 ·rw[J9]
  intro i j hi hj hij
  have hi':i<xs.size:=by simpa using hi
  have hj':j<xs.size:=by simpa using hj
  have q:=hup i j hij hj'
  have ki:=(memx xs[i] (by simp)).2
  have kj:=(memx xs[j] (by simp)).2
  unfold Stb.Lx Stb.T at q
  rw[K_eq hi',K_eq hj',NL hi',NL hj'] at q
  simp only[Nr,Array.getElem_toList]
  rw[←ki,←kj]
  exact q
section
variable {X:Cx} {scope:Scope} {x:Str} {N:List Str} {cap:List (Option Nat)} {pins:List (Addr×Obj)} {σ:St} {H:Hp} {s1:Shared} {f:Addr} {fo:Obj}
noncomputable def Held(X:Cx)(pins:List (Addr×Obj))(σ:St)(H:Hp)(n0:Nat)(f:Addr)(fo:Obj)(s:Shared):Prop:=Inv X pins σ H s∧n0≤s.heap.objs.size∧s.heap.get? f=some fo
theorem kkZ(I:Inv X pins σ H s1)(hf:f<s1.heap.objs.size):Stb.SJ (Held X pins σ H s1.heap.objs.size f fo) s1.heap.objs.size where
 sz:=fun s h=>h.2.1
 push:=fun s c xs n h=>⟨h.1.kept (t':=s.toks) fun b o e=>Heap.get?_push_of_some _ e,UT h.2.1 (by rw[Heap.size_push];exact J6 _),Heap.get?_push_of_some _ h.2.2⟩
 upd:=fun s b g h hb=>by
  obtain⟨q1,q2,q3,q4,q5,q6⟩:=I.fpOk hb (I.hok.fresh hb)
  have sb:=Heap.SameBut.update s.heap b (Obj.mapSeq g)
  exact⟨h.1.turned (t':=s.toks) (it:=b) (fun d o hd e=>(sb.2 d hd).trans e) q1 q2 q4 q5 q6,by rw[Heap.size_update];exact h.2.1,(sb.2 f (Je (Jh hf hb))).trans h.2.2⟩
noncomputable def kjk(K:UQ)(P:Addr)(tl:TE)(cap:List (Option Nat))(te:TE):TE:=fun σ H Q=>tl σ H fun v H1=>∃(a:Addr)(ns:List Int)(key:Int→Int),v=.ref a∧SqL K H1 a (ns.map V.int)∧ns.length<64∧ns.Pairwise (· < ·)∧TbAt P H1∧a≠P∧
 (∀H2,Grew P H1 H2→∀n∈ns,te (some (.int n)::capσ cap σ) H2 fun v H3=>v=.int (key n)∧H3=H2)∧
 ∀(H2:Hp)(l:Addr)(ms:List Int),Grew P H1 H2→H1 l=none→H2 l=none→ms.Perm ns→(ms.Pairwise fun a b=>key a<key b∨(key a=key b∧a<b))→Q (.ref l) (upd H2 l (.lst (ms.map V.int)))
theorem kjX:bootBuiltins "sorted"=some (.builtin "sorted"):=by decide +kernel
theorem Grew.seq{K:UQ}{P:Addr}{H H':Hp}{a:Addr}{xs:List V}(g:Grew P H H')(ha:a≠P)(h:SqL K H a xs):SqL K H' a xs:=by
 rcases h with(h|⟨o,h⟩)|h
 ·exact .inl (.inl (g.kp _ _ ha h))
 ·exact .inl (.inr ⟨o,g.kp _ _ ha h⟩)
 ·exact .inr h
theorem khv{l:Expr}{tl te:TE}{c0 P:Addr}{params:Arguments}{body:Expr}{lpos p pos kpos:Pos}(hl:PE X l tl)(S:kct X scope x N cap)(hc:X.calm=true)(hdp:X.A.depth<recursionLimit)(hcode:X.env.code=.ref c0)(CK:CodeK X.K c0 P)(hB:BltM X.mg X.base)
  (hg:Gl X "sorted") (hm:X.mg "sorted"=none) (hbind:∀(cl:List (Str×Addr))(pm:Value)(c:Addr)(ctv u:Value),bindArgs (Mr "<lambda>" (lamN lpos) params body scope cl pm (.ref c) ctv) ⟨[u],[]⟩=pure [(x,u)])
  (he:∀A f c s H,PE (cxL X A scope N (lamN lpos) f c s H) body te) (hq:X.env.qual++ "<lambda>"=(lamN lpos)) (hdef:defaultsOf params X.env=([],[]):=by rfl) (s1:starEach [l] X.env=[(false,eval l X.env)]:=by rfl):
  PE X (.Call (.Name "sorted" p) [l] [⟨some "key", .Lambda params body scope lpos,kpos⟩] pos) (kjk X.K P tl cap te):=by
 intro pins s σ H Q I h
 refine wpAny_Call_Name_kw (kcm I hg hm kjX ?_ (by decide) (by decide))
 refine callWith_kw ?_ (by rw[s1];rfl) (by rw[s1];rfl)
 rw[s1]
 refine Calls.spliced_cons (thn (hl pins s σ H _ I h) fun u s3 ⟨v,H1,I1,r1,a,ns,key,ev,hS,h64,hup,TB,haP,hte,q⟩=>Calls.spliced_nil ?_)
 subst ev
 cases r1
 show wpAny _ _ (evalAll ((do let v ←eval (.Lambda params body scope lpos) X.env;standAt pos;pure v):: [])) _ _ s3
 refine wpAny_evalAll_cons (wpAny_bind (khb S I1 hcode CK hB TB hq hdef fun s4 H4 lf c pm ctv I4 G ef ff hsf hfr ec=>wpAny_bind (wpAny_standAt (wpAny_pure (wpAny_evalAll_nil ?_)))))
 show wpAny _ _ (call (.builtin "sorted") [.ref a] [(Str.ofString "key", .ref lf)]) _ _ s4
 obtain⟨its,rv,pl,hz⟩:=I4.list (G.seq haP hS)
 have hi:=khd rv
 have lu:=hi.length
 have lf4:lf<s4.heap.objs.size:=Heap.lt_size ef
 have rising:∀(i j:Nat)(y z:Value),i<j→its[i]?=some y→its[j]?=some z→numOf y<numOf z:=fun i j y z hij ey ez=>by
  have e1:ns[i]?=some (numOf y):=by rw[←hi.nums,UY,ey];rfl
  have e2:ns[j]?=some (numOf z):=by rw[←hi.nums,UY,ez];rfl
  obtain⟨l1,q1⟩:=U0.mp e1
  obtain⟨l2,q2⟩:=U0.mp e2
  have:=J9.mp hup i j l1 l2 hij
  rw[q1,q2] at this
  exact this
 refine Stb.sortedK (kz:=ns.map key) (J:=Held X pins σ H4 s4.heap.objs.size lf _) (kkZ I4 lf4) ⟨I4,UR _,ef⟩ pl.isList (by rw[UP,lu]) (by omega) rising (fun i v k ev ek s5 hJ=>?_) fun s5 D keys out cc hD hJ eD hk hkl hR=>?_
 ·have en:ns[i]?=some (numOf v):=by rw[←hi.nums,UY,ev];rfl
  have ek':k=key (numOf v):=by
   rw[UY,en] at ek
   exact(Option.some.inj ek).symm
  subst ek'
  obtain⟨n,t,rfl⟩:=hi.all v (U1 ev)
  have hcr:s5.heap.CodeRec (.ref c) (lamN lpos):=(show ObjOk X.prog X.w H4 s5.heap c (CodeO c (lamN lpos)) from hJ.1.hok c _ ec).1
  refine wpAny_mono (kjG (A:=X.A.in1.in1) (v:=.int n) (u:=.int n t) S hJ.1 I.ok.frames (I.ok.hd hc) hdp hJ.2.2 hcr (hbind _ _ _ _ _) ⟨t,rfl⟩ (he _ _ _ _ _) (hte H4 G n (U1 en))) (fun w' s6 hw=>?_) fun _ _ z=>z
  obtain⟨v',H6,I6,rv',⟨e1,e2⟩,un,sz6⟩:=hw
  subst e1 e2
  have nst:∀b,s3.heap.objs.size≤b→b∉frs X.stack:=fun b hb z=>absurd (khV I1 z) (NK.mpr hb)
  have s34:s3.heap.objs.size≤s4.heap.objs.size:=U3 (JS hsf lf4)
  have kp:∀b o,s3.heap.objs.size≤b→H6 b=none→s5.heap.get? b=some o→s6.heap.get? b=some o:=fun b o hb hn e=>un.keep b o e hn (nst b hb) (by simp)
  refine⟨rv',⟨I6,?_,kp lf _ hsf ff hJ.2.2⟩,fun b o hb e=>kp b o (UT s34 hb) (I4.hok.fresh hb) e⟩
  exact UT hJ.2.1 sz6
 ·obtain⟨ms,m1,m2,m3⟩:=kjm hi hk (by omega) hR
  have hn:H4 D=none:=I4.hok.fresh hD
  have fp:=I4.fpOk hD hn
  have h10:H1 D=none:=I1.hok.fresh (UT (U3 (JS hsf lf4)) hD)
  have vm:=kgB m1
  have lz:(ms.map V.int).length≤sizeLine:=by
   rw[UP,m2.length_eq,sizeLine_eq]
   omega
  refine⟨.ref D,_,hJ.1.adopt (a:=D) (o:=.lst (ms.map V.int)) fp ?_ ?_,rfl,q H4 D ms G h10 hn m2 m3⟩
  ·exact UT I4.sz hD
  ·exact(show ObjOk X.prog X.w _ s5.heap D (.lst (ms.map V.int)) from⟨lz,out.toList,cc,vm,by simpa using eD⟩)
end
end L2
namespace L2
open PySem PySem.W PyProof.Rows
section
variable {X:Cx}
noncomputable def kln:V→List V→Hp→VK→Prop:=fun x vs H Q=>∃(l:Addr)(ns:List Int)(k:Int),x=.ref l∧vs=[.int k]∧H l=some (.lst (ns.map V.int))∧Q (.int (ns.count k:Nat)) H
theorem kec:∀{ns:List Int}{us:List Value}(k:Int),Vals (ns.map V.int) us→us.countP (isI k)=ns.count k
 |[],_,_, .nil=>rfl
 |m::ns,_::us,k, .cons r t=>by
  obtain⟨tk,rfl⟩:=r
  rw[List.countP_cons,Ms,kec k t]
  rfl
theorem kjB:MtM X "list.count" kln:=by
 intro pins s σ H x vs v us Q I rx rv h
 obtain⟨l,ns,k,rfl,rfl,hH,q⟩:=h
 cases rx
 obtain⟨u,rfl,ru⟩:=rv.one
 obtain⟨t,rfl⟩:=ru
 obtain⟨z,its,n,r,hl,e⟩:=I.lstM hH
 refine call_meets F.slot_list_count ⟨_,e,rfl⟩ F.entry_list_count (F.args_list_count_2 _ _)
  (MeetsSeq.list_count l its.toArray n (.int k t) (isI k) (fun y hy=>?_)) ⟨e,?_⟩
 ·obtain⟨j,hj',rfl⟩:=Array.mem_iff_getElem.mp hy
  have hjl:j<its.length:=by simpa using hj'
  have hln:its.length=ns.length:=by rw[←hl,UP]
  obtain⟨tk,et⟩:=kfJ r j ns[j] (by simp)
  obtain⟨_,e'⟩:=U0.mp et
  have e2:its.toArray[j]=.int ns[j] tk:=by simpa using e'
  rw[e2]
  exact MeetsSeq.EqGives.int _ k tk t
 ·refine⟨.int (ns.count k:Nat),H,I.tok _,⟨s.toks,?_⟩,q⟩
  rw[List.toList_toArray,kec k r]
end
end L2
namespace L2
open PySem PySem.W PyProof.Rows
section
variable {X:Cx} {pins:List (Addr×Obj)} {σ:St} {H:Hp} {s:Shared} {A:Around} {E:Value→Shared→Prop} {Q:Value→Shared→Prop}
end
end L2
namespace L2
open PySem PySem.W PyProof.Rows
section
variable {X:Cx}
end
end L2
namespace L2
open PySem PySem.Spec PyProof.Rows
section
variable {prog:Program} {w:World} {A:Around} {E:Value→Shared→Prop} {s:Shared}
end
end L2
namespace L2
open PySem PySem.Spec PyProof.Rows
section
variable {prog:Program} {w:World} {A:Around} {E:Value→Shared→Prop} {s:Shared}
end
section
variable {X:Cx}
end
end L2
namespace L2
open PySem PySem.Spec PyProof.Rows
section
variable {X:Cx}
end
end L2
namespace L2
open PySem PySem.Spec PyProof.Rows
section
variable {κ:Type} [DecidableEq κ]
noncomputable def valV(kvs:List (κ×V))(k: κ):Option V:=(kvs.find? fun kv=>decide (kv.1=k)).map (·.2)
noncomputable def putK(kvs:List (κ×V))(k: κ)(v:V):List (κ×V):=
 if(kvs.any fun kv=>decide (kv.1=k))=true then kvs.map (fun kv=>if kv.1=k then(kv.1,v) else kv) else kvs++[(k,v)]
noncomputable def dropK(kvs:List (κ×V))(k: κ):List (κ×V):=kvs.filter fun kv=>decide (kv.1≠k)
theorem keI{p: κ×V}{r:List (κ×V)}{k: κ}(e:p.1=k):valV (p::r) k=some p.2:=by simp[valV,JK,e]
theorem keJ{p: κ×V}{r:List (κ×V)}{k: κ}(e:¬p.1=k):valV (p::r) k=valV r k:=by simp[valV,JK,e]
theorem kgC(k: κ):∀kvs:List (κ×V),(kvs.any fun kv=>decide (kv.1=k))=(valV kvs k).isSome
 |[]=>rfl
 |p::r=>by
  rw[JL]
  by_cases e:p.1=k
  ·simp only[keI e,decide_eq_true e,Bool.true_or,Option.isSome_some]
  ·rw[keJ e,decide_eq_false e,Bool.false_or];exact kgC k r
theorem RelO.isSome_eq{o:Option V}{u:Option Value}(r:RelO o u):o.isSome=u.isSome:=by
 cases o with
 |none=>cases u with
  |none=>rfl
  |some _=>exact(show False from r).elim
 |some _=>cases u with
  |none=>exact(show False from r).elim
  |some _=>rfl
theorem RelO.getD{o:Option V}{u:Option Value}{d:V}{d':Value}(r:RelO o u)(rd:RelV d d'):RelV (o.getD d) (u.getD d'):=by
 cases o with
 |none=>cases u with
  |none=>exact rd
  |some _=>exact(show False from r).elim
 |some _=>cases u with
  |none=>exact(show False from r).elim
  |some _=>exact r
theorem KV.val{kvs:List (κ×V)}{vs:List (κ×Value)}(r:KV kvs vs)(k: κ):RelO (valV kvs k) (valueAt vs k):=by
 unfold KV at r
 induction r with
 |nil=>exact True.intro
 | @cons p q ps qs h t ih=>
  obtain⟨h1,h2⟩:=h
  by_cases e:p.1=k
  ·have e':q.1=k:=h1.symm.trans e
   have b:valueAt (q::qs) k=some q.2:=by simp[valueAt,JK,e']
   rw[keI e,b];exact h2
  ·have e':¬q.1=k:=fun z=>e (h1.trans z)
   have b:valueAt (q::qs) k=valueAt qs k:=by simp[valueAt,JK,e']
   rw[keJ e,b];exact ih
theorem KV.any{kvs:List (κ×V)}{vs:List (κ×Value)}(r:KV kvs vs)(k: κ):(kvs.any fun kv=>decide (kv.1=k))=vs.any fun kv=>decide (kv.1=k):=by
 unfold KV at r
 induction r with
 |nil=>rfl
 |cons h t ih=>rw[JL,JL,ih,h.1]
theorem KV.repl{kvs:List (κ×V)}{vs:List (κ×Value)}(r:KV kvs vs)(k: κ){y:V}{u:Value}(ry:RelV y u):
  KV (kvs.map fun kv=>if kv.1=k then(kv.1,y) else kv) (vs.map fun kv=>if kv.1=k then(kv.1,u) else kv):=by
 unfold KV at r⊢
 induction r with
 |nil=>exact .nil
 | @cons p q ps qs h t ih=>
  rw[U4,U4]
  refine .cons ?_ ih
  obtain⟨h1,h2⟩:=h
  by_cases e:p.1=k
  ·rw[if_pos e,if_pos (h1.symm.trans e)];exact⟨h1,ry⟩
  ·rw[if_neg e,if_neg (fun z=>e (h1.trans z))];exact⟨h1,h2⟩
theorem KV.put{kvs:List (κ×V)}{vs:List (κ×Value)}(r:KV kvs vs)(k: κ){y:V}{u:Value}(ry:RelV y u):KV (putK kvs k y) (stored vs k u):=by
 unfold putK stored
 rw[r.any k]
 by_cases e:(vs.any fun kv=>decide (kv.1=k))=true
 ·rw[if_pos e,if_pos e];exact r.repl k ry
 ·rw[if_neg e,if_neg e];exact Paired.snoc r ⟨rfl,ry⟩
theorem KV.drop{kvs:List (κ×V)}{vs:List (κ×Value)}(r:KV kvs vs)(k: κ):KV (dropK kvs k) (without vs k):=by
 unfold KV at r⊢
 unfold dropK without
 induction r with
 |nil=>exact .nil
 | @cons p q ps qs h t ih=>
  obtain⟨h1,h2⟩:=h
  rw[Nt,Nt]
  by_cases e:p.1=k
  ·have a:¬decide (p.1≠k)=true:=by simp[e]
   have b:¬decide (q.1≠k)=true:=by simp[h1.symm.trans e]
   rw[if_neg a,if_neg b];exact ih
  ·have e':¬q.1=k:=fun z=>e (h1.trans z)
   have a:decide (p.1≠k)=true:=by simp[e]
   have b:decide (q.1≠k)=true:=by simp[e']
   rw[if_pos a,if_pos b];exact .cons ⟨h1,h2⟩ ih
theorem KV.keys{kvs:List (κ×V)}{vs:List (κ×Value)}(r:KV kvs vs):kvs.map (·.1)=vs.map (·.1):=by
 unfold KV at r
 induction r with
 |nil=>rfl
 |cons h t ih=>rw[U4,U4,ih,h.1]
theorem KV.length{kvs:List (κ×V)}{vs:List (κ×Value)}(r:KV kvs vs):kvs.length=vs.length:=Paired.length r
end
noncomputable abbrev KT(H:Hp):List (List Key×V)→List (List Key×Addr×Value)→Prop:=Paired fun p q=>p.1=q.1∧H q.2.1=some (.tup (p.1.map kV))∧RelV p.2 q.2.2
theorem KT.val{H:Hp}{kvs:List (List Key×V)}{xs:List (List Key×Addr×Value)}(r:KT H kvs xs)(k:List Key):RelO (valV kvs k) ((atKey xs k).map (·.2)):=by
 induction r with
 |nil=>exact True.intro
 | @cons p q ps qs h t ih=>
  obtain⟨h1,_,h2⟩:=h
  by_cases e:p.1=k
  ·have e':q.1=k:=h1.symm.trans e
   have b:atKey (q::qs) k=some q.2:=by simp[atKey,JK,e']
   rw[keI e,b];exact h2
  ·have e':¬q.1=k:=fun z=>e (h1.trans z)
   have b:atKey (q::qs) k=atKey qs k:=by simp[atKey,JK,e']
   rw[keJ e,b];exact ih
theorem KT.repl{H:Hp}{kvs:List (List Key×V)}{xs:List (List Key×Addr×Value)}(r:KT H kvs xs)(k:List Key){y:V}{u:Value}(ry:RelV y u):
  KT H (kvs.map fun kv=>if kv.1=k then(kv.1,y) else kv) (xs.map (putAt k u)):=by
 induction r with
 |nil=>exact .nil
 | @cons p q ps qs h t ih=>
  rw[U4,U4]
  refine .cons ?_ ih
  obtain⟨h1,h2,h3⟩:=h
  unfold putAt
  by_cases e:p.1=k
  ·rw[if_pos e,if_pos (h1.symm.trans e)];exact⟨h1,h2,ry⟩
  ·rw[if_neg e,if_neg (fun z=>e (h1.trans z))];exact⟨h1,h2,h3⟩
theorem KT.put{H:Hp}{kvs:List (List Key×V)}{xs:List (List Key×Addr×Value)}(r:KT H kvs xs)(k:List Key){b:Addr}{y:V}{u:Value}(hb:H b=some (.tup (k.map kV)))(ry:RelV y u):
  KT H (putK kvs k y) (storedH xs k b u):=by
 have e:(kvs.any fun kv=>decide (kv.1=k))=(atKey xs k).isSome:=by
  rw[kgC,(r.val k).isSome_eq,Option.isSome_map]
 unfold putK storedH
 rw[e]
 by_cases q:(atKey xs k).isSome=true
 ·rw[if_pos q,if_pos q];exact r.repl k ry
 ·rw[if_neg q,if_neg q];exact Paired.snoc r ⟨rfl,hb,ry⟩
def KT.keeps{H H':Hp}{kvs:List (List Key×V)}{xs:List (List Key×Addr×Value)}(r:KT H kvs xs)(ht:∀b ys,H b=some (.tup ys)→H' b=some (.tup ys)):KT H' kvs xs:=
 Paired.mapP r fun _ _ z=>⟨z.1,ht _ _ z.2.1,z.2.2⟩
section
variable {P:Program} {w:World} {H:Hp} {h:Heap} {a:Addr}
end
noncomputable def DGet(H:Hp)(a:Addr)(y:V)(r:Option V):Prop:=
 (∃kvs k,Rd H a (.dK kvs)∧y=kV k∧r=valV kvs k)∨∃kvs k b,Rd H a (.dT kvs)∧y=.ref b∧H b=some (.tup (k.map kV))∧r=valV kvs k
noncomputable def DPut(H:Hp)(a:Addr)(y v:V)(H':Hp):Prop:=
 (∃kvs k,H a=some (.dK kvs)∧y=kV k∧kvs.length<sizeLine∧H'=upd H a (.dK (putK kvs k v)))∨
 ∃kvs k b,H a=some (.dT kvs)∧y=.ref b∧H b=some (.tup (k.map kV))∧kvs.length<sizeLine∧H'=upd H a (.dT (putK kvs k v))
theorem DGet.k{H:Hp}{a:Addr}{kvs:List (Key×V)}{k:Key}(e:H a=some (.dK kvs)):DGet H a (kV k) (valV kvs k):=.inl ⟨kvs,k, .inl e,rfl,rfl⟩
def DGet.t{H:Hp}{a b:Addr}{kvs:List (List Key×V)}{k:List Key}(e:H a=some (.dT kvs))(eb:H b=some (.tup (k.map kV))):DGet H a (.ref b) (valV kvs k):=.inr ⟨kvs,k,b, .inl e,rfl,eb,rfl⟩
theorem DPut.k{H:Hp}{a:Addr}{kvs:List (Key×V)}{k:Key}{v:V}(e:H a=some (.dK kvs))(hl:kvs.length<sizeLine):DPut H a (kV k) v (upd H a (.dK (putK kvs k v))):=.inl ⟨kvs,k,e,rfl,hl,rfl⟩
theorem DPut.t{H:Hp}{a b:Addr}{kvs:List (List Key×V)}{k:List Key}{v:V}(e:H a=some (.dT kvs))(eb:H b=some (.tup (k.map kV)))(hl:kvs.length<sizeLine):
  DPut H a (.ref b) v (upd H a (.dT (putK kvs k v))):=.inr ⟨kvs,k,b,e,rfl,eb,hl,rfl⟩
section
variable {X:Cx} {pins:List (Addr×Obj)} {σ:St} {H:Hp} {s:Shared} {a:Addr} {y v:V} {u r:Value} {o:Option V} {A:Around} {E:Value→Shared→Prop}
theorem Inv.big(I:Inv X pins σ H s):sysModules<s.heap.objs.size:=by
 have h:mainGlobals<s.heap.objs.size:=(I.mod.glob.keeps I.bk).lt
 exact NJ (by decide) h
end
section
variable {X:Cx} {pins:List (Addr×Obj)} {σ:St} {H:Hp} {s:Shared} {a:Addr} {kvs:List (Key×V)} {k:Key} {u:Value} {A:Around} {E:Value→Shared→Prop}
end
section
variable {X:Cx} {o i e value:Expr} {pos pos' tpos:Pos} {td ty tv:TE}
end
section
variable {X:Cx} {pos:Pos}
end
end L2
namespace PySem.SeqAt
open AutoSeq1 (wpAny_loadPart')
open MeetsSeq MeetsSeq2 MeetsSeq3
end PySem.SeqAt
namespace L2
open PySem PySem.Spec PyProof.Rows
section
variable {X:Cx}
end
end L2
namespace PySem.SeqAt
open AutoSeq1 (wpAny_loadPart')
open MeetsSeq MeetsSeq2 MeetsSeq3
end PySem.SeqAt
namespace PySem
noncomputable def Has(h0 h:Heap):Prop:=∀b o,h0.get? b=some o→h.get? b=some o
def Has.go{h0 h h':Heap}{wr:List Addr}(z:∀b∈wr,h0.get? b=none)(p:Has h0 h)(q:∀b o,b∉wr→h.get? b=some o→h'.get? b=some o):Has h0 h':=fun b o e=>q b o (fun m=>by rw[z b m] at e;cases e) (p b o e)
def Has.one{h0 h h':Heap}{S:Addr}(z:h0.get? S=none)(p:Has h0 h)(q:∀b o,b≠S→h.get? b=some o→h'.get? b=some o):Has h0 h':=fun b o e=>q b o (fun m=>by rw[m,z] at e;cases e) (p b o e)
section
variable {prog:Program} {w:World} {A:Around} {R:Result→Shared→Prop} {J:Addr} {fp wr:List Addr} {m:Nat} {P:Nat→Value→Prop} {St:Nat→Heap→Prop}
end
end PySem
namespace L2
open PySem PySem.Spec PyProof.Rows
section
variable {X:Cx}
end
end L2
namespace L2
open PySem PySem.Spec PyProof.Rows
noncomputable def nxo:HO→Bool
 | .ext _=>false
 |_=>true
noncomputable def NX(H:Hp)(p:Addr):Prop:=∀φ,H p≠some (.ext φ)
def nx{H:Hp}{p:Addr}{o:HO}(h:H p=some o)(n:nxo o=true:=by rfl):NX H p:=fun φ z=>by
 rw[h] at z
 cases z
 cases n
def nx0{H:Hp}{p:Addr}(h:H p=none):NX H p:=fun φ z=>by
 rw[h] at z
 cases z
def kcw{H:Hp}{p q:Addr}{o:HO}(h:NX H p)(n:nxo o=true:=by rfl):NX (upd H q o) p:=fun φ z=>by
 by_cases e:p=q
 ·subst e
  rw[kac] at z
  cases z
  cases n
 ·rw[kaj e] at z
  exact h φ z
noncomputable abbrev Ev(H H':Hp)(b:Addr)(o:HO):Prop:=match o with
 | .tbl _=>(∃ps,H' b=some (.tbl ps))∧(TbAt b H→TbAt b H')
 |o=>H' b=some o
def ev_eq{H H':Hp}{b:Addr}{o:HO}(e:H' b=some o)(t:TbAt b H→TbAt b H'):Ev H H' b o:=by
 cases o <;> first|exact e|exact⟨⟨_,e⟩,t⟩
def ke7{H H':Hp}{b:Addr}{o:HO}(e:Ev H H' b o):∃o',H' b=some o':=by
 cases o <;> first|exact⟨_,e⟩|exact⟨_,e.1.choose_spec⟩
theorem kbl{H H1 H2:Hp}{b:Addr}{o:HO}(e:Ev H H1 b o)(k:∀o,H1 b=some o→Ev H1 H2 b o):Ev H H2 b o:=by
 cases o with
 |tbl ps=>
  obtain⟨⟨ps1,e1⟩,t1⟩:=e
  obtain⟨e2,t2⟩:=(show Ev H1 H2 b (.tbl ps1) from k _ e1)
  exact⟨e2,fun h=>t2 (t1 h)⟩
 |_=>exact k _ e
def kcJ{b p:Addr}{H:Hp}{o:HO}(h:TbAt b H)(n:b≠p)(hx:NX H p):TbAt b (upd H p o):=by
 obtain⟨ps,e,t,hor⟩:=h
 refine⟨ps,by rw[kaj n];exact e,t,fun pos d ed=>?_⟩
 obtain⟨c,rfl,z2⟩:=hor pos d ed
 have hc:c≠p:=fun e=>by
  subst e
  exact hx _ z2
 exact⟨c,rfl,by rw[kaj hc];exact z2⟩
noncomputable def Same(H H':Hp):Prop:=∀b o,H b=some o→Ev H H' b o
def Same.refl(H:Hp):Same H H:=fun _ _ h=>ev_eq h fun t=>t
def Same.trans{H H1 H2:Hp}(a:Same H H1)(b:Same H1 H2):Same H H2:=fun c o h=>kbl (a c o h) fun o' e=>b c o' e
theorem Same.free{H H':Hp}(e:Same H H'){l:Addr}(h:H' l=Option.none):H l=Option.none:=by
 cases q:H l with
 |none=>rfl
 |some o=>
  obtain⟨o',e'⟩:=ke7 (e l o q)
  rw[e'] at h
  cases h
def Same.seq{K:UQ}{H H':Hp}{a:Addr}{xs:List V}(e:Same H H')(h:SqL K H a xs):SqL K H' a xs:=by
 rcases h with(h|⟨o,h⟩)|h
 ·exact .inl (.inl (e _ _ h))
 ·exact .inl (.inr ⟨o,e _ _ h⟩)
 ·exact .inr h
def Same.tb{H H':Hp}(s:Same H H'){b:Addr}(h:TbAt b H):TbAt b H':=by
 obtain⟨ps,e,r⟩:=id h
 exact(show Ev H H' b (.tbl ps) from s b _ e).2 h
def Grew.same{P:Addr}{H H':Hp}(g:Grew P H H')(TB:TbAt P H):Same H H':=fun b o e=>by
 obtain⟨ps,eP,ht,hor⟩:=TB
 by_cases h:b=P
 ·subst h
  rw[eP] at e
  cases e
  obtain⟨qs,e1,_⟩:=id g.tb
  exact⟨⟨qs,e1⟩,fun _=>g.tb⟩
 ·refine ev_eq (g.kp b o h e) fun t=>?_
  obtain⟨qs,e1,t1,h1⟩:=t
  refine⟨qs,g.kp b _ h e1,t1,fun pos d ed=>?_⟩
  obtain⟨c,rfl,z⟩:=h1 pos d ed
  exact⟨c,rfl,g.kp c _ (ne_of z eP (by intro z;cases z)) z⟩
end L2
namespace L2
open PySem PySem.Spec PyProof.Rows
end L2
namespace L2
open PySem PySem.Spec PyProof.Rows
noncomputable def kdM(K:UQ)(tP tR:Addr):Sp:=fun vs H Q _=>∃(a:Addr)(ns:List Int),vs=[.ref a]∧SqL K H a (ns.map V.int)∧ns.length≤63∧TbAt tP H∧TbAt tR H∧∀H',Q (.bl true) H'
theorem khF{P:Program}{w:World}{K:UQ}{mg mb:Str→Option Value}{k:Nat}{fa a tP tR c0 c1:Addr}{fd:FuncData}{x:Str}{s₁:Shared}{vs:List Value}{ns:List Int}
  (KX:K.In s₁.heap) (hns:s₁.heap.Ns mainGlobals mg) (hb:s₁.heap.Ns builtinsNs mb) (hbb:∀x:Str,x≠"__name__"→mb x=bootBuiltins x) (hlim:s₁.heap.NoLimit) (hg:s₁.gens= #[])
  (ha:s₁.heap.get? a=some {cls:=.type "list",data:=.seq vs.toArray}) (hi:IntsAre vs ns) (hl:ns.length≤63) (hr:Room k callerA) (hT:s₁.heap.get? tP=some (Ni #[])) (CK:CodeK K c0 tP) (kT:K.lookup tP=none) (hR:s₁.heap.get? tR=some (Ni #[])) (CR:CodeK K c1 tR) (kR:K.lookup tR=none) (hBM:BltM mg s₁.heap)
  (F:∀base:Heap,K.In base→base.Ns mainGlobals mg→BltM mg base→FnOk P w K mg base CX0 k fa fd [x] (kdM K tP tR)) (hbind:∀(s:Shared)(u:Value),BindsTo s fd ⟨[u],[]⟩ [(x,u)]):
  codeAny (model P w) callerA (.call (.ref fa) ⟨[.ref a],[]⟩) (fun r s'=>r=.ok (.ret (.bool true))∧OldK s₁.heap s'.heap∧s'.os=s₁.os∧AllBare s'.gens) s₁:=by
 have rv:=kfe hi
 have lenV:=hi.length
 have hlz:ns.length≤sizeLine:=UT hl (by decide)
 have nTa:tP≠a:=fun e=>by
  rw[e,ha] at hT
  have:=Option.some.inj hT
  injection this with z
  cases z
 have nRa:tR≠a:=fun e=>by
  rw[e,ha] at hR
  have:=Option.some.inj hR
  injection this with z
  cases z
 have core:∀H:Hp,SqL K H a (ns.map V.int)→HOk P w H s₁.heap→H tP=some (.tbl #[])→H tR=some (.tbl #[])→(∀b,b≠tP→b≠tR→H b=none∨(b=a∧∃o xs,H b=some (.frz o (.lst xs))))→(H a≠none→K.lookup a=none)→
   codeAny (model P w) callerA (.call (.ref fa) ⟨[.ref a],[]⟩) (fun r s'=>r=.ok (.ret (.bool true))∧OldK s₁.heap s'.heap∧s'.os=s₁.os∧AllBare s'.gens) s₁:=by
  intro H hS hok eT eR hO hK
  have base_of:∀{b:Addr}{o:Obj},s₁.heap.get? b=some o→H b=none→(hidT s₁.heap H).get? b=some o:=fun e n=>kjM e n
  have noT:∀{b:Addr}{o:Obj},s₁.heap.get? b=some o→o.cls≠.none→(∀us n,o.data≠.seq us n)→H b=none:=fun {b o} e hc hd=>by
   by_cases hbT:b=tP
   ·rw[hbT,hT] at e
    cases e
    exact absurd rfl hc
   by_cases hbR:b=tR
   ·rw[hbR,hR] at e
    cases e
    exact absurd rfl hc
   ·rcases hO b hbT hbR with z|⟨z,_⟩
    ·exact z
    ·rw[z,ha] at e
     cases e
     exact absurd rfl (hd _ _)
  have noA:∀{b:Addr}{o:Obj}{es:Array DictEntry}{ep:Nat},s₁.heap.get? b=some o→o.data=.dict es ep→H b=none:=fun {b o es ep} e d=>by
   by_cases hbT:b=tP
   ·rw[hbT,hT] at e
    cases e
    cases d
   by_cases hbR:b=tR
   ·rw[hbR,hR] at e
    cases e
    cases d
   ·rcases hO b hbT hbR with z|⟨z,_⟩
    ·exact z
    ·rw[z,ha] at e
     cases e
     cases d
  have nsK:∀{b:Addr}{m:Str→Option Value},s₁.heap.Ns b m→(hidT s₁.heap H).Ns b m:=fun {b m} ⟨o,es,ep,e,d,r⟩=>⟨o,es,ep,base_of e (noA e d),d,r⟩
  have hKb:K.In (hidT s₁.heap H):=fun b o e=>base_of (KX b o e) (by
   by_cases hbT:b=tP
   ·rw[hbT,kT] at e
    cases e
   by_cases hbR:b=tR
   ·rw[hbR,kR] at e
    cases e
   ·rcases hO b hbT hbR with z|⟨z,o',xs,z2⟩
    ·exact z
    ·subst z
     rw[hK (by rw[z2];simp)] at e
     cases e)
  have hM:Mod K mg (hidT s₁.heap H):=⟨hKb,nsK hns,⟨mb,nsK hb,hbb⟩,let⟨mc,h1,h2⟩:=hlim;⟨mc,nsK h1,h2⟩⟩
  have hBb:BltM mg (hidT s₁.heap H):=by
   obtain⟨bm,ob,b1,b2,b3,b4,b5,b6⟩:=hBM
   exact⟨bm,ob,b1,b2,base_of b3 (noT b3 (by rw[b4];intro z;cases z) (fun us n z=>by rw[b6] at z;cases z)),b4,b5,b6⟩
  have e0:Env0 P w K mg (hidT s₁.heap H) callerA [] s₁ H:=⟨rfl,hM,fun b o e=>kkS e,NC (kiO _ _),trivial,fun b hb=>absurd (show b∈([]:List Addr) from hb) (by simp),hok, .of_eq hg⟩
  have hsp:kdM K tP tR [.ref a] H (fun v _=>v=.bl true) fun _ _ _=>False:=⟨a,ns,rfl,hS,hl,⟨#[],eT,by trivial,fun pos c e=>by cases e⟩,⟨#[],eR,by trivial,fun pos c e=>by cases e⟩,fun _=>rfl⟩
  refine codeAny_mono ((F _ hKb (nsK hns) hBb).run callerA [] s₁ H ⟨[.ref a],[]⟩ [.ref a] [.ref a] _ _ hr e0 (hbind s₁ (.ref a)) (.cons rfl .nil) hsp) fun r s' h=>?_
  cases r with
  |error e=>exact(show False from h).elim
  | ok fl=>
   cases fl with
   |next=>exact False.elim h
   |brk=>exact False.elim h
   |cont=>exact False.elim h
   | ret u=>
    obtain⟨v,H',os,bare,un,hok',r',q⟩:=h
    have q':v=.bl true:=q
    subst q'
    obtain rfl:u=Value.bool true:=r'
    have kp:∀b o,b≠tP→b≠tR→s₁.heap.get? b=some o→s'.heap.get? b=some o:=fun b o hbT hbR e=>by
     rcases hO b hbT hbR with z|⟨z,o',xs,z2⟩
     ·exact un.keep b o e z (fun z=>absurd (show b∈([]:List Addr) from z) (by simp)) (by simp)
     ·have z3:=un.frzs b o' _ z2
      obtain⟨e1,_⟩:=hok b _ z2
      obtain⟨e2,_⟩:=hok' b _ z3
      rw[e] at e1
      cases e1
      exact e2
    obtain⟨more,eM⟩:=un.tbls tP #[] eT
    have tM:s'.heap.get? tP=some (Ni (#[]++more)):=(show ObjOk P w H' s'.heap tP (.tbl (#[]++more)) from hok' tP _ eM)
    obtain⟨mor2,eM2⟩:=un.tbls tR #[] eR
    have tM2:s'.heap.get? tR=some (Ni (#[]++mor2)):=(show ObjOk P w H' s'.heap tR (.tbl (#[]++mor2)) from hok' tR _ eM2)
    refine⟨rfl,⟨fun b o e=>?_,fun b o e=>?_⟩,os,bare⟩
    ·by_cases hbT:b=tP
     ·subst hbT
      rw[hT] at e
      cases e
      obtain⟨oc,us,_,_,_,_,_,_,_,b1,c2,c3,c4,_⟩:=CK
      exact .inr (.inl ⟨⟨c0,oc,us,KX _ _ b1,c2,c3,c4⟩,rfl,#[],more,rfl,tM⟩)
     by_cases hbR:b=tR
     ·subst hbR
      rw[hR] at e
      cases e
      obtain⟨oc,us,_,_,_,_,_,_,_,d1,d2,d3,d4,_⟩:=CR
      exact .inr (.inl ⟨⟨c1,oc,us,KX _ _ d1,d2,d3,d4⟩,rfl,#[],mor2,rfl,tM2⟩)
     ·exact .inl (kp b o hbT hbR e)
    ·by_cases hbT:b=tP
     ·subst hbT
      exact⟨_,tM⟩
     by_cases hbR:b=tR
     ·subst hbR
      exact⟨_,tM2⟩
     ·exact⟨o,kp b o hbT hbR e⟩
 cases hk:K.lookup a with
 | some o=>
  have e:=KX a o hk
  rw[ha] at e
  cases e
  refine core (fun b=>if b=tP∨b=tR then some (.tbl #[]) else none) (.inr ⟨_,vs.toArray,_,hk,rfl,rfl,rfl,by rw[Ja,lenV];exact hlz,by simpa using rv⟩) (fun b u z=>?_) (if_pos (.inl rfl)) (if_pos (.inr rfl)) (fun b hbT hbR=>.inl (if_neg fun z=>z.elim hbT hbR)) fun z=>absurd (if_neg fun z=>z.elim nTa.symm nRa.symm) z
  by_cases hbT:b=tP∨b=tR
  ·have z':=(if_pos hbT).symm.trans z
   cases z'
   rcases hbT with h|h <;> subst h
   ·exact(show s₁.heap.get? b=some _ from hT)
   ·exact(show s₁.heap.get? b=some _ from hR)
  ·have z':=(if_neg hbT).symm.trans z
   cases z'
 | none=>
  refine core (fun b=>if b=tP∨b=tR then some (.tbl #[]) else if b=a then some (.frz {cls:=.type "list",data:=.seq vs.toArray} (.lst (ns.map V.int))) else none) (.inl (.inr ⟨{cls:=.type "list",data:=.seq vs.toArray},by show(if a=tP∨a=tR then _ else _)=_;rw[if_neg fun z=>z.elim nTa.symm nRa.symm,if_pos rfl]⟩)) (fun b u z=>?_) (if_pos (.inl rfl)) (if_pos (.inr rfl)) (fun b hbT hbR=>?_) fun _=>hk
  ·by_cases hbT:b=tP∨b=tR
   ·have z':=(if_pos hbT).symm.trans z
    cases z'
    rcases hbT with h|h <;> subst h
    ·exact(show s₁.heap.get? b=some _ from hT)
    ·exact(show s₁.heap.get? b=some _ from hR)
   ·have z1:=(if_neg hbT).symm.trans z
    by_cases hb2:b=a
    ·have z':=(if_pos hb2).symm.trans z1
     cases z'
     subst hb2
     exact⟨ha,by rw[UP];exact hlz,vs,_,rv,ha⟩
    ·have z':=(if_neg hb2).symm.trans z1
     cases z'
  ·have hbT':¬(b=tP∨b=tR):=fun z=>z.elim hbT hbR
   by_cases hb2:b=a
   ·exact .inr ⟨hb2,_,_,by show(if b=tP∨b=tR then _ else _)=_;rw[if_neg hbT',if_pos hb2]⟩
   ·exact .inl (by show(if b=tP∨b=tR then _ else _)=_;rw[if_neg hbT',if_neg hb2])
theorem walkT2_of{l:PySem.W.OpenLaw}{k:Nat}{q:Program}{loose:List Str}{XP:(Str→Option Value)→Heap→Prop}{YP:World→Heap→Prop}{d:DefRec}{K:Params→UQ}{ts:List Addr}{x:Str}
  (hn:l.most=some 63) (hdf:d.params.defaults=[]) (hr:Room k callerA) (hY:∀(w:World)(h:Heap),YP w h→(K w.params).In h) (hTs:∀(w:World)(h:Heap),YP w h→∀P∈ts,h.get? P=some (Ni #[]))
  (F:∀(w:World)(mg:Str→Option Value)(fa:Addr)(h:Heap),(K w.params).In h→h.Ns mainGlobals mg→mg d.name=some (.ref fa)→
   ∃(fd:FuncData)(tP c0 tR c1:Addr),tP∈ts∧CodeK (K w.params) c0 tP∧(K w.params).lookup tP=none∧tR∈ts∧CodeK (K w.params) c1 tR∧(K w.params).lookup tR=none∧(∀(s:Shared)(u:Value),BindsTo s fd ⟨[u],[]⟩ [(x,u)])∧
    ∀base:Heap,(K w.params).In base→base.Ns mainGlobals mg→BltM mg base→FnOk l.prog w (K w.params) mg base CX0 k fa fd [x] (kdM (K w.params) tP tR)):
  PySem.W.WalkO q loose XP YP l.row.toRowW d [] (fun f vs=>PySem.call f vs):=by
 refine Att.attach_call hn hdf fun w s₀ s₁ mg mb fa o pm cd doc a vs ns G Y ho hd hcd hmg hobj hints hlen hg=>?_
 have KX:=hY w _ Y
 obtain⟨fd,tP,c0,tR,c1,hm,CK,kT,hm2,CR,kR,hb,hF⟩:=F w mg fa _ KX G.T.g hmg
 obtain⟨bm,ob,b1,b2,b3,b4,b5,b6⟩:=G.T.bmain
 exact khF KX G.T.g G.T.b G.T.builtins G.T.nolimit hg hobj hints hlen hr (hTs w _ Y tP hm) CK kT (hTs w _ Y tR hm2) CR kR ⟨bm,ob,b1,b2,b3,b4,b5,b6⟩ hF hb
end L2
namespace L2
open PySem PySem.Spec PyProof.Rows
def nd1(x:Str):([x]:List Str).Nodup:=by simp
noncomputable def But(x:Addr)(H H':Hp):Prop:=∀b o,b≠x→H b=some o→Ev H H' b o
def But.trans{x:Addr}{H H1 H2:Hp}(a:But x H H1)(b:But x H1 H2):But x H H2:=fun c o n h=>kbl (a c o n h) fun o' e=>b c o' n e
def But.same{x:Addr}{H H1 H2:Hp}(a:But x H H1)(b:Same H1 H2):But x H H2:=fun c o n h=>kbl (a c o n h) fun o' e=>b c o' e
def But.of_same{x:Addr}{H H1:Hp}(b:Same H H1):But x H H1:=fun c o _ h=>b c o h
def But.refl{x:Addr}{H:Hp}:But x H H:=fun b o _ h=>Same.refl H b o h
def kar{x:Addr}{H:Hp}{o:HO}(hx:NX H x:=by first|exact nx kac|exact nx (by assumption)|exact nx0 (by assumption)|exact kcw (nx kac) rfl|exact kcw (nx (by assumption)) rfl):But x H (upd H x o):=fun b u n e=>ev_eq (by rw[kaj n];exact e) fun t=>kcJ t n hx
def kal{H:Hp}{p:Addr}{o:HO}(hp:H p=none):Same H (upd H p o):=fun b u e=>ev_eq (by rw[kaj (kag e hp)];exact e) fun t=>kcJ t (kag e hp) (nx0 hp)
def kas{H H':Hp}{p:Addr}{o:HO}(hp:H p=none)(s:Same H H')(hx:NX H' p:=by first|exact nx (by assumption)|exact nx kac|exact kcw (nx (by assumption)) rfl|exact kcw (nx kac) rfl|exact kcw (nx0 (by assumption)) rfl|exact kcw (kcw (nx (by assumption)) rfl) rfl):Same H (upd H' p o):=fun b u e=>
 kbl (s b u e) fun u' e'=>ev_eq (by rw[kaj (kag e hp)];exact e') fun t=>kcJ t (kag e hp) hx
def kba{H:Hp}{x dx C:Addr}(hx:H x=none)(nd:H dx=none):Same H (upd (upd H dx (.own x)) x (.ins C dx [])):=fun b u e=>by
 have n1:=kag e hx
 have n2:=kag e nd
 exact ev_eq (by rw[kaj n1,kaj n2];exact e) fun t=>kcJ (kcJ t n2 (nx0 nd)) n1 (kcw (nx0 hx) rfl)
def kbo{H H':Hp}{x dx C:Addr}(hx:H x=none)(nd:H dx=none)(k:But x (upd (upd H dx (.own x)) x (.ins C dx [])) H'):Same H H':=fun b o e=>kbl (kba (C:=C) hx nd b o e) fun o' e'=>k b o' (kag e hx) e'
def kcW{H:Hp}{x dx C y:Addr}(h:(upd (upd H dx (.own x)) x (.ins C dx [])) y=none):H y=none:=by
 by_cases e1:y=x
 ·subst e1
  rw[kac] at h
  cases h
 ·rw[kaj e1] at h
  by_cases e2:y=dx
  ·subst e2
   rw[kac] at h
   cases h
  ·rw[kaj e2] at h
   exact h
def kfF{H:Hp}{x dx C y:Addr}{o:HO}(nx:H x=none)(nd:H dx=none)(h:H y=some o):(upd (upd H dx (.own x)) x (.ins C dx [])) y=some o:=by
 rw[kaj (kag h nx),kaj (kag h nd)]
 exact h
theorem kak{f:Str}{v:V}:∀{fs:List (Str×V)}{n:Nat},fs.length≤n→(putF f v fs).length≤n+1
 |[],n,_=>by
  show 1≤n+1
  omega
 | (g,x)::r,n,h=>by
  show(if g=f then(g,v)::r else(g,x)::putF f v r).length≤n+1
  have h':r.length+1≤n:=h
  split
  ·show r.length+1≤n+1
   omega
  ·show(putF f v r).length+1≤n+1
   have:=kak (f:=f) (v:=v) (fs:=r) (n:=n-1) (by omega)
   omega
def few{fs:List (Str×V)}(h:fs.length≤20):fs.length<1000:=by omega
theorem kbB{ns:List Addr}{i:Nat}{x:V}(h:(ns.map V.ref)[i]?=some x):∃z,ns[i]?=some z∧x=V.ref z:=by
 rw[UY] at h
 cases e:ns[i]? with
 |none=>rw[e] at h;cases h
 |some z=>rw[e] at h;exact⟨z,rfl,(Option.some.inj h).symm⟩
theorem kbI{α:Type}{g: α→V}{ns:List α}{i:Nat}{x:V}(h:(ns.map g)[i]?=some x):∃z,ns[i]?=some z∧x=g z:=by
 rw[UY] at h
 cases e:ns[i]? with
 |none=>rw[e] at h;cases h
 |some z=>rw[e] at h;exact⟨z,rfl,(Option.some.inj h).symm⟩
def at_lt{α:Type}{xs:List α}{i:Nat}{x: α}(h:xs[i]?=some x):i<xs.length:=(U0.mp h).1
def at_of{α:Type}{xs:List α}{i:Nat}(h:i<xs.length):∃x,xs[i]?=some x:=⟨xs[i],by simp[h]⟩
def kbQ{α:Type}{rs:List α}{i:Nat}{r: α}(h:rs[i]?=some r):rs.take (i+1)=rs.take i++[r]:=by
 rw[JN,h]
 rfl
inductive P2 {α β:Type} (R: α→β→Prop):List α→List β→Prop
 |nil:P2 R [] []
 |cons {a: α} {b: β} {as:List α} {bs:List β} (h:R a b) (t:P2 R as bs):P2 R (a::as) (b::bs)
section
variable {α β:Type} {R R': α→β→Prop} {as as':List α} {bs bs':List β}
theorem P2.of(hl:as.length=bs.length)(h:∀(i:Nat)(a: α)(b: β),as[i]?=some a→bs[i]?=some b→R a b):P2 R as bs:=by
 induction as generalizing bs with
 |nil=>
  cases bs with
  |nil=>exact .nil
  |cons b bs=>cases hl
 |cons a as ih=>
  cases bs with
  |nil=>cases hl
  |cons b bs=>exact .cons (h 0 a b rfl rfl) (ih (by simpa using hl) fun i x y e1 e2=>h (i+1) x y (by simpa using e1) (by simpa using e2))
theorem P2.len(h:P2 R as bs):as.length=bs.length:=by
 induction h with
 |nil=>rfl
 |cons r t ih=>simp[ih]
theorem P2.get(h:P2 R as bs){i:Nat}{a: α}{b: β}(e1:as[i]?=some a)(e2:bs[i]?=some b):R a b:=by
 induction h generalizing i with
 |nil=>simp at e1
 | cons r t ih=>
  cases i with
  |zero=>
   simp at e1 e2
   subst e1 e2
   exact r
  |succ i=>exact ih (by simpa using e1) (by simpa using e2)
theorem P2.at(h:P2 R as bs){i:Nat}{a: α}(e1:as[i]?=some a):∃b,bs[i]?=some b∧R a b:=by
 obtain⟨b,e2⟩:=at_of (xs:=bs) (i:=i) (by rw[←h.len];exact at_lt e1)
 exact⟨b,e2,h.get e1 e2⟩
theorem P2.mono(h:P2 R as bs)(k:∀a b,R a b→R' a b):P2 R' as bs:=by
 induction h with
 |nil=>exact .nil
 |cons r t ih=>exact .cons (k _ _ r) ih
theorem P2.append(h:P2 R as bs)(h':P2 R as' bs'):P2 R (as++as') (bs++bs'):=by
 induction h with
 |nil=>exact h'
 |cons r t ih=>exact .cons r ih
theorem P2.snoc(h:P2 R as bs){a: α}{b: β}(r:R a b):P2 R (as++[a]) (bs++[b]):=h.append (.cons r .nil)
theorem P2.take(h:P2 R as bs)(k:Nat):P2 R (as.take k) (bs.take k):=by
 induction h generalizing k with
 |nil=>simpa using P2.nil
 |cons r t ih=>
  cases k with
  |zero=>exact .nil
  |succ k=>exact .cons r (ih k)
theorem P2.drop(h:P2 R as bs)(k:Nat):P2 R (as.drop k) (bs.drop k):=by
 induction h generalizing k with
 |nil=>simpa using P2.nil
 |cons r t ih=>
  cases k with
  |zero=>exact .cons r t
  |succ k=>exact ih k
theorem P2.reverse(h:P2 R as bs):P2 R as.reverse bs.reverse:=by
 induction h with
 |nil=>exact .nil
 |cons r t ih=>
  rw[NF,NF]
  exact ih.append (.cons r .nil)
end
theorem rep1(n:Nat)(v:V):(UV n [v]).flatten=UV n v:=by
 induction n with
 |zero=>rfl
 |succ n ih=>rw[JR,Jl,ih,JR];rfl
def kii(n:Nat)(z:Int):UV n (V.int z)=(UV n z).map V.int:=by simp
def kkf(k:Int):(!decide (V.int k=V.non))=true:=by simp
def kke:(!decide (V.non=V.non))=false:=by simp
noncomputable def oV:Option Int→V
 |none=>.non
 |some z=>.int z
structure TxtB (mg:Str→Option Value):Prop where
 range:mg "range"=none
 len:mg "len"=none
 min:mg "min"=none
 max:mg "max"=none
 isi:mg "isinstance"=none
 bool:mg "bool"=none
 int:mg "int"=none
 list:mg "list"=none
 sum:mg "sum"=none
 enum:mg "enumerate"=none
 any:mg "any"=none
 all:mg "all"=none
 rev:mg "reversed"=none
 zip:mg "zip"=none
 abs:mg "abs"=none
 sorted:mg "sorted"=none
 tuple:mg "tuple"=none
 str:mg "str"=none
structure FunD (K:UQ) (x qual:Str) (st:Stmt) (f:Addr) (fd:FuncData):Prop where
 ex:∃(oc:Value)(od:Option Addr)(dV kV doc pm:Value)(an:Option Addr)(cdv ct:Value)(osl:Array (Option Value)),
  fd=U2 x qual (kax st) (kav st) (kaf st) dV kV doc pm an cdv ct∧K.lookup f=some ⟨oc,od, .func fd,osl⟩∧Jm K cdv qual=true
 kp:U5 K (.ref f)=true
theorem FunD.ok{P:Program}{w:World}{K:UQ}{mg:Str→Option Value}{base:Heap}{x qual:Str}{st:Stmt}{f:Addr}{fd:FuncData}{N ps:List Str}{k:Nat}{sp:Sp}(F:FunD K x qual st f fd)(S:kao N ps (kaf st))(len:∀vs H Q E,sp vs H Q E→vs.length=ps.length)
  (hbody:∀(cdv:Value)(A:Around)(outer:List Env)(s:Shared)(H:Hp)(vs:List V)(Q:VK)(E:XK),Room k (A.deeper (PyProof.Rows.envOfC qual (kaf st) s.heap.objs.size f cdv))→sp vs H Q E→
   ∃t,PSs (cxOf CX0 P w K mg base N qual (kaf st) f cdv A outer s H E).nox (kav st) t∧t {nx:=fun _ H'=>Q .non H',rt:=Q} (start N vs) H):FnOk P w K mg base CX0 (k+1) f fd ps sp:=by
 obtain⟨oc,od,dV,kV,doc,pm,an,cdv,ct,osl,rfl,lk,hcd⟩:=F.ex
 refine fn_of lk hcd S len fun A outer s H vs Q E hr hsp=>?_
 obtain⟨t,h,q⟩:=hbody cdv A outer s H vs Q E hr hsp
 exact⟨t,h.nox,q⟩
theorem FunD.okC{P:Program}{w:World}{K:UQ}{mg:Str→Option Value}{base:Heap}{x qual:Str}{st:Stmt}{f:Addr}{fd:FuncData}{N ps:List Str}{k:Nat}{sp:Sp}(F:FunD K x qual st f fd)(S:kao N ps (kaf st))(len:∀vs H Q E,sp vs H Q E→vs.length=ps.length)
  (hbody:∀(A:Around)(outer:List Env)(s:Shared)(H:Hp)(vs:List V)(Q:VK)(E:XK),Room k (A.deeper (PyProof.Rows.envOfC qual (kaf st) s.heap.objs.size f fd.code))→sp vs H Q E→
   ∃t,PSs (cxOf CX0 P w K mg base N qual (kaf st) f fd.code A outer s H E).nox (kav st) t∧t {nx:=fun _ H'=>Q .non H',rt:=Q} (start N vs) H):FnOk P w K mg base CX0 (k+1) f fd ps sp:=by
 obtain⟨oc,od,dV,kV,doc,pm,an,cdv,ct,osl,rfl,lk,hcd⟩:=F.ex
 refine fn_of lk hcd S len fun A outer s H vs Q E hr hsp=>?_
 obtain⟨t,h,q⟩:=hbody A outer s H vs Q E hr hsp
 exact⟨t,h.nox,q⟩
theorem ka8{K:UQ}{x qual:Str}{st:Stmt}{f:Addr}{oc:Value}{od an:Option Addr}{osl:Array (Option Value)}{dV kV doc pm cdv ct:Value}(l:K.lookup f=some ⟨oc,od, .func (U2 x qual (kax st) (kav st) (kaf st) dV kV doc pm an cdv ct),osl⟩)
  (c:Jm K cdv qual=true) (k:U5 K (.ref f)=true):FunD K x qual st f (U2 x qual (kax st) (kav st) (kaf st) dV kV doc pm an cdv ct):=⟨⟨oc,od,dV,kV,doc,pm,an,cdv,ct,osl,rfl,l,c⟩,k⟩
structure Dn (K:UQ) (mg:Str→Option Value) (x:Str) (st:Stmt) (ps:List Str) (f:Addr) (fd:FuncData):Prop where
 F:FunD K x x st f fd
 b:Binds K fd ps []
 m:mg x=some (.ref f)
structure Isi (K:UQ) (C:Addr):Prop where
 ha:US K (.ref C) "__class__"=some (some (.builtin "object.__class__"))
 hn:Nj K (.builtin "object.__class__") "__get__"=some (some (.builtin "getset_descriptor.__get__"))
 ht:Mg K (.builtin "object.__class__")=some true
 hm:UW K C (.type "object")=some true
def kaJ{K:UQ}{A B:Addr}{b:Bool}(mA:UW K A (.ref B)=some b)(ob:UW K B (.type "object")=some true)(ty:Js K (.ref B)=some (.type "type"))(ne:A≠B):U6 K (.ref A) (.ref B)=some b:=by
 have e:(Value.ref A==Value.ref B)=false:=beq_eq_false_iff_ne.mpr fun z=>ne (by injection z)
 obtain⟨cd,a,_⟩:=Option.bind_eq_some_iff.mp ob
 unfold U6 PySem.W.kitCls PySem.W.subIn
 rw[e,if_neg UX]
 show(if((PySem.W.clsIn K B).isSome&&Js K (.ref B)==some (.type "type"))=true then UW K A (.ref B) else none)=some b
 rw[a,ty,mA,if_pos (by simp)]
def kbb{K:UQ}{A B:Addr}(h:UW K A (.ref B)=some false)(hA:UW K A (.ref A)=some true):A≠B:=fun e=>by
 rw[←e,hA] at h
 cases h
structure ClsT (K:UQ) (mg:Str→Option Value) (nm:Str) (C:Addr):Prop where
 cl:Cls K C
 m:mg nm=some (.ref C)
 isi:Isi K C
 self:UW K C (.ref C)=some true
 ty:Js K (.ref C)=some (.type "type")
 makes:Jw K C=true
 kp:U5 K (.ref C)=true
structure MthT (K:UQ) (C:Addr) (m qual:Str) (st:Stmt) (ps:List Str) (f:Addr) (fd:FuncData):Prop where
 at_:US K (.ref C) m=some (some (.ref f))
 fn:Jv K (.ref f)=true
 F:FunD K m qual st f fd
 b:Binds K fd ps []
def MthT.me{K:UQ}{C:Addr}{m qual:Str}{st:Stmt}{ps:List Str}{f:Addr}{fd:FuncData}(h:MthT K C m qual st ps f fd):Meth K C m f:=⟨h.at_,h.fn,h.F.kp⟩
def MthT.mk'{K:UQ}{mg:Str→Option Value}{C:Addr}{nm qual:Str}{st:Stmt}{ps:List Str}{f:Addr}{fd:FuncData}(h:MthT K C "__init__" qual st ps f fd)(c:ClsT K mg nm C):Mk K C f:=⟨c.makes,h.at_,h.fn,c.kp⟩
end L2
namespace L2
open PySem PySem.Spec PyProof.Rows
section
variable {X:Cx}
theorem pcl{k:Nat}{f:Addr}{fd:FuncData}{ps:List Str}{sp:Sp}{x:Str}{st:Stmt}{e:Expr}{es:List Expr}{t:TA}{p pos:Pos}(F:FnOk X.prog X.w X.K X.mg X.base CX0 k f fd ps sp)(hr:Room k X.A)(D:Dn X.K X.mg x st ps f fd)(ha:PA X (e::es) t)
  (hg:Gl X x:=by rfl) (hdb:(x==("__debug__" :Str))=false:=by decide) (he:starEach (e::es) X.env=(false,eval e X.env)::starEach es X.env:=by rfl) (hpl:(backTo pos (starEach es X.env)).any (·.1)=false:=by rfl):
  PE X (.Call (.Name x p) (e::es) [] pos) (tCall sp [] E0 t):=kiu F hr hg D.m D.F.kp D.b .nil pass0 ha hdb he hpl
theorem psl{i:Nat}{x:Str}{e:Expr}{te:TE}{pos pos':Pos}(hN:X.N.Nodup)(he:PE X e te)(hi:X.N[i]?=some x:=by rfl)(hx:Loc X.env.scope x:=by first|exact Or.inl rfl|exact Or.inr rfl)(hs:swapsWith e (some (.Name x pos')) pos.line X.env=pure false:=by rfl)(hf:X.fn x=true∨X.env.scope.names.lookup x=some .local:=by first|exact .inl rfl|exact .inr rfl|assumption):
  PS X (.Assign [.Name x pos'] e pos) (tAsg te (gName i)):=klp hN hi hx he hs hf
theorem pgn{i:Nat}{x:Str}{pos:Pos}(hN:X.N.Nodup)(hi:X.N[i]?=some x:=by rfl)(hx:Loc X.env.scope x:=by first|exact Or.inl rfl|exact Or.inr rfl)(hf:X.fn x=true∨X.env.scope.names.lookup x=some .local:=by first|exact .inl rfl|exact .inr rfl|assumption):PG X (.Name x pos) (gName i):=kkL hN hi hx hf
end
end L2
namespace L2
open PySem PySem.Spec PyProof.Rows
section
variable {X:Cx}
end
end L2
namespace L2
open PySem PySem.Spec PyProof.Rows
noncomputable abbrev Fz(a:Addr)(o:Obj):HO:=.frz o (.own a)
noncomputable def unt(c:Addr)(H:Hp):Hp:=fun a=>if a=c then none else H a
def kdK{c:Addr}{H:Hp}:unt c H c=none:=if_pos rfl
def kaZ{c a:Addr}{H:Hp}(n:a≠c):unt c H a=H a:=if_neg n
def kji{c a:Addr}{H:Hp}{o:HO}(h:unt c H a=some o):a≠c∧H a=some o:=by
 by_cases e:a=c
 ·rw[e,kdK] at h
  cases h
 ·rw[kaZ e] at h
  exact⟨e,h⟩
section
variable {P:Program} {w:World} {H:Hp} {h:Heap} {c:Addr} {o:Obj}
theorem HOk.unt(x:HOk P w H h)(hc:H c=some (Fz c o)):HOk P w (unt c H) h:=fun b u e=>by
 obtain⟨n,e⟩:=kji e
 refine(x b u e).stay (fun _ _ _ q=>q) (fun d r=>?_) fun d xs r=>?_
 ·rw[kaZ (ne_of r hc (by intro z;cases z))]
  exact r
 ·rw[kaZ (ne_of r hc (by intro z;cases z))]
  exact r
theorem HOk.fz(x:HOk P w H h)(hn:H c=none)(ho:h.get? c=some o):HOk P w (upd H c (Fz c o)) h:=fun b u e=>by
 by_cases hb:b=c
 ·subst hb
  rw[kac] at e
  cases e
  exact⟨ho,o,ho⟩
 ·rw[kaj hb] at e
  refine(x b u e).stay (fun _ _ _ q=>q) (fun d r=>?_) fun d xs r=>?_
  ·rw[kaj (kag r hn)]
   exact r
  ·rw[kaj (kag r hn)]
   exact r
theorem HOk.fz_at(x:HOk P w H h)(hc:H c=some (Fz c o)):h.get? c=some o:=(show ObjOk P w H h c (Fz c o) from x c _ hc).1
end
structure LamS (scope:Scope) (x y:Str):Prop where
 kind:scope.kind=.function
 par:scope.names.lookup x=some .local
 fre:scope.names.lookup y=some .free
 only:∀p∈scope.names,p.2=.free→p.1=y
 nocell:∀p∈scope.names,p.2≠.cell
 co:scope.isCoroutine=false
 gen:scope.isGenerator=false
structure Clo (cl:List (Str×Addr)) (y:Str) (c:Addr):Prop where
 at_:cl.lookup y=some c
 only:∀z a,cl.lookup z=some a→z=y∧a=c
noncomputable abbrev envM(qual:Str)(scope:Scope)(cl:List (Str×Addr))(f cc:Addr)(s:Shared):Env:=PySem.W.envX qual scope s.heap.objs.size f (.ref cc) cl
noncomputable def cxM(P:Program)(w:World)(K:UQ)(mg:Str→Option Value)(base:Heap)(N:List Str)(qual:Str)(scope:Scope)(cl:List (Str×Addr))(f cc:Addr)(A:Around)(outer:List Env)(s:Shared)(H:Hp):Cx where
 prog:=P
 w:=w
 K:=K
 mg:=mg
 base:=base
 A:=A.deeper (envM qual scope cl f cc s)
 N:=N
 s₀:=s
 H₀:=H
 env:=envM qual scope cl f cc s
 outer:=outer
 stack:=envM qual scope cl f cc s::outer
 ex:=[]
 calm:=true
 fn:=fun _=>false
 pn:=[]
 xe:=fun _ _=>False
noncomputable def spLam(f c cc:Addr)(fo co:Obj)(qual:Str)(vy:V)(te:TE):Sp:=fun vs H Q _=>∃v,vs=[v]∧H f=some (Fz f fo)∧H c=some (Fz c co)∧H cc=some (CodeO cc qual)∧te [some v,some vy] (unt c H) fun v' H'=>H' c=none→Q v' (upd H' c (Fz c co))
section
variable {P:Program} {w:World} {K:UQ} {mg:Str→Option Value} {base:Heap} {k:Nat} {f c cc:Addr} {fo co:Obj} {scope:Scope} {x y:Str} {name qual:Str} {params:Arguments} {body:Expr} {cl:List (Str×Addr)} {pm ctv uy:Value} {vy:V} {te:TE}
theorem kjJ{A:Around}{outer:List Env}{s:Shared}{H:Hp}{v:V}{u:Value}{h1:Heap}{t:Nat}(S:LamS scope x y)(C:Clo cl y c)(e0:Env0 P w K mg base A outer s H)(hd:A.handled=none)(ho:s.heap.get? c=some co)(hco:co.data=.cell (some uy))(ry:RelV vy uy)(hc:H c=some (Fz c co))(r:RelV v u)
  (hns:h1.Ns s.heap.objs.size fun z=>[(x,u)].reverse.lookup z) (hk:∀b o,s.heap.get? b=some o→h1.get? b=some o):
  Inv (cxM P w K mg base [x,y] qual scope cl f cc A outer s (unt c H)) [] [some v,some vy] (unt c H) {s with heap:=h1,toks:=t}:=by
 have noA:∀b:Addr,b∉(cxM P w K mg base [x,y] qual scope cl f cc A outer s (unt c H)).ex:=fun b z=>absurd (show b∈([]:List Addr) from z) (by simp)
 have ul:∀{b:Addr},H b=none→unt c H b=none:=fun {b} n=>by
  by_cases e:b=c
  ·rw[e];exact kdK
  ·rw[kaZ e];exact n
 have cell1:h1.IsCell c (some uy):=⟨co,hk _ _ ho,hco⟩
 refine⟨⟨e0.mod,S.kind,rfl,rfl,UR _,fun a b d h1 h2=>(C.only a d h1).1.trans (C.only b d h2).1.symm,fun a ha=>?_,fun a d h _=>(show False by cases(show false=true from h)).elim,fun _=>hd,Around.frames_deeper e0.frames, .inr ⟨rfl,rfl⟩,fun b z=>absurd z (noA b),fun b o e=>⟨(e0.bs b o e).1,ul (e0.bs b o e).2⟩,e0.bsz,fun b _ _=>noA b,fun b z=>absurd z (noA b),e0.funs,fun b hb=>ul (e0.frf b hb)⟩,
  rfl,e0.bare,Un.kept hk,⟨_,hns,fun j z w' e1 e2 e3=>?_⟩,fun a d e=>?_,ul (e0.hok.fresh (UR _)),fun a d e=>?_,fun p hp=>absurd (show p∈([]:List (Addr×Obj)) from hp) (by simp),(e0.hok.unt hc).kept hk,rfl⟩
 ·have ha':scope.names.lookup a=some .cell∨scope.names.lookup a=some .free:=ha
  rcases ha' with q|q
  ·exact absurd rfl (S.nocell _ (PySem.mem_of_lookup q))
  ·have:a=y:=S.only _ (PySem.mem_of_lookup q) rfl
   subst this
   exact⟨c,C.at_⟩
 ·match j with
  |0=>
   have ez:x=z:=Option.some.inj (show some x=some z from e1)
   have ev:v=w':=Option.some.inj (Option.some.inj (show some (some v)=some (some w') from e2))
   subst ez ev
   exact⟨u,r, .inl ⟨S.par,by simp⟩⟩
  |1=>
   have ez:y=z:=Option.some.inj (show some y=some z from e1)
   have ev:vy=w':=Option.some.inj (Option.some.inj (show some (some vy)=some (some w') from e2))
   subst ez ev
   exact⟨uy,ry, .inr ⟨.inr S.fre,c,C.at_,cell1⟩⟩
  |j+2=>simp at e2
 ·rw[(C.only a d e).2]
  exact⟨_,cell1⟩
 ·rw[(C.only a d e).2]
  exact kdK
theorem klB(S:LamS scope x y)(C:Clo cl y c)(hfo:fo=J8 name qual params body scope cl pm cc ctv)(hco:co.data=.cell (some uy))(ry:RelV vy uy)
  (he:∀(A:Around)(outer:List Env)(s:Shared)(H:Hp),Room k (A.deeper (envM qual scope cl f cc s))→PE (cxM P w K mg base [x,y] qual scope cl f cc A outer s H) body te):
  FnOk P w K mg base CX0 (k+1) f (Mr name qual params body scope cl pm (.ref cc) ctv) [x] (spLam f c cc fo co qual vy te):=by
 refine⟨fun vs H Q E ⟨v,e,_⟩=>by rw[e];rfl,fun A outer s H args us vs Q E hr e0 hb r hsp=>?_⟩
 obtain⟨v,rfl,hf,hc,hcc,hq⟩:=hsp
 obtain⟨u,rfl,ru⟩:=r.one
 have of:=e0.hok.fz_at hf
 have oc:=e0.hok.fz_at hc
 have hcr:s.heap.CodeRec (.ref cc) qual:=(show ObjOk P w H s.heap cc (CodeO cc qual) from e0.hok cc _ hcc).1
 have lim:s.heap.NoLimit:=e0.mod.nolimit.keeps fun b o e=>(e0.bs b o e).1
 rw[hfo] at of
 refine MO hr.depth of rfl S.co S.gen rfl hcr (hb _ _ _ _ ?_)
 refine wpAny_newFunctionEnv S.nocell (fun z hz=>?_) (fun h1 hns hsb=>⟨lim.fresh _ hsb,?_⟩) S.kind
 ·have:z=(x,u):=by simpa using hz
  rw[this]
  exact S.par
 have hk:∀b o,s.heap.get? b=some o→h1.get? b=some o:=fun b o e=>hsb.extBut b o (Je (Heap.lt_size e)) (Heap.get?_push_of_some _ e)
 have J:=kjJ (qual:=qual) (f:=f) (cc:=cc) (t:=s.toks+1) S C e0 hr.hd oc hco ry hc ru hns hk
 refine MP (wpAny_mono (he A outer s (unt c H) (hr.deeper _) [] _ _ _ _ J hq) (fun w' s' hw=>?_) fun _ _ z=>z.elim)
 obtain⟨v',H',J',rv,qv⟩:=hw
 have fc:H' c=none:=J'.base.free c co oc kdK (by intro z;cases z)
 have nst:c∉frs outer:=fun z=>by
  have:=e0.frf c z
  rw[hc] at this
  cases this
 have oc':s'.heap.get? c=some co:=J'.base.keep c co oc kdK nst (by intro z;cases z)
 have un:=J'.base
 have un0:∀{b:Addr},H b=none→unt c H b=none:=fun {b} n=>by
  by_cases z:b=c
  ·rw[z]
   exact kdK
  ·rw[kaZ z]
   exact n
 have tr:∀{b:Addr}{o:HO},H b=some o→(∀ob,o≠Fz c ob)→b≠c:=fun {b o} e n z=>by
  rw[z,hc] at e
  cases e
  exact n _ rfl
 refine⟨v',upd H' c (Fz c co),J'.os,J'.bare,⟨fun b o e n hb hx=>?_,fun b o e n hb hx=>?_,fun b o e n hx=>?_,fun b o e hx=>un.there b o e hx,fun b xs e=>?_,fun b o u' e=>?_,fun b ps e=>?_⟩,J'.hok.fz fc oc',rv,qv fc⟩
 ·exact un.keep b o e (un0 n) hb hx
 ·exact un.slot b o e (un0 n) hb hx
 ·have z:b≠c:=fun z=>by rw[z,hc] at n;cases n
  rw[kaj z]
  exact un.free b o e (un0 n) hx
 ·have z:=tr e (fun _ z=>by cases z)
  rw[kaj z]
  exact un.tups b xs (by show unt c H b=_;rw[kaZ z];exact e)
 ·by_cases z:b=c
  ·subst z
   rw[hc] at e
   rw[kac,←e]
  ·rw[kaj z]
   exact un.frzs b o u' (by show unt c H b=_;rw[kaZ z];exact e)
 ·have z:=tr e (fun _ z=>by cases z)
  obtain⟨m,q⟩:=un.tbls b ps (by show unt c H b=_;rw[kaZ z];exact e)
  exact⟨m,by rw[kaj z];exact q⟩
end
section
variable {X:Cx} {scope:Scope} {x y:Str} {N:List Str} {cap:List (Option Nat)} {c0 P:Addr} {params:Arguments} {body:Expr} {lpos:Pos}
noncomputable def tLam(X:Cx)(P:Addr)(scope:Scope)(params:Arguments)(body:Expr)(lpos:Pos):TE:=fun _ H Q=>TbAt P H∧∀(H2:Hp)(f cc:Addr)(pm ctv:Value),Grew P H H2→H f=none→H2 f=none→H2 cc=some (CodeO cc (lamN lpos))→
 Q (.ref f) (upd H2 f (Fz f (J8 "<lambda>" (lamN lpos) params body scope (closL X.env.cells scope.names []) pm cc ctv)))
theorem klv(S:kct X scope x N cap)(hcode:X.env.code=.ref c0)(CK:CodeK X.K c0 P)(hB:BltM X.mg X.base)(hq:X.env.qual++ "<lambda>"=lamN lpos:=by rfl)(hdef:defaultsOf params X.env=([],[]):=by rfl):
  PE X (.Lambda params body scope lpos) (tLam X P scope params body lpos):=by
 intro pins s σ H Q I h
 obtain⟨TB,h⟩:=h
 refine khb S I hcode CK hB TB hq hdef fun s4 H4 f cc pm ctv I4 G ef ff hsf hfr ec=>?_
 obtain⟨q1,q2,q3,q4,q5,q6⟩:=I.fpOk hsf ff
 exact⟨.ref f,_,I4.adopt (a:=f) (o:=Fz f _) ⟨ff,q2,q3,q4,q5,q6⟩ (UT I.sz hsf) ⟨ef,_,ef⟩,rfl,h H4 f cc pm ctv G (I.hok.fresh hsf) ff ec⟩
noncomputable def kll(X:Cx)(y:Str)(i:Nat)(sp:Sp)(t:TA):TE:=fun σ H Q=>t σ H fun vs H1=>∃vy,σ[i]?=some (some vy)∧∀(c:Addr)(co:Obj)(uy:Value),X.env.cells.lookup y=some c→H1 c=none→co.data=.cell (some uy)→RelV vy uy→
 sp vs (upd H1 c (Fz c co)) (fun v H'=>H' c=some (Fz c co)→Q v (unt c H')) E0
theorem kju{k i:Nat}{f:Addr}{fd:FuncData}{ps:List Str}{sp:Sp}{x0:Str}{st:Stmt}{e:Expr}{es:List Expr}{t:TA}{p pos:Pos}(F:FnOk X.prog X.w X.K X.mg X.base CX0 k f fd ps sp)(hr:Room k X.A)(D:Dn X.K X.mg x0 st ps f fd)(ha:PA X (e::es) t)
  (hN:X.N[i]?=some y) (hy:X.env.scope.names.lookup y=some .cell) (hfn:X.fn y=true) (hg:Gl X x0:=by rfl) (hdb:(x0==("__debug__" :Str))=false:=by decide) (he:starEach (e::es) X.env=(false,eval e X.env)::starEach es X.env:=by rfl) (hpl:(backTo pos (starEach es X.env)).any (·.1)=false:=by rfl):
  PE X (.Call (.Name x0 p) (e::es) [] pos) (kll X y i sp t):=by
 intro pins s σ H Q I h
 refine wpAny_Call_Name_kw (kd7 I hg D.m ?_ hdb)
 refine Nk (h₀:=X.base) I.ok.mod.kin D.F.kp (thn (ha pos pins s σ H _ I h) fun us s1 ⟨vs,H1,I1,r,vy,hv,q⟩=>⟨I1.kIn,?_⟩) he hpl
 obtain⟨m,_,hl⟩:=I1.loc
 obtain⟨uy,ry,lk⟩:=hl i y vy hN hv (.inr (.inl hy))
 obtain⟨c,ec,co,oc,hco⟩:∃c,X.env.cells.lookup y=some c∧s1.heap.IsCell c (some uy):=by
  rcases lk with⟨k1,_⟩|⟨_,c,ec,z⟩
  ·have k1':X.env.scope.names.lookup y=some .local:=k1
   rw[hy] at k1'
   cases k1'
  ·exact⟨c,ec,z⟩
 have hc:=I1.freeC y c ec
 have q2:=q c co uy ec hc hco ry
 have szc:=I1.ok.cab y c hfn ec
 have e0:=I1.env0
 have nlo:c≠X.env.locals:=fun z=>by
  obtain⟨o,es,ep,ho,hd,_⟩:=I1.loc.choose_spec.1
  rw[←z,oc] at ho
  cases ho
  rw[hd] at hco
  cases hco
 have nfs:c∉X.fs:=fun z=>by
  have:=I1.ok.funs.mem z
  obtain⟨_,o,ho,_⟩:=this
  exact absurd (Heap.lt_size ho) (NK.mpr szc)
 have nfr:c∉frs X.stack:=fun z=>by
  rcases I1.ok.stk with e|⟨e,e2⟩
  ·rw[e] at z
   exact nfs z
  ·rw[e] at z
   unfold frs at z
   rw[Nx,e2] at z
   rcases Jd.mp z with h1|h1
   ·exact nlo h1
   ·exact nfs h1
 have nbs:∀b o,X.base.get? b=some o→b≠c:=fun b o e z=>by
  have:=Heap.lt_size e
  rw[z] at this
  exact absurd this (NK.mpr (UT I1.ok.bsz szc))
 have e1:Env0 X.prog X.w X.K X.mg X.base X.A X.stack s1 (upd H1 c (Fz c co)):=⟨e0.frames,e0.mod,fun b o e=>⟨(e0.bs b o e).1,by rw[kaj (nbs b o e)];exact(e0.bs b o e).2⟩,e0.bsz,e0.funs,fun b hb=>by rw[kaj (show b≠c from fun z=>by rw[z] at hb;exact nfr hb)];exact e0.frf b hb,e0.hok.fz hc oc,e0.bare⟩
 have hlen:us.length=ps.length:=by rw[←r.length];exact F.len _ _ _ _ q2
 have hb:=D.b s1 us I1.kIn (by rw[JQ];exact hlen)
 rw[JQ] at hb
 refine wpAny_call (codeAny_mono (F.run X.A X.stack s1 _ ⟨us,[]⟩ us vs _ E0 hr e1 hb r q2) fun rs s' hq=>?_)
 cases rs with
 |error e=>exact hq.elim
 | ok fl=>
  cases fl with
  |next=>exact False.elim hq
  |brk=>exact False.elim hq
  |cont=>exact False.elim hq
  | ret u=>
   obtain⟨v,H',os,bare,un,hok,rv,qv⟩:=hq
   have fz:=un.frzs c co (.own c) kac
   have oc':=hok.fz_at fz
   have nn:∀{b:Addr}{o:HO},H1 b=some o→b≠c:=fun {b o} e=>kag e hc
   have un2:Un (frs X.stack) [] H1 (unt c H') s1.heap s'.heap:=by
    refine⟨fun b o e n hb hx=>?_,fun b o e n hb hx=>?_,fun b o e n hx=>?_,fun b o e hx=>un.there b o e hx,fun b xs e=>?_,fun b o u' e=>?_,fun b qs e=>?_⟩
    ·by_cases z:b=c
     ·subst z
      rw[oc] at e
      cases e
      exact oc'
     ·exact un.keep b o e (by rw[kaj z];exact n) hb hx
    ·have z:b≠c:=fun z=>by rw[z] at hb;exact nfr hb
     exact un.slot b o e (by rw[kaj z];exact n) hb hx
    ·by_cases z:b=c
     ·rw[z]
      exact kdK
     ·rw[kaZ z]
      exact un.free b o e (by rw[kaj z];exact n) hx
    ·rw[kaZ (nn e)]
     exact un.tups b xs (by rw[kaj (nn e)];exact e)
    ·rw[kaZ (nn e)]
     exact un.frzs b o u' (by rw[kaj (nn e)];exact e)
    ·obtain⟨m,q⟩:=un.tbls b qs (by rw[kaj (nn e)];exact e)
     exact⟨m,by rw[kaZ (nn e)];exact q⟩
   exact⟨v,unt c H',I1.call' (ch:=[]) os un2 (hok.unt fz) bare (fun b hb=>by simp at hb),rv,qv fz⟩
noncomputable def klk(i:Nat)(f:Addr)(fo:Obj)(sp:Sp)(t:TA):TE:=fun σ H Q=>σ[i]?=some (some (.ref f))∧t σ H fun vs H1=>H1 f=some (Fz f fo)∧sp vs H1 Q E0
theorem kjt{k i:Nat}{f:Addr}{fo:Obj}{fd:FuncData}{ps:List Str}{sp:Sp}{x:Str}{e:Expr}{es:List Expr}{t:TA}{p pos:Pos}(hv:PE X (.Name x p) (tVar i))(F:FnOk X.prog X.w X.K X.mg X.base CX0 k f fd ps sp)(hr:Room k X.A)(hfo:fo.data=.func fd)(hb:Binds X.K fd ps [])(ha:PA X (e::es) t)
  (he:starEach (e::es) X.env=(false,eval e X.env)::starEach es X.env:=by rfl) (hpl:(backTo pos (starEach es X.env)).any (·.1)=false:=by rfl):
  PE X (.Call (.Name x p) (e::es) [] pos) (klk i f fo sp t):=by
 intro pins s σ H Q I h
 obtain⟨h0,h⟩:=h
 refine wpAny_Call_Name_kw (thn (hv pins s σ H (fun v H'=>v=.ref f∧t σ H' fun vs H1=>H1 f=some (Fz f fo)∧sp vs H1 Q E0) I ⟨_,h0,rfl,h⟩) fun u s1 ⟨v,H1,I1,r,ev,q⟩=>?_)
 subst ev
 cases r
 rw[he]
 refine PySem.W.callWith_of (P:=fun h=>h.get? f=some fo) (by show((false||(backTo pos (starEach es X.env)).any (·.1))||false)=false;rw[hpl];rfl) (fun h e=>⟨.frame, .inl rfl,?_⟩) (Calls.evalArgs_plain ?_)
 ·obtain⟨oc,od,dt,sl⟩:=fo
  cases(show dt=.func fd from hfo)
  exact(PySem.W.Looks.ld (part:=none) e).andThen .now
 ·have ha':=ha pos pins s1 σ H1 _ I1 q
  rw[he] at ha'
  exact thn ha' fun us s2 ⟨vs,H2,I2,r2,hf,q2⟩=>⟨I2.hok.fz_at hf,kft F hr hb .nil pass0 I2 r2 (by rw[JQ];exact q2)⟩
end
end L2
namespace L2
open PySem PySem.Spec PyProof.Rows
def klL{scope:Scope}{x y:Str}{cells:List (Str×Addr)}{c:Addr}(S:LamS scope x y)(hc:cells.lookup y=some c):Clo (closL cells scope.names []) y c:=by
 have ev:∀{z a},(closL cells scope.names []).lookup z=some a→z=y∧a=c:=fun {z a} h=>by
  rcases kc0 _ _ h with⟨h1,h2⟩|h1
  ·have e:z=y:=S.only _ h1 rfl
   subst e
   rw[hc] at h2
   exact⟨rfl,h2⟩
  ·cases h1
 obtain⟨a,ea⟩:=kb3 (cells:=cells) (x:=y) scope.names [] (.inl (PySem.mem_of_lookup S.fre))
 refine⟨?_,fun z a h=>ev h⟩
 rw[ea,(ev ea).2]
def kj2{b c:Addr}{o:Obj}{H:Hp}(hc:H c=some (Fz c o))(h:TbAt b H):TbAt b (unt c H):=by
 obtain⟨ps,e,t,hor⟩:=h
 refine⟨ps,by rw[kaZ (ne_of e hc (by intro z;cases z))];exact e,t,fun pos d ed=>?_⟩
 obtain⟨c',rfl,z⟩:=hor pos d ed
 exact⟨c',rfl,by rw[kaZ (ne_of z hc (by intro z;cases z))];exact z⟩
def kif{H H':Hp}{c:Addr}{o:Obj}(hc:H c=some (Fz c o))(s:Same (unt c H) H')(hn:H' c=none):Same H (upd H' c (Fz c o)):=fun b u e=>by
 by_cases h:b=c
 ·subst h
  rw[hc] at e
  cases e
  exact kac
 ·have q:=s b u (by rw[kaZ h];exact e)
  cases u with
  |tbl ps=>exact⟨⟨_,by rw[kaj h];exact q.1.choose_spec⟩,fun t=>kcJ (q.2 (kj2 hc t)) h (nx0 hn)⟩
  |_=>exact(by rw[kaj h];exact q:(upd H' c (Fz c o)) b=some _)
theorem kkC{H H':Hp}{c:Addr}{o:Obj}(h0:H c=none)(s:Same H H')(hc:H' c=some (Fz c o)):Same H (unt c H'):=fun b u e=>by
 have h:b≠c:=kag e h0
 have q:=s b u e
 cases u with
 |tbl ps=>exact⟨⟨_,by rw[kaZ h];exact q.1.choose_spec⟩,fun t=>kj2 hc (q.2 t)⟩
 |_=>exact(by rw[kaZ h];exact q:(unt c H') b=some _)
end L2
namespace L2
open PySem PySem.Spec PyProof.Rows
section
variable {X:Cx}
end
end L2
namespace War
structure Row where
 kd:Int
 pr:Int
 mn:Int
 ex:Option Int
structure Row.Ok (r:Row):Prop where
 pr0:0≤r.pr
 pr1:r.pr≤1000000000000
 mn0:0≤r.mn
 mn1:r.mn≤60
 ex0:∀z,r.ex=some z→0≤z∧z≤1000000000000
noncomputable def prc(m:Bool)(r:Row):Int:=if m=true then r.ex.getD r.pr else r.pr
noncomputable def own(rs:List Row):List Int:=(rs.zipIdx.map fun p=>UV p.1.mn.toNat (p.2:Int)).flatten
noncomputable def prs(m:Bool)(rs:List Row):List Int:=(rs.map fun r=>UV r.mn.toNat (prc m r)).flatten
def kjv(rs:List Row)(r:Row):own (rs++[r])=own rs++UV r.mn.toNat (rs.length:Int):=by
 unfold own
 rw[List.zipIdx_append,UZ,NR]
 simp
def kjp(m:Bool)(rs:List Row)(r:Row):prs m (rs++[r])=prs m rs++UV r.mn.toNat (prc m r):=by
 unfold prs
 rw[UZ,NR]
 simp
theorem kg2:∀(rs:List Row)(k:Nat),(∀r∈rs,r.Ok)→((rs.zipIdx k).map fun p=>UV p.1.mn.toNat (p.2:Int)).flatten.length≤60*rs.length
 |[],_,_=>by simp
 |r::rs,k,h=>by
  have h1:=kg2 rs (k+1) fun x hx=>h x (Jb _ hx)
  have h2:=(h r Ji).mn1
  rw[Mt,U4,Jl,U9,JX,Jp]
  show r.mn.toNat+_≤_
  omega
def kix(rs:List Row)(h:∀r∈rs,r.Ok):(own rs).length≤60*rs.length:=kg2 rs 0 h
theorem kio(m:Bool):∀(rs:List Row),(∀r∈rs,r.Ok)→(prs m rs).length≤60*rs.length
 |[],_=>by simp[prs]
 |r::rs,h=>by
  have h1:=kio m rs fun x hx=>h x (Jb _ hx)
  have h2:=(h r Ji).mn1
  unfold prs at h1⊢
  rw[U4,Jl,U9,JX,Jp]
  omega
def kkb{m:Bool}{r:Row}(h:r.Ok):0≤prc m r∧prc m r≤1000000000000:=by
 unfold prc
 split
 ·cases e:r.ex with
  |none=>exact⟨h.pr0,h.pr1⟩
  |some z=>exact h.ex0 z e
 ·exact⟨h.pr0,h.pr1⟩
def take_snoc{α:Type}{rs:List α}{i:Nat}{r: α}(h:rs[i]?=some r):rs.take (i+1)=rs.take i++[r]:=by
 rw[JN,h]
 rfl
end War
namespace Kin
noncomputable def Good(ps:List (Option Nat)):Prop:=∀(i k:Nat),ps[i]?=some (some k)→k<i
noncomputable def anc(ps:List (Option Nat)):Nat→Nat→List Nat
 |0,_=>[]
 |f+1,i=>i::(match ps[i]? with|some (some k)=>anc ps f k|_=>[])
noncomputable def up(ps:List (Option Nat))(i:Nat):List Nat:=anc ps (i+1) i
theorem kjZ{ps:List (Option Nat)}(g:Good ps):∀(f f' i:Nat),i<f→i<f'→anc ps f i=anc ps f' i:=by
 intro f
 induction f with
 |zero=>intro f' i h;omega
 | succ f ih=>
  intro f' i h h'
  cases f' with
  |zero=>omega
  | succ f'=>
   show i::_=i::_
   congr 1
   cases e:ps[i]? with
   |none=>rfl
   | some o=>
    cases o with
    |none=>rfl
    |some k=>
     have hk:=g i k e
     exact ih f' k (by omega) (by omega)
def kkv{ps:List (Option Nat)}(g:Good ps){i k:Nat}(e:ps[i]?=some (some k)):up ps i=i::up ps k:=by
 have hk:=g i k e
 show i::_=_
 rw[e]
 show i::anc ps i k=i::up ps k
 rw[kjZ g i (k+1) k hk (by omega)]
 rfl
def kkw{ps:List (Option Nat)}{i:Nat}(e:ps[i]?=some none):up ps i=[i]:=by
 show i::_=_
 rw[e]
noncomputable def rest(ps:List (Option Nat)):Option Nat→List Nat
 |none=>[]
 |some k=>up ps k
noncomputable def left:Option Nat→Nat
 |none=>0
 |some k=>k+1
theorem up_eq{ps:List (Option Nat)}(g:Good ps){i:Nat}{o:Option Nat}(e:ps[i]?=some o):up ps i=i::rest ps o:=by
 cases o with
 |none=>exact kkw e
 |some k=>exact kkv g e
def kjO:Good []:=fun i k e=>by simp at e
def kiV{ps:List (Option Nat)}(g:Good ps){o:Option Nat}(h:∀k,o=some k→k<ps.length):Good (ps++[o]):=by
 intro i k e
 rcases Nat.lt_trichotomy i ps.length with hi|hi|hi
 ·rw[Nl hi] at e
  exact g i k e
 ·subst hi
  rw[Nd (UR _)] at e
  simp at e
  exact h k e
 ·rw[Nd (by omega)] at e
  have:(i-ps.length)≠0:=by omega
  cases q:i-ps.length with
  |zero=>omega
  |succ n=>rw[q] at e;simp at e
end Kin
namespace Kin
end Kin
namespace Deal
noncomputable def pre(ws:List Int)(k:Nat):Int:=(ws.take k).sum
noncomputable def part(c:Int)(ws:List Int)(j:Nat):Int:=c*pre ws (j+1)/ws.sum-c*pre ws j/ws.sum
noncomputable def dl(c:Int)(ws:List Int):List Int:=if ws.sum=0 then ws.map (fun _=>0) else(UU ws.length).map (part c ws)
def kjq(ws:List Int):pre ws 0=0:=by simp[pre]
def kip(ws:List Int):pre ws ws.length=ws.sum:=by simp[pre]
def kdH{ws:List Int}{i:Nat}{w:Int}(h:ws[i]?=some w):pre ws (i+1)=pre ws i+w:=by
 unfold pre
 rw[JN,h]
 simp
def keD(c:Int)(ws:List Int):(dl c ws).length=ws.length:=by
 unfold dl
 split <;> simp
def dl_at{c:Int}{ws:List Int}(h:¬ws.sum=0){j:Nat}(hj:j<ws.length):(dl c ws)[j]?=some (part c ws j):=by
 unfold dl
 rw[if_neg h]
 simp[hj]
def ki0{c:Int}{ws:List Int}(h:ws.sum=0){j:Nat}(hj:j<ws.length):(dl c ws)[j]?=some 0:=by
 unfold dl
 rw[if_pos h]
 simp[hj]
noncomputable def Nn(ws:List Int):Prop:=∀w∈ws,0≤w
theorem kbY:∀{ws:List Int},Nn ws→0≤ws.sum
 |[],_=>by simp
 |w::ws,h=>by
  have:=kbY (ws:=ws) fun x hx=>h x (Jb _ hx)
  have h1:=h w Ji
  simp
  omega
theorem kiw{c s A w:Int}(hs:0<s)(hc:0≤c)(hcs:c≤s)(hw:0≤w):0≤c*(A+w)/s-c*A/s∧c*(A+w)/s-c*A/s≤w∧
  (c*(A+w)/s-c*A/s)*s-c*w<s∧-s<(c*(A+w)/s-c*A/s)*s-c*w:=by
 have e:c*(A+w)=c*A+c*w:=Int.mul_add ..
 rw[e]
 generalize hx:c*A=x
 have h1:0≤c*w:=Int.mul_nonneg hc hw
 have h2:c*w≤w*s:=by
  rw[Int.mul_comm w s]
  exact Int.mul_le_mul_of_nonneg_right hcs hw
 generalize hy:c*w=y at h1 h2
 have m1:x/s≤(x+y)/s:=Int.ediv_le_ediv hs (by omega)
 have m2:(x+y)/s≤(x+w*s)/s:=Int.ediv_le_ediv hs (by omega)
 rw[Int.add_mul_ediv_right _ _ (by omega)] at m2
 have d1:=Int.emod_add_mul_ediv x s
 have d2:=Int.emod_add_mul_ediv (x+y) s
 have r1:=Int.emod_nonneg x (show s≠0 by omega)
 have r2:=Int.emod_lt_of_pos x hs
 have r3:=Int.emod_nonneg (x+y) (show s≠0 by omega)
 have r4:=Int.emod_lt_of_pos (x+y) hs
 have e3:((x+y)/s-x/s)*s=s*((x+y)/s)-s*(x/s):=by
  rw[Int.sub_mul,Int.mul_comm,Int.mul_comm (x/s)]
 rw[e3]
 refine⟨by omega,by omega,by omega,by omega⟩
end Deal
namespace Vs
open Kin Deal
structure Mks where
 kind:Option Nat
 needs:Int
 most:Option Int
 member:Bool
 once:Bool
 lone:Bool
inductive Srt
 |off (a:Int)
 |share (s:Int) (b:Bool)
 |cheap (n:Int)
 |bund (n p:Int)
 |carr
structure Vch where
 so:Srt
 ms:Mks
structure Stnd where
 ow:List Nat
 pr:List Int
 cg:Int
 mkd:List Bool
noncomputable def kHit(ps:List (Option Nat))(kind:Option Nat)(kd:Nat):Bool:=match kind with
 |none=>true
 |some k=>decide (k∈up ps kd)
noncomputable def hits(ps:List (Option Nat))(kds:List Nat)(kind:Option Nat)(lone:Bool)(mkd:List Bool)(l:Nat):Bool:=
 kHit ps kind (kds.getD l 0)&&(!lone|| !(mkd.getD l false))
noncomputable def abt(ps:List (Option Nat))(kds:List Nat)(kind:Option Nat)(lone:Bool)(S:Stnd):List Nat:=
 (UU S.ow.length).filter fun i=>hits ps kds kind lone S.mkd (S.ow.getD i 0)
def khp{ps:List (Option Nat)}{kds:List Nat}{kind:Option Nat}{lone:Bool}{S:Stnd}{i:Nat}(h:i∈abt ps kds kind lone S):i<S.ow.length:=by
 have:=(JB.mp h).1
 simpa using this
def kf0(ps:List (Option Nat))(kds:List Nat)(kind:Option Nat)(lone:Bool)(S:Stnd):(abt ps kds kind lone S).Nodup:=Nh.filter _ NS
def keg(ps:List (Option Nat))(kds:List Nat)(kind:Option Nat)(lone:Bool)(S:Stnd):(abt ps kds kind lone S).length≤S.ow.length:=by
 have:=Nu (fun i=>hits ps kds kind lone S.mkd (S.ow.getD i 0)) (UU S.ow.length)
 simpa[abt] using this
noncomputable def qs(pr:List Int)(is:List Nat):List Int:=is.map fun i=>pr.getD i 0
def kbN(pr:List Int)(is:List Nat):(qs pr is).length=is.length:=by simp[qs]
noncomputable def spr(n:Nat)(is:List Nat)(vs:List Int):List Int:=(UU n).map fun i=>((is.zip vs).lookup i).getD 0
def kcy(n:Nat)(is:List Nat)(vs:List Int):(spr n is vs).length=n:=by simp[spr]
def kkz(n:Nat)(vs:List Int):spr n [] vs=UV n 0:=by
 unfold spr
 apply J0
 ·simp
 ·intro i h1 h2
  simp
theorem kgl{l:List (Nat×Int)}{i j:Nat}{v:Int}(h:∀p∈l,p.1≠i):(l++[(i,v)]).lookup j=if j=i then some v else l.lookup j:=by
 induction l with
 | nil=>
  simp only[NG,Jq,List.lookup_nil]
  by_cases e:j=i
  ·subst e;simp
  ·have:(j==i)=false:=beq_eq_false_iff_ne.mpr e
   simp[this,e]
 | cons p l ih=>
  obtain⟨k,w⟩:=p
  have ih':=ih fun q hq=>h q (Jb _ hq)
  have hk:k≠i:=h (k,w) Ji
  simp only[NQ,Jq]
  by_cases e:j=k
  ·subst e
   simp[hk]
  ·have:(j==k)=false:=beq_eq_false_iff_ne.mpr e
   simp only[this]
   exact ih'
theorem kky{n:Nat}{is:List Nat}{vs:List Int}(hn:is.Nodup){k i:Nat}{v:Int}(h1:is[k]?=some i)(h2:vs[k]?=some v)(hi:i<n):
  (spr n (is.take k) (vs.take k)).set i v=spr n (is.take (k+1)) (vs.take (k+1)):=by
 have e1:is.take (k+1)=is.take k++[i]:=by rw[JN,h1];rfl
 have e2:vs.take (k+1)=vs.take k++[v]:=by rw[JN,h2];rfl
 have hk1:k<is.length:=(U0.mp h1).1
 have hk2:k<vs.length:=(U0.mp h2).1
 have ez:(is.take (k+1)).zip (vs.take (k+1))=(is.take k).zip (vs.take k)++[(i,v)]:=by
  rw[e1,e2,List.zip_append (by simp;omega)]
  rfl
 have hne:∀p∈(is.take k).zip (vs.take k),p.1≠i:=fun p hp e=>by
  have hm:p.1∈is.take k:=(JW hp).1
  rw[e] at hm
  obtain⟨j,hj,ej⟩:=List.getElem_of_mem hm
  rw[U8] at hj
  rw[List.getElem_take] at ej
  have e3:is[k]=i:=by
   obtain⟨_,q⟩:=U0.mp h1
   exact q
  exact J9.mp hn j k (by omega) hk1 (by omega) (by rw[ej,e3])
 apply J0
 ·simp[spr]
 ·intro j h3 h4
  have hj:j<n:=by simpa[spr] using h4
  rw[List.getElem_set]
  simp only[spr,Nr,NT]
  rw[ez,kgl hne]
  by_cases e:i=j
  ·subst e;simp
  ·have:¬j=i:=fun z=>e z.symm
   simp[e,this]
noncomputable def bef(q:List Int)(a b:Nat):Prop:=q.getD b 0<q.getD a 0∨(q.getD a 0=q.getD b 0∧a<b)
noncomputable def Fall(q:List Int)(r:List Nat):Prop:=r.Perm (UU q.length)∧r.Pairwise (bef q)
def kjW{q:List Int}{a b:Nat}(h:bef q a b)(h':bef q b a):False:=by
 unfold bef at h h'
 omega
theorem kdQ{R:Nat→Nat→Prop}(asym:∀a b,R a b→R b a→False):∀{l l':List Nat},l.Perm l'→l.Pairwise R→l'.Pairwise R→l=l'
 |[],l',p,_,_=>(List.nil_perm.mp p).symm
 | a ::l,l',p,h,h'=>by
  cases l' with
  |nil=>exact absurd p.length_eq (by simp)
  | cons b l'=>
   have hab:a=b:=by
    rcases Classical.em (a=b) with e|e
    ·exact e
    ·have ha:a∈b::l':=p.mem_iff.mp Ji
     have hb:b∈a::l:=p.mem_iff.mpr Ji
     rcases Jd.mp ha with e1|ha
     ·exact absurd e1 e
     ·rcases Jd.mp hb with e2|hb
      ·exact absurd e2.symm e
      ·exact(asym a b ((NU.mp h).1 b hb) ((NU.mp h').1 a ha)).elim
   subst hab
   congr 1
   exact kdQ asym (NV.cons_inv p) (NU.mp h).2 (NU.mp h').2
def kgs{q:List Int}{r r':List Nat}(h:Fall q r)(h':Fall q r'):r=r':=
 kdQ (fun _ _ a b=>kjW a b) (h.1.trans h'.1.symm) h.2 h'.2
noncomputable def grp(n:Nat)(r:List Nat):List (List Nat):=(UU (r.length/n)).map fun g=>(r.drop (g*n)).take n
end Vs
namespace Vs
open Kin Deal
noncomputable def Le2(xs ys:List Int):Prop:=xs.length=ys.length∧∀(j:Nat)(v w:Int),xs[j]?=some v→ys[j]?=some w→0≤v∧v≤w
def Le2.nil:Le2 [] []:=⟨rfl,fun j v w e=>by simp at e⟩
def Le2.self{xs:List Int}(h:Nn xs):Le2 xs xs:=⟨rfl,fun j v w e1 e2=>by
 rw[e1] at e2
 cases e2
 exact⟨h v (U1 e1),Int.le_refl _⟩⟩
def Le2.nn{xs ys:List Int}(h:Le2 xs ys):Nn xs:=fun v hv=>by
 obtain⟨j,hj,e⟩:=List.getElem_of_mem hv
 exact(h.2 j v (ys[j]'(by rw[←h.1];exact hj)) (by simp[hj,e]) (by simp[show j<ys.length by rw[←h.1];exact hj])).1
def Le2.trans{xs ys zs:List Int}(h:Le2 xs ys)(h':Le2 ys zs):Le2 xs zs:=⟨h.1.trans h'.1,fun j v w e1 e2=>by
 have hj:j<xs.length:=(U0.mp e1).1
 have e3:ys[j]?=some (ys[j]'(by rw[←h.1];exact hj)):=by simp[show j<ys.length by rw[←h.1];exact hj]
 have a:=h.2 j v _ e1 e3
 have b:=h'.2 j _ w e3 e2
 omega⟩
def Le2.append{xs ys xs' ys':List Int}(h:Le2 xs ys)(h':Le2 xs' ys'):Le2 (xs++xs') (ys++ys'):=by
 refine⟨by simp[h.1,h'.1],fun j v w e1 e2=>?_⟩
 have hl:=h.1
 rcases Nat.lt_or_ge j xs.length with hj|hj
 ·rw[Nl hj] at e1
  rw[Nl (by omega)] at e2
  exact h.2 j v w e1 e2
 ·rw[Nd hj] at e1
  rw[Nd (by omega),←hl] at e2
  exact h'.2 _ v w e1 e2
theorem Le2.sum:∀{xs ys:List Int},Le2 xs ys→0≤xs.sum∧xs.sum≤ys.sum
 |[],[],_=>by simp
 |[],_::_,h=>by have:=h.1;simp at this
 |_::_,[],h=>by have:=h.1;simp at this
 |x::xs,y::ys,h=>by
  have h0:=h.2 0 x y rfl rfl
  have h1:Le2 xs ys:=⟨by simpa using h.1,fun j v w e1 e2=>h.2 (j+1) v w (by simpa using e1) (by simpa using e2)⟩
  have h2:=Le2.sum h1
  simp
  omega
def dl_le{c:Int}{ws:List Int}(hn:Nn ws)(h0:0≤c)(h1:c≤ws.sum):Le2 (dl c ws) ws:=by
 refine⟨keD c ws,fun j v w e1 e2=>?_⟩
 have hj:j<ws.length:=(U0.mp e2).1
 have hw:=hn w (U1 e2)
 by_cases hs:ws.sum=0
 ·rw[ki0 hs hj] at e1
  cases e1
  exact⟨Int.le_refl _,hw⟩
 ·rw[dl_at hs hj] at e1
  cases e1
  have hp:0<ws.sum:=by
   have:=kbY hn
   omega
  have q:=kiw (A:=pre ws j) hp h0 h1 hw
  unfold part
  rw[kdH e2]
  exact⟨q.1,q.2.1⟩
theorem kdf{is:List Nat}{vs:List Int}{i:Nat}{v:Int}(h:(is.zip vs).lookup i=some v):∃k:Nat,is[k]?=some i∧vs[k]?=some v:=by
 induction is generalizing vs with
 |nil=>simp at h
 | cons a is ih=>
  cases vs with
  |nil=>simp at h
  | cons b vs=>
   simp only[List.zip_cons_cons,Jq] at h
   by_cases e:i=a
   ·subst e
    simp at h
    exact⟨0,rfl,by simp[h]⟩
   ·have:(i==a)=false:=beq_eq_false_iff_ne.mpr e
    rw[this] at h
    obtain⟨k,h1,h2⟩:=ih h
    exact⟨k+1,by simpa using h1,by simpa using h2⟩
theorem kfg{pr:List Int}{is:List Nat}{vs:List Int}(hn:Nn pr)(hv:Le2 vs (qs pr is)):Le2 (spr pr.length is vs) pr:=by
 refine⟨kcy _ _ _,fun j v w e1 e2=>?_⟩
 have hj:j<pr.length:=(U0.mp e2).1
 have hw:=hn w (U1 e2)
 have e3:v=((is.zip vs).lookup j).getD 0:=by
  simp[spr,hj] at e1
  exact e1.symm
 cases e4:(is.zip vs).lookup j with
 |none=>
  rw[e4] at e3
  subst e3
  exact⟨Int.le_refl _,hw⟩
 |some u=>
  rw[e4] at e3
  have e3':v=u:=e3
  subst e3'
  obtain⟨k,h1,h2⟩:=kdf e4
  refine hv.2 k v w h2 ?_
  simp only[qs,UY,h1,NI]
  rw[Jc,e2]
  rfl
theorem qs_nn{pr:List Int}(hn:Nn pr)(is:List Nat):Nn (qs pr is):=fun v hv=>by
 obtain⟨i,_,rfl⟩:=Jf.mp hv
 rw[Jc]
 cases e:pr[i]? with
 |none=>exact Int.le_refl _
 |some w=>exact hn w (U1 e)
noncomputable def leQ(q:List Int)(a b:Nat):Bool:=decide (q.getD b 0<q.getD a 0∨(q.getD a 0=q.getD b 0∧a≤b))
noncomputable def ordQ(q:List Int):List Nat:=(UU q.length).mergeSort (leQ q)
def kcO(q:List Int):(ordQ q).Perm (UU q.length):=List.mergeSort_perm _ _
def kdW(q:List Int):Fall q (ordQ q):=by
 refine⟨kcO q,?_⟩
 have h1:(ordQ q).Pairwise (fun a b=>leQ q a b=true):=List.pairwise_mergeSort (le:=leQ q) (fun a b c h h'=>by simp only[leQ,decide_eq_true_eq] at *;omega) (fun a b=>by simp only[leQ,Mn,decide_eq_true_eq];omega) _
 have h2:(ordQ q).Nodup:=(kcO q).nodup_iff.mpr NS
 refine(h1.and h2).imp fun {a b} h=>?_
 have h3:=h.1
 have h4:a≠b:=h.2
 simp only[leQ,decide_eq_true_eq] at h3
 unfold bef
 omega
noncomputable def gdl(cut:Int→Int)(gs:List (List Nat))(q:List Int):List Int:=spr q.length gs.flatten ((gs.map fun g=>dl (cut (qs q g).sum) (qs q g)).flatten)
def kil(q:List Int)(a b:List Nat):qs q (a++b)=qs q a++qs q b:=by simp[qs]
theorem kkj{cut:Int→Int}{gs:List (List Nat)}{q:List Int}(hn:Nn q)(hc:∀s,0≤s→0≤cut s∧cut s≤s):Le2 (gdl cut gs q) q:=by
 refine kfg hn ?_
 induction gs with
 |nil=>exact Le2.nil
 |cons g gs ih=>
  rw[U4,Jl,Jl,kil]
  have h:=hc _ (kbY (qs_nn hn g))
  exact(dl_le (qs_nn hn g) h.1 h.2).append ih
noncomputable def kee(n:Nat)(lines:List Nat):List (List Nat):=(UU n).map fun l=>(UU lines.length).filter fun k=>lines.getD k 0==l
noncomputable def lasts(gs:List (List Nat)):List Nat:=gs.map fun g=>g.getLastD 0
noncomputable def want(so:Srt)(n:Nat)(lines:List Nat)(q:List Int):List Int:=match so with
 | .off a=>dl (min a q.sum) q
 | .share s false=>dl (q.sum*s/1000) q
 | .share s true=>gdl (fun z=>z*s/1000) (kee n lines) q
 | .cheap m=>spr q.length (lasts (grp m.toNat (ordQ q))) (qs q (lasts (grp m.toNat (ordQ q))))
 | .bund m p=>gdl (fun z=>max 0 (z-p)) (grp m.toNat (ordQ q)) q
 | .carr=>UV q.length 0
noncomputable def fee(so:Srt)(cg:Int):Int:=match so with
 | .carr=>cg
 |_=>0
noncomputable def SrtOk:Srt→Prop
 | .off a=>0≤a∧a≤1000000000000
 | .share s _=>1≤s∧s≤1000
 | .cheap n=>2≤n∧n≤20
 | .bund n p=>2≤n∧n≤20∧0≤p∧p≤1000000000000
 | .carr=>True
def keM{z s:Int}(hz:0≤z)(h1:1≤s)(h2:s≤1000):0≤z*s/1000∧z*s/1000≤z:=by
 have a:0≤z*s:=Int.mul_nonneg hz (by omega)
 have b:z*s≤z*1000:=Int.mul_le_mul_of_nonneg_left h2 hz
 omega
def klm{q:List Int}(hn:Nn q):Le2 (UV q.length 0) q:=by
 refine⟨by simp,fun j v w e1 e2=>?_⟩
 have:v=0:=by
  rw[Mi] at e1
  split at e1
  ·exact(Option.some.inj e1).symm
  ·cases e1
 subst this
 exact⟨Int.le_refl _,hn w (U1 e2)⟩
def kf1{a:Int}{n:Nat}{lines:List Nat}{q:List Int}(hn:Nn q)(h0:0≤a):Le2 (want (.off a) n lines q) q:=by
 have hs:=kbY hn
 show Le2 (dl (min a q.sum) q) q
 exact dl_le hn (by omega) (by omega)
theorem keG{s:Int}{e:Bool}{n:Nat}{lines:List Nat}{q:List Int}(hn:Nn q)(h1:1≤s)(h2:s≤1000):Le2 (want (.share s e) n lines q) q:=by
 have hs:=kbY hn
 cases e with
 |false=>
  show Le2 (dl (q.sum*s/1000) q) q
  have h:=keM hs h1 h2
  exact dl_le hn h.1 h.2
 |true=>
  show Le2 (gdl (fun z=>z*s/1000) (kee n lines) q) q
  exact kkj hn fun z hz=>keM hz h1 h2
def kfd{m p:Int}{n:Nat}{lines:List Nat}{q:List Int}(hn:Nn q)(h0:0≤p):Le2 (want (.bund m p) n lines q) q:=by
 show Le2 (gdl (fun z=>max 0 (z-p)) (grp m.toNat (ordQ q)) q) q
 exact kkj hn fun z hz=>⟨by show 0≤max 0 (z-p);omega,by show max 0 (z-p)≤z;omega⟩
def keH{m:Int}{n:Nat}{lines:List Nat}{q:List Int}(hn:Nn q):Le2 (want (.cheap m) n lines q) q:=by
 show Le2 (spr q.length _ (qs q _)) q
 exact kfg hn (Le2.self (qs_nn hn _))
def kfc{n:Nat}{lines:List Nat}{q:List Int}(hn:Nn q):Le2 (want .carr n lines q) q:=klm hn
theorem khM{so:Srt}{n:Nat}{lines:List Nat}{q:List Int}(hn:Nn q)(ho:SrtOk so):Le2 (want so n lines q) q:=by
 cases so with
 |off a=>exact kf1 hn ho.1
 |share s e=>exact keG hn ho.1 ho.2
 |cheap m=>exact keH hn
 |bund m p=>exact kfd hn ho.2.2.1
 |carr=>exact kfc hn
noncomputable def cap(most:Option Int)(w:List Int)(f:Int):List Int×Int:=match most with
 |none=>(w,f)
 |some m=>if m<w.sum+f then(dl (min m w.sum) w,min f m) else(w,f)
theorem klM{most:Option Int}{w q:List Int}{f cg:Int}(h:Le2 w q)(hf:0≤f∧f≤cg)(hm:∀m,most=some m→0≤m):Le2 (cap most w f).1 q∧0≤(cap most w f).2∧(cap most w f).2≤cg:=by
 unfold cap
 cases most with
 |none=>exact⟨h,hf⟩
 |some m=>
  have h0:=hm m rfl
  have hs:=kbY h.nn
  simp only
  split
  ·exact⟨(dl_le h.nn (by omega) (by omega)).trans h,by simp only;omega,by simp only;omega⟩
  ·exact⟨h,hf⟩
noncomputable def cutM(V:Vch)(ps:List (Option Nat))(kk:List Nat)(S:Stnd):List Int×Int:=
 let is:=abt ps kk V.ms.kind V.ms.lone S
 let c:=cap V.ms.most (want V.so S.mkd.length (is.map fun i=>S.ow.getD i 0) (qs S.pr is)) (fee V.so S.cg)
 (spr S.pr.length is c.1,c.2)
def kko{V:Vch}{ps:List (Option Nat)}{kk:List Nat}{S:Stnd}(hn:Nn S.pr)(hc:0≤S.cg)(ho:SrtOk V.so)(hm:∀m,V.ms.most=some m→0≤m):Le2 (cutM V ps kk S).1 S.pr∧0≤(cutM V ps kk S).2∧(cutM V ps kk S).2≤S.cg:=by
 have hf:0≤fee V.so S.cg∧fee V.so S.cg≤S.cg:=by
  unfold fee
  split <;> omega
 have h:=klM (most:=V.ms.most) (khM (n:=S.mkd.length) (lines:=(abt ps kk V.ms.kind V.ms.lone S).map fun i=>S.ow.getD i 0) (qs_nn hn (abt ps kk V.ms.kind V.ms.lone S)) ho) hf hm
 exact⟨kfg hn h.1,h.2⟩
noncomputable def kcZ(ow:List Nat)(c:List Int)(l:Nat):Bool:=(UU ow.length).any fun i=>ow.getD i 0==l&&decide (0<c.getD i 0)
noncomputable def aftM(V:Vch)(ps:List (Option Nat))(kk:List Nat)(S:Stnd):Stnd:=
 ⟨S.ow,Jx (· - ·) S.pr (cutM V ps kk S).1,S.cg-(cutM V ps kk S).2,(UU S.mkd.length).map fun l=>S.mkd.getD l false||(V.ms.lone&&kcZ S.ow (cutM V ps kk S).1 l)⟩
def klP{V:Vch}{ps:List (Option Nat)}{kk:List Nat}{S:Stnd}(hn:Nn S.pr)(hc:0≤S.cg)(ho:SrtOk V.so)(hm:∀m,V.ms.most=some m→0≤m):Le2 (aftM V ps kk S).pr S.pr∧0≤(aftM V ps kk S).cg∧(aftM V ps kk S).cg≤S.cg:=by
 have h:=kko (ps:=ps) (kk:=kk) hn hc ho hm
 refine⟨⟨?_,fun j v w e1 e2=>?_⟩,?_,?_⟩
 ·show(Jx _ _ _).length=_
  rw[NW,h.1.1]
  omega
 ·have hj:j<S.pr.length:=(U0.mp e2).1
  have hj2:j<(cutM V ps kk S).1.length:=by rw[h.1.1];exact hj
  have e3:(cutM V ps kk S).1[j]?=some ((cutM V ps kk S).1[j]):=by simp[hj2]
  have b:=h.1.2 j _ w e3 e2
  have e4:(Jx (· - ·) S.pr (cutM V ps kk S).1)[j]?=some (w-(cutM V ps kk S).1[j]):=by
   rw[NY,e2,e3]
  have e1':(Jx (· - ·) S.pr (cutM V ps kk S).1)[j]?=some v:=e1
  rw[e4] at e1'
  cases e1'
  omega
 ·show 0≤S.cg-_
  have:=h.2
  omega
 ·show S.cg-_≤S.cg
  have:=h.2
  omega
end Vs
namespace Vs
open Kin Deal
structure Sel (q:List Int) (row left:List Nat):Prop where
 pm:(row++left).Perm (UU q.length)
 inc:left.Pairwise (· < ·)
 pw:row.Pairwise (bef q)
 cr:∀r∈row,∀l∈left,bef q r l
def Sel.start(q:List Int):Sel q [] (UU q.length):=⟨NV.refl _,Mu, .nil,fun r hr=>by simp at hr⟩
def Sel.lt{q:List Int}{row left:List Nat}(h:Sel q row left){i:Nat}(hi:i∈left):i<q.length:=by
 have:=h.pm.mem_iff.mp (Jt row hi)
 simpa using this
def Sel.len{q:List Int}{row left:List Nat}(h:Sel q row left):row.length+left.length=q.length:=by
 have:=h.pm.length_eq
 simpa using this
def Sel.fin{q:List Int}{row:List Nat}(h:Sel q row []):row=ordQ q:=by
 refine kgs ⟨?_,h.pw⟩ (kdW q)
 have:=h.pm
 rwa [JQ] at this
noncomputable def TopI(q:List Int)(left:List Nat)(i top:Nat):Prop:=(∃k,left[k]?=some top∧(k<i∨k=0))∧∀y∈left.take i,y=top∨bef q top y
def TopI.start{q:List Int}{left:List Nat}{t:Nat}(h:left[0]?=some t):TopI q left 0 t:=⟨⟨0,h, .inr rfl⟩,fun y hy=>by simp at hy⟩
def TopI.more{q:List Int}{left:List Nat}{i top x:Nat}(inc:left.Pairwise (· < ·))(h:TopI q left i top)(hx:left[i]?=some x):TopI q left (i+1) (if q.getD top 0<q.getD x 0 then x else top):=by
 obtain⟨⟨k,ek,hk⟩,hy⟩:=h
 have et:left.take (i+1)=left.take i++[x]:=by rw[JN,hx];rfl
 split
 ·rename_i hlt
  refine⟨⟨i,hx, .inl (by omega)⟩,fun y hm=>?_⟩
  rw[et] at hm
  rcases Jy.mp hm with h1|h1
  ·refine .inr (.inl ?_)
   rcases hy y h1 with rfl|h2
   ·exact hlt
   ·unfold bef at h2
    omega
  ·exact .inl (by simpa using h1)
 ·rename_i hge
  refine⟨⟨k,ek,by omega⟩,fun y hm=>?_⟩
  rw[et] at hm
  rcases Jy.mp hm with h1|h1
  ·exact hy y h1
  ·have e:y=x:=by simpa using h1
   subst e
   by_cases hki:k=i
   ·subst hki
    rw[ek] at hx
    exact .inl (Option.some.inj hx).symm
   ·have hlt:top<y:=by
     obtain⟨l1,q1⟩:=U0.mp ek
     obtain⟨l2,q2⟩:=U0.mp hx
     have:=J9.mp inc k i l1 l2 (by omega)
     rwa [q1,q2] at this
    refine .inr ?_
    unfold bef
    omega
def Sel.step{q:List Int}{row left:List Nat}{top:Nat}(h:Sel q row left)(ht:TopI q left left.length top):Sel q (row++[top]) (left.erase top)∧top∈left:=by
 obtain⟨⟨k,ek,_⟩,hy⟩:=ht
 have hm:=U1 ek
 rw[Jn] at hy
 have nd:left.Nodup:=h.inc.imp fun hlt=>Je hlt
 refine⟨⟨?_,h.inc.sublist (List.erase_sublist),?_,?_⟩,hm⟩
 ·refine NV.trans ?_ h.pm
  rw[J7]
  exact NV.append_left row (List.perm_cons_erase hm).symm
 ·exact List.pairwise_append.mpr ⟨h.pw,List.pairwise_singleton _ _,fun r hr t ht=>by
   have e:t=top:=by simpa using ht
   subst e
   exact h.cr r hr t hm⟩
 ·intro r hr l hl
  have hl':=(nd.mem_erase_iff).mp hl
  rcases Jy.mp hr with h1|h1
  ·exact h.cr r h1 l hl'.2
  ·have e:r=top:=by simpa using h1
   subst e
   rcases hy l hl'.2 with h2|h2
   ·exact absurd h2 hl'.1
   ·exact h2
end Vs
namespace Vs
open Kin Deal
def khe{m:Nat}{r:List Nat}{i:Nat}{g:List Nat}(h:(grp m r)[i]?=some g):i*m+m≤r.length∧g.length=m∧∀j,j<m→g[j]?=r[i*m+j]?:=by
 unfold grp at h
 rw[UY] at h
 have hi:i<r.length/m:=by
  rcases Nat.lt_or_ge i (r.length/m) with q|q
  ·exact q
  ·rw[NM (by simpa using q)] at h
   cases h
 rw[NZ hi] at h
 cases h
 have hle:i*m+m≤r.length:=by
  have h1:(i+1)*m≤r.length/m*m:=Nat.mul_le_mul_right m hi
  have h2:=Nat.div_mul_le_self r.length m
  rw[Nat.add_mul,Nat.one_mul] at h1
  omega
 refine⟨hle,by rw[U8,Nm];omega,fun j hj=>?_⟩
 rw[MF hj,List.getElem?_drop]
theorem kgp{m:Nat}{r:List Nat}{i:Nat}{g:List Nat}(hm:0<m)(h:(grp m r)[i]?=some g):r[i*m+(m-1)]?=some (g.getLastD 0):=by
 obtain⟨hle,hl,hg⟩:=khe h
 rw[←hg (m-1) (by omega)]
 cases g with
 |nil=>simp at hl;omega
 |cons x xs=>
  have e:(x::xs).getLastD 0=(x::xs).getLast (by simp):=by simp[List.getLastD]
  rw[e,List.getLast_eq_getElem,U0]
  refine⟨by omega,?_⟩
  congr 1
  omega
def kha{gs:List (List Nat)}{i:Nat}{g:List Nat}(h:gs[i]?=some g):(lasts gs)[i]?=some (g.getLastD 0):=by
 unfold lasts
 rw[UY,h]
 rfl
def kcX(gs:List (List Nat)):(lasts gs).length=gs.length:=by simp[lasts]
def kgo{m:Nat}{r:List Nat}(hm:0<m)(hr:r.Nodup):(lasts (grp m r)).Nodup:=by
 refine J9.mpr fun i j hi hj hij e=>?_
 rw[kcX] at hi hj
 have e1:(grp m r)[i]?=some (grp m r)[i]:=by simp[hi]
 have e2:(grp m r)[j]?=some (grp m r)[j]:=by simp[hj]
 have a1:=kgp hm e1
 have a2:=kgp hm e2
 have b1:=kha e1
 have b2:=kha e2
 obtain⟨_,c1⟩:=U0.mp b1
 obtain⟨_,c2⟩:=U0.mp b2
 rw[c1,c2] at e
 rw[e] at a1
 obtain⟨l1,d1⟩:=U0.mp a1
 obtain⟨l2,d2⟩:=U0.mp a2
 have hlt:i*m+(m-1)<j*m+(m-1):=by
  have:=Nat.mul_lt_mul_of_pos_right hij hm
  omega
 exact J9.mp hr _ _ l1 l2 hlt (by rw[d1,d2])
def kkN{q:List Int}{i:Nat}(h:i∈ordQ q):i<q.length:=by
 have:=(kcO q).mem_iff.mp h
 simpa using this
end Vs
namespace Vs
open Kin Deal
def kjl{n:Nat}{is:List Nat}{vs:List Int}{i:Nat}{v:Int}(hl:is.length=vs.length)(hn:(is++[i]).Nodup)(hi:i<n):(spr n is vs).set i v=spr n (is++[i]) (vs++[v]):=by
 have h:=kky (n:=n) (is:=is++[i]) (vs:=vs++[v]) hn (k:=is.length) (i:=i) (v:=v) (by simp) (by rw[hl];simp) hi
 rw[List.take_left' rfl,List.take_left' hl.symm,JY (by simp),JY (by simp[hl])] at h
 exact h
def kdL{gs:List (List Nat)}(h:gs.flatten.Nodup){i k a:Nat}{g:List Nat}(hg:gs[i]?=some g)(hk:g[k]?=some a):((gs.take i).flatten++g.take k++[a]).Nodup:=by
 have e:gs=gs.take i++g::gs.drop (i+1):=by
  obtain⟨hi,eg⟩:=U0.mp hg
  rw[←eg,MQ hi,Mv]
 have e2:g=(g.take k++[a])++g.drop (k+1):=by
  obtain⟨hk',ek⟩:=U0.mp hk
  rw[J7,List.singleton_append,←ek,MQ hk',Mv]
 rw[e,NR,Jl] at h
 rw[J7]
 refine h.sublist (List.Sublist.append_left ?_ _)
 refine List.Sublist.trans ?_ (MR g _)
 conv=>rhs;rw[e2]
 exact MR _ _
theorem kjN{m:Nat}(r:List Nat):(grp m r).flatten=r.take (r.length/m*m):=by
 unfold grp
 have hle:r.length/m*m≤r.length:=Nat.div_mul_le_self _ _
 generalize r.length/m=c at *
 induction c with
 |zero=>simp
 |succ c ih=>
  have h1:c*m+m≤r.length:=by rw[←Nat.succ_mul];exact hle
  rw[JE,UZ,NR,ih (by omega)]
  simp only[U4,Nf,Jl,List.flatten_nil,JQ]
  rw[show(c+1)*m=c*m+m by rw[Nat.add_mul,Nat.one_mul],List.take_add]
def kiR{m:Nat}{r:List Nat}(h:r.Nodup):(grp m r).flatten.Nodup:=by
 rw[kjN]
 exact h.sublist (List.take_sublist _ _)
end Vs
namespace Vs
open Kin Deal
theorem kcx{is:List Nat}(hn:is.Nodup){k i:Nat}(hk:is[k]?=some i):∀(l:List (Nat×Int)),(∀p∈l,p.1<is.length)→(l.map fun p=>(is.getD p.1 0,p.2)).lookup i=l.lookup k
 |[],_=>rfl
 | (j,v)::l,h=>by
  have ih:=kcx hn hk l fun p hp=>h p (Jb _ hp)
  have hj:j<is.length:=h (j,v) Ji
  obtain⟨hk',ek⟩:=U0.mp hk
  have e:is.getD j 0=is[j]:=by rw[Jc];simp[hj]
  simp only[U4,Jq,e]
  by_cases q:k=j
  ·subst q
   simp[ek]
  ·have h1:(k==j)=false:=by simp[q]
   have h2:(i==is[j])=false:=by
    refine beq_eq_false_iff_ne.mpr fun z=>q ?_
    exact(List.getElem_inj hn).mp (by rw[ek,z])
   rw[h1,h2]
   exact ih
theorem lookup_none{is:List Nat}{i:Nat}(hi:∀k:Nat,is[k]?≠some i):∀(l:List (Nat×Int)),(∀p∈l,p.1<is.length)→(l.map fun p=>(is.getD p.1 0,p.2)).lookup i=none
 |[],_=>rfl
 |(j,v)::l,h=>by
  have ih:=lookup_none hi l fun p hp=>h p (Jb _ hp)
  have hj:j<is.length:=h (j,v) Ji
  have e:is.getD j 0=is[j]:=by rw[Jc];simp[hj]
  have h2:(i==is[j])=false:=beq_eq_false_iff_ne.mpr fun z=>hi j (by rw[z];simp[hj])
  simp only[U4,Jq,e,h2]
  exact ih
theorem kd5{is:List Nat}(hn:is.Nodup){k i:Nat}(hk:is[k]?=some i):∀{vs:List Int},is.length=vs.length→(is.zip vs).lookup i=vs[k]?:=by
 induction is generalizing k with
 |nil=>simp at hk
 | cons a is ih=>
  intro vs hl
  cases vs with
  |nil=>simp at hl
  | cons v vs=>
   rw[List.zip_cons_cons,Jq]
   cases k with
   |zero=>
    have:a=i:=by simpa using hk
    subst this
    simp
   |succ k=>
    have hk':is[k]?=some i:=by simpa using hk
    have hh:=JJ.mp hn
    have hne:(i==a)=false:=beq_eq_false_iff_ne.mpr fun z=>hh.1 (z▸U1 hk')
    rw[hne]
    simpa using ih hh.2 hk' (by simpa using hl)
def kf2{n:Nat}{is js:List Nat}{vs:List Int}(hn:is.Nodup)(hj:∀j∈js,j<is.length):spr n is (spr is.length js vs)=spr n (js.map fun j=>is.getD j 0) vs:=by
 apply J0
 ·simp[spr]
 intro i h1 h2
 have ez:(js.map fun j=>is.getD j 0).zip vs=(js.zip vs).map fun p=>(is.getD p.1 0,p.2):=by rw[List.zip_map_left];rfl
 have hp:∀p∈js.zip vs,p.1<is.length:=fun p hp=>hj _ (JW hp).1
 simp only[spr,Nr,NT]
 rw[ez]
 by_cases hk:∃k:Nat,is[k]?=some i
 ·obtain⟨k,hk⟩:=hk
  have hkl:=(U0.mp hk).1
  rw[kcx hn hk _ hp,kd5 hn hk (by simp)]
  simp[hkl]
 ·rw[lookup_none (fun k e=>hk ⟨k,e⟩) _ hp]
  have:((is.zip ((UU is.length).map fun i=>((js.zip vs).lookup i).getD 0)).lookup i)=none:=by
   rw[List.lookup_eq_none_iff]
   intro p hp'
   have:=(JW hp').1
   obtain⟨k,ek⟩:=Na.mp this
   have hne:i≠p.1:=fun z=>hk ⟨k,by rw[ek,←z]⟩
   simpa using hne
  rw[this]
noncomputable def owns(n:Nat)(ow:List Nat)(is:List Nat):List (List Nat):=(UU n).map fun l=>is.filter fun i=>ow.getD i 0==l
def ked(n:Nat)(ow is:List Nat):(kee n (is.map fun i=>ow.getD i 0)).map (fun g=>g.map fun j=>is.getD j 0)=owns n ow is:=by
 unfold kee owns
 rw[Jg]
 refine JA fun l _=>?_
 show(((UU _).filter _).map fun j=>is.getD j 0)=_
 have e:is=(UU is.length).map fun j=>is.getD j 0:=by
  apply J0
  ·simp
  ·intro j h1 h2
   simp[Jc,h1]
 conv=>rhs;rw[e]
 rw[List.filter_map,UP]
 congr 1
 refine List.filter_congr fun k hk=>?_
 have hk':k<is.length:=by simpa using hk
 simp[Jc,hk']
def qs_qs{pr:List Int}{ab g:List Nat}(h:∀j∈g,j<ab.length):qs (qs pr ab) g=qs pr (g.map fun j=>ab.getD j 0):=by
 unfold qs
 rw[Jg]
 refine JA fun j hj=>?_
 have:=h j hj
 simp[Jc,this]
def kfT{n:Nat}{lines:List Nat}{g:List Nat}(hg:g∈kee n lines){j:Nat}(hj:j∈g):j<lines.length:=by
 obtain⟨l,_,rfl⟩:=Jf.mp hg
 have:=(JB.mp hj).1
 simpa using this
def kgx{n N:Nat}{ow ab:List Nat}{pr:List Int}(cut:Int→Int)(hn:ab.Nodup):spr n ab (gdl cut (kee N (ab.map fun i=>ow.getD i 0)) (qs pr ab))=spr n (owns N ow ab).flatten ((owns N ow ab).map fun o=>dl (cut (qs pr o).sum) (qs pr o)).flatten:=by
 unfold gdl
 rw[kbN,kf2 hn fun j hj=>?_,List.map_flatten,ked]
 ·congr 2
  rw[←ked,Jg]
  refine JA fun g hg=>?_
  have e:=qs_qs (pr:=pr) (ab:=ab) (g:=g) fun j hj=>by simpa using kfT hg hj
  show dl (cut (qs (qs pr ab) g).sum) (qs (qs pr ab) g)=dl (cut (qs pr (g.map fun j=>ab.getD j 0)).sum) (qs pr (g.map fun j=>ab.getD j 0))
  rw[e]
 ·obtain⟨g,hg,hj'⟩:=JT.mp hj
  simpa using kfT hg hj'
end Vs
namespace Vs
open Kin Deal
section
variable {p:Nat→Bool} {n:Nat} {w:List Int}
noncomputable def cnt(p:Nat→Bool)(j:Nat):Nat:=((UU j).filter p).length
theorem ki7{j:Nat}(h:p j=true):cnt p (j+1)=cnt p j+1:=by
 unfold cnt
 rw[JE,Nb,U9]
 simp[h]
theorem kkq{j:Nat}(h:p j=false):cnt p (j+1)=cnt p j:=by
 unfold cnt
 rw[JE,Nb,U9]
 simp[h]
theorem kcq:∀{n j:Nat},j<n→p j=true→((UU n).filter p)[cnt p j]?=some j
 |0,j,h,_=>by omega
 | n+1,j,h,hp=>by
  rw[JE,Nb]
  by_cases hj:j<n
  ·have ih:=kcq hj hp
   rw[Nl (U0.mp ih).1]
   exact ih
  ·have e:j=n:=by omega
   subst e
   unfold cnt
   rw[Nd (UR _)]
   simp[hp]
theorem kj4(hl:w.length=cnt p n){j:Nat}(hj:j<n):(spr n ((UU n).filter p) w)[j]?=some (if p j=true then w.getD (cnt p j) 0 else 0):=by
 unfold spr
 rw[UY,NZ hj]
 show some _=some _
 congr 1
 show(JH j (((UU n).filter p).zip w)).getD 0=_
 cases hp:p j with
 |true=>
  rw[kd5 (Nh.filter _ NS) (kcq hj hp) hl.symm,if_pos rfl,Jc]
 | false=>
  rw[if_neg UX]
  cases e:(((UU n).filter p).zip w).lookup j with
  |none=>rw[Mj]
  |some v=>
   obtain⟨k,hk,_⟩:=kdf e
   have:=(JB.mp (U1 hk)).2
   rw[hp] at this
   cases this
theorem keU(hl:w.length=cnt p n):∀j,j≤n→pre (spr n ((UU n).filter p) w) j=pre w (cnt p j)
 |0,_=>by simp[pre,cnt]
 | j+1,h=>by
  have ih:=keU hl j (by omega)
  rw[kdH (kj4 hl (show j<n by omega)),ih]
  cases hp:p j with
  |true=>
   have hk:=(U0.mp (kcq (show j<n by omega) hp)).1
   have hk':cnt p j<w.length:=by rw[hl];exact hk
   rw[if_pos rfl,ki7 hp,kdH (w:=w.getD (cnt p j) 0) (by rw[Jc,JM hk'];rfl)]
  |false=>rw[if_neg UX,kkq hp,Int.add_zero]
theorem khT(hl:w.length=cnt p n):(spr n ((UU n).filter p) w).sum=w.sum:=by
 have h:=keU hl n (UR _)
 rw[←hl,kip] at h
 have e:pre (spr n ((UU n).filter p) w) n=(spr n ((UU n).filter p) w).sum:=by
  have:=kip (spr n ((UU n).filter p) w)
  rw[kcy] at this
  exact this
 rw[←e,h]
theorem klJ(m:Int)(hl:w.length=cnt p n):dl m (spr n ((UU n).filter p) w)=spr n ((UU n).filter p) (dl m w):=by
 have hl2:(dl m w).length=cnt p n:=by rw[keD,hl]
 have hs:=khT hl
 apply Mp
 intro j
 by_cases hj:j<n
 ·rw[kj4 hl2 hj]
  have hjF:j<(spr n ((UU n).filter p) w).length:=by rw[kcy];exact hj
  by_cases h0:w.sum=0
  ·rw[ki0 (hs.trans h0) hjF]
   cases hp:p j with
   |false=>rw[if_neg UX]
   |true=>
    have hk:=(U0.mp (kcq hj hp)).1
    rw[if_pos rfl,Jc,ki0 h0 (by rw[hl];exact hk)]
    rfl
  ·rw[dl_at (by rw[hs];exact h0) hjF]
   unfold part
   rw[hs,keU hl j (by omega),keU hl (j+1) (by omega)]
   cases hp:p j with
   |false=>rw[if_neg UX,kkq hp,Int.sub_self]
   |true=>
    have hk:=(U0.mp (kcq hj hp)).1
    rw[if_pos rfl,Jc,dl_at h0 (by rw[hl];exact hk),ki7 hp]
    rfl
 ·rw[NM (by rw[keD,kcy];omega),NM (by rw[kcy];omega)]
end
def kk8{c:Int}{n:Nat}:dl c (UV n 0)=UV n 0:=by
 have e:(UV n (0:Int)).sum=0:=by simp
 unfold dl
 rw[if_pos e]
 simp
theorem kjU{V:Vch}{ps:List (Option Nat)}{kk:List Nat}{S:Stnd}(e:V.ms.most=none):
  (cutM V ps kk S).1=spr S.pr.length (abt ps kk V.ms.kind V.ms.lone S) (want V.so S.mkd.length ((abt ps kk V.ms.kind V.ms.lone S).map fun i=>S.ow.getD i 0) (qs S.pr (abt ps kk V.ms.kind V.ms.lone S))):=by
 unfold cutM cap
 rw[e]
theorem kjT{V:Vch}{ps:List (Option Nat)}{kk:List Nat}{S:Stnd}(hl:S.pr.length=S.ow.length)
  (hw:Le2 (want V.so S.mkd.length ((abt ps kk V.ms.kind V.ms.lone S).map fun i=>S.ow.getD i 0) (qs S.pr (abt ps kk V.ms.kind V.ms.lone S))) (qs S.pr (abt ps kk V.ms.kind V.ms.lone S))) {m:Int} (e:V.ms.most=some m) (h0:0≤m):
  (cutM V ps kk S).1=if(spr S.pr.length (abt ps kk V.ms.kind V.ms.lone S) (want V.so S.mkd.length ((abt ps kk V.ms.kind V.ms.lone S).map fun i=>S.ow.getD i 0) (qs S.pr (abt ps kk V.ms.kind V.ms.lone S)))).sum > m
   then dl m (spr S.pr.length (abt ps kk V.ms.kind V.ms.lone S) (want V.so S.mkd.length ((abt ps kk V.ms.kind V.ms.lone S).map fun i=>S.ow.getD i 0) (qs S.pr (abt ps kk V.ms.kind V.ms.lone S))))
   else spr S.pr.length (abt ps kk V.ms.kind V.ms.lone S) (want V.so S.mkd.length ((abt ps kk V.ms.kind V.ms.lone S).map fun i=>S.ow.getD i 0) (qs S.pr (abt ps kk V.ms.kind V.ms.lone S))):=by
 have hwl:=hw.1
 rw[kbN] at hwl
 have ea:abt ps kk V.ms.kind V.ms.lone S=(UU S.pr.length).filter fun i=>hits ps kk V.ms.kind V.ms.lone S.mkd (S.ow.getD i 0):=by rw[hl];rfl
 have ez:V.so=.carr→(want V.so S.mkd.length ((abt ps kk V.ms.kind V.ms.lone S).map fun i=>S.ow.getD i 0) (qs S.pr (abt ps kk V.ms.kind V.ms.lone S)))=UV (qs S.pr (abt ps kk V.ms.kind V.ms.lone S)).length 0:=fun z=>by rw[z];rfl
 unfold cutM cap
 rw[e]
 simp only
 generalize want V.so S.mkd.length ((abt ps kk V.ms.kind V.ms.lone S).map fun i=>S.ow.getD i 0) (qs S.pr (abt ps kk V.ms.kind V.ms.lone S))=w at *
 rw[ea] at hwl⊢
 rw[khT hwl,klJ m hwl]
 by_cases hc:V.so=.carr
 ·have hz:=ez hc
  have hs:w.sum=0:=by rw[hz];simp
  rw[if_neg (by omega:¬w.sum > m)]
  split
  ·simp only
   rw[hz,kk8]
  ·rfl
 ·have hf:fee V.so S.cg=0:=by
   unfold fee
   split
   ·rename_i z
    exact absurd z hc
   ·rfl
  rw[hf,Int.add_zero]
  by_cases hm:m<w.sum
  ·rw[if_pos hm,if_pos hm]
   simp only
   rw[Int.min_eq_left (by omega)]
  ·rw[if_neg hm,if_neg hm]
end Vs
namespace Vs
open Kin Deal
noncomputable def ins:List (Nat×List Nat)→Nat→Nat→List (Nat×List Nat)
 |[],o,a=>[(o,[a])]
 |(l,g)::G,o,a=>if l=o then(l,g++[a])::G else(l,g)::ins G o a
noncomputable def parted(f:Nat→Nat)(is:List Nat):List (Nat×List Nat):=is.foldl (fun G a=>ins G (f a) a) []
def kdV(f:Nat→Nat)(is:List Nat)(a:Nat):parted f (is++[a])=ins (parted f is) (f a) a:=by
 unfold parted
 rw[List.foldl_append]
 rfl
theorem kdI:∀(G:List (Nat×List Nat))(o a:Nat),(ins G o a).map Prod.fst=if o∈G.map Prod.fst then G.map Prod.fst else G.map Prod.fst++[o]
 |[],o,a=>by simp[ins]
 | (l,g)::G,o,a=>by
  unfold ins
  by_cases h:l=o
  ·subst h
   simp
  ·rw[if_neg h,U4,kdI G o a]
   show _=if o∈l::G.map Prod.fst then l::G.map Prod.fst else(l::G.map Prod.fst)++[o]
   have h':¬o=l:=fun z=>h z.symm
   by_cases hm:o∈G.map Prod.fst
   ·rw[if_pos hm,if_pos (Jb _ hm)]
   ·rw[if_neg hm,if_neg (by rw[Jd,not_or];exact⟨h',hm⟩)]
    rfl
theorem kiN:∀{G:List (Nat×List Nat)}{o a l:Nat}{g:List Nat},(G.map Prod.fst).Nodup→(l,g)∈ins G o a→(l≠o∧(l,g)∈G)∨(l=o∧((∃g',(o,g')∈G∧g=g'++[a])∨(o∉G.map Prod.fst∧g=[a])))
 |[],o,a,l,g,_,h=>by
  unfold ins at h
  rw[JG] at h
  cases h
  exact .inr ⟨rfl, .inr ⟨by simp,rfl⟩⟩
 | (k,g0)::G,o,a,l,g,hn,h=>by
  unfold ins at h
  rw[U4,JJ] at hn
  by_cases e:k=o
  ·rw[if_pos e] at h
   subst e
   rcases Jd.mp h with z|z
   ·cases z
    exact .inr ⟨rfl, .inl ⟨g0,Ji,rfl⟩⟩
   ·refine .inl ⟨fun w=>?_,Jb _ z⟩
    subst w
    exact hn.1 (Jf.mpr ⟨(l,g),z,rfl⟩)
  ·rw[if_neg e] at h
   rcases Jd.mp h with z|z
   ·cases z
    exact .inl ⟨e,Ji⟩
   ·rcases kiN hn.2 z with⟨w1,w2⟩|⟨w1,⟨g',w2,w3⟩|⟨w2,w3⟩⟩
    ·exact .inl ⟨w1,Jb _ w2⟩
    ·exact .inr ⟨w1, .inl ⟨g',Jb _ w2,w3⟩⟩
    ·refine .inr ⟨w1, .inr ⟨?_,w3⟩⟩
     rw[U4,Jd,not_or]
     exact⟨fun z=>e z.symm,w2⟩
structure PtOk (f:Nat→Nat) (is:List Nat) (G:List (Nat×List Nat)):Prop where
 nd:(G.map Prod.fst).Nodup
 gs:∀l g,(l,g)∈G→g=is.filter fun i=>f i==l
 all:∀i∈is,f i∈G.map Prod.fst
theorem keu(f:Nat→Nat):∀(n:Nat)(is:List Nat),is.length=n→PtOk f is (parted f is)
 |0,is,h=>by
  have e:is=[]:=List.eq_nil_of_length_eq_zero h
  subst e
  exact⟨by simp[parted],fun l g hg=>by simp[parted] at hg,fun i hi=>by simp at hi⟩
 | n +1,is,h=>by
  have hne:is≠[]:=by
   intro z
   subst z
   cases h
  obtain⟨is',a,rfl⟩:∃is' a,is=is'++[a]:=⟨is.dropLast,is.getLast hne,(List.dropLast_concat_getLast hne).symm⟩
  have ih:=keu f n is' (by simpa using h)
  rw[kdV]
  refine⟨?_,fun l g hg=>?_,fun i hi=>?_⟩
  ·rw[kdI]
   split
   ·exact ih.nd
   ·rename_i hm
    exact N1.mpr ⟨ih.nd,by simp,fun x hx y hy=>by
     rw[JG] at hy
     subst hy
     exact fun z=>hm (by rw[←z];exact hx)⟩
  ·rw[Nb]
   rcases kiN ih.nd hg with⟨w1,w2⟩|⟨w1,⟨g',w2,w3⟩|⟨w2,w3⟩⟩
   ·rw[ih.gs l g w2]
    have:(f a==l)=false:=by simpa using fun z=>w1 z.symm
    simp[this]
   ·subst w1 w3
    rw[ih.gs _ g' w2]
    simp
   ·subst w1 w3
    have e:is'.filter (fun i=>f i==f a)=[]:=by
     rw[List.filter_eq_nil_iff]
     intro i hi z
     have z':f i=f a:=by simpa using z
     exact w2 (by rw[←z'];exact ih.all i hi)
    rw[e]
    simp
  ·rw[kdI]
   rcases Jy.mp hi with hi|hi
   ·have:=ih.all i hi
    split
    ·exact this
    ·exact Mb _ this
   ·rw[JG] at hi
    subst hi
    split
    ·assumption
    ·exact Jt _ (by simp)
def kcl(f:Nat→Nat)(is:List Nat):PtOk f is (parted f is):=keu f is.length is rfl
def PtOk.snds{f:Nat→Nat}{is:List Nat}{G:List (Nat×List Nat)}(h:PtOk f is G):G.map Prod.snd=(G.map Prod.fst).map fun l=>is.filter fun i=>f i==l:=by
 rw[Jg]
 refine JA fun p hp=>?_
 exact h.gs p.1 p.2 hp
theorem khE{l l':List (Nat×Int)}{i:Nat}:(l++l').lookup i=(l.lookup i).or (l'.lookup i):=by
 induction l with
 |nil=>simp
 |cons p l ih=>
  obtain⟨a,b⟩:=p
  rw[NQ,Jq,Jq,ih]
  split <;> rfl
theorem kez{l:List (Nat×Int)}{i:Nat}(h:∀p∈l,p.1≠i):l.lookup i=none:=by
 induction l with
 |nil=>rfl
 | cons p l ih=>
  obtain⟨a,b⟩:=p
  have h1:(i==a)=false:=by
   have:=h (a,b) Ji
   simpa using fun z=>this z.symm
  rw[Jq,h1]
  exact ih fun q hq=>h q (Jb _ hq)
section
variable {f:Nat→Nat} {is:List Nat} {D:List Nat→List Int}
theorem kkt{l i:Nat}{vs:List Int}(h:f i≠l):((is.filter fun i=>f i==l).zip vs).lookup i=none:=
 kez fun p hp=>by
  have h1:=(JW (show(p.1,p.2)∈_ from hp)).1
  have h2:f p.1=l:=by simpa using(JB.mp h1).2
  intro z
  rw[z] at h2
  exact h h2
theorem kdn(hD:∀g,(D g).length=g.length)(i:Nat):∀(ks:List Nat),ks.Nodup→
  (((ks.map fun l=>is.filter fun i=>f i==l).flatten).zip ((ks.map fun l=>D (is.filter fun i=>f i==l)).flatten)).lookup i=if f i∈ks then((is.filter fun j=>f j==f i).zip (D (is.filter fun j=>f j==f i))).lookup i else none
 |[],_=>by simp
 | l::ks,hn=>by
  rw[JJ] at hn
  have ih:=kdn hD i ks hn.2
  rw[U4,U4,Jl,Jl,List.zip_append (hD _).symm,khE,ih]
  by_cases h:f i=l
  ·subst h
   rw[if_neg hn.1,if_pos Ji,Option.or_none]
  ·rw[kkt h,Option.none_or]
   by_cases hm:f i∈ks
   ·rw[if_pos hm,if_pos (Jb _ hm)]
   ·rw[if_neg hm,if_neg (by rw[Jd,not_or];exact⟨h,hm⟩)]
theorem khx(hD:∀g,(D g).length=g.length){n:Nat}{ks ks':List Nat}(hn:ks.Nodup)(hn':ks'.Nodup)(h:∀i∈is,f i∈ks)(h':∀i∈is,f i∈ks'):
  spr n (ks.map fun l=>is.filter fun i=>f i==l).flatten (ks.map fun l=>D (is.filter fun i=>f i==l)).flatten=spr n (ks'.map fun l=>is.filter fun i=>f i==l).flatten (ks'.map fun l=>D (is.filter fun i=>f i==l)).flatten:=by
 unfold spr
 refine JA fun i _=>?_
 have key:∀ks:List Nat,ks.Nodup→(∀i∈is,f i∈ks)→(((ks.map fun l=>is.filter fun i=>f i==l).flatten).zip ((ks.map fun l=>D (is.filter fun i=>f i==l)).flatten)).lookup i=((is.filter fun j=>f j==f i).zip (D (is.filter fun j=>f j==f i))).lookup i:=fun ks hn hk=>by
  rw[kdn hD i ks hn]
  by_cases hm:f i∈ks
  ·rw[if_pos hm]
  ·rw[if_neg hm,kez fun p hp=>?_]
   have h1:=(JW (show(p.1,p.2)∈_ from hp)).1
   obtain⟨h2,h3⟩:=JB.mp h1
   exact fun _=>hm (by rw[←(show f p.1=f i by simpa using h3)];exact hk _ h2)
 rw[key ks hn h,key ks' hn' h']
theorem kdU(hi:is.Nodup):∀{ks:List Nat},ks.Nodup→(ks.map fun l=>is.filter fun i=>f i==l).flatten.Nodup
 |[],_=>by simp
 |l::ks,hn=>by
  rw[JJ] at hn
  rw[U4,Jl]
  refine N1.mpr ⟨hi.filter _,kdU hi hn.2,fun x hx y hy z=>?_⟩
  subst z
  have h1:f x=l:=by simpa using(JB.mp hx).2
  obtain⟨g,hg,hy⟩:=JT.mp hy
  obtain⟨l',hl',rfl⟩:=Jf.mp hg
  have h2:f x=l':=by simpa using(JB.mp hy).2
  exact hn.1 (by rw[←h1,h2];exact hl')
end
theorem khy{n N:Nat}{ow ab:List Nat}{pr:List Int}(cut:Int→Int)(hn:ab.Nodup)(hN:∀i∈ab,ow.getD i 0<N):
  spr n ((parted (fun i=>ow.getD i 0) ab).map Prod.snd).flatten (((parted (fun i=>ow.getD i 0) ab).map Prod.snd).map fun g=>dl (cut (qs pr g).sum) (qs pr g)).flatten=spr n ab (gdl cut (kee N (ab.map fun i=>ow.getD i 0)) (qs pr ab)):=by
 have ok:=kcl (fun i=>ow.getD i 0) ab
 rw[kgx cut hn,ok.snds]
 generalize hks:(parted (fun i=>ow.getD i 0) ab).map Prod.fst=ks at *
 have nd:ks.Nodup:=by rw[←hks];exact ok.nd
 have al:∀i∈ab,ow.getD i 0∈ks:=by rw[←hks];exact ok.all
 unfold owns
 rw[Jg,Jg]
 exact khx (f:=fun i=>ow.getD i 0) (is:=ab) (D:=fun g=>dl (cut (qs pr g).sum) (qs pr g)) (fun g=>by rw[keD,kbN]) nd NS al fun i hi=>by simpa using hN i hi
def kev(f:Nat→Nat):∀(is:List Nat),(parted f is).length≤is.length:=by
 intro is
 have key:∀(is:List Nat)(G:List (Nat×List Nat)),(is.foldl (fun G a=>ins G (f a) a) G).length≤G.length+is.length:=by
  intro is
  induction is with
  |nil=>intro G;simp
  | cons a is ih=>
   intro G
   have h1:=ih (ins G (f a) a)
   have h2:(ins G (f a) a).length≤G.length+1:=by
    have:=congrArg ND (kdI G (f a) a)
    rw[UP] at this
    rw[this]
    split <;> simp
   rw[List.foldl_cons,Jp]
   omega
 simpa[parted] using key is []
end Vs
namespace Vs
open Kin Deal
noncomputable def fallP(pr:List Int)(is:List Nat):List Nat:=(ordQ (qs pr is)).map fun j=>is.getD j 0
def range_getD(is:List Nat):(UU is.length).map (fun j=>is.getD j 0)=is:=by
 apply J0
 ·simp
 ·intro j h1 h2
  simp[Jc,h2]
def kbj(pr:List Int)(is:List Nat):(fallP pr is).Perm is:=by
 have h:=(kcO (qs pr is)).map fun j=>is.getD j 0
 rw[kbN,range_getD] at h
 exact h
noncomputable def befP(pr:List Int)(a b:Nat):Prop:=pr.getD b 0<pr.getD a 0∨(pr.getD a 0=pr.getD b 0∧a<b)
def kjR{pr:List Int}{is:List Nat}(hs:is.Pairwise (· < ·)):(fallP pr is).Pairwise (befP pr):=by
 have h:=(kdW (qs pr is)).2
 have hm:=(kdW (qs pr is)).1
 unfold fallP
 rw[Mw]
 refine h.imp_of_mem fun {a b} ha hb hab=>?_
 have la:a<is.length:=by simpa[kbN] using hm.mem_iff.mp ha
 have lb:b<is.length:=by simpa[kbN] using hm.mem_iff.mp hb
 have ea:(qs pr is).getD a 0=pr.getD (is.getD a 0) 0:=by simp[qs,Jc,la]
 have eb:(qs pr is).getD b 0=pr.getD (is.getD b 0) 0:=by simp[qs,Jc,lb]
 unfold bef at hab
 unfold befP
 rw[ea,eb] at hab
 rcases hab with z|⟨z1,z2⟩
 ·exact .inl z
 ·refine .inr ⟨z1,?_⟩
  have:=J9.mp hs a b la lb z2
  simpa[Jc,la,lb] using this
def khH{pr:List Int}{is ks:List Nat}(hs:is.Pairwise (· < ·))(hp:ks.Perm is)(hk:ks.Pairwise (befP pr)):ks=fallP pr is:=
 kdQ (R:=befP pr) (fun a b h h'=>by unfold befP at h h';omega) (hp.trans (kbj pr is).symm) hk (kjR hs)
def kiT(m:Nat)(f:Nat→Nat)(r:List Nat):grp m (r.map f)=(grp m r).map fun g=>g.map f:=by
 unfold grp
 rw[UP,Jg]
 refine JA fun g _=>?_
 show((r.map f).drop _).take _=((r.drop _).take _).map f
 rw[JU,Mx]
def kiS{m:Nat}{r g:List Nat}(h:g∈grp m r):∀j∈g,j∈r:=fun j hj=>by
 obtain⟨i,_,rfl⟩:=Jf.mp h
 exact List.mem_of_mem_drop (My hj)
theorem kiU{n:Nat}{ab:List Nat}{pr:List Int}(cut:Int→Int)(hn:ab.Nodup)(gs:List (List Nat))(hg:∀g∈gs,∀j∈g,j<ab.length):
  spr n ab (gdl cut gs (qs pr ab))=spr n (gs.map fun g=>g.map fun j=>ab.getD j 0).flatten ((gs.map fun g=>g.map fun j=>ab.getD j 0).map fun o=>dl (cut (qs pr o).sum) (qs pr o)).flatten:=by
 unfold gdl
 rw[kbN,kf2 hn fun j hj=>?_,List.map_flatten,Jg]
 ·congr 2
  refine JA fun g hg'=>?_
  have e:=qs_qs (pr:=pr) (ab:=ab) (g:=g) (hg g hg')
  show dl (cut (qs (qs pr ab) g).sum) (qs (qs pr ab) g)=dl (cut (qs pr (g.map fun j=>ab.getD j 0)).sum) (qs pr (g.map fun j=>ab.getD j 0))
  rw[e]
 ·obtain⟨g,hg',hj'⟩:=JT.mp hj
  exact hg g hg' j hj'
def kkd{pr:List Int}{is:List Nat}{m:Nat}{g:List Nat}(h:g∈grp m (ordQ (qs pr is))):∀j∈g,j<is.length:=fun j hj=>by
 have:=kkN (kiS h j hj)
 rwa [kbN] at this
theorem kjV{n m:Nat}{is:List Nat}{pr:List Int}(cut:Int→Int)(hn:is.Nodup):
  spr n is (gdl cut (grp m (ordQ (qs pr is))) (qs pr is))=spr n (grp m (fallP pr is)).flatten ((grp m (fallP pr is)).map fun o=>dl (cut (qs pr o).sum) (qs pr o)).flatten:=by
 rw[kiU cut hn _ fun g hg=>kkd hg]
 unfold fallP
 rw[kiT]
def kiF{f:Nat→Nat}{gs:List (List Nat)}(h:∀g∈gs,g≠[]):lasts (gs.map fun g=>g.map f)=(lasts gs).map f:=by
 unfold lasts
 rw[Jg,Jg]
 refine JA fun g hg=>?_
 show(g.map f).getLastD 0=f (g.getLastD 0)
 have hne:=h g hg
 rw[N2,N2,List.getLast?_map,MS hne]
 rfl
def klK(c:Int):dl c [c]=[c]:=by
 unfold dl
 by_cases h:[c].sum=0
 ·rw[if_pos h]
  have:c=0:=by simpa using h
  simp[this]
 ·rw[if_neg h]
  have hc:c≠0:=by simpa using h
  have e:part c [c] 0=c:=by
   unfold part pre
   simp[Int.mul_ediv_cancel _ hc]
  simp[JE,e]
theorem kic(f:Nat→Int):∀(l:List Nat),(l.map fun i=>[i]).flatten=l∧(l.map fun i=>[f i]).flatten=l.map f
 |[]=>⟨rfl,rfl⟩
 |a::l=>by
  obtain⟨h1,h2⟩:=kic f l
  simp[h1,h2]
theorem ki9{n m:Nat}{is:List Nat}{pr:List Int}(hm:0<m)(hn:is.Nodup):
  spr n is (spr (qs pr is).length (lasts (grp m (ordQ (qs pr is)))) (qs (qs pr is) (lasts (grp m (ordQ (qs pr is))))))=spr n (lasts (grp m (fallP pr is))) ((lasts (grp m (fallP pr is))).map fun i=>pr.getD i 0):=by
 have ne:∀g∈grp m (ordQ (qs pr is)),g≠[]:=fun g hg z=>by
  obtain⟨i,hi⟩:=Na.mp hg
  have:=(khe hi).2.1
  rw[z] at this
  simp at this
  omega
 have hl:∀j∈lasts (grp m (ordQ (qs pr is))),j<is.length:=fun j hj=>by
  obtain⟨g,hg,rfl⟩:=Jf.mp hj
  refine kkd hg _ ?_
  rw[N2,MS (ne g hg)]
  exact List.getLast_mem _
 rw[kbN,kf2 hn hl,qs_qs hl]
 have e:lasts (grp m (fallP pr is))=(lasts (grp m (ordQ (qs pr is)))).map fun j=>is.getD j 0:=by
  unfold fallP
  rw[kiT,kiF ne]
 rw[e]
 rfl
def spr_zero{n k:Nat}{is:List Nat}:spr n is (UV k 0)=UV n 0:=by
 unfold spr
 apply J0
 ·simp
 ·intro j h1 h2
  simp only[Nr,NT,List.getElem_replicate]
  cases e:(is.zip (UV k (0:Int))).lookup j with
  |none=>rfl
  |some v=>
   obtain⟨i,_,hv⟩:=kdf e
   have:=List.eq_of_mem_replicate (U1 hv)
   rw[this]
   rfl
def keb{pr:List Int}{is:List Nat}(hn:is.Nodup):(fallP pr is).Nodup:=(kbj pr is).nodup_iff.mpr hn
def kgr(m:Nat)(r:List Nat):(grp m r).length≤r.length:=by
 unfold grp
 rw[UP,List.length_range]
 exact Nat.div_le_self _ _
end Vs
namespace Vs
open Kin Deal
structure Later (S S':Stnd):Prop where
 ow:S'.ow=S.ow
 pr:Le2 S'.pr S.pr
 cg:0≤S'.cg∧S'.cg≤S.cg
 mg:∀l,S.mkd.getD l false=true→S'.mkd.getD l false=true
def Later.refl{S:Stnd}(hn:Nn S.pr)(hc:0≤S.cg):Later S S:=⟨rfl,Le2.self hn,⟨hc,Int.le_refl _⟩,fun _ h=>h⟩
def Later.trans{S S' S'':Stnd}(h:Later S S')(h':Later S' S''):Later S S'':=⟨h'.ow.trans h.ow,h'.pr.trans h.pr,⟨h'.cg.1,Int.le_trans h'.cg.2 h.cg.2⟩,fun l e=>h'.mg l (h.mg l e)⟩
end Vs
namespace Vs
open PySem L2
noncomputable def top(i:Nat):Stmt:=PySem.Challenge.pw_voucherstack_k38_first_use.main.body.getD i (.Pass ⟨0,0,0,0⟩)
noncomputable abbrev kgc:Stmt:=top 2
noncomputable abbrev kgb:Stmt:=top 4
noncomputable abbrev kbq:Stmt:=top 16
noncomputable abbrev kdP:Stmt:=top 19
noncomputable abbrev kig:Stmt:=top 20
noncomputable abbrev kcB:Stmt:=top 21
noncomputable abbrev kgd:Stmt:=top 22
noncomputable abbrev kbs:Stmt:=top 23
noncomputable abbrev kbh:Stmt:=top 24
noncomputable abbrev ka4:Stmt:=top 25
noncomputable abbrev kbr:Stmt:=top 26
noncomputable abbrev kay:Stmt:=top 27
noncomputable abbrev kbx:Stmt:=top 28
noncomputable abbrev kb4:Stmt:=top 29
noncomputable abbrev kbw:Stmt:=top 30
noncomputable abbrev kdO:Stmt:=top 31
noncomputable abbrev kbv:Stmt:=top 34
noncomputable abbrev kbR:Stmt:=top 35
noncomputable abbrev kbS:Stmt:=top 36
noncomputable abbrev kbg:Stmt:=top 37
noncomputable abbrev keR:Stmt:=top 39
noncomputable abbrev kcA:Stmt:=top 40
noncomputable abbrev kaT:Stmt:=top 42
noncomputable abbrev kb5:Stmt:=top 43
noncomputable abbrev kce:Stmt:=top 44
noncomputable abbrev kcf:Stmt:=top 48
noncomputable abbrev kc5:Stmt:=top 49
noncomputable abbrev kcF:Stmt:=top 50
noncomputable abbrev kbU:Stmt:=top 51
noncomputable abbrev kci:Stmt:=top 52
noncomputable abbrev kbT:Stmt:=top 53
noncomputable abbrev kcg:Stmt:=top 54
noncomputable abbrev kcC:Stmt:=top 55
noncomputable abbrev kcE:Stmt:=top 56
noncomputable abbrev kbk:Stmt:=top 57
noncomputable abbrev kby:Stmt:=top 58
noncomputable abbrev kc7:Stmt:=top 59
noncomputable abbrev kch:Stmt:=top 60
noncomputable abbrev kcD:Stmt:=top 61
noncomputable abbrev kc6:Stmt:=top 62
noncomputable abbrev s_law:Stmt:=top 63
noncomputable abbrev kaR:Stmt:=inClass (top 6) 0
noncomputable abbrev kaL:Stmt:=inClass (top 7) 0
noncomputable abbrev ka9:Stmt:=inClass (top 8) 0
noncomputable abbrev kaQ:Stmt:=inClass (top 9) 0
noncomputable abbrev kaG:Stmt:=inClass (top 10) 0
noncomputable abbrev kaO:Stmt:=inClass (top 11) 0
noncomputable abbrev kaH:Stmt:=inClass (top 12) 0
noncomputable abbrev ka1:Stmt:=inClass (top 14) 0
noncomputable abbrev kaP:Stmt:=inClass (top 15) 0
noncomputable abbrev kbA:Stmt:=inClass (top 17) 0
noncomputable abbrev kc8:Stmt:=inClass (top 33) 0
noncomputable abbrev kbV:Stmt:=inClass (top 33) 1
noncomputable abbrev kck:Stmt:=inClass (top 33) 2
noncomputable abbrev kbc:Stmt:=inClass (top 33) 3
noncomputable abbrev kbz:Stmt:=inClass (top 33) 4
noncomputable abbrev ka0:Stmt:=inClass (top 46) 0
set_option genInjectivity false
set_option genSizeOf false
structure D where
 Xg:Addr
 Xh:FuncData
 Xi:Addr
 Xj:FuncData
 Xk:Addr
 Xl:FuncData
 Xm:Addr
 Xn:FuncData
 Xo:Addr
 Xp:FuncData
 Xq:Addr
 Xr:FuncData
 Xs:Addr
 Xt:FuncData
 Xu:Addr
 Xv:FuncData
 Xw:Addr
 Xx:FuncData
 Xy:Addr
 Xz:FuncData
 XA:Addr
 XB:FuncData
 XC:Addr
 Qk:FuncData
 XD:Addr
 XE:FuncData
 XF:Addr
 XG:FuncData
 XH:Addr
 XI:FuncData
 XJ:Addr
 XM:FuncData
 XO:Addr
 XQ:FuncData
 XR:Addr
 XS:FuncData
 XT:Addr
 XU:FuncData
 XW:Addr
 XX:FuncData
 XY:Addr
 XZ:FuncData
 qI:Addr
 qJ:FuncData
 X0:Addr
 Ql:FuncData
 X1:Addr
 X2:FuncData
 X3:Addr
 X4:FuncData
 X5:Addr
 X6:FuncData
 X7:Addr
 X8:FuncData
 X9:Addr
 Ya:FuncData
 Yb:Addr
 Yc:FuncData
 Yd:Addr
 Ye:FuncData
 Yf:Addr
 Yg:FuncData
 Yh:Addr
 Yi:FuncData
 Yj:Addr
 Yk:FuncData
 Yl:Addr
 Ym:FuncData
 Yn:Addr
 Yo:FuncData
 Yp:Addr
 Yq:FuncData
 Yr:Addr
 Ys:FuncData
 Yt:Addr
 Yu:FuncData
 Yv:Addr
 Yw:FuncData
 Yx:Addr
 Yy:FuncData
 f_law:Addr
 Yz:FuncData
 qe:Addr
 YA:Addr
 qz:FuncData
 tok1_Marks_init:Nat
 qu:Addr
 Qm:Addr
 Qn:FuncData
 c_Off:Addr
 YB:Addr
 Qo:FuncData
 qh:Addr
 YC:Addr
 qS:FuncData
 qj:Addr
 YD:Addr
 Qp:FuncData
 qi:Addr
 YE:Addr
 Qq:FuncData
 qm:Addr
 YF:Addr
 Qr:FuncData
 qf:Addr
 YG:Addr
 Qs:FuncData
 qg:Addr
 YH:Addr
 qT:FuncData
 tok0_Basket_init:Nat
 qc:Addr
 YI:Addr
 YJ:FuncData
 c_Way:Addr
 YK:Addr
 YL:FuncData
 YM:Addr
 YN:FuncData
 YO:Addr
 YQ:FuncData
 YR:Addr
 YS:FuncData
 YT:Addr
 YU:FuncData
 qd:Addr
 YV:Addr
 Qt:FuncData
 tok0_Till_init:Nat
 cc_falling_groups:Addr
 tP_falling_groups:Addr
 cc_first_use:Addr
 tP_first_use:Addr
structure Wld (K:UQ) (mg:Str→Option Value) (d:D):Prop where
 B:TxtB mg
 Qu:Dn K mg "dealt" kgc ["cut","weights"] d.Xg d.Xh
 YW:Dn K mg "under" kgb ["parents","one","other"] d.Xi d.Xj
 YX:Dn K mg "price_of_piece" kbq ["line","member"] d.Xk d.Xl
 Qv:Dn K mg "about" kdP ["voucher","parents","basket","standing"] d.Xm d.Xn
 YY:Dn K mg "fits" kig ["marks","parents","kind","marked"] d.Xo d.Xp
 YZ:Dn K mg "hindrance" kcB ["voucher","parents","basket","standing"] d.Xq d.Xr
 Y0:Dn K mg "after" kgd ["voucher","parents","basket","standing"] d.Xs d.Xt
 Y1:Dn K mg "cuts_of_pieces" kbs ["voucher","parents","basket","standing"] d.Xu d.Xv
 Y2:Dn K mg "cut_of_carriage" kbh ["voucher","standing"] d.Xw d.Xx
 Y3:Dn K mg "wanted_cuts" ka4 ["voucher","standing","pieces"] d.Xy d.Xz
 Y5:Dn K mg "parted_by_line" kbr ["standing","pieces"] d.XA d.XB
 Qw:Dn K mg "falling_groups" kay ["standing","pieces","many"] d.XC d.Qk
 Y7:Dn K mg "marked_behind" kbx ["voucher","standing","piece_cuts"] d.XD d.XE
 Qx:Dn K mg "prices_of" kb4 ["standing","pieces"] d.XF d.XG
 qK:Dn K mg "sum_of_prices" kbw ["standing","pieces"] d.XH d.XI
 Y9:Dn K mg "at_most" kdO ["most","number"] d.XJ d.XM
 Za:Dn K mg "word_of_order" kbv ["till","hand","used","number"] d.XO d.XQ
 Zb:Dn K mg "breaks_never" kbR ["rules","used","number"] d.XR d.XS
 Zc:Dn K mg "breaks_ahead" kbS ["rules","used","number"] d.XT d.XU
 Zd:Dn K mg "without_company" kbg ["rules","order"] d.XW d.XX
 Qy:Dn K mg "orders" keR ["till","basket","hand"] d.XY d.XZ
 qF:Dn K mg "ways_from" kcA ["way"] d.qI d.qJ
 qU:Dn K mg "first_use" kaT ["till","voucher","baskets"] d.X0 d.Ql
 Ze:Dn K mg "first_found" kb5 ["till","baskets","look"] d.X1 d.X2
 Zf:Dn K mg "order_with" kce ["ways","voucher"] d.X3 d.X4
 Qz:Dn K mg "_law_whole" kcf ["_law_found"] d.X5 d.X6
 qr:Dn K mg "_law_mix" kc5 ["_law_cell","_law_factor","_law_prime"] d.X7 d.X8
 QA:Dn K mg "_law_coin" kcF ["_law_cell"] d.X9 d.Ya
 Zg:Dn K mg "_law_parents" kbU ["_law_cell"] d.Yb d.Yc
 Zh:Dn K mg "_law_marks" kci ["_law_cell","_law_kinds"] d.Yd d.Ye
 Zi:Dn K mg "_law_voucher" kbT ["_law_cell","_law_kinds"] d.Yf d.Yg
 Zj:Dn K mg "_law_rules" kcg ["_law_cell","_law_many"] d.Yh d.Yi
 Zk:Dn K mg "_law_till" kcC ["_law_script","_law_most_here"] d.Yj d.Yk
 Zl:Dn K mg "_law_line" kcE ["_law_cell","_law_kinds"] d.Yl d.Ym
 QB:Dn K mg "_law_baskets" kbk ["_law_script","_law_kinds","_law_most_here"] d.Yn d.Yo
 Zm:Dn K mg "_law_order_is" kby ["_law_found","_law_due_here"] d.Yp d.Yq
 Zn:Dn K mg "_law_due" kc7 ["_law_told","_law_voucher_here"] d.Yr d.Ys
 QC:Dn K mg "_law_right" kch ["_law_found","_law_due_here"] d.Yt d.Yu
 QD:Dn K mg "_law_most" kcD ["_law_script","_law_wide"] d.Yv d.Yw
 Zo:Dn K mg "_law_met" kc6 ["_law_till_here","_law_baskets_here"] d.Yx d.Yy
 d_law:Dn K mg "law" s_law ["_law_script"] d.f_law d.Yz
 qe:ClsT K mg "Marks" d.qe
 qV:NoAttr K d.qe "kind"
 Zp:NoAttr K d.qe "needs"
 QE:NoAttr K d.qe "most"
 Zq:NoAttr K d.qe "member"
 Zr:NoAttr K d.qe "once"
 QF:NoAttr K d.qe "lone"
 qW:MthT K d.qe "__init__" "Marks.__init__" kaR ["self","kind","needs","most","member","once","lone"] d.YA d.qz
 b1_Marks_init:Binds K d.qz ["self","kind","needs","most","member","once","lone"] [.bool false]
 b2_Marks_init:Binds K d.qz ["self","kind","needs","most","member","once","lone"] [.bool false, .bool false]
 b3_Marks_init:Binds K d.qz ["self","kind","needs","most","member","once","lone"] [.bool false, .bool false, .bool false]
 b4_Marks_init:Binds K d.qz ["self","kind","needs","most","member","once","lone"] [.none, .bool false, .bool false, .bool false]
 b5_Marks_init:Binds K d.qz ["self","kind","needs","most","member","once","lone"] [.int 0 d.tok1_Marks_init, .none, .bool false, .bool false, .bool false]
 b6_Marks_init:Binds K d.qz ["self","kind","needs","most","member","once","lone"] [.none, .int 0 d.tok1_Marks_init, .none, .bool false, .bool false, .bool false]
 qu:ClsT K mg "Voucher" d.qu
 qp:MthT K d.qu "__init__" "Voucher.__init__" kaL ["self","marks"] d.Qm d.Qn
 b1_Voucher_init:Binds K d.Qn ["self","marks"] [.none]
 g_Off:mg "Off"=some (.ref d.c_Off)
 c_Off:ClsT K mg "Off" d.c_Off
 Zs:NoAttr K d.c_Off "amount"
 Zt:NoAttr K d.c_Off "marks"
 QG:MthT K d.c_Off "__init__" "Off.__init__" ka9 ["self","amount","marks"] d.YB d.Qo
 b1_Off_init:Binds K d.Qo ["self","amount","marks"] [.none]
 ZS:mg "Share"=some (.ref d.qh)
 qh:ClsT K mg "Share" d.qh
 Zu:NoAttr K d.qh "share"
 Zv:NoAttr K d.qh "by_line"
 Zw:NoAttr K d.qh "marks"
 QH:MthT K d.qh "__init__" "Share.__init__" kaQ ["self","share","by_line","marks"] d.YC d.qS
 b1_Share_init:Binds K d.qS ["self","share","by_line","marks"] [.none]
 b2_Share_init:Binds K d.qS ["self","share","by_line","marks"] [.bool false, .none]
 ZT:mg "Cheapest"=some (.ref d.qj)
 qj:ClsT K mg "Cheapest" d.qj
 Zx:NoAttr K d.qj "many"
 Zy:NoAttr K d.qj "marks"
 QI:MthT K d.qj "__init__" "Cheapest.__init__" kaG ["self","many","marks"] d.YD d.Qp
 b1_Cheapest_init:Binds K d.Qp ["self","many","marks"] [.none]
 ZU:mg "Bundle"=some (.ref d.qi)
 qi:ClsT K mg "Bundle" d.qi
 Zz:NoAttr K d.qi "many"
 ZA:NoAttr K d.qi "price"
 ZC:NoAttr K d.qi "marks"
 QJ:MthT K d.qi "__init__" "Bundle.__init__" kaO ["self","many","price","marks"] d.YE d.Qq
 b1_Bundle_init:Binds K d.Qq ["self","many","price","marks"] [.none]
 ZV:mg "Carriage"=some (.ref d.qm)
 qm:ClsT K mg "Carriage" d.qm
 ZD:NoAttr K d.qm "marks"
 QK:MthT K d.qm "__init__" "Carriage.__init__" kaH ["self","marks"] d.YF d.Qr
 b1_Carriage_init:Binds K d.Qr ["self","marks"] [.none]
 qf:ClsT K mg "Line" d.qf
 ZE:NoAttr K d.qf "kind"
 QL:NoAttr K d.qf "price"
 QM:NoAttr K d.qf "many"
 QN:NoAttr K d.qf "special"
 QO:MthT K d.qf "__init__" "Line.__init__" ka1 ["self","kind","price","many","special"] d.YG d.Qs
 b1_Line_init:Binds K d.Qs ["self","kind","price","many","special"] [.none]
 qg:ClsT K mg "Basket" d.qg
 QP:NoAttr K d.qg "lines"
 ZF:NoAttr K d.qg "carriage"
 QQ:NoAttr K d.qg "member"
 QR:MthT K d.qg "__init__" "Basket.__init__" kaP ["self","lines","carriage","member"] d.YH d.qT
 b1_Basket_init:Binds K d.qT ["self","lines","carriage","member"] [.bool false]
 b2_Basket_init:Binds K d.qT ["self","lines","carriage","member"] [.int 0 d.tok0_Basket_init, .bool false]
 qc:ClsT K mg "Standing" d.qc
 qD:NoAttr K d.qc "owners"
 qA:NoAttr K d.qc "prices"
 qX:NoAttr K d.qc "carriage"
 qL:NoAttr K d.qc "marked"
 qM:MthT K d.qc "__init__" "Standing.__init__" kbA ["self","basket"] d.YI d.YJ
 c_Way:ClsT K mg "Way" d.c_Way
 qw:NoAttr K d.c_Way "till"
 qY:NoAttr K d.c_Way "basket"
 QS:NoAttr K d.c_Way "hand"
 qB:NoAttr K d.c_Way "used"
 qZ:NoAttr K d.c_Way "standing"
 qE:MthT K d.c_Way "__init__" "Way.__init__" kc8 ["self","till","basket","hand"] d.YK d.YL
 QT:MthT K d.c_Way "word_for" "Way.word_for" kbV ["self","number"] d.YM d.YN
 QU:MthT K d.c_Way "behind" "Way.behind" kck ["self","number"] d.YO d.YQ
 QV:MthT K d.c_Way "followers" "Way.followers" kbc ["self"] d.YR d.YS
 QW:MthT K d.c_Way "is_let_by" "Way.is_let_by" kbz ["self"] d.YT d.YU
 qd:ClsT K mg "Till" d.qd
 qG:NoAttr K d.qd "parents"
 qt:NoAttr K d.qd "vouchers"
 qH:NoAttr K d.qd "rules"
 ZW:NoAttr K d.qd "back"
 QX:MthT K d.qd "__init__" "Till.__init__" ka0 ["self","parents","vouchers","rules","back"] d.YV d.Qt
 b1_Till_init:Binds K d.Qt ["self","parents","vouchers","rules","back"] [.str "again" d.tok0_Till_init]
 qN:BaseT K d.qu "__init__" d.Qm
 ZX:U6 K (.ref d.c_Off) (.ref d.qm)=some false
 ZY:U6 K (.ref d.qh) (.ref d.qm)=some false
 ZZ:U6 K (.ref d.qj) (.ref d.qm)=some false
 Z9:U6 K (.ref d.qi) (.ref d.qm)=some false
 Va:U6 K (.ref d.qh) (.ref d.c_Off)=some false
 Vb:U6 K (.ref d.qj) (.ref d.c_Off)=some false
 Vd:U6 K (.ref d.qi) (.ref d.c_Off)=some false
 Ve:U6 K (.ref d.qm) (.ref d.c_Off)=some false
 Vf:U6 K (.ref d.c_Off) (.ref d.qh)=some false
 Vg:U6 K (.ref d.qj) (.ref d.qh)=some false
 Vh:U6 K (.ref d.qi) (.ref d.qh)=some false
 Vi:U6 K (.ref d.qm) (.ref d.qh)=some false
 Vj:U6 K (.ref d.c_Off) (.ref d.qj)=some false
 Vk:U6 K (.ref d.qh) (.ref d.qj)=some false
 Vl:U6 K (.ref d.qi) (.ref d.qj)=some false
 Vm:U6 K (.ref d.qm) (.ref d.qj)=some false
 Vn:U6 K (.ref d.c_Off) (.ref d.qi)=some false
 Vo:U6 K (.ref d.qh) (.ref d.qi)=some false
 Vp:U6 K (.ref d.qj) (.ref d.qi)=some false
 Vq:U6 K (.ref d.qm) (.ref d.qi)=some false
 code_falling_groups:d.Qk.code=.ref d.cc_falling_groups
 ck_falling_groups:CodeK K d.cc_falling_groups d.tP_falling_groups
 code_first_use:d.Ql.code=.ref d.cc_first_use
 ck_first_use:CodeK K d.cc_first_use d.tP_first_use
structure WB (K:UQ) (mg:Str→Option Value) (d:D) (base:Heap):Prop extends Wld K mg d where
 blt:BltM mg base
end Vs
namespace Vs
open PySem L2 War Kin Deal
noncomputable def LineAt(C:Addr)(H:Hp)(x:Addr)(r:Row):Prop:=∃(dx:Addr)(fs:List (Str×V)),H x=some (.ins C dx fs)∧fs.lookup ("kind" :Str)=some (.int r.kd)∧fs.lookup ("price" :Str)=some (.int r.pr)∧fs.lookup ("many" :Str)=some (.int r.mn)∧fs.lookup ("special" :Str)=some (oV r.ex)
noncomputable abbrev Lines(C:Addr)(H:Hp)(ls:List Addr)(rs:List Row):Prop:=P2 (LineAt C H) ls rs
noncomputable def BaskAt(C:Addr)(H:Hp)(b l:Addr)(cg:Int)(m:Bool):Prop:=∃(dx:Addr)(fs:List (Str×V)),H b=some (.ins C dx fs)∧fs.lookup ("lines" :Str)=some (.ref l)∧fs.lookup ("carriage" :Str)=some (.int cg)∧fs.lookup ("member" :Str)=some (.bl m)
noncomputable def StandAt(C:Addr)(H:Hp)(x o p mk:Addr)(cg:Int):Prop:=∃(dx:Addr)(fs:List (Str×V)),H x=some (.ins C dx fs)∧fs.lookup ("owners" :Str)=some (.ref o)∧fs.lookup ("prices" :Str)=some (.ref p)∧fs.lookup ("carriage" :Str)=some (.int cg)∧fs.lookup ("marked" :Str)=some (.ref mk)∧fs.lookup ("whole" :Str)=none
section
variable {C:Addr} {H H':Hp}
theorem LineAt.same{x:Addr}{r:Row}(s:Same H H'):LineAt C H x r→LineAt C H' x r:=fun⟨dx,fs,h,q⟩=>⟨dx,fs,s _ _ h,q⟩
theorem Lines.same{ls:List Addr}{rs:List Row}(s:Same H H')(h:Lines C H ls rs):Lines C H' ls rs:=h.mono fun _ _ q=>q.same s
theorem BaskAt.same{b l:Addr}{cg:Int}{m:Bool}(s:Same H H'):BaskAt C H b l cg m→BaskAt C H' b l cg m:=fun⟨dx,fs,h,q⟩=>⟨dx,fs,s _ _ h,q⟩
theorem StandAt.same{x o p mk:Addr}{cg:Int}(s:Same H H'):StandAt C H x o p mk cg→StandAt C H' x o p mk cg:=fun⟨dx,fs,h,q⟩=>⟨dx,fs,s _ _ h,q⟩
end
section
variable {H:Hp} {hd:Addr} {xs:List V} {o:HO}
theorem BaskAt.set{C b l:Addr}{cg:Int}{m:Bool}(h:H hd=some (.lst xs)):BaskAt C H b l cg m→BaskAt C (upd H hd o) b l cg m:=fun⟨dx,fs,e,q⟩=>⟨dx,fs,by rw[kaj (ne_of e h (by intro z;cases z))];exact e,q⟩
theorem StandAt.set{C x a b c:Addr}{cg:Int}(h:H hd=some (.lst xs)):StandAt C H x a b c cg→StandAt C (upd H hd o) x a b c cg:=fun⟨dx,fs,e,q⟩=>⟨dx,fs,by rw[kaj (ne_of e h (by intro z;cases z))];exact e,q⟩
theorem LineAt.set{C x:Addr}{r:Row}(h:H hd=some (.lst xs)):LineAt C H x r→LineAt C (upd H hd o) x r:=fun⟨dx,fs,e,q⟩=>⟨dx,fs,by rw[kaj (ne_of e h (by intro z;cases z))];exact e,q⟩
theorem Lines.set{C:Addr}{ls:List Addr}{rs:List Row}(h:H hd=some (.lst xs))(L:Lines C H ls rs):Lines C (upd H hd o) ls rs:=L.mono fun _ _ q=>q.set h
end
structure Bask where
 rs:List Row
 cg:Int
 m:Bool
inductive BaskIs (CL CB:Addr) (H:Hp) (b:Addr) (B:Bask):Prop
 |ct (l:Addr)(ls:List Addr)(_:BaskAt CB H b l B.cg B.m)(_:H l=some (.lst (ls.map V.ref)))(_:Lines CL H ls B.rs):BaskIs CL CB H b B
def BaskIs.same{CL CB:Addr}{H H':Hp}{b:Addr}{B:Bask}(s:Same H H'):BaskIs CL CB H b B→BaskIs CL CB H' b B:=fun⟨l,ls,h1,h2,h3⟩=>⟨l,ls,h1.same s,s _ _ h2,h3.same s⟩
noncomputable def iV(k:Nat):V:=.int (k:Int)
inductive StndIs (CS:Addr) (H:Hp) (x:Addr) (S:Stnd):Prop
 |ct (o p mk:Addr)(_:StandAt CS H x o p mk S.cg)(_:H o=some (.lst (S.ow.map iV)))(_:H p=some (.lst (S.pr.map V.int)))(_:H mk=some (.lst (S.mkd.map V.bl))):StndIs CS H x S
def StndIs.same{CS:Addr}{H H':Hp}{x:Addr}{S:Stnd}(s:Same H H'):StndIs CS H x S→StndIs CS H' x S:=fun⟨o,p,mk,h1,h2,h3,h4⟩=>⟨o,p,mk,h1.same s,s _ _ h2,s _ _ h3,s _ _ h4⟩
def kbJ(ns:List Nat):(ns.map iV).all flatV=true:=by
 rw[NH]
 intro x hx
 obtain⟨n,_,rfl⟩:=Jf.mp hx
 rfl
noncomputable def ownN(rs:List Row):List Nat:=(rs.zipIdx.map fun p=>UV p.1.mn.toNat p.2).flatten
theorem keX(rs:List Row):(own rs).map V.int=(ownN rs).map iV:=by
 unfold own ownN
 generalize rs.zipIdx=l
 induction l with
 |nil=>rfl
 |cons p l ih=>
  rw[U4,Jl,UZ,ih,U4,Jl,UZ]
  congr 1
  simp[iV]
def kkM(rs:List Row){l:Nat}(h:l∈ownN rs):l<rs.length:=by
 unfold ownN at h
 obtain⟨xs,h1,h2⟩:=JT.mp h
 obtain⟨p,h3,rfl⟩:=Jf.mp h1
 have e:l=p.2:=(List.mem_replicate.mp h2).2
 have q:=List.mem_zipIdx h3
 omega
def kjw(rs:List Row)(h:∀r∈rs,r.Ok):(ownN rs).length≤60*rs.length:=by
 have e:(ownN rs).length=(own rs).length:=by
  have:=congrArg ND (keX rs)
  simpa using this.symm
 rw[e]
 exact kix rs h
noncomputable def pV:Option Nat→V
 |none=>.non
 |some k=>.int (k:Int)
def eq_int(a b:Nat):decide (V.int (a:Int)=V.int (b:Int))=decide (a=b):=by
 by_cases h:a=b
 ·subst h;simp
 ·have:¬(V.int (a:Int)=V.int (b:Int)):=by
   intro e
   injection e with e
   omega
  simp[h,this]
theorem kjD{c:Int}{ws:List Int}(h:ws.sum=0):(dl c ws).map V.int=UV ws.length (V.int 0):=by
 unfold dl
 rw[if_pos h]
 clear h
 induction ws with
 |nil=>rfl
 |cons w ws ih=>simpa[JR] using ih
def kiD{c:Int}{ws:List Int}(h:¬ws.sum=0):dl c ws=(UU ws.length).map (part c ws):=by
 unfold dl
 rw[if_neg h]
inductive kh8 (K:UQ) (vs:List V) (H:Hp) (Q:VK) (E_:XK):Prop
 |ct (c:Int)(a:Addr)(ws:List Int)(_:vs=[.int c, .ref a])(_:SqL K H a (ws.map V.int))(_:Nn ws)(_:ws.sum<2 ^ 100)(_:0≤c)(_:c<2 ^ 64)(_:ws.length≤1000)(_:∀p,H p=none→Q (.ref p) (upd H p (.lst ((dl c ws).map V.int)))):kh8 K vs H Q E_
inductive khZ (K:UQ) (vs:List V) (H:Hp) (Q:VK) (E_:XK):Prop
 |ct (a:Addr)(ps:List (Option Nat))(one other:Nat)(_:vs=[.ref a, .int one, .int other])(_:SqL K H a (ps.map pV))(_:Good ps)(_:one<ps.length)(_:Q (.bl (decide (other∈up ps one))) H):khZ K vs H Q E_
inductive kf5 (C:Addr) (vs:List V) (H:Hp) (Q:VK) (E_:XK):Prop
 |ct (x dx:Addr)(r:Row)(_:vs=[.ref x, .int r.kd, .int r.pr, .int r.mn,oV r.ex])(_:H x=some (.ins C dx []))(_:∀H',But x H H'→LineAt C H' x r→Q .non H'):kf5 C vs H Q E_
inductive kf6 (K:UQ) (C:Addr) (vs:List V) (H:Hp) (Q:VK) (E_:XK):Prop
 |ct (x dx l:Addr)(cg:Int)(m:Bool)(xs:List V)(_:vs=[.ref x, .ref l, .int cg, .bl m])(_:H x=some (.ins C dx []))(_:SqL K H l xs)(_:∀(H':Hp)(l':Addr),But x H H'→H l'=none→H' l'=some (.lst xs)→BaskAt C H' x l' cg m→Q .non H'):kf6 K C vs H Q E_
inductive kh2 (CL:Addr) (vs:List V) (H:Hp) (Q:VK) (E_:XK):Prop
 |ct (x:Addr)(m:Bool)(r:Row)(_:vs=[.ref x, .bl m])(_:LineAt CL H x r)(_:Q (.int (prc m r)) H):kh2 CL vs H Q E_
inductive kcK (CL CB CS:Addr) (vs:List V) (H:Hp) (Q:VK) (E_:XK):Prop
 |ct (x dx b l:Addr)(cg:Int)(m:Bool)(ls:List Addr)(rs:List Row)(_:vs=[.ref x, .ref b])(_:H x=some (.ins CS dx []))(_:BaskAt CB H b l cg m)(_:H l=some (.lst (ls.map V.ref)))(_:Lines CL H ls rs)(_:rs.length≤12)(_:(∀r∈rs,r.Ok))(_:∀(H':Hp)(o p mk:Addr),But x H H'→H o=none→H p=none→H mk=none→StandAt CS H' x o p mk cg→H' o=some (.lst ((own rs).map V.int))→H' p=some (.lst ((prs m rs).map V.int))→H' mk=some (.lst (UV rs.length (.bl false)))→(∃dx fs,H' x=some (.ins CS dx fs)∧fs.length≤10)→Q .non H'):kcK CL CB CS vs H Q E_
structure S3 (H0:Hp) (x C dx:Addr) (fs:List (Str×V)) (o p mk:Addr) (a b c:List V) (H:Hp):Prop where
 bt:But x H0 H
 ob:H x=some (.ins C dx fs)
 ho:H o=some (.lst a)
 hp:H p=some (.lst b)
 hm:H mk=some (.lst c)
structure Ds (H0:Hp) (x o p mk:Addr):Prop where
 fo:H0 o=none
 fp:H0 p=none
 fm:H0 mk=none
 ox:o≠x
 px:p≠x
 mx:mk≠x
 op:o≠p
 om:o≠mk
 pm:p≠mk
section
variable {H0 H H':Hp} {x C dx o p mk:Addr} {fs:List (Str×V)} {a b c d:List V}
theorem S3.same(h:S3 H0 x C dx fs o p mk a b c H)(s:Same H H'):S3 H0 x C dx fs o p mk a b c H':=⟨h.bt.same s,s _ _ h.ob,s _ _ h.ho,s _ _ h.hp,s _ _ h.hm⟩
theorem S3.setO(h:S3 H0 x C dx fs o p mk a b c H)(D:Ds H0 x o p mk):S3 H0 x C dx fs o p mk d b c (upd H o (.lst d)):=
 ⟨fun y u n e=>kbl (h.bt y u n e) fun u' e'=>ev_eq (by rw[kaj (kag e D.fo)];exact e') fun t=>kcJ t (kag e D.fo) (nx h.ho),by rw[kaj D.ox.symm];exact h.ob,kac,by rw[kaj D.op.symm];exact h.hp,by rw[kaj D.om.symm];exact h.hm⟩
theorem S3.setP(h:S3 H0 x C dx fs o p mk a b c H)(D:Ds H0 x o p mk):S3 H0 x C dx fs o p mk a d c (upd H p (.lst d)):=
 ⟨fun y u n e=>kbl (h.bt y u n e) fun u' e'=>ev_eq (by rw[kaj (kag e D.fp)];exact e') fun t=>kcJ t (kag e D.fp) (nx h.hp),by rw[kaj D.px.symm];exact h.ob,by rw[kaj D.op];exact h.ho,kac,by rw[kaj D.pm.symm];exact h.hm⟩
theorem S3.setM(h:S3 H0 x C dx fs o p mk a b c H)(D:Ds H0 x o p mk):S3 H0 x C dx fs o p mk a b d (upd H mk (.lst d)):=
 ⟨fun y u n e=>kbl (h.bt y u n e) fun u' e'=>ev_eq (by rw[kaj (kag e D.fm)];exact e') fun t=>kcJ t (kag e D.fm) (nx h.hm),by rw[kaj D.mx.symm];exact h.ob,by rw[kaj D.om];exact h.ho,by rw[kaj D.pm];exact h.hp,kac⟩
end
end Vs
namespace Vs
open PySem L2 War Kin Deal
noncomputable def MksIs(C:Addr)(H:Hp)(x:Addr)(M:Mks):Prop:=∃(dx:Addr)(fs:List (Str×V)),H x=some (.ins C dx fs)∧fs.lookup ("kind" :Str)=some (pV M.kind)∧fs.lookup ("needs" :Str)=some (.int M.needs)∧fs.lookup ("most" :Str)=some (oV M.most)∧fs.lookup ("member" :Str)=some (.bl M.member)∧fs.lookup ("once" :Str)=some (.bl M.once)∧fs.lookup ("lone" :Str)=some (.bl M.lone)
def MksIs.same{C:Addr}{H H':Hp}{x:Addr}{M:Mks}(s:Same H H'):MksIs C H x M→MksIs C H' x M:=fun⟨dx,fs,h,q⟩=>⟨dx,fs,s _ _ h,q⟩
noncomputable def SrtIs(fs:List (Str×V)):Srt→Prop
 | .off a=>fs.lookup ("amount" :Str)=some (.int a)
 | .share s b=>fs.lookup ("share" :Str)=some (.int s)∧fs.lookup ("by_line" :Str)=some (.bl b)
 | .cheap n=>fs.lookup ("many" :Str)=some (.int n)
 | .bund n p=>fs.lookup ("many" :Str)=some (.int n)∧fs.lookup ("price" :Str)=some (.int p)
 | .carr=>True
noncomputable def clsOf(d:D):Srt→Addr
 | .off _=>d.c_Off
 | .share _ _=>d.qh
 | .cheap _=>d.qj
 | .bund _ _=>d.qi
 | .carr=>d.qm
noncomputable def here:Srt→Bool
 | .off _=>true
 | .share _ _=>true
 | .cheap _=>true
 | .bund _ _=>true
 | .carr=>true
noncomputable def kld:Srt→Bool
 | .off _=>true
 | .share _ _=>false
 | .cheap _=>false
 | .bund _ _=>false
 | .carr=>false
noncomputable def kje:Srt→Bool
 | .off _=>false
 | .share _ _=>true
 | .cheap _=>false
 | .bund _ _=>false
 | .carr=>false
noncomputable def kfZ:Srt→Bool
 | .off _=>false
 | .share _ _=>false
 | .cheap _=>true
 | .bund _ _=>false
 | .carr=>false
noncomputable def khK:Srt→Bool
 | .off _=>false
 | .share _ _=>false
 | .cheap _=>false
 | .bund _ _=>true
 | .carr=>false
noncomputable def kbp:Srt→Bool
 | .off _=>false
 | .share _ _=>false
 | .cheap _=>false
 | .bund _ _=>false
 | .carr=>true
noncomputable def Tbs(d:D)(H:Hp):Prop:=TbAt d.tP_falling_groups H
def Tbs.same{d:D}{H H':Hp}(s:Same H H')(h:Tbs d H):Tbs d H':=s.tb h
inductive VchIs (d:D) (H:Hp) (v:Addr) (V:Vch):Prop
 |ct (mA dx:Addr)(fs:List (Str×L2.V))(_:H v=some (.ins (clsOf d V.so) dx fs))(_:fs.lookup ("marks" :Str)=some (.ref mA))(_:SrtIs fs V.so)(_:MksIs d.qe H mA V.ms)(_:here V.so=true)(_:Tbs d H):VchIs d H v V
def VchIs.same{d:D}{H H':Hp}{v:Addr}{V:Vch}(s:Same H H'):VchIs d H v V→VchIs d H' v V:=fun⟨mA,dx,fs,h1,h2,h3,h4,h5,h6⟩=>⟨mA,dx,fs,s _ _ h1,h2,h3,h4.same s,h5,h6.same s⟩
noncomputable def kds(B:Bask):List Nat:=B.rs.map fun r=>r.kd.toNat
structure Wf (ps:List (Option Nat)) (B:Bask) (S:Stnd):Prop where
 good:Good ps
 pl:ps.length≤20
 kd:∀r∈B.rs,0≤r.kd∧r.kd<(ps.length:Int)
 ok:∀r∈B.rs,r.Ok
 nl:B.rs.length≤12
 bc:0≤B.cg∧B.cg≤1000000000000
 ow:S.ow=ownN B.rs
 lp:S.pr.length=S.ow.length
 lm:S.mkd.length=B.rs.length
 pr:∀z∈S.pr,0≤z∧z≤1000000000000
 cg:0≤S.cg∧S.cg≤1000000000000
 n64:S.ow.length<64
def Wf.np{ps:List (Option Nat)}{B:Bask}{S:Stnd}(W:Wf ps B S):S.ow.length≤720:=by
 have:=kjw B.rs W.ok
 have:=W.nl
 rw[W.ow]
 omega
def Wf.line{ps:List (Option Nat)}{B:Bask}{S:Stnd}(W:Wf ps B S){i l:Nat}(h:S.ow[i]?=some l):l<B.rs.length:=by
 have hm:=U1 h
 rw[W.ow] at hm
 exact kkM _ hm
structure MksOk (ps:List (Option Nat)) (M:Mks):Prop where
 kind:∀k,M.kind=some k→k<ps.length
 needs:0≤M.needs∧M.needs≤1000000000000
 most:∀m,M.most=some m→0≤m∧m≤1000000000000
noncomputable def mks0:Mks:=⟨none,0,none,false,false,false⟩
noncomputable def khW:Srt→List V
 | .off a=>[.int a]
 | .share s b=>[.int s, .bl b]
 | .cheap n=>[.int n]
 | .bund n p=>[.int n, .int p]
 | .carr=>[]
noncomputable def Mrk(CM:Addr)(H:Hp)(mv:V)(H':Hp)(mA:Addr):Prop:=mv=.ref mA∨(mv=.non∧H mA=none∧MksIs CM H' mA mks0)
def MksIs.but{C x mA:Addr}{H H':Hp}{M:Mks}(n:mA≠x)(b:But x H H'):MksIs C H mA M→MksIs C H' mA M:=fun⟨dx,fs,h,q⟩=>⟨dx,fs,b _ _ n h,q⟩
theorem Mrk.but{CM x mA:Addr}{H H1 H2:Hp}{mv:V}{o:HO}(hx:H x=some o)(b:But x H1 H2):Mrk CM H mv H1 mA→Mrk CM H mv H2 mA
 | .inl e=>.inl e
 | .inr ⟨e,f,h⟩=>.inr ⟨e,f,h.but (kag hx f).symm b⟩
inductive kdG (C:Addr) (vs:List V) (H:Hp) (Q:VK) (E_:XK):Prop
 |ct (x dx:Addr)(M:Mks)(_:vs=[.ref x,pV M.kind, .int M.needs,oV M.most, .bl M.member, .bl M.once, .bl M.lone])(_:H x=some (.ins C dx []))(_:∀H',But x H H'→MksIs C H' x M→Q .non H'):kdG C vs H Q E_
inductive kep (K:UQ) (CM:Addr) (vs:List V) (H:Hp) (Q:VK) (E_:XK):Prop
 |ct (x C dx:Addr)(fs:List (Str×V))(mv:V)(_:vs=[.ref x,mv])(_:H x=some (.ins C dx fs))(_:Cls K C)(_:NoAttr K C "marks")(_:fs.length≤5)(_:(mv=.non∨∃mA,mv=.ref mA))(_:∀(H':Hp)(mA:Addr),But x H H'→Mrk CM H mv H' mA→H' x=some (.ins C dx (putF "marks" (.ref mA) fs))→Q .non H'):kep K CM vs H Q E_
inductive kdh (C CM:Addr) (is:Srt→Prop) (vs:List V) (H:Hp) (Q:VK) (E_:XK):Prop
 |ct (x dx:Addr)(so:Srt)(mv:V)(_:is so)(_:vs=.ref x::(khW so++[mv]))(_:H x=some (.ins C dx []))(_:(mv=.non∨∃mA,mv=.ref mA))(_:∀(H':Hp)(mA:Addr)(fs:List (Str×V)),But x H H'→Mrk CM H mv H' mA→H' x=some (.ins C dx fs)→fs.lookup ("marks" :Str)=some (.ref mA)→SrtIs fs so→Q .non H'):kdh C CM is vs H Q E_
theorem kg8{C:Addr}{H:Hp}{M:Mks}{R:Addr→Hp→Prop}{E:XK}(k:∀(H':Hp)(x:Addr),Same H H'→H x=none→MksIs C H' x M→R x H'):
  ∀x dx,H x=none→H dx=none→dx≠x→kdG C [.ref x,pV M.kind, .int M.needs,oV M.most, .bl M.member, .bl M.once, .bl M.lone] (upd (upd H dx (.own x)) x (.ins C dx [])) (fun v H2=>v=.non∧R x H2) E:=
 fun x dx nx nd _=>⟨x,dx,M,rfl,kac,fun H' b l=>⟨rfl,k H' x (kbo nx nd b) nx l⟩⟩
def kfE{d:D}{H:Hp}{so:Srt}{mA:Addr}{M:Mks}{is:Srt→Prop}{R:Addr→Hp→Prop}{E:XK}(hi:is so)(hh:here so=true)(hM:MksIs d.qe H mA M)(k:∀(H':Hp)(x:Addr),Same H H'→H x=none→VchIs d H' x ⟨so,M⟩→R x H')(htb:Tbs d H:=by assumption):
  ∀x dx,H x=none→H dx=none→dx≠x→kdh (clsOf d so) d.qe is (.ref x::(khW so++[.ref mA])) (upd (upd H dx (.own x)) x (.ins (clsOf d so) dx [])) (fun v H2=>v=.non∧R x H2) E:=
 fun x dx nx nd _=>⟨x,dx,so, .ref mA,hi,rfl,kac, .inr ⟨mA,rfl⟩,fun H' mA' fs b hm h1 h2 h3=>by
  have e:mA'=mA:=by
   rcases hm with e|⟨e,_⟩
   ·injection e with e
    exact e.symm
   ·cases e
  subst e
  exact⟨rfl,k H' x (kbo nx nd b) nx ⟨mA',dx,fs,h1,h2,h3,hM.same (kbo nx nd b),hh,htb.same (kbo nx nd b)⟩⟩⟩
inductive spMix (vs:List V) (H:Hp) (Q:VK) (E_:XK):Prop
 |ct (c f p:Int)(_:vs=[.int c, .int f, .int p])(_:(-(2 ^ 64)<f∧f<2 ^ 64))(_:0<p)(_:Q (.int (c*f%p)) H):spMix vs H Q E_
inductive kgG (vs:List V) (H:Hp) (Q:VK) (E_:XK):Prop
 |ct (n:Int)(_:vs=[.int n])(_:Q (.bl true) H):kgG vs H Q E_
end Vs
namespace Vs
open PySem L2 War Kin Deal
def sN{t u:TS}{D:Ends}{σ:St}{H:Hp}(h:∀N:St→Hp→Prop,(∀σ' H',u D σ' H'→N σ' H')→t {D with nx:=N} σ H):tSeq t u D σ H:=h (u D) fun _ _ q=>q
theorem kkU{CL:Addr}{H:Hp}{r:Row}{R:Addr→Hp→Prop}{E:XK}(k:∀(H':Hp)(x:Addr),Same H H'→H x=none→LineAt CL H' x r→R x H'):
  ∀x dx,H x=none→H dx=none→dx≠x→kf5 CL [.ref x, .int r.kd, .int r.pr, .int r.mn,oV r.ex] (upd (upd H dx (.own x)) x (.ins CL dx [])) (fun v H2=>v=.non∧R x H2) E:=
 fun x dx nx nd _=>⟨x,dx,r,rfl,kac,fun H' b l=>⟨rfl,k H' x (kbo nx nd b) nx l⟩⟩
theorem kkV{K:UQ}{CB:Addr}{H:Hp}{l:Addr}{cg:Int}{m:Bool}{xs:List V}{R:Addr→Hp→Prop}{E:XK}(hl:SqL K H l xs)(k:∀(H':Hp)(x l':Addr),Same H H'→H x=none→H l'=none→H' l'=some (.lst xs)→BaskAt CB H' x l' cg m→R x H'):
  ∀x dx,H x=none→H dx=none→dx≠x→kf6 K CB [.ref x, .ref l, .int cg, .bl m] (upd (upd H dx (.own x)) x (.ins CB dx [])) (fun v H2=>v=.non∧R x H2) E:=
 fun x dx nx nd _=>⟨x,dx,l,cg,m,xs,rfl,kac,(kba nx nd).seq hl,fun H' l' b n h1 h2=>⟨rfl,k H' x l' (kbo nx nd b) nx (kcW n) h1 h2⟩⟩
theorem kjC{CL CB CS:Addr}{H:Hp}{b l:Addr}{cg:Int}{m:Bool}{ls:List Addr}{rs:List Row}{R:Addr→Hp→Prop}{E:XK}(hb:BaskAt CB H b l cg m)(hl:H l=some (.lst (ls.map V.ref)))(hL:Lines CL H ls rs)(hn:rs.length≤12)(hok:∀r∈rs,r.Ok)
  (k:∀(H':Hp)(x o p mk:Addr),Same H H'→H x=none→H o=none→H p=none→H mk=none→StandAt CS H' x o p mk cg→H' o=some (.lst ((own rs).map V.int))→H' p=some (.lst ((prs m rs).map V.int))→H' mk=some (.lst (UV rs.length (.bl false)))→R x H'):
  ∀x dx,H x=none→H dx=none→dx≠x→kcK CL CB CS [.ref x, .ref b] (upd (upd H dx (.own x)) x (.ins CS dx [])) (fun v H2=>v=.non∧R x H2) E:=
 fun x dx nx nd _=>⟨x,dx,b,l,cg,m,ls,rs,rfl,kac,hb.same (kba nx nd),kfF nx nd hl,hL.same (kba nx nd),hn,hok,fun H' o p mk bt n1 n2 n3 S h1 h2 h3 _=>⟨rfl,k H' x o p mk (kbo nx nd bt) nx (kcW n1) (kcW n2) (kcW n3) S h1 h2 h3⟩⟩
structure VchOk (ps:List (Option Nat)) (V:Vch):Prop where
 so:SrtOk V.so
 ms:MksOk ps V.ms
noncomputable def stnd0(B:Bask):Stnd:=⟨ownN B.rs,prs B.m B.rs,B.cg,UV B.rs.length false⟩
theorem kkT{CL CB CS:Addr}{H:Hp}{b:Addr}{B:Bask}{R:Addr→Hp→Prop}{E:XK}(hb:BaskIs CL CB H b B)(hn:B.rs.length≤12)(hok:∀r∈B.rs,r.Ok)(k:∀(H':Hp)(x:Addr),Same H H'→H x=none→StndIs CS H' x (stnd0 B)→R x H'):
  ∀x dx,H x=none→H dx=none→dx≠x→kcK CL CB CS [.ref x, .ref b] (upd (upd H dx (.own x)) x (.ins CS dx [])) (fun v H2=>v=.non∧R x H2) E:=by
 obtain⟨l,ls,h1,h2,h3⟩:=hb
 refine kjC h1 h2 h3 hn hok fun H' x o p mk s f1 _ _ _ hS ho hp hm=>k H' x s f1 ⟨o,p,mk,hS,?_,hp,?_⟩
 ·rw[ho,keX]
  rfl
 ·rw[hm]
  show _=some (HO.lst ((UV B.rs.length false).map V.bl))
  rw[List.map_replicate]
def kkb{m:Bool}{r:Row}(h:r.Ok):0≤prc m r∧prc m r≤1000000000000:=by
 unfold prc
 split
 ·cases e:r.ex with
  |none=>exact⟨h.pr0,h.pr1⟩
  |some z=>exact h.ex0 z e
 ·exact⟨h.pr0,h.pr1⟩
theorem kgX(m:Bool):∀(rs:List Row)(k:Nat),(rs.map fun r=>UV r.mn.toNat (prc m r)).flatten.length=((rs.zipIdx k).map fun p=>UV p.1.mn.toNat (p.2:Int)).flatten.length
 |[],_=>by simp
 |r::rs,k=>by
  rw[Mt,U4,Jl,U9,JX,U4,Jl,U9,JX,kgX m rs (k+1)]
def kkJ(m:Bool)(rs:List Row):(prs m rs).length=(ownN rs).length:=by
 have e:(ownN rs).length=(own rs).length:=by
  have:=congrArg ND (keX rs)
  simpa using this.symm
 rw[e]
 exact kgX m rs 0
def Wf.start{ps:List (Option Nat)}{B:Bask}(g:Good ps)(pl:ps.length≤20)(kd:∀r∈B.rs,0≤r.kd∧r.kd<(ps.length:Int))(ok:∀r∈B.rs,r.Ok)(nl:B.rs.length≤12)(bc:0≤B.cg∧B.cg≤1000000000000)(n64:(ownN B.rs).length<64):Wf ps B (stnd0 B):=by
 refine⟨g,pl,kd,ok,nl,bc,rfl,kkJ _ _,by simp[stnd0],fun z hz=>?_,bc,n64⟩
 obtain⟨xs,h1,h2⟩:=JT.mp hz
 obtain⟨r,hr,rfl⟩:=Jf.mp h1
 rw[(List.mem_replicate.mp h2).2]
 exact kkb (ok r hr)
def Wf.nn{ps:List (Option Nat)}{B:Bask}{S:Stnd}(W:Wf ps B S):Nn S.pr:=fun z hz=>(W.pr z hz).1
def Wf.after{ps:List (Option Nat)}{B:Bask}{S:Stnd}{V:Vch}(W:Wf ps B S)(O:VchOk ps V):Wf ps B (aftM V ps (kds B) S):=by
 have h:=klP (V:=V) (ps:=ps) (kk:=kds B) W.nn W.cg.1 O.so fun m e=>(O.ms.most m e).1
 refine⟨W.good,W.pl,W.kd,W.ok,W.nl,W.bc,W.ow,h.1.1.trans W.lp,by rw[←W.lm];simp[aftM],fun z hz=>?_,⟨h.2.1,Int.le_trans h.2.2 W.cg.2⟩,W.n64⟩
 obtain⟨j,e1⟩:=Na.mp hz
 have hj:j<S.pr.length:=by
  rw[←h.1.1]
  exact(U0.mp e1).1
 have e2:S.pr[j]?=some S.pr[j]:=by simp[hj]
 have b:=h.1.2 j z _ e1 e2
 have c:=W.pr _ (U1 e2)
 exact⟨b.1,Int.le_trans b.2 c.2⟩
inductive kib (K:UQ) (d:D) (vs:List V) (H:Hp) (Q:VK) (E_:XK):Prop
 |ct (v a b x:Addr)(V:Vch)(ps:List (Option Nat))(B:Bask)(S:Stnd)(_:vs=[.ref v, .ref a, .ref b, .ref x])(_:VchIs d H v V)(_:SqL K H a (ps.map pV))(_:BaskIs d.qf d.qg H b B)(_:StndIs d.qc H x S)(_:Wf ps B S)(_:VchOk ps V)(_:∀(H':Hp)(p:Addr),Same H H'→H p=none→H' p=some (.lst ((abt ps (kds B) V.ms.kind V.ms.lone S).map iV))→Q (.ref p) H'):kib K d vs H Q E_
theorem cl_of{K:UQ}{mg:Str→Option Value}{d:D}{base:Heap}(W:WB K mg d base):∀{so:Srt},here so=true→Cls K (clsOf d so)
 | .off _,h=>W.c_Off.cl
 | .share _ _,h=>W.qh.cl
 | .cheap _,h=>W.qj.cl
 | .bund _ _,h=>W.qi.cl
 | .carr,h=>W.qm.cl
theorem na_of{K:UQ}{mg:Str→Option Value}{d:D}{base:Heap}(W:WB K mg d base):∀{so:Srt},here so=true→NoAttr K (clsOf d so) "marks"
 | .off _,h=>W.Zt
 | .share _ _,h=>W.Zw
 | .cheap _,h=>W.Zy
 | .bund _ _,h=>W.ZC
 | .carr,h=>W.ZD
theorem kki{K:UQ}{mg:Str→Option Value}{d:D}{base:Heap}(W:WB K mg d base):∀{so:Srt},here so=true→Isi K (clsOf d so)
 | .off _,h=>W.c_Off.isi
 | .share _ _,h=>W.qh.isi
 | .cheap _,h=>W.qj.isi
 | .bund _ _,h=>W.qi.isi
 | .carr,h=>W.qm.isi
theorem kfI{K:UQ}{mg:Str→Option Value}{d:D}{base:Heap}(W:WB K mg d base):∀{so:Srt},here so=true→U6 K (.ref (clsOf d so)) (.ref d.qm)=some (kbp so)
 | .off _,h=>W.ZX
 | .share _ _,h=>W.ZY
 | .cheap _,h=>W.ZZ
 | .bund _ _,h=>W.Z9
 | .carr,h=>kbO _ _
theorem kkW{K:UQ}{mg:Str→Option Value}{d:D}{base:Heap}(W:WB K mg d base):∀{so:Srt},here so=true→U6 K (.ref (clsOf d so)) (.ref d.c_Off)=some (kld so)
 | .off _,h=>kbO _ _
 | .share _ _,h=>W.Va
 | .cheap _,h=>W.Vb
 | .bund _ _,h=>W.Vd
 | .carr,h=>W.Ve
theorem kcY{K:UQ}{mg:Str→Option Value}{d:D}{base:Heap}(W:WB K mg d base):∀{so:Srt},here so=true→U6 K (.ref (clsOf d so)) (.ref d.qh)=some (kje so)
 | .off _,h=>W.Vf
 | .share _ _,h=>kbO _ _
 | .cheap _,h=>W.Vg
 | .bund _ _,h=>W.Vh
 | .carr,h=>W.Vi
theorem kco{K:UQ}{mg:Str→Option Value}{d:D}{base:Heap}(W:WB K mg d base):∀{so:Srt},here so=true→U6 K (.ref (clsOf d so)) (.ref d.qj)=some (kfZ so)
 | .off _,h=>W.Vj
 | .share _ _,h=>W.Vk
 | .cheap _,h=>kbO _ _
 | .bund _ _,h=>W.Vl
 | .carr,h=>W.Vm
theorem keA{K:UQ}{mg:Str→Option Value}{d:D}{base:Heap}(W:WB K mg d base):∀{so:Srt},here so=true→U6 K (.ref (clsOf d so)) (.ref d.qi)=some (khK so)
 | .off _,h=>W.Vn
 | .share _ _,h=>W.Vo
 | .cheap _,h=>W.Vp
 | .bund _ _,h=>kbO _ _
 | .carr,h=>W.Vq
theorem kc3{b:Int}:∀{q:List Int},(∀z∈q,z≤b)→q.sum≤b*q.length
 |[],_=>by simp
 |z::q,h=>by
  have h1:=h z Ji
  have h2:=kc3 (q:=q) fun x hx=>h x (Jb _ hx)
  rw[Nv,Jp]
  have e:b*((q.length+1:Nat):Int)=b*q.length+b:=by rw[Int.natCast_add,Int.mul_add];simp
  omega
def kik{ps:List (Option Nat)}{B:Bask}{S:Stnd}(wf:Wf ps B S){ab:List Nat}(hl:ab.length≤720)(hb:∀i∈ab,i<S.pr.length):(qs S.pr ab).sum≤720000000000000:=by
 have h:=kc3 (b:=1000000000000) (q:=qs S.pr ab) fun z hz=>by
  obtain⟨i,hi,rfl⟩:=Jf.mp hz
  obtain⟨w,ew⟩:=at_of (hb i hi)
  rw[Jc,ew]
  exact(wf.pr w (U1 ew)).2
 rw[kbN] at h
 omega
def ki4(xs:List V)(i k:Nat):cutV xs (some (i:Int)) (some ((i+k:Nat):Int))=(xs.drop i).take k:=by
 unfold cutV
 rw[HT.sIx_nat,HT.sIx_nat]
 by_cases h:i≤xs.length
 ·rw[N3 h,MJ,Nm]
  omega
 ·rw[MT (by omega),MT (by omega)]
  simp
def kfY{α:Type}{xs:List α}{v: α}(h:xs[xs.length-1]?=some v)(h0:0<xs.length):atI xs (-1)=some v:=by
 unfold atI ixN
 rw[if_neg (by omega),if_pos (by omega)]
 show xs[(-1+(xs.length:Int)).toNat]?=some v
 rw[show(-1+(xs.length:Int)).toNat=xs.length-1 by omega]
 exact h
def kgT{H0 H1 H2:Hp}{x:Addr}(f:H0 x=none)(s:Same H0 H1)(b:But x H1 H2):Same H0 H2:=fun y u e=>kbl (s y u e) fun u' e'=>b y u' (kag e f) e'
noncomputable def hindM(V:Vch)(ps:List (Option Nat))(B:Bask)(S:Stnd):L2.V:=
 if(V.ms.member&& !B.m)=true then .str "member" else if(abt ps (kds B) V.ms.kind V.ms.lone S).length=0 then .str "nothing" else if(qs S.pr (abt ps (kds B) V.ms.kind V.ms.lone S)).sum<V.ms.needs then .str "needs" else .non
inductive kj6 (K:UQ) (d:D) (vs:List V) (H:Hp) (Q:VK) (E_:XK):Prop
 |ct (v a b x:Addr)(V:Vch)(ps:List (Option Nat))(B:Bask)(S:Stnd)(_:vs=[.ref v, .ref a, .ref b, .ref x])(_:VchIs d H v V)(_:SqL K H a (ps.map pV))(_:BaskIs d.qf d.qg H b B)(_:StndIs d.qc H x S)(_:Wf ps B S)(_:VchOk ps V)(_:∀(H':Hp),Same H H'→Q (hindM V ps B S) H'):kj6 K d vs H Q E_
noncomputable def atM(m:Option Int)(n:Int):Int:=match m with
 |none=>n
 |some m=>min m n
def none_of{H H':Hp}(s:Same H H'){p:Addr}(h:H' p=none):H p=none:=s.free h
def kjb{x:Addr}{H H':Hp}(b:But x H H')(n:H x=none):Same H H':=fun y u e=>b y u (kag e n) e
theorem kiC{CL CB CS:Addr}{H:Hp}{b l:Addr}{cg:Int}{m:Bool}{ls:List Addr}{rs:List Row}{R:Addr→Hp→Prop}{E:XK}(hb:BaskAt CB H b l cg m)(hl:H l=some (.lst (ls.map V.ref)))(hL:Lines CL H ls rs)(hn:rs.length≤12)(hok:∀r∈rs,r.Ok)
  (k:∀(H':Hp)(x:Addr),Same H H'→H x=none→∀(dx:Addr)(fs:List (Str×V)),H' x=some (.ins CS dx fs)→fs.length≤10→fs.lookup ("whole" :Str)=none→R x H'):
  ∀x dx,H x=none→H dx=none→dx≠x→kcK CL CB CS [.ref x, .ref b] (upd (upd H dx (.own x)) x (.ins CS dx [])) (fun v H2=>v=.non∧R x H2) E:=
 fun x dx nx nd _=>⟨x,dx,b,l,cg,m,ls,rs,rfl,kac,hb.same (kba nx nd),kfF nx nd hl,hL.same (kba nx nd),hn,hok,fun H' o p mk bt n1 n2 n3 S h1 h2 h3 fw=>by
  obtain⟨dx',fs,e,hf⟩:=fw
  obtain⟨dx2,fs2,e2,_,_,_,_,hw⟩:=S
  rw[e] at e2
  injection e2 with e2
  injection e2 with _ e3 e4
  subst e4
  exact⟨rfl,k H' x (kbo nx nd bt) nx dx' fs e hf hw⟩⟩
theorem kk6{V:Vch}{ps:List (Option Nat)}{kk:List Nat}{S:Stnd}(vo:VchOk ps V):(cutM V ps kk S).2=if kbp V.so=true then atM V.ms.most S.cg else 0:=by
 have hm:=vo.ms.most
 unfold cutM
 simp only
 cases e:V.ms.most with
 |none=>
  unfold cap atM
  simp only
  unfold fee kbp
  cases V.so <;> rfl
 | some m=>
  have h0:=(hm m e).1
  unfold cap atM
  simp only
  cases eso:V.so with
  | carr=>
   have hz:(want .carr S.mkd.length ((abt ps kk V.ms.kind V.ms.lone S).map fun i=>S.ow.getD i 0) (qs S.pr (abt ps kk V.ms.kind V.ms.lone S))).sum=0:=by
    unfold want
    simp
   show(if m<_+S.cg then _ else _:List Int×Int).2=min m S.cg
   rw[hz,Int.zero_add]
   split
   ·show min S.cg m=_
    omega
   ·show S.cg=_
    omega
  | _=>
   show(if m<_+0 then(_,min 0 m) else(_,0):List Int×Int).2=0
   split
   ·show min 0 m=0
    omega
   ·rfl
def klG{B:Bask}{l:Nat}{r:Row}(h:B.rs[l]?=some r):(kds B).getD l 0=r.kd.toNat:=by
 unfold kds
 rw[Jc,UY,h]
 rfl
theorem kj0{ps:List (Option Nat)}{kk:List Nat}{kind:Option Nat}{lone:Bool}{S:Stnd}{i:Nat}:
  (UU (i+1)).filter (fun i=>hits ps kk kind lone S.mkd (S.ow.getD i 0))=(UU i).filter (fun i=>hits ps kk kind lone S.mkd (S.ow.getD i 0))++(if hits ps kk kind lone S.mkd (S.ow.getD i 0)=true then [i] else []):=by
 rw[JE,Nb]
 congr 1
 simp only[Nt,Mz]
noncomputable def GrpAt(H H':Hp)(pa:Addr)(t:Addr)(q:Int×List Nat):Prop:=∃ga,H' t=some (.tup [.int q.1, .ref ga])∧H' ga=some (.lst (q.2.map iV))∧(ga=pa∨H ga=none)
inductive kgH (d:D) (vs:List V) (H:Hp) (Q:VK) (E_:XK):Prop
 |ct (v x pa:Addr) (V:Vch) (ps:List (Option Nat)) (B:Bask) (S:Stnd) (_:vs=[.ref v, .ref x, .ref pa]) (_:VchIs d H v V) (_:StndIs d.qc H x S) (_:H pa=some (.lst ((abt ps (kds B) V.ms.kind V.ms.lone S).map iV))) (_:Wf ps B S) (_:VchOk ps V) (_:∀(H':Hp) (p:Addr) (tl:List Addr) (gl:List (Int×List Nat)),Same H H'→H p=none→H' p=some (.lst (tl.map L2.V.ref))→P2 (GrpAt H H' pa) tl gl→(∀c g,(c,g)∈gl→0≤c∧c≤(qs S.pr g).sum∧g.length≤720)→(gl.map Prod.snd).flatten.Nodup→(∀i∈(gl.map Prod.snd).flatten,i<S.pr.length)→gl.length≤720→
  spr S.pr.length (gl.map Prod.snd).flatten (gl.map fun p=>dl p.1 (qs S.pr p.2)).flatten=spr S.pr.length (abt ps (kds B) V.ms.kind V.ms.lone S) (want V.so S.mkd.length ((abt ps (kds B) V.ms.kind V.ms.lone S).map fun i=>S.ow.getD i 0) (qs S.pr (abt ps (kds B) V.ms.kind V.ms.lone S)))→Q (.ref p) H'):kgH d vs H Q E_
def kaF{H H':Hp}{p:Addr}{o:HO}(h:upd H p o=H')(f:H p=none):Same H H'∧H' p=some o:=by
 subst h
 exact⟨kal f,kac⟩
theorem But.free{x l:Addr}{H H':Hp}{o:HO}(b:But x H H')(hx:H' x=some o)(h:H' l=none):H l=none:=by
 cases q:H l with
 |none=>rfl
 |some u=>
  obtain⟨o',e'⟩:=ke7 (b l u (kag hx h).symm q)
  rw[e'] at h
  cases h
structure Rul where
 w:Str
 a:Nat
 b:Nat
structure TillD where
 ps:List (Option Nat)
 vs:List Vch
 rs:List Rul
 bk:Str
noncomputable def RulIs(H:Hp)(a:Addr)(r:Rul):Prop:=H a=some (.tup [.str r.w,iV r.a,iV r.b])
inductive TillIs (d:D) (H:Hp) (t:Addr) (T:TillD):Prop
 |ct (dx:Addr)(fs:List (Str×V))(p vl rl:Addr)(va ra:List Addr)(_:H t=some (.ins d.qd dx fs))(_:fs.lookup ("parents" :Str)=some (.ref p))(_:fs.lookup ("vouchers" :Str)=some (.ref vl))(_:fs.lookup ("rules" :Str)=some (.ref rl))(_:fs.lookup ("back" :Str)=some (.str T.bk))(_:H p=some (.lst (T.ps.map pV)))(_:H vl=some (.lst (va.map V.ref)))(_:P2 (fun a V=>VchIs d H a V) va T.vs)(_:H rl=some (.lst (ra.map V.ref)))(_:P2 (fun a r=>RulIs H a r) ra T.rs):TillIs d H t T
def TillIs.same{d:D}{H H':Hp}{t:Addr}{T:TillD}(s:Same H H'):TillIs d H t T→TillIs d H' t T:=fun⟨dx,fs,p,vl,rl,va,ra,h1,h2,h3,h4,h5,h6,h7,h8,h9,h10⟩=>
 ⟨dx,fs,p,vl,rl,va,ra,s _ _ h1,h2,h3,h4,h5,s _ _ h6,s _ _ h7,h8.mono fun a V h=>h.same s,s _ _ h9,h10.mono fun a r h=>s _ _ h⟩
structure kdr (T:TillD):Prop where
 vs:∀V∈T.vs,VchOk T.ps V
 nv:T.vs.length≤8
inductive WayAt (d:D) (m:Nat) (H:Hp) (w t b x:Addr) (hand:List Int) (used:List Nat):Prop
 |ct (dx:Addr)(fs:List (Str×V))(h u:Addr)(_:H w=some (.ins d.c_Way dx fs))(_:fs.lookup ("till" :Str)=some (.ref t))(_:fs.lookup ("basket" :Str)=some (.ref b))(_:fs.lookup ("hand" :Str)=some (.ref h))(_:fs.lookup ("used" :Str)=some (.ref u))(_:fs.lookup ("standing" :Str)=some (.ref x))(_:fs.lookup ("word_for" :Str)=none)(_:fs.lookup ("behind" :Str)=none)(_:fs.lookup ("is_let_by" :Str)=none)(_:fs.lookup ("followers" :Str)=none)(_:fs.length≤m)(_:H h=some (.lst (hand.map V.int)))(_:H u=some (.lst (used.map iV))):WayAt d m H w t b x hand used
noncomputable abbrev WayIs(d:D)(H:Hp)(w t b x:Addr)(hand:List Int)(used:List Nat):Prop:=WayAt d 7 H w t b x hand used
def WayAt.most{d:D}{m m':Nat}{H:Hp}{w t b x:Addr}{hand:List Int}{used:List Nat}(hm:m≤m'):WayAt d m H w t b x hand used→WayAt d m' H w t b x hand used:=fun⟨dx,fs,h,u,h1,h2,h3,h4,h5,h6,h7,h8,h9,h10,h11,h12,h13⟩=>
 ⟨dx,fs,h,u,h1,h2,h3,h4,h5,h6,h7,h8,h9,h10,UT h11 hm,h12,h13⟩
def WayAt.same{d:D}{m:Nat}{H H':Hp}{w t b x:Addr}{hand:List Int}{used:List Nat}(s:Same H H'):WayAt d m H w t b x hand used→WayAt d m H' w t b x hand used:=fun⟨dx,fs,h,u,h1,h2,h3,h4,h5,h6,h7,h8,h9,h10,h11,h12,h13⟩=>
 ⟨dx,fs,h,u,s _ _ h1,h2,h3,h4,h5,h6,h7,h8,h9,h10,h11,s _ _ h12,s _ _ h13⟩
noncomputable def nevR(used:List Nat)(n:Nat)(r:Rul):Bool:=decide (r.w=("never" :Str))&&((decide (r.a=n)&&used.contains r.b)||(decide (r.b=n)&&used.contains r.a))
noncomputable def kex(rs:List Rul)(used:List Nat)(n:Nat):Bool:=rs.any (nevR used n)
noncomputable def ahdR(used:List Nat)(n:Nat)(r:Rul):Bool:=decide (r.w=("ahead" :Str))&&(decide (r.a=n)&&used.contains r.b)
noncomputable def keF(rs:List Rul)(used:List Nat)(n:Nat):Bool:=rs.any (ahdR used n)
noncomputable def loneM(order:List Nat)(r:Rul):Bool:=decide (r.w=("only" :Str))&&(order.contains r.a&& !order.contains r.b)
noncomputable def onlyM(rs:List Rul)(order:List Nat):Option Nat:=(rs.find? (loneM order)).map Rul.a
noncomputable def sV:Option Str→V
 |none=>.non
 |some z=>.str z
noncomputable def wordM(V:Vch)(rs:List Rul)(hand:List Int)(used:List Nat)(n:Nat):Option Str:=
 if hand.getD n 0<(used.count n:Int)+1 then some "held" else if(V.ms.once&&used.contains n)=true then some "once" else if kex rs used n=true then some "never" else if keF rs used n=true then some "ahead" else none
noncomputable def dueM(V:Vch)(T:TillD)(B:Bask)(hand:List Int)(used:List Nat)(S:Stnd)(n:Nat):L2.V:=match wordM V T.rs hand used n with
 |some z=>.str z
 |none=>hindM V T.ps B S
theorem kbX{n:Nat}:∀(l:List Nat),inV (iV n) (l.map iV)=l.contains n
 |[]=>rfl
 | m::l=>by
  have ih:=kbX (n:=n) l
  unfold inV at ih⊢
  rw[U4,JL,ih,List.contains_cons]
  congr 1
  show eqV (V.int (m:Int)) (V.int (n:Int))=(n==m)
  by_cases h:n=m
  ·subst h
   simp[eqV]
  ·have h1:¬((m:Int)=(n:Int)):=by omega
   have e2:(n==m)=false:=beq_eq_false_iff_ne.mpr h
   rw[e2]
   simp[eqV,h1]
theorem kk9(l:List Nat)(n:Nat):(l.map fun(i:Nat)=>(i:Int)).count (n:Int)=l.count n:=by
 induction l with
 |nil=>rfl
 | cons m l ih=>
  rw[U4,Ms,Ms,ih]
  congr 1
  by_cases h:m=n
  ·subst h;simp
  ·have h1:¬((m:Int)=(n:Int)):=by omega
   have e1:((m:Int)==(n:Int))=false:=beq_eq_false_iff_ne.mpr h1
   have e2:(m==n)=false:=beq_eq_false_iff_ne.mpr h
   rw[e1,e2]
def kfN(a b:Nat):decide (iV a=iV b)=decide (a=b):=by
 by_cases h:a=b
 ·subst h;simp
 ·have n:¬(iV a=iV b):=fun e=>h (by have:=V.int.inj e;omega)
  rw[decide_eq_false h,decide_eq_false n]
def eq_str(a b:Str):decide (V.str a=V.str b)=decide (a=b):=by
 by_cases h:a=b
 ·subst h;simp
 ·have n:¬(V.str a=V.str b):=fun e=>h (V.str.inj e)
  rw[decide_eq_false h,decide_eq_false n]
section
variable {P:Program} {w:World} {K:UQ} {mg:Str→Option Value} {base:Heap} {d:D}
abbrev FO{K:UQ}{mg:Str→Option Value}{d:D}{base:Heap}(P:Program)(w:World)(_:WB K mg d base):=FnOk P w K mg base CX0
theorem QY:kao ["parents","one","other","kind"] ["parents","one","other"] (kaf kgb):=by ac_rfl
theorem kjy(W:WB K mg d base):FO P w W 1 d.Xi d.Xj ["parents","one","other"] (khZ K):=by
 exists W.YW.F,QY
 ·obtain⟨a,ps,one,other,rfl,hS,hg,ho,k⟩:=h
  refine⟨_,kad (psl (i:=3) QY.nd (pv 1))
   (kad (kjo PassesOwn.never (kaq kda (pv 3) kaS (kau _))
   (kad (ps_if (kaq op_eq (pv 3) (pv 2) (kau _)) (kai (kan pe_bl)) (kat))
   (kai (psl (i:=3) QY.nd (pe_ix (r:=rIxL K) kaK (pv 0) (pv 3) (fun _ _=>rfl))))))
   (kai (kan pe_bl))),?_⟩
  refine⟨_,rfl,?_⟩
  refine kjh (fun σ H'=>∃o:Option Nat,σ=[some (.ref a),some (.int one),some (.int other),some (pV o)]∧H'=H∧(∀i,o=some i→i<ps.length)∧decide (other∈up ps one)=decide (other∈rest ps o))
   (fun σ _=>match σ with|[_,_,_,some (.int i)]=>i.toNat+1|_=>0) ⟨some one,rfl,rfl,fun i e=>by cases e;exact ho,rfl⟩ ?_ ?_
  ·rintro σ H' ⟨o,rfl,rfl,hb,he⟩
   refine⟨_,rfl,rfl,_,rfl,?_⟩
   cases o with
   |none=>
    show if(!decide (V.non=V.non))=true then _ else _
    rw[kke]
    refine iteF ?_
    show Q (.bl false) _
    have e:decide (other∈up ps one)=false:=by rw[he];simp[Kin.rest]
    rw[e] at k
    exact k
   | some i=>
    show if(!decide (V.int i=V.non))=true then _ else _
    rw[kkf]
    refine iteT ?_
    have hi:=hb i rfl
    refine⟨_,rfl,_,rfl,rfl,_,rfl,?_⟩
    show if decide (V.int i=V.int other)=true then _ else _
    rw[eq_int]
    obtain⟨o,eo⟩:∃o,ps[i]?=some o:=⟨ps[i],by simp[hi]⟩
    refine ite2 (fun h=>?_) (fun h=>?_)
    ·have h':i=other:=of_decide_eq_true h
     subst h'
     have e:decide (i∈up ps one)=true:=by
      rw[he]
      show decide (i∈up ps i)=true
      rw[up_eq hg eo]
      simp
     rw[e] at k
     exact k
    ·have h':¬i=other:=fun z=>h (decide_eq_true z)
     refine⟨_,rfl,_,rfl,a,_,_,pV o,rfl,rfl,hS,ka5 (by simp[eo]),?_⟩
     refine⟨⟨o,rfl,rfl,fun j e=>?_,?_⟩,?_⟩
     ·subst e
      have:=hg i j eo
      omega
     ·rw[he]
      show decide (other∈up ps i)=_
      rw[up_eq hg eo]
      have:¬other=i:=fun z=>h' z.symm
      simp[this]
     ·cases o with
      |none=>exact Nat.succ_pos _
      |some j=>
       have:=hg i j eo
       show((j:Int)).toNat+1<((i:Int)).toNat+1
       omega
  ·rintro σ H' Q' Q'' hq ⟨v,h1,h2,h3⟩
   exact⟨v,h1,h2,by obtain⟨b,e,q⟩:=h3;exact⟨b,e,hq _ _ q⟩⟩
theorem qx:kao ["cut","weights","total","parts","reached","given","weight","share"] ["cut","weights"] (kaf kgc):=by ac_rfl
theorem kjz(W:WB K mg d base):FO P w W 1 d.Xg d.Xh ["cut","weights"] (kh8 K):=by
 exists W.Qu.F,qx
 ·obtain⟨c,a,ws,rfl,hS,hn,hs,hc0,hc1,hl,k⟩:=h
  refine⟨_,kad (psl (i:=2) qx.nd (kaw (r:=rSum K) (kc1 rfl) (by rfl) W.B.sum b_sum (kaa (pv 1) kae)))
   (kad (ps_if (kaq op_eq (pv 2) kah (kau _)) (kai (kan (kbF (N:=["weight"]) (CompScope.plain rfl (by decide +kernel) (by decide +kernel) (by decide +kernel) (nd1 _)) rfl (kaE (K:=K) (pv 1)) (fun _ _ _ _=>pgn (i:=0) (nd1 _)) (fun _ _ _ _=>kah)))) (kat))
   (kad (psl (i:=3) qx.nd (kaN kae))
   (kad (psl (i:=4) qx.nd kah)
   (kad (psl (i:=5) qx.nd kah)
   (kad (ka6 PassesOwn.never rfl (kaE (K:=K) (pv 1)) (pgn (i:=6) qx.nd)
   (kad (klq (i:=4) qx.nd rfl (Or.inl rfl) (pv 6) klH)
   (kad (psl (i:=7) qx.nd (pe_op kjx (pe_op kdX (pv 0) (pv 4)) (pv 2)))
   (kad (kaU (pe_bm JF J4 J5 kbn (pv 3) (kaa (pe_op kfv (pv 7) (pv 5)) kae)))
   (kai (psl (i:=5) qx.nd (pv 7)))))))
   (kai (kan (pv 3)))))))),?_⟩
  refine⟨_,rfl,a,ws,rfl,hS,_,rfl,rfl,_,rfl,?_⟩
  refine ite2 (fun h=>?_) (fun h=>?_)
  ·have h0:ws.sum=0:=by
    have e:V.int ws.sum=V.int 0:=of_decide_eq_true h
    injection e
   refine⟨_,rfl,a,rfl,⟨_,hS⟩,kaY (xs:=ws.map V.int) (fun i σ ys H'=>H'=H∧ys=UV i (V.int 0)∧∃v,σ=[v]) ⟨rfl,rfl,none,rfl⟩ ?_ ?_ ?_ ?_⟩
   ·rw[UP]
    exact U3 (kap hl)
   ·rintro i σ ys H' hi ⟨rfl,rfl,v,rfl⟩
    exact⟨hS,by simp⟩
   ·rintro i x σ ys H' hx ⟨rfl,rfl,v,rfl⟩
    exact⟨rfl,by rw[MA],_,rfl⟩
   ·rintro σ ys H' ⟨rfl,rfl,v,rfl⟩ D hD
    have:=k D hD
    rw[kjD h0] at this
    rw[UP]
    exact this
  ·have h0:¬ws.sum=0:=fun e=>h (by rw[e];simp)
   have hpos:0<ws.sum:=by
    have:=kbY hn
    omega
   refine⟨by decide,fun p hp=>?_⟩
   have s1:∀o,Same H (upd H p o):=fun o=>kal hp
   refine⟨_,rfl,a,rfl,⟨_,(s1 _).seq hS⟩,kbe (K:=K) (a:=a) (xs:=ws.map V.int) (fun i σ H'=>H'=upd H p (.lst (((UU i).map (part c ws)).map V.int))∧
    ∃(v6 v7:Option V),σ=[some (.int c),some (.ref a),some (.int ws.sum),some (.ref p),some (.int (pre ws i)),some (.int (c*pre ws i/ws.sum)),v6,v7])
    ⟨rfl,none,none,by simp[kjq];rfl⟩ (fun i σ H' _ ⟨e,_⟩=>by rw[e];exact(s1 _).seq hS) ?_ ?_⟩
   ·rintro i x σ H' hi ⟨rfl,v6,v7,rfl⟩
    have hil:i<(ws.map V.int).length:=(U0.mp hi).1
    rw[UP] at hil
    obtain⟨z,ez,rfl⟩:∃z,ws[i]?=some z∧x=V.int z:=by
     rw[UY] at hi
     cases e:ws[i]? with
     |none=>rw[e] at hi;cases hi
     |some z=>rw[e] at hi;exact⟨z,rfl,(Option.some.inj hi).symm⟩
    have ep:=kdH ez
    refine⟨_,rfl,_,rfl,_,_,rfl,rfl,?_⟩
    refine⟨_,rfl,_,rfl,_,_,rfl,rfl, .inl ⟨by omega,by omega⟩,_,rfl,_,_,rfl,rfl,⟨hpos,by omega⟩,?_⟩
    refine⟨_,rfl, .inl ⟨rfl,_,SqL.of kac⟩,_,rfl,_,rfl,_,_,rfl,rfl,p,_,_,rfl,rfl,kac,kap (by simp;omega),?_⟩
    refine⟨_,rfl,?_,some (.int z),some (.int (c*(pre ws i+z)/ws.sum)),?_⟩
    ·rw[kku,JE,UZ,UZ]
     show upd H p (.lst (_++[V.int (c*(pre ws i+z)/ws.sum-c*pre ws i/ws.sum)]))=upd H p (.lst (_++[V.int (part c ws i)]))
     unfold part
     rw[ep]
    ·rw[ep]
     rfl
   ·rintro σ H' ⟨rfl,v6,v7,rfl⟩
    refine⟨_,rfl,?_⟩
    have:=k p hp
    rw[kiD h0] at this
    rw[UP]
    exact this
theorem keQ:kao ["self","kind","needs","most","member","once","lone"] ["self","kind","needs","most","member","once","lone"] (kaf kaR):=by ac_rfl
theorem kcT(W:WB K mg d base):FO P w W 1 d.YA d.qz ["self","kind","needs","most","member","once","lone"] (kdG d.qe):=by
 exists W.qW.F,keQ
 ·obtain⟨x,dx,M,rfl,hx,k⟩:=h
  refine⟨_,kad (kaD (pv 0) (pv 1) rfl)
   (kad (kaD (pv 0) (pv 2) rfl)
   (kad (kaD (pv 0) (pv 3) rfl)
   (kad (kaD (pv 0) (pv 4) rfl)
   (kad (kaD (pv 0) (pv 5) rfl)
   (kai (kaD (pv 0) (pv 6) rfl)))))),?_⟩
  refine⟨_,rfl,_,rfl,x,d.qe,dx,[],rfl,hx,W.qe.cl,W.qV,by decide,?_⟩
  refine⟨_,rfl,_,rfl,x,d.qe,dx,_,rfl,kac,W.qe.cl,W.Zp,few (UT (kak (n:=0) (UR _)) (by decide)),?_⟩
  refine⟨_,rfl,_,rfl,x,d.qe,dx,_,rfl,kac,W.qe.cl,W.QE,few (UT (kak (kak (n:=0) (UR _))) (by decide)),?_⟩
  refine⟨_,rfl,_,rfl,x,d.qe,dx,_,rfl,kac,W.qe.cl,W.Zq,few (UT (kak (kak (kak (n:=0) (UR _)))) (by decide)),?_⟩
  refine⟨_,rfl,_,rfl,x,d.qe,dx,_,rfl,kac,W.qe.cl,W.Zr,few (UT (kak (kak (kak (kak (n:=0) (UR _))))) (by decide)),?_⟩
  refine⟨_,rfl,_,rfl,x,d.qe,dx,_,rfl,kac,W.qe.cl,W.QF,few (UT (kak (kak (kak (kak (kak (n:=0) (UR _)))))) (by decide)),?_⟩
  refine k _ (But.trans (But.trans (But.trans (But.trans (But.trans kar kar) kar) kar) kar) kar) ⟨dx,_,kac,?_,?_,?_,?_,?_,?_⟩ <;> ac_nf
theorem kdN:kao ["self","marks"] ["self","marks"] (kaf kaL):=by ac_rfl
theorem ka3(W:WB K mg d base):FO P w W 3 d.Qm d.Qn ["self","marks"] (kep K d.qe):=by
 exists W.qp.F,kdN
 ·obtain⟨x,C,dx,fs,mv,rfl,hx,hC,hN,hl,hm,k⟩:=h
  exists QZ,kcT,W
  refine⟨_,kai (kaD (pv 0) (kbu (kaq kcv (pv 1) kaS (kau _)) (kjr (W.qW.mk' W.qe) QZ hr rfl W.qe.m W.b6_Marks_init (show Vals [.non, .int 0, .non, .bl false, .bl false, .bl false] [.none, .int 0 d.tok1_Marks_init, .none, .bool false, .bool false, .bool false] from(.cons rfl (.cons ⟨_,rfl⟩ (.cons rfl (.cons rfl (.cons rfl (.cons rfl .nil))))))) pass0) (pv 1)) rfl),?_⟩
  rcases hm with rfl|⟨mA,rfl⟩
  ·refine⟨_,rfl,rfl,_,rfl,iteT ?_⟩
   refine kg8 (M:=mks0) fun H1 mA s1 f1 hM=>?_
   refine⟨_,rfl,x,C,dx,fs,rfl,s1 _ _ hx,hC,hN,by omega,?_⟩
   have hne:mA≠x:=(kag hx f1).symm
   refine k _ mA ((But.of_same s1).trans (kar (nx (s1 _ _ hx)))) (.inr ⟨rfl,f1,?_⟩) kac
   exact hM.but hne (kar (nx (s1 _ _ hx)))
  ·refine⟨_,rfl,rfl,_,rfl,iteF ?_⟩
   refine⟨_,rfl,_,rfl,x,C,dx,fs,rfl,hx,hC,hN,by omega,?_⟩
   exact k _ mA kar (.inl rfl) kac
theorem kga:kao ["self","amount","marks"] ["self","amount","marks"] (kaf ka9):=by ac_rfl
theorem kgj(W:WB K mg d base):FO P w W 4 d.YB d.Qo ["self","amount","marks"] (kdh d.c_Off d.qe (fun so=>∃(a:Int),so=.off a)):=by
 refine FunD.ok W.QG.F kga (fun vs H Q E h=>?_) (fun cdv A outer s H vs Q E hr h=>?_)
 ·obtain⟨x,dx,so,mv,⟨a,rfl⟩,rfl,_⟩:=h
  rfl
 ·obtain⟨x,dx,so,mv,⟨a,rfl⟩,rfl,hx,hm,k⟩:=h
  exists qy,ka3,W
  refine⟨_,kad (kaU (kdT W.qN qy hr rfl W.qu.m W.qp.F.kp W.qp.b .nil pass0 (kaa (pv 0) (kaa (pv 2) kae))))
   (kai (kaD (pv 0) (pv 1) rfl)),?_⟩
  refine⟨_,rfl,_,rfl,x,d.c_Off,dx,[],mv,rfl,hx,W.c_Off.cl,W.Zt,by decide,hm,fun H1 mA b1 hM h1=>?_⟩
  refine⟨_,rfl,_,rfl,x,d.c_Off,dx,_,rfl,h1,W.c_Off.cl,W.Zs,few (UT (kak (n:=0) (UR _)) (by decide)),?_⟩
  refine k _ mA _ (b1.trans kar) ?_ kac ?_ ?_
  ·exact hM.but hx kar
  ·ac_nf
  ·show JH _ _=_
   ac_nf
theorem keP:kao ["self","share","by_line","marks"] ["self","share","by_line","marks"] (kaf kaQ):=by ac_rfl
theorem ke3(W:WB K mg d base):FO P w W 4 d.YC d.qS ["self","share","by_line","marks"] (kdh d.qh d.qe (fun so=>∃(sh:Int)(bb:Bool),so=.share sh bb)):=by
 refine FunD.ok W.QH.F keP (fun vs H Q E h=>?_) (fun cdv A outer s H vs Q E hr h=>?_)
 ·obtain⟨x,dx,so,mv,⟨sh,bb,rfl⟩,rfl,_⟩:=h
  rfl
 ·obtain⟨x,dx,so,mv,⟨sh,bb,rfl⟩,rfl,hx,hm,k⟩:=h
  exists qy,ka3,W
  refine⟨_,kad (kaU (kdT W.qN qy hr rfl W.qu.m W.qp.F.kp W.qp.b .nil pass0 (kaa (pv 0) (kaa (pv 3) kae))))
   (kad (kaD (pv 0) (pv 1) rfl)
   (kai (kaD (pv 0) (pv 2) rfl))),?_⟩
  refine⟨_,rfl,_,rfl,x,d.qh,dx,[],mv,rfl,hx,W.qh.cl,W.Zw,by decide,hm,fun H1 mA b1 hM h1=>?_⟩
  refine⟨_,rfl,_,rfl,x,d.qh,dx,_,rfl,h1,W.qh.cl,W.Zu,few (UT (kak (n:=0) (UR _)) (by decide)),?_⟩
  refine⟨_,rfl,_,rfl,x,d.qh,dx,_,rfl,kac,W.qh.cl,W.Zv,few (UT (kak (kak (n:=0) (UR _))) (by decide)),?_⟩
  refine k _ mA _ ((b1.trans kar).trans kar) ?_ kac ?_ ?_
  ·exact hM.but hx (But.trans kar kar)
  ·ac_nf
  ·exact⟨by ac_nf,by ac_nf⟩
theorem kdx:kao ["self","many","marks"] ["self","many","marks"] (kaf kaG):=by ac_rfl
theorem kdE(W:WB K mg d base):FO P w W 4 d.YD d.Qp ["self","many","marks"] (kdh d.qj d.qe (fun so=>∃(n:Int),so=.cheap n)):=by
 refine FunD.ok W.QI.F kdx (fun vs H Q E h=>?_) (fun cdv A outer s H vs Q E hr h=>?_)
 ·obtain⟨x,dx,so,mv,⟨n,rfl⟩,rfl,_⟩:=h
  rfl
 ·obtain⟨x,dx,so,mv,⟨n,rfl⟩,rfl,hx,hm,k⟩:=h
  exists qy,ka3,W
  refine⟨_,kad (kaU (kdT W.qN qy hr rfl W.qu.m W.qp.F.kp W.qp.b .nil pass0 (kaa (pv 0) (kaa (pv 2) kae))))
   (kai (kaD (pv 0) (pv 1) rfl)),?_⟩
  refine⟨_,rfl,_,rfl,x,d.qj,dx,[],mv,rfl,hx,W.qj.cl,W.Zy,by decide,hm,fun H1 mA b1 hM h1=>?_⟩
  refine⟨_,rfl,_,rfl,x,d.qj,dx,_,rfl,h1,W.qj.cl,W.Zx,few (UT (kak (n:=0) (UR _)) (by decide)),?_⟩
  refine k _ mA _ (b1.trans kar) ?_ kac ?_ ?_
  ·exact hM.but hx kar
  ·ac_nf
  ·show JH _ _=_
   ac_nf
theorem kei:kao ["self","many","price","marks"] ["self","many","price","marks"] (kaf kaO):=by ac_rfl
theorem kem(W:WB K mg d base):FO P w W 4 d.YE d.Qq ["self","many","price","marks"] (kdh d.qi d.qe (fun so=>∃(n:Int)(pp:Int),so=.bund n pp)):=by
 refine FunD.ok W.QJ.F kei (fun vs H Q E h=>?_) (fun cdv A outer s H vs Q E hr h=>?_)
 ·obtain⟨x,dx,so,mv,⟨n,pp,rfl⟩,rfl,_⟩:=h
  rfl
 ·obtain⟨x,dx,so,mv,⟨n,pp,rfl⟩,rfl,hx,hm,k⟩:=h
  exists qy,ka3,W
  refine⟨_,kad (kaU (kdT W.qN qy hr rfl W.qu.m W.qp.F.kp W.qp.b .nil pass0 (kaa (pv 0) (kaa (pv 3) kae))))
   (kad (kaD (pv 0) (pv 1) rfl)
   (kai (kaD (pv 0) (pv 2) rfl))),?_⟩
  refine⟨_,rfl,_,rfl,x,d.qi,dx,[],mv,rfl,hx,W.qi.cl,W.ZC,by decide,hm,fun H1 mA b1 hM h1=>?_⟩
  refine⟨_,rfl,_,rfl,x,d.qi,dx,_,rfl,h1,W.qi.cl,W.Zz,few (UT (kak (n:=0) (UR _)) (by decide)),?_⟩
  refine⟨_,rfl,_,rfl,x,d.qi,dx,_,rfl,kac,W.qi.cl,W.ZA,few (UT (kak (kak (n:=0) (UR _))) (by decide)),?_⟩
  refine k _ mA _ ((b1.trans kar).trans kar) ?_ kac ?_ ?_
  ·exact hM.but hx (But.trans kar kar)
  ·ac_nf
  ·exact⟨by ac_nf,by ac_nf⟩
theorem kdy:kao ["self","marks"] ["self","marks"] (kaf kaH):=by ac_rfl
theorem kdF(W:WB K mg d base):FO P w W 4 d.YF d.Qr ["self","marks"] (kdh d.qm d.qe (fun so=>so=.carr)):=by
 exists W.QK.F,kdy
 ·obtain⟨x,dx,so,mv,rfl,rfl,hx,hm,k⟩:=h
  exists qy,ka3,W
  refine⟨_,kai (kaU (kdT W.qN qy hr rfl W.qu.m W.qp.F.kp W.qp.b .nil pass0 (kaa (pv 0) (kaa (pv 1) kae)))),?_⟩
  refine⟨_,rfl,_,rfl,x,d.qm,dx,[],mv,rfl,hx,W.qm.cl,W.ZD,by decide,hm,fun H1 mA b1 hM h1=>?_⟩
  refine k _ mA _ b1 hM h1 ?_ trivial
  ac_nf
theorem kfr:kao ["self","kind","price","many","special"] ["self","kind","price","many","special"] (kaf ka1):=by ac_rfl
theorem kfD(W:WB K mg d base):FO P w W 1 d.YG d.Qs ["self","kind","price","many","special"] (kf5 d.qf):=by
 exists W.QO.F,kfr
 ·obtain⟨x,dx,r,rfl,hx,k⟩:=h
  refine⟨_,kad (kaD (pv 0) (pv 1) rfl)
   (kad (kaD (pv 0) (pv 2) rfl)
   (kad (kaD (pv 0) (pv 3) rfl)
   (kai (kaD (pv 0) (pv 4) rfl)))),?_⟩
  refine⟨_,rfl,_,rfl,x,d.qf,dx,[],rfl,hx,W.qf.cl,W.ZE,by decide,?_⟩
  refine⟨_,rfl,_,rfl,x,d.qf,dx,_,rfl,kac,W.qf.cl,W.QL,few (UT (kak (n:=0) (UR _)) (by decide)),?_⟩
  refine⟨_,rfl,_,rfl,x,d.qf,dx,_,rfl,kac,W.qf.cl,W.QM,few (UT (kak (kak (n:=0) (UR _))) (by decide)),?_⟩
  refine⟨_,rfl,_,rfl,x,d.qf,dx,_,rfl,kac,W.qf.cl,W.QN,few (UT (kak (kak (kak (n:=0) (UR _)))) (by decide)),?_⟩
  refine k _ (But.trans (But.trans (But.trans kar kar) kar) kar) ⟨dx,_,kac,?_,?_,?_,?_⟩
  ·rw[kab,if_neg (by decide +kernel),kab,if_neg (by decide +kernel),kab,if_neg (by decide +kernel),kab,if_pos rfl]
  ·rw[kab,if_neg (by decide +kernel),kab,if_neg (by decide +kernel),kab,if_pos rfl]
  ·rw[kab,if_neg (by decide +kernel),kab,if_pos rfl]
  ·rw[kab,if_pos rfl]
theorem kej:kao ["self","lines","carriage","member"] ["self","lines","carriage","member"] (kaf kaP):=by ac_rfl
theorem ken(W:WB K mg d base):FO P w W 1 d.YH d.qT ["self","lines","carriage","member"] (kf6 K d.qg):=by
 exists W.QR.F,kej
 ·obtain⟨x,dx,l,cg,m,xs,rfl,hx,hl,k⟩:=h
  refine⟨_,kad (kaD (pv 0) (ka2 (r:=kbC K) kaI (by rfl) W.B.list kbP (kaa (pv 1) kae)) rfl)
   (kad (kaD (pv 0) (pv 2) rfl)
   (kai (kaD (pv 0) (pv 3) rfl))),?_⟩
  refine⟨_,rfl,l,_,rfl, .inl hl,fun l' hl'=>?_⟩
  have s1:=kal (o:=.lst xs) hl'
  have nlx:l'≠x:=fun e=>by
   rw[e,hx] at hl'
   cases hl'
  refine⟨_,rfl,x,d.qg,dx,[],rfl,s1 _ _ hx,W.qg.cl,W.QP,by decide,?_⟩
  refine⟨_,rfl,_,rfl,x,d.qg,dx,_,rfl,kac,W.qg.cl,W.ZF,few (UT (kak (n:=0) (UR _)) (by decide)),?_⟩
  refine⟨_,rfl,_,rfl,x,d.qg,dx,_,rfl,kac,W.qg.cl,W.QQ,few (UT (kak (kak (n:=0) (UR _))) (by decide)),?_⟩
  refine k _ l' ((((But.of_same s1).trans kar).trans kar).trans kar) hl' ?_ ⟨dx,_,kac,?_,?_,?_⟩
  ·rw[kaj nlx,kaj nlx,kaj nlx,kac]
  ·rw[kab,if_neg (by decide +kernel),kab,if_neg (by decide +kernel),kab,if_pos rfl]
  ·rw[kab,if_neg (by decide +kernel),kab,if_pos rfl]
  ·rw[kab,if_pos rfl]
theorem kc4:kao ["line","member"] ["line","member"] (kaf kbq):=by ac_rfl
theorem kdb(W:WB K mg d base):FO P w W 1 d.Xk d.Xl ["line","member"] (kh2 d.qf):=by
 exists W.YX.F,kc4
 ·obtain⟨x,m,r,rfl,⟨dx,fs,hx,lk,lp,lm,ls⟩,k⟩:=h
  refine⟨_,kad (ps_if (PW.pt (kca (kaX (pv 1)) (kbW (kaq kda (kam (K:=K) (pv 0) rfl) kaS (kau _))))) (kai (kan (kam (K:=K) (pv 0) rfl))) (kat))
   (kai (kan (kam (K:=K) (pv 0) rfl))),?_⟩
  refine⟨_,rfl,m,rfl,?_⟩
  cases m with
  |false=>
   refine iteF (iteF ⟨_,rfl,x,d.qf,dx,fs,_,rfl,hx,W.qf.cl,W.QL,lp,?_⟩)
   exact k
  | true=>
   refine iteT ⟨_,rfl,x,d.qf,dx,fs,_,rfl,hx,W.qf.cl,W.QN,ls,rfl,_,rfl,?_⟩
   cases e:r.ex with
   | none=>
    rw[e] at ls
    show if(!decide (V.non=V.non))=true then _ else _
    rw[show(!decide (V.non=V.non))=false by simp]
    refine iteF ⟨_,rfl,x,d.qf,dx,fs,_,rfl,hx,W.qf.cl,W.QL,lp,?_⟩
    have ep:prc true r=r.pr:=by
     unfold prc
     rw[if_pos rfl,e]
     rfl
    rw[ep] at k
    exact k
   | some z=>
    rw[e] at ls
    show if(!decide (V.int z=V.non))=true then _ else _
    rw[show(!decide (V.int z=V.non))=true by simp]
    refine iteT ⟨_,rfl,x,d.qf,dx,fs,_,rfl,hx,W.qf.cl,W.QN,ls,?_⟩
    have ep:prc true r=z:=by
     unfold prc
     rw[if_pos rfl,e]
     rfl
    rw[ep] at k
    exact k
theorem q9:kao ["self","basket","number","line","price"] ["self","basket"] (kaf kbA):=by ac_rfl
theorem kcc(W:WB K mg d base):FO P w W 2 d.YI d.YJ ["self","basket"] (kcK d.qf d.qg d.qc):=by
 exists W.qM.F,q9
 ·obtain⟨x,dx,b,l,cg,m,ls,rs,rfl,hx,⟨dxb,fsb,hb,lbl,lbc,lbm⟩,hl,hL,hn,hok,k⟩:=h
  exists Vr,kdb,W
  refine⟨_,kad (kaD (pv 0) (kaN kae) rfl)
   (kad (kaD (pv 0) (kaN kae) rfl)
   (kad (kaD (pv 0) (kam (K:=K) (pv 1) rfl) rfl)
   (kad (kaD (pv 0) (kaN kae) rfl)
   (kai (ka6 PassesOwn.never rfl (kge rfl W.B.enum (kaa (kam (K:=K) (pv 1) rfl) kae)) (kbE (K:=K) (n:=2) rfl (kaB (pgn (i:=2) q9.nd) (kaB (pgn (i:=3) q9.nd) kbD)))
   (kad (psl (i:=4) q9.nd (pcl Vr hr W.YX (kaa (pv 3) (kaa (kam (K:=K) (pv 1) rfl) kae))))
   (kad (kaU (pe_bm JF N4 N5 kcU (kam (K:=K) (pv 0) rfl) (kaa (pe_op kg3 (kaN (kaa (pv 2) kae)) (kam (K:=K) (pv 3) rfl)) kae)))
   (kad (kaU (pe_bm JF N4 N5 kcU (kam (K:=K) (pv 0) rfl) (kaa (pe_op kg3 (kaN (kaa (pv 4) kae)) (kam (K:=K) (pv 3) rfl)) kae)))
   (kai (kaU (pe_bm JF J4 J5 kbn (kam (K:=K) (pv 0) rfl) (kaa pe_bl kae)))))))))))),?_⟩
  have nbx:b≠x:=ne_of hb hx (by
   intro z
   injection z with _ _ z
   rw[z] at lbl
   cases lbl)
  have nlx:l≠x:=ne_of hl hx (by intro z;cases z)
  exists Y4
  refine⟨by decide,fun o ho=>?_⟩
  have nox:o≠x:=(kag hx ho).symm
  symm
  exists Y4
  refine⟨_,rfl,x,d.qc,dx,[],rfl,kal ho _ _ hx,W.qc.cl,W.qD,by decide,?_⟩
  have b1:But x H (upd (upd H o (.lst [])) x (.ins d.qc dx (putF "owners" (.ref o) []))):=(But.of_same (kal ho)).trans kar
  symm
  exists Y4
  refine⟨by decide,fun p hp=>?_⟩
  have npx:p≠x:=fun e=>by
   rw[e,kac] at hp
   cases hp
  have nop:o≠p:=fun e=>by
   rw[←e,kaj nox,kac] at hp
   cases hp
  have hp0:H p=none:=by
   cases e:H p with
   |none=>rfl
   |some u=>
    obtain⟨u',e'⟩:=ke7 (b1 p u npx e)
    rw[e'] at hp
    cases hp
  symm
  exists Y4
  refine⟨_,rfl,x,d.qc,dx,_,rfl,kal hp _ _ kac,W.qc.cl,W.qA,few (UT (kak (n:=0) (UR _)) (by decide)),?_⟩
  have b2:=(b1.same (kal (o:=.lst []) hp)).trans (kar (o:=.ins d.qc dx (putF "prices" (.ref p) (putF "owners" (.ref o) []))))
  symm
  exists Y4
  refine⟨_,rfl,b,d.qg,dxb,fsb,_,rfl,b2 b _ nbx hb,W.qg.cl,W.ZF,lbc,_,rfl,x,d.qc,dx,_,rfl,kac,W.qc.cl,W.qX,few (UT (kak (kak (n:=0) (UR _))) (by decide)),?_⟩
  have b3:=b2.trans (kar (o:=.ins d.qc dx (putF "carriage" (.int cg) (putF "prices" (.ref p) (putF "owners" (.ref o) [])))))
  symm
  exists Y4
  refine⟨by decide,fun mk hm=>?_⟩
  have nmx:mk≠x:=fun e=>by
   rw[e,kac] at hm
   cases hm
  have hm0:H mk=none:=by
   cases e:H mk with
   |none=>rfl
   |some u=>
    obtain⟨u',e'⟩:=ke7 (b3 mk u nmx e)
    rw[e'] at hm
    cases hm
  have nom:o≠mk:=fun e=>by
   rw[←e,kaj nox,kaj nox,kaj nop,kaj nox,kac] at hm
   cases hm
  have npm:p≠mk:=fun e=>by
   rw[←e,kaj npx,kaj npx,kac] at hm
   cases hm
  symm
  exists Y4
  refine⟨_,rfl,x,d.qc,dx,_,rfl,kal hm _ _ kac,W.qc.cl,W.qL,few (UT (kak (kak (kak (n:=0) (UR _)))) (by decide)),?_⟩
  have b4:=(b3.same (kal (o:=.lst []) hm)).trans (kar (o:=.ins d.qc dx (putF "marked" (.ref mk) (putF "carriage" (.int cg) (putF "prices" (.ref p) (putF "owners" (.ref o) []))))))
  have Di:Ds H x o p mk:=⟨ho,hp0,hm0,nox,npx,nmx,nop,nom,npm⟩
  have Z0:S3 H x d.qc dx (putF "marked" (.ref mk) (putF "carriage" (.int cg) (putF "prices" (.ref p) (putF "owners" (.ref o) [])))) o p mk [] [] [] (upd (upd (upd (upd (upd (upd (upd H o (.lst [])) x (.ins d.qc dx (putF "owners" (.ref o) []))) p (.lst [])) x (.ins d.qc dx (putF "prices" (.ref p) (putF "owners" (.ref o) []))))
    x (.ins d.qc dx (putF "carriage" (.int cg) (putF "prices" (.ref p) (putF "owners" (.ref o) []))))) mk (.lst [])) x (.ins d.qc dx (putF "marked" (.ref mk) (putF "carriage" (.int cg) (putF "prices" (.ref p) (putF "owners" (.ref o) [])))))):=by
   symm
   exists Y6
   refine⟨b4,kac,?_,?_,?_⟩
   ·rw[kaj nox,kaj nom,kaj nox,kaj nox,kaj nop,kaj nox,kac]
   ·rw[kaj npx,kaj npm,kaj npx,kaj npx,kac]
   ·rw[kaj nmx,kac]
  have l1:(putF "marked" (.ref mk) (putF "carriage" (.int cg) (putF "prices" (.ref p) (putF "owners" (.ref o) [])))).lookup ("owners" :Str)=some (.ref o):=by
   rw[kab,if_neg (by decide +kernel),kab,if_neg (by decide +kernel),kab,if_neg (by decide +kernel),kab,if_pos rfl]
  have l2:(putF "marked" (.ref mk) (putF "carriage" (.int cg) (putF "prices" (.ref p) (putF "owners" (.ref o) [])))).lookup ("prices" :Str)=some (.ref p):=by
   rw[kab,if_neg (by decide +kernel),kab,if_neg (by decide +kernel),kab,if_pos rfl]
  have l3:(putF "marked" (.ref mk) (putF "carriage" (.int cg) (putF "prices" (.ref p) (putF "owners" (.ref o) [])))).lookup ("carriage" :Str)=some (.int cg):=by
   rw[kab,if_neg (by decide +kernel),kab,if_pos rfl]
  have l4:(putF "marked" (.ref mk) (putF "carriage" (.int cg) (putF "prices" (.ref p) (putF "owners" (.ref o) [])))).lookup ("marked" :Str)=some (.ref mk):=by
   rw[kab,if_pos rfl]
  have l5:(putF "marked" (.ref mk) (putF "carriage" (.int cg) (putF "prices" (.ref p) (putF "owners" (.ref o) [])))).lookup ("whole" :Str)=none:=by
   rw[kab,if_neg (by decide +kernel),kab,if_neg (by decide +kernel),kab,if_neg (by decide +kernel),kab,if_neg (by decide +kernel)]
   rfl
  have lfs:(putF "marked" (.ref mk) (putF "carriage" (.int cg) (putF "prices" (.ref p) (putF "owners" (.ref o) [])))).length≤10:=UT (kak (kak (kak (kak (n:=0) (UR _))))) (by decide)
  generalize putF "marked" (.ref mk) (putF "carriage" (.int cg) (putF "prices" (.ref p) (putF "owners" (.ref o) [])))=fs at *
  generalize (upd (upd (upd (upd (upd (upd (upd H o (.lst [])) x (.ins d.qc dx (putF "owners" (.ref o) []))) p (.lst [])) x (.ins d.qc dx (putF "prices" (.ref p) (putF "owners" (.ref o) []))))
    x (.ins d.qc dx (putF "carriage" (.int cg) (putF "prices" (.ref p) (putF "owners" (.ref o) []))))) mk (.lst [])) x (.ins d.qc dx fs))=Hs at *
  symm
  exists Y4
  refine⟨_,rfl,b,d.qg,dxb,fsb,_,rfl,Z0.bt b _ nbx hb,W.qg.cl,W.QP,lbl,l,_,rfl,Z0.bt l _ nlx hl,khf (xs:=ls.map V.ref) (fun i σ H'=>(∃v2 v3 v4:Option V,σ=[some (.ref x),some (.ref b),v2,v3,v4])∧
   S3 H x d.qc dx fs o p mk ((own (rs.take i)).map V.int) ((prs m (rs.take i)).map V.int) (UV i (.bl false)) H') ⟨⟨none,none,none,rfl⟩,Z0⟩ (fun i σ H' _ ⟨_,Z⟩=>Z.bt l _ nlx hl) ?_ ?_⟩
  ·rintro i y t σ H1 hy ⟨⟨v2,v3,v4,rfl⟩,Z⟩ ht
   have hll:=hL.len
   have hil:i<(ls.map V.ref).length:=(U0.mp hy).1
   rw[UP] at hil
   obtain⟨lx,el,rfl⟩:∃lx,ls[i]?=some lx∧y=V.ref lx:=by
    rw[UY] at hy
    cases e:ls[i]? with
    |none=>rw[e] at hy;cases hy
    |some z=>rw[e] at hy;exact⟨z,rfl,(Option.some.inj hy).symm⟩
   obtain⟨r,er⟩:∃r,rs[i]?=some r:=⟨rs[i]'(by omega),by simp[show i<rs.length by omega]⟩
   have hr':r.Ok:=hok r (U1 er)
   obtain⟨dxl,fsl,hlx,lk1,lk2,lk3,lk4⟩:=hL.get el er
   have nlxx:lx≠x:=ne_of hlx hx (by
    intro z
    injection z with _ _ z
    rw[z] at lk1
    cases lk1)
   have hmn0:=hr'.mn0
   have hmn1:=hr'.mn1
   have Z1:=Z.same (kal (o:=.tup [.int (i:Nat),V.ref lx]) ht)
   have lo1:((own (rs.take i)).map V.int).length≤720:=by
    rw[UP]
    have:=kix (rs.take i) fun r hr=>hok r (My hr)
    rw[U8] at this
    omega
   have lp1:((prs m (rs.take i)).map V.int).length≤720:=by
    rw[UP]
    have:=kio m (rs.take i) fun r hr=>hok r (My hr)
    rw[U8] at this
    omega
   symm
   exists Y6
   refine⟨t,_,rfl,SqT.of kac,rfl,_,_,rfl,_,_,rfl,rfl,?_⟩
   nofun
   exists Y6
   refine⟨_,rfl,_,rfl,b,d.qg,dxb,fsb,_,rfl,Z1.bt b _ nbx hb,W.qg.cl,W.QQ,lbm,lx,m,r,rfl,⟨dxl,fsl,Z1.bt lx _ nlxx hlx,lk1,lk2,lk3,lk4⟩,?_⟩
   nofun
   exists Y6
   refine⟨_,rfl,x,d.qc,dx,fs,_,rfl,Z1.ob,W.qc.cl,W.qD,l1, .inl ⟨rfl,_,SqL.of Z1.ho⟩,_,rfl,(by show 1≤sizeLine;decide),fun t1 ht1=>?_⟩
   have Z2:=Z1.same (kal (o:=.lst [V.int (i:Nat)]) ht1)
   nofun
   exists Y6
   refine⟨_,rfl,lx,d.qf,dxl,fsl,_,rfl,Z2.bt lx _ nlxx hlx,W.qf.cl,W.QM,lk3,t1,_,_,rfl,rfl,kac,by omega,by omega,U3 (kap (by simp;omega)),fun t2 ht2=>?_⟩
   have Z3:=Z2.same (kal (o:=.lst (UV r.mn.toNat [V.int (i:Nat)]).flatten) ht2)
   nofun
   exists Y6
   refine⟨o,t2,_,_,rfl,rfl,Z3.ho,kac,U3 (kap (by rw[rep1,JX];omega)),?_⟩
   have Z4:=Z3.setO (d:=(own (rs.take i)).map V.int++(UV r.mn.toNat [V.int (i:Nat)]).flatten) Di
   nofun
   exists Y6
   refine⟨_,rfl,x,d.qc,dx,fs,_,rfl,Z4.ob,W.qc.cl,W.qA,l2, .inl ⟨rfl,_,SqL.of Z4.hp⟩,_,rfl,(by show 1≤sizeLine;decide),fun t3 ht3=>?_⟩
   have Z5:=Z4.same (kal (o:=.lst [V.int (prc m r)]) ht3)
   nofun
   exists Y6
   refine⟨_,rfl,lx,d.qf,dxl,fsl,_,rfl,Z5.bt lx _ nlxx hlx,W.qf.cl,W.QM,lk3,t3,_,_,rfl,rfl,kac,by omega,by omega,U3 (kap (by simp;omega)),fun t4 ht4=>?_⟩
   have Z6:=Z5.same (kal (o:=.lst (UV r.mn.toNat [V.int (prc m r)]).flatten) ht4)
   nofun
   exists Y6
   refine⟨p,t4,_,_,rfl,rfl,Z6.hp,kac,U3 (kap (by rw[rep1,JX];omega)),?_⟩
   have Z7:=Z6.setP (d:=(prs m (rs.take i)).map V.int++(UV r.mn.toNat [V.int (prc m r)]).flatten) Di
   nofun
   exists Y6
   refine⟨_,rfl,x,d.qc,dx,fs,_,rfl,Z7.ob,W.qc.cl,W.qL,l4, .inl ⟨rfl,_,SqL.of Z7.hm⟩,mk,_,_,rfl,rfl,Z7.hm,kap (by simp;omega),?_⟩
   have Z8:=Z7.setM (d:=UV i (V.bl false)++[V.bl false]) Di
   nofun
   exists Y6
   refine⟨⟨_,_,_,rfl⟩,?_⟩
   have e1:(own (rs.take i)).map V.int++(UV r.mn.toNat [V.int (i:Nat)]).flatten=(own (rs.take (i+1))).map V.int:=by
    rw[take_snoc er,kjv,UZ,rep1,kii,U8,N3 (by omega)]
   have e2:(prs m (rs.take i)).map V.int++(UV r.mn.toNat [V.int (prc m r)]).flatten=(prs m (rs.take (i+1))).map V.int:=by
    rw[take_snoc er,kjp,UZ,rep1,kii]
   have e3:UV i (V.bl false)++[V.bl false]=UV (i+1) (V.bl false):=by rw[MA]
   rw[←e1,←e2,←e3]
   nofun
   exact Z8
  ·rintro σ H' ⟨⟨v2,v3,v4,rfl⟩,Z⟩
   have hll:=hL.len
   have e:(ls.map V.ref).length=rs.length:=by rw[UP,hll]
   rw[e,Jn] at Z
   nofun
   exact k H' o p mk Z.bt ho hp0 hm0 ⟨dx,fs,Z.ob,l1,l2,l3,l4,l5⟩ Z.ho Z.hp Z.hm ⟨dx,fs,Z.ob,lfs⟩
inductive kj7 (K:UQ) (CM:Addr) (vs:List V) (H:Hp) (Q:VK) (E_:XK):Prop
 |ct (mA a:Addr)(M:Mks)(ps:List (Option Nat))(kn:Nat)(mk:Bool)(_:vs=[.ref mA, .ref a, .int kn, .bl mk])(_:MksIs CM H mA M)(_:SqL K H a (ps.map pV))(_:Good ps)(_:kn<ps.length)(_:Q (.bl (kHit ps M.kind kn&&(!M.lone|| !mk))) H):kj7 K CM vs H Q E_
theorem kkB:kao ["marks","parents","kind","marked"] ["marks","parents","kind","marked"] (kaf kig):=by ac_rfl
theorem kkR(W:WB K mg d base):FO P w W 2 d.Xo d.Xp ["marks","parents","kind","marked"] (kj7 K d.qe):=by
 exists W.YY.F,kkB
 ·obtain⟨mA,a,M,ps,kn,mk,rfl,⟨dx,fs,hm,l1,l2,l3,l4,l5,l6⟩,hS,hg,hk,k⟩:=h
  exists Vt,kjy,W
  refine⟨_,kad (kim (ps_if (PW.pt (kca (kaX (kam (K:=K) (pv 0) rfl)) (kbW (kaX (pv 3))))) (kai (kan pe_bl)) (kat)))
   (kai (kan (pe_or (kbt kcv (kam (K:=K) (pv 0) rfl) kaS (kau _)) (kgZ (pcl Vt hr W.YW (kaa (pv 1) (kaa (pv 2) (kaa (kam (K:=K) (pv 0) rfl) kae)))))))),?_⟩
  refine⟨fun σ' H'=>σ'=[some (.ref mA),some (.ref a),some (.int kn),some (.bl mk)]∧H'=H∧(!M.lone|| !mk)=true,⟨_,rfl,mA,d.qe,dx,fs,_,rfl,hm,W.qe.cl,W.QF,l6,M.lone,rfl,?_⟩,?_⟩
  ·cases e:M.lone with
   |false=>exact iteF (iteF ⟨rfl,rfl,rfl⟩)
   | true=>
    refine iteT ⟨_,rfl,mk,rfl,?_⟩
    cases mk with
    |false=>exact iteF ⟨rfl,rfl,rfl⟩
    |true=>
     refine iteT ?_
     rw[e,show(kHit ps M.kind kn&&(!true|| !true))=false by simp] at k
     exact k
  ·rintro σ' H' ⟨rfl,rfl,hh⟩
   rw[hh,Bool.and_true] at k
   cases ek:M.kind with
   |none=>
    rw[ek] at l1 k
    refine⟨_,rfl,mA,d.qe,dx,fs,_,rfl,hm,W.qe.cl,W.qV,l1,rfl,_,rfl,?_⟩
    show if decide (V.non=V.non)=true then _ else _
    rw[show decide (V.non=V.non)=true by simp]
    exact iteT k
   |some kk=>
    rw[ek] at l1 k
    refine⟨_,rfl,mA,d.qe,dx,fs,_,rfl,hm,W.qe.cl,W.qV,l1,rfl,_,rfl,?_⟩
    show if decide (V.int (kk:Nat)=V.non)=true then _ else _
    rw[show decide (V.int (kk:Nat)=V.non)=false by simp]
    exact iteF ⟨_,rfl,_,rfl,_,rfl,mA,d.qe,dx,fs,_,rfl,hm,W.qe.cl,W.qV,l1,a,ps,kn,kk,rfl,hS,hg,hk,k⟩
theorem ZG:kao ["voucher","parents","basket","standing","fitting"] ["voucher","parents","basket","standing"] (kaf kdP):=by ac_rfl
theorem kg5(W:WB K mg d base):FO P w W 3 d.Xm d.Xn ["voucher","parents","basket","standing"] (kib K d):=by
 exists W.Qv.F,ZG
 ·obtain⟨v,a,b,x,Vc,ps,B,S,rfl,hV,hA,hB,hS,wf,vo,k⟩:=h
  obtain⟨mA,dxv,fsv,hv,lvm,_,hM,hh,htb⟩:=id hV
  obtain⟨l,ls,⟨dxb,fsb,hb,lb1,lb2,lb3⟩,hl,hL⟩:=id hB
  obtain⟨o,p,mk,⟨dxs,fss,hx,l1,l2,l3,l4,l5⟩,ho,hp,hmk⟩:=id hS
  exists Vu,kkR,W
  refine⟨_,kad (psl (i:=4) ZG.nd (kbF (N:=["line","marked","voucher","parents"]) (CompScope.of (N:=["line","marked","voucher","parents"]) (cap:=[none,none,some 0,some 1]) (kaf kdP).names ["voucher","parents","basket","standing","fitting"] rfl rfl (by decide +kernel)) rfl (keV rfl W.B.zip (kaa (kam (K:=K) (pv 2) rfl) (kaa (kam (K:=K) (pv 3) rfl) kae))) (fun _ _ _ _=>kbE (K:=K) (n:=2) rfl (kaB (pgn (i:=0) (show(["line","marked","voucher","parents"]:List Str).Nodup by decide +kernel)) (kaB (pgn (i:=1) (show(["line","marked","voucher","parents"]:List Str).Nodup by decide +kernel)) kbD))) (fun _ _ _ _=>(pcl Vu hr W.YY (kaa (kam (K:=K) (pv 2) rfl) (kaa (pv 3) (kaa (kam (K:=K) (pv 0) rfl) (kaa (pv 1) kae))))))))
   (kai (kan (kg1 (N:=["piece","owner","fitting"]) (CompScope.of (N:=["piece","owner","fitting"]) (cap:=[none,none,some 4]) (kaf kdP).names ["voucher","parents","basket","standing","fitting"] rfl rfl (by decide +kernel)) rfl (kge rfl W.B.enum (kaa (kam (K:=K) (pv 3) rfl) kae)) (fun _ _ _ _=>kbE (K:=K) (n:=2) rfl (kaB (pgn (i:=0) (show(["piece","owner","fitting"]:List Str).Nodup by decide +kernel)) (kaB (pgn (i:=1) (show(["piece","owner","fitting"]:List Str).Nodup by decide +kernel)) kbD))) (fun _ _ _ _=>kir (kaX (pe_ix (r:=rIxL K) kaK (pv 2) (pv 1) (fun _ _=>rfl)))) (fun _ _ _ _=>(pv 0))))),?_⟩
  have np:=wf.np
  have nl:=wf.nl
  have lenL:=hL.len
  have lenM:=wf.lm
  have emin:min (ls.map V.ref).length (S.mkd.map V.bl).length=B.rs.length:=by rw[UP,UP,lenL,lenM,Nq]
  refine⟨_,rfl,b,d.qg,dxb,fsb,_,rfl,hb,W.qg.cl,W.QP,lb1,_,rfl,x,d.qc,dxs,fss,_,rfl,hx,W.qc.cl,W.qL,l4,l,mk,_,_,rfl,hl,hmk,
   khl (xs:=ls.map V.ref) (ys:=S.mkd.map V.bl) (fun i σ zs H'=>Same H H'∧zs=((UU i).map fun l=>hits ps (kds B) Vc.ms.kind Vc.ms.lone S.mkd l).map V.bl∧∃v0 v1:Option V,σ=[v0,v1,some (.ref v),some (.ref a)])
    ⟨Same.refl _,rfl,none,none,rfl⟩ (by rw[emin];exact U3 (kap (by omega))) (fun i σ zs H' _ h=>⟨h.1 _ _ hl,h.1 _ _ hmk,by rw[h.2.1];simp⟩) ?_ ?_⟩
  ·rintro i y m t σ zs H1 hy hm ⟨s1,rfl,v0,v1,rfl⟩ ht
   obtain⟨lx,elx,rfl⟩:=kbB hy
   obtain⟨mv,emv,rfl⟩:=kbI hm
   obtain⟨r,er,hr⟩:=hL.at elx
   have s2:=s1.trans (kal (o:=.tup [V.ref lx,V.bl mv]) ht)
   obtain⟨dxl,fsl,hlx,lk1,_⟩:=hr.same s2
   have hkd:=wf.kd r (U1 er)
   obtain⟨kn,ekn⟩:=Int.eq_ofNat_of_zero_le hkd.1
   have hkn:kn<ps.length:=by omega
   refine⟨t,_,rfl,SqT.of kac,rfl,_,_,rfl,_,_,rfl,rfl,?_⟩
   refine⟨_,rfl,v,clsOf d Vc.so,dxv,fsv,_,rfl,s2 _ _ hv,cl_of W hh,na_of W hh,lvm,_,rfl,_,rfl,lx,d.qf,dxl,fsl,_,rfl,hlx,W.qf.cl,W.ZE,lk1,_,rfl,mA,a,Vc.ms,ps,kn,mv,by rw[ekn];rfl,hM.same s2,s2.seq hA,wf.good,hkn,s2,?_,_,_,rfl⟩
   have e1:hits ps (kds B) Vc.ms.kind Vc.ms.lone S.mkd i=(kHit ps Vc.ms.kind kn&&(!Vc.ms.lone|| !mv)):=by
    unfold hits
    have e2:S.mkd.getD i false=mv:=by rw[Jc,emv];rfl
    rw[e2,klG er,ekn,Int.toNat_natCast]
   rw[JE,UZ,UZ,←e1]
   rfl
  rintro σ zs H1 ⟨s1,rfl,v0,v1,rfl⟩ D hD
  rw[emin]
  have s2:=s1.trans (kal (o:=.lst (((UU B.rs.length).map fun l=>hits ps (kds B) Vc.ms.kind Vc.ms.lone S.mkd l).map V.bl)) hD)
  have eD:(upd H1 D (.lst (((UU B.rs.length).map fun l=>hits ps (kds B) Vc.ms.kind Vc.ms.lone S.mkd l).map V.bl))) D=some (.lst (((UU B.rs.length).map fun l=>hits ps (kds B) Vc.ms.kind Vc.ms.lone S.mkd l).map V.bl)):=kac
  generalize upd H1 D (.lst (((UU B.rs.length).map fun l=>hits ps (kds B) Vc.ms.kind Vc.ms.lone S.mkd l).map V.bl))=H2 at *
  refine⟨_,rfl,x,d.qc,dxs,fss,_,rfl,s2 _ _ hx,W.qc.cl,W.qD,l1,o,_,rfl,s2 _ _ ho,
   khJ (xs:=S.ow.map iV) (fun i σ ys H'=>Same H2 H'∧ys=((UU i).filter fun i=>hits ps (kds B) Vc.ms.kind Vc.ms.lone S.mkd (S.ow.getD i 0)).map iV∧∃v0 v1:Option V,σ=[v0,v1,some (.ref D)])
    ⟨Same.refl _,rfl,none,none,rfl⟩ (by rw[UP];exact U3 (kap (by omega))) (fun i σ zs H' _ h=>⟨h.1 _ _ (s2 _ _ ho),by rw[h.2.1,UP];have:=Nu (fun i=>hits ps (kds B) Vc.ms.kind Vc.ms.lone S.mkd (S.ow.getD i 0)) (UU i);simpa using this⟩) ?_ ?_⟩
  ·rintro i y t σ zs H3 hy ⟨s3,rfl,v0,v1,rfl⟩ ht
   obtain⟨ln,eln,rfl⟩:=kbI hy
   have hln:=wf.line eln
   have s4:=s3.trans (kal (o:=.tup [V.int (i:Nat),iV ln]) ht)
   refine⟨t,_,rfl,SqT.of kac,rfl,_,_,rfl,_,_,rfl,rfl,?_⟩
   refine⟨_,rfl,_,rfl,D,_,_,_,rfl,rfl,SqL.of (s4 _ _ eD),ka5 (v:=.bl (hits ps (kds B) Vc.ms.kind Vc.ms.lone S.mkd ln)) (by rw[UY,UY,NZ hln];rfl),_,rfl,?_⟩
   have e1:S.ow.getD i 0=ln:=by rw[Jc,eln];rfl
   have st:=kj0 (ps:=ps) (kk:=kds B) (kind:=Vc.ms.kind) (lone:=Vc.ms.lone) (S:=S) (i:=i)
   rw[e1] at st
   cases hh2:hits ps (kds B) Vc.ms.kind Vc.ms.lone S.mkd ln with
   |false=>exact iteF ⟨s4,by rw[st,hh2];simp,_,_,rfl⟩
   |true=>exact iteT ⟨_,rfl,s4,by rw[st,hh2,if_pos rfl,UZ];rfl,_,_,rfl⟩
  ·rintro σ zs H3 ⟨s3,rfl,v0,v1,rfl⟩ D2 hD2
   rw[UP]
   have s4:=(s2.trans s3).trans (kal (o:=.lst ((abt ps (kds B) Vc.ms.kind Vc.ms.lone S).map iV)) hD2)
   exact k _ D2 s4 (none_of (s2.trans s3) hD2) kac
inductive keq (CS:Addr) (vs:List V) (H:Hp) (Q:VK) (E_:XK):Prop
 |ct (x g:Addr)(S:Stnd)(is:List Nat)(_:vs=[.ref x, .ref g])(_:StndIs CS H x S)(_:H g=some (.lst (is.map iV)))(_:(∀i∈is,i<S.pr.length))(_:is.length≤720)(_:∀p,H p=none→Q (.ref p) (upd H p (.lst ((qs S.pr is).map V.int)))):keq CS vs H Q E_
theorem kfn:kao ["standing","pieces"] ["standing","pieces"] (kaf kb4):=by ac_rfl
theorem kdk(W:WB K mg d base):FO P w W 1 d.XF d.XG ["standing","pieces"] (keq d.qc):=by
 exists W.Qx.F,kfn
 ·obtain⟨x,g,S,is,rfl,⟨o,p,mk,⟨dxs,fss,hx,l1,l2,l3,l4,l5⟩,ho,hp,hmk⟩,hg,hi,hl,k⟩:=h
  refine⟨_,kai (kan (kbF (N:=["piece","standing"]) (CompScope.of (N:=["piece","standing"]) (cap:=[none,some 0]) (kaf kb4).names ["standing","pieces"] rfl rfl (by decide +kernel)) rfl (kaE (K:=K) (pv 1)) (fun _ _ _ _=>pgn (i:=0) (show(["piece","standing"]:List Str).Nodup by decide +kernel)) (fun _ _ _ _=>(pe_ix (r:=rIxL K) kaK (kam (K:=K) (pv 1) rfl) (pv 0) (fun _ _=>rfl))))),?_⟩
  refine⟨_,rfl,g,rfl,⟨_,SqL.of hg⟩,kaY (xs:=is.map iV) (fun j σ ys H'=>H'=H∧ys=(qs S.pr (is.take j)).map V.int∧∃v,σ=[v,some (.ref x)]) ⟨rfl,rfl,none,rfl⟩ ?_ ?_ ?_ ?_⟩
  ·rw[UP]
   exact U3 (kap (by omega))
  ·rintro j σ ys H' hj ⟨rfl,rfl,_⟩
   exact⟨SqL.of hg,by rw[UP,kbN,U8];rw[UP] at hj;omega⟩
  ·rintro j y σ ys H' hy ⟨rfl,rfl,v,rfl⟩
   obtain⟨n,en,rfl⟩:∃n,is[j]?=some n∧y=iV n:=kbI hy
   obtain⟨z,ez⟩:=at_of (hi n (U1 en))
   refine⟨_,rfl,x,d.qc,dxs,fss,_,rfl,hx,W.qc.cl,W.qA,l2,_,rfl,p,_,_,_,rfl,rfl,SqL.of hp,ka5 (by rw[UY,ez];rfl),rfl,?_,_,rfl⟩
   rw[JN,en]
   simp[qs,ez]
  ·rintro σ ys H' ⟨rfl,rfl,v,rfl⟩ D hD
   rw[UP,Jn]
   exact k D hD
inductive kh1 (CS:Addr) (vs:List V) (H:Hp) (Q:VK) (E_:XK):Prop
 |ct (x g:Addr)(S:Stnd)(is:List Nat)(_:vs=[.ref x, .ref g])(_:StndIs CS H x S)(_:H g=some (.lst (is.map iV)))(_:(∀i∈is,i<S.pr.length))(_:is.length≤720)(_:∀H',Same H H'→Q (.int (qs S.pr is).sum) H'):kh1 CS vs H Q E_
theorem kdu:kao ["standing","pieces"] ["standing","pieces"] (kaf kbw):=by ac_rfl
theorem kcb(W:WB K mg d base):FO P w W 2 d.XH d.XI ["standing","pieces"] (kh1 d.qc):=by
 exists W.qK.F,kdu
 ·obtain⟨x,g,S,is,rfl,hS,hg,hi,hl,k⟩:=h
  exists Q0,kdk,W
  refine⟨_,kai (kan (kaw (r:=rSum K) (kc1 rfl) (by rfl) W.B.sum b_sum (kaa (pcl Q0 hr W.Qx (kaa (pv 0) (kaa (pv 1) kae))) kae))),?_⟩
  exact⟨_,rfl,_,rfl,x,g,S,is,rfl,hS,hg,hi,hl,fun p hp=>⟨p,_,rfl,SqL.of kac,k _ (kal hp)⟩⟩
theorem Q1:kao ["voucher","parents","basket","standing","marks","pieces"] ["voucher","parents","basket","standing"] (kaf kcB):=by ac_rfl
theorem kfy(W:WB K mg d base):FO P w W 4 d.Xq d.Xr ["voucher","parents","basket","standing"] (kj6 K d):=by
 exists W.YZ.F,Q1
 ·obtain⟨v,a,b,x,Vc,ps,B,S,rfl,hV,hA,hB,hS,wf,vo,k⟩:=h
  obtain⟨mA,dxv,fsv,hv,lvm,_,hM,hh,htb⟩:=id hV
  obtain⟨dxm,fsm,hm,m1,m2,m3,m4,m5,m6⟩:=id hM
  obtain⟨l,ls,⟨dxb,fsb,hb,lb1,lb2,lb3⟩,hl,hL⟩:=id hB
  exists Q2,kg5,W
  exists qO,kcb,W
  exists hr2,2,hr,0
  refine⟨_,kad (psl (i:=4) Q1.nd (kam (K:=K) (pv 0) rfl))
   (kad (kim (ps_if (PW.pt (kca (kaX (kam (K:=K) (pv 4) rfl)) (kbW (kdR (kaX (kam (K:=K) (pv 2) rfl)))))) (kai (kan kb0)) (kat)))
   (kad (psl (i:=5) Q1.nd (pcl Q2 hr W.Qv (kaa (pv 0) (kaa (pv 1) (kaa (pv 2) (kaa (pv 3) kae))))))
   (kad (ps_if (kaq op_eq (kaw (r:=kbd K) kaA (by rfl) W.B.len b_len (kaa (pv 5) kae)) kah (kau _)) (kai (kan kb0)) (kat))
   (kad (ps_if (kaq op_lt (pcl qO hr2 W.qK (kaa (pv 3) (kaa (pv 5) kae))) (kam (K:=K) (pv 4) rfl) (kau _)) (kai (kan kb0)) (kat))
   (kai (kan kaS)))))),?_⟩
  have np:=wf.np
  have habl:∀i∈abt ps (kds B) Vc.ms.kind Vc.ms.lone S,i<S.pr.length:=fun i hi=>by rw[wf.lp];exact khp hi
  have lab:(abt ps (kds B) Vc.ms.kind Vc.ms.lone S).length≤720:=UT (keg _ _ _ _ _) np
  refine⟨_,rfl,v,clsOf d Vc.so,dxv,fsv,_,rfl,hv,cl_of W hh,na_of W hh,lvm,?_⟩
  refine⟨fun σ' H'=>σ'=[some (.ref v),some (.ref a),some (.ref b),some (.ref x),some (.ref mA),none]∧H'=H∧(Vc.ms.member&& !B.m)=false,⟨_,rfl,mA,d.qe,dxm,fsm,_,rfl,hm,W.qe.cl,W.Zq,m4,Vc.ms.member,rfl,?_⟩,?_⟩
  ·cases e:Vc.ms.member with
   |false=>exact iteF (iteF ⟨rfl,rfl,rfl⟩)
   | true=>
    refine iteT ⟨_,rfl,b,d.qg,dxb,fsb,_,rfl,hb,W.qg.cl,W.QQ,lb3,B.m,rfl,?_⟩
    cases e2:B.m with
    |true=>exact iteF ⟨rfl,rfl,rfl⟩
    |false=>
     refine iteT ?_
     have z:=k H (Same.refl _)
     unfold hindM at z
     rw[e,e2,if_pos (by decide)] at z
     exact z
  ·rintro σ' H' ⟨rfl,rfl,hh2⟩
   refine⟨_,rfl,_,rfl,_,rfl,_,rfl,v,a,b,x,Vc,ps,B,S,rfl,hV,hA,hB,hS,wf,vo,fun H1 pa s1 f1 h1=>?_⟩
   refine⟨_,rfl,pa,_,rfl, .inl (SqL.of h1),rfl,_,rfl,?_⟩
   have ed:decide (V.int (((abt ps (kds B) Vc.ms.kind Vc.ms.lone S).map iV).length:Nat)=V.int 0)=decide ((abt ps (kds B) Vc.ms.kind Vc.ms.lone S).length=0):=by
    rw[UP]
    by_cases h0:(abt ps (kds B) Vc.ms.kind Vc.ms.lone S).length=0
    ·rw[h0]
     rfl
    ·rw[decide_eq_false h0]
     refine decide_eq_false fun z=>h0 ?_
     injection z with z
     omega
   show if decide (V.int (((abt ps (kds B) Vc.ms.kind Vc.ms.lone S).map iV).length:Nat)=V.int 0)=true then _ else _
   rw[ed]
   by_cases h0:(abt ps (kds B) Vc.ms.kind Vc.ms.lone S).length=0
   ·rw[decide_eq_true h0]
    refine iteT ?_
    have z:=k H1 s1
    unfold hindM at z
    rw[hh2,if_neg (by decide),if_pos h0] at z
    exact z
   ·rw[decide_eq_false h0]
    refine iteF ⟨_,rfl,_,rfl,x,pa,S,_,rfl,hS.same s1,h1,habl,lab,fun H2 s2=>?_⟩
    have z:=k H2 (s1.trans s2)
    unfold hindM at z
    rw[hh2,if_neg (by decide),if_neg h0] at z
    refine⟨_,rfl,mA,d.qe,dxm,fsm,_,rfl,(s1.trans s2) _ _ hm,W.qe.cl,W.Zp,m2,_,_,rfl,rfl,_,rfl,?_⟩
    by_cases h2:(qs S.pr (abt ps (kds B) Vc.ms.kind Vc.ms.lone S)).sum<Vc.ms.needs
    ·rw[if_pos h2] at z
     rw[decide_eq_true h2]
     exact iteT z
    ·rw[if_neg h2] at z
     rw[decide_eq_false h2]
     exact iteF z
inductive kgR (vs:List V) (H:Hp) (Q:VK) (E_:XK):Prop
 |ct (m:Option Int)(n:Int)(_:vs=[oV m, .int n])(_:Q (.int (atM m n)) H):kgR vs H Q E_
theorem kht:kao ["most","number"] ["most","number"] (kaf kdO):=by ac_rfl
theorem khz(W:WB K mg d base):FO P w W 1 d.XJ d.XM ["most","number"] kgR:=by
 exists W.Y9.F,kht
 ·obtain⟨m,n,rfl,k⟩:=h
  refine⟨_,kad (ps_if (kaq kcv (pv 0) kaS (kau _)) (kai (kan (pv 1))) (kat))
   (kai (kan (kaw (kfS rfl) (by rfl) W.B.min b_min (kaa (pv 0) (kaa (pv 1) kae))))),?_⟩
  cases m with
  |none=>
   refine⟨_,rfl,rfl,_,rfl,?_⟩
   show if decide (V.non=V.non)=true then _ else _
   rw[show decide (V.non=V.non)=true by simp]
   exact iteT ⟨_,rfl,k⟩
  | some z=>
   refine⟨_,rfl,rfl,_,rfl,?_⟩
   show if decide (V.int z=V.non)=true then _ else _
   rw[show decide (V.int z=V.non)=false by simp]
   refine iteF ⟨_,rfl,_,rfl,_,_,rfl,?_⟩
   have e:atM (some z) n=if n<z then n else z:=by
    show min z n=_
    split <;> omega
   rw[e] at k
   exact k
inductive kfj (d:D) (vs:List V) (H:Hp) (Q:VK) (E_:XK):Prop
 |ct (v x:Addr)(V:Vch)(S:Stnd)(_:vs=[.ref v, .ref x])(_:VchIs d H v V)(_:StndIs d.qc H x S)(_:Q (.int (if kbp V.so=true then atM V.ms.most S.cg else 0)) H):kfj d vs H Q E_
theorem kcL:kao ["voucher","standing"] ["voucher","standing"] (kaf kbh):=by ac_rfl
theorem kcR(W:WB K mg d base):FO P w W 2 d.Xw d.Xx ["voucher","standing"] (kfj d):=by
 exists W.Y2.F,kcL
 ·obtain⟨v,x,Vc,S,rfl,⟨mA,dxv,fsv,hv,lvm,_,⟨dxm,fsm,hm,m1,m2,m3,m4,m5,m6⟩,hh,htb⟩,⟨o,p,mk,⟨dxs,fss,hx,l1,l2,l3,l4,l5⟩,ho,hp,hmk⟩,k⟩:=h
  exists Vv,khz,W
  refine⟨_,kad (ps_if (kaX (kaw (r:=rIsi K) kaW (by rfl) W.B.isi b_isi (kaa (pv 0) (kaa (kc9 (v:=.ref d.qm) (by rfl) W.ZV rfl) kae)))) (kai (kan (pcl Vv hr W.Y9 (kaa (kam (K:=K) (kam (K:=K) (pv 0) rfl) rfl) (kaa (kam (K:=K) (pv 1) rfl) kae))))) (kat))
   (kai (kan kah)),?_⟩
  have I:=kki W hh
  refine⟨_,rfl,_,_,_,_,rfl, .inr ⟨_,rfl⟩,TyOf.ins hv (cl_of W hh) I.ha I.hn I.ht I.hm,kfI W hh,_,rfl,?_⟩
  cases e:kbp Vc.so with
  |false=>
   rw[e,if_neg UX] at k
   exact iteF k
  |true=>
   rw[e,if_pos rfl] at k
   exact iteT ⟨_,rfl,v,clsOf d Vc.so,dxv,fsv,_,rfl,hv,cl_of W hh,na_of W hh,lvm,mA,d.qe,dxm,fsm,_,rfl,hm,W.qe.cl,W.QE,m3,_,rfl,x,d.qc,dxs,fss,_,rfl,hx,W.qc.cl,W.qX,l3,_,_,rfl,k⟩
noncomputable def kvOf(G:List (Nat×List Nat))(gl:List Addr):List (Key×V):=Jx (fun p r=>(Sum.inl (p.1:Int),V.ref r)) G gl
theorem khc:∀{G:List (Nat×List Nat)}{gl:List Addr},gl.length=G.length→(kvOf G gl).map Prod.snd=gl.map V.ref
 |[],[],_=>rfl
 |[],r::gl,h=>by cases h
 |p::G,[],h=>by cases h
 |p::G,r::gl,h=>by
  have ih:=khc (G:=G) (gl:=gl) (by simpa using h)
  show V.ref r::(kvOf G gl).map Prod.snd=V.ref r::gl.map V.ref
  rw[ih]
theorem kgq:∀{G:List (Nat×List Nat)}{gl:List Addr}(o a:Nat),gl.length=G.length→
  (atK (kvOf G gl) (Sum.inl (o:Int))=none∧ins G o a=G++[(o,[a])])∨∃(j:Nat)(g:List Nat)(r:Addr),G[j]?=some (o,g)∧gl[j]?=some r∧atK (kvOf G gl) (Sum.inl (o:Int))=some (.ref r)∧ins G o a=G.set j (o,g++[a])
 |[],gl,o,a,h=>.inl ⟨rfl,rfl⟩
 |(l,g)::G,[],o,a,h=>by cases h
 | (l,g)::G,r::gl,o,a,h=>by
  have hl:gl.length=G.length:=by simpa using h
  unfold ins
  by_cases e:l=o
  ·subst e
   exact .inr ⟨0,g,r,rfl,rfl,by simp[kvOf,atK],by rw[if_pos rfl];rfl⟩
  ·rw[if_neg e]
   have e':¬((l:Int)=(o:Int)):=fun z=>e (by omega)
   have ea:atK (kvOf ((l,g)::G) (r::gl)) (Sum.inl (o:Int))=atK (kvOf G gl) (Sum.inl (o:Int)):=by
    simp[kvOf,atK,JK,e']
   rcases kgq o a hl with⟨h1,h2⟩|⟨j,g',r',h1,h2,h3,h4⟩
   ·exact .inl ⟨by rw[ea];exact h1,by rw[h2];rfl⟩
   ·exact .inr ⟨j+1,g',r',by simpa using h1,by simpa using h2,by rw[ea];exact h3,by rw[h4];rfl⟩
theorem kjI{G:List (Nat×List Nat)}{gl:List Addr}{j o:Nat}{g g':List Nat}(h:G[j]?=some (o,g)):kvOf (G.set j (o,g')) gl=kvOf G gl:=by
 unfold kvOf
 apply Mp
 intro i
 rw[NY,NY]
 by_cases e:j=i
 ·subst e
  have hj:=at_lt h
  rw[Ny hj,h]
  cases gl[j]? <;> rfl
 ·rw[Nz e]
theorem kiH{G:List (Nat×List Nat)}{gl:List Addr}{o:Nat}{g:List Nat}{e:Addr}(h:gl.length=G.length):kvOf (G++[(o,g)]) (gl++[e])=kvOf G gl++[(Sum.inl (o:Int), .ref e)]:=by
 unfold kvOf
 rw[List.zipWith_append h.symm]
 rfl
structure Ptd (H H':Hp) (dd:Addr) (gl:List Addr) (G:List (Nat×List Nat)):Prop where
 sm:Same H H'
 nd:gl.Nodup
 fg:∀r∈gl,H r=none∧r≠dd
 dk:H' dd=some (.dK (kvOf G gl))
 ls:P2 (fun r p=>H' r=some (.lst (p.2.map iV))) gl G
theorem Ptd.more{H H':Hp}{dd e:Addr}{gl:List Addr}{G:List (Nat×List Nat)}(h:Ptd H H' dd gl G)(fd:H dd=none)(he:H' e=none){o a:Nat}:
  Ptd H (upd (upd (upd H' e (.lst [])) dd (.dK (kvOf G gl++[(Sum.inl (o:Int), .ref e)]))) e (.lst [iV a])) dd (gl++[e]) (G++[(o,[a])]):=by
 have e0:H e=none:=none_of h.sm he
 have ned:e≠dd:=fun z=>by rw[z,h.dk] at he;cases he
 refine⟨kas e0 (kas fd (h.sm.trans (kal he)) (kcw (nx h.dk)))  (kcw (nx kac)),?_,fun r hr=>?_,?_,?_⟩
 ·refine N1.mpr ⟨h.nd,by simp,fun x hx y hy z=>?_⟩
  rw[JG] at hy
  subst hy z
  obtain⟨i,hi⟩:=Na.mp hx
  obtain⟨p,_,hp⟩:=h.ls.at hi
  rw[hp] at he
  cases he
 ·rcases Jy.mp hr with hr|hr
  ·exact h.fg r hr
  ·rw[JG] at hr
   subst hr
   exact⟨e0,ned⟩
 ·rw[kaj ned.symm,kac,kiH h.ls.len]
 ·refine P2.snoc (P2.of h.ls.len fun i r p e1 e2=>?_) kac
  have hp:=h.ls.get e1 e2
  rw[kaj (kag hp he),kaj (h.fg r (U1 e1)).2,kaj (kag hp he)]
  exact hp
theorem Ptd.put{H H':Hp}{dd e r:Addr}{gl:List Addr}{G:List (Nat×List Nat)}(h:Ptd H H' dd gl G)(he:H' e=none){j o a:Nat}{g:List Nat}(h1:G[j]?=some (o,g))(h2:gl[j]?=some r):
  Ptd H (upd (upd H' e (.lst [])) r (.lst (g.map iV++[iV a]))) dd gl (G.set j (o,g++[a])):=by
 have hr:=h.fg r (U1 h2)
 have hrv:=h.ls.get h2 h1
 refine⟨kas hr.1 (h.sm.trans (kal he)),h.nd,h.fg,?_,P2.of (by rw[List.length_set];exact h.ls.len) fun i r' p e1 e2=>?_⟩
 ·rw[kaj hr.2.symm,kaj (kag h.dk he),h.dk,kjI h1]
 ·by_cases eji:j=i
  ·subst eji
   rw[h2] at e1
   cases e1
   rw[Ny (at_lt h1)] at e2
   cases e2
   rw[kac,UZ]
   rfl
  ·rw[Nz eji] at e2
   have hp:=h.ls.get e1 e2
   have hne:r'≠r:=fun z=>by
    subst z
    exact eji ((List.getElem?_inj (at_lt h2) h.nd).mp (h2.trans e1.symm))
   rw[kaj hne,kaj (kag hp he)]
   exact hp
inductive kgL (CS:Addr) (vs:List V) (H:Hp) (Q:VK) (E_:XK):Prop
 |ct (x pa:Addr)(S:Stnd)(is:List Nat)(_:vs=[.ref x, .ref pa])(_:StndIs CS H x S)(_:H pa=some (.lst (is.map iV)))(_:(∀i∈is,i<S.ow.length))(_:is.length≤720)(_:∀(H':Hp)(p:Addr)(gl:List Addr),Same H H'→H p=none→H' p=some (.lst (gl.map V.ref))→P2 (fun r g=>H' r=some (.lst (g.map iV))) gl ((parted (fun i=>S.ow.getD i 0) is).map Prod.snd)→(∀r∈gl,H r=none)→Q (.ref p) H'):kgL CS vs H Q E_
theorem P2.mapR{α β γ:Type}{R: α→γ→Prop}{f: β→γ}{as:List α}{bs:List β}(h:P2 (fun a b=>R a (f b)) as bs):P2 R as (bs.map f):=by
 induction h with
 |nil=>exact .nil
 |cons r t ih=>exact .cons r ih
theorem Q3:kao ["standing","pieces","by_line","piece"] ["standing","pieces"] (kaf kbr):=by ac_rfl
theorem kdc(W:WB K mg d base):FO P w W 1 d.XA d.XB ["standing","pieces"] (kgL d.qc):=by
 exists W.Y5.F,Q3
 ·obtain⟨x,pa,S,is,rfl,⟨o,p,mk,⟨dxs,fss,hx,l1,l2,l3,l4,l5⟩,ho,hp,hmk⟩,hpa,hi,hl,k⟩:=h
  refine⟨_,kad (psl (i:=2) Q3.nd kjs)
   (kad (ka6 PassesOwn.never rfl (kaE (K:=K) (pv 1)) (pgn (i:=3) Q3.nd)
   (kai (kaU (pe_bm JF J4 J5 kbn (pe_bm MM ML PySem.F.type_dict_setdefault ke5 (pv 2) (kaa (pe_ix (r:=rIxL K) kaK (kam (K:=K) (pv 0) rfl) (pv 3) (fun _ _=>rfl)) (kaa (kaN kae) kae))) (kaa (pv 3) kae)))))
   (kai (kan (kgf rfl (by rfl) W.B.list (pv 2))))),?_⟩
  refine fun dd hd=>?_
  have s1:=kal (o:=.dK []) hd
  refine⟨_,rfl,pa,rfl,⟨_,SqL.of (s1 _ _ hpa)⟩,kbe (K:=K) (a:=pa) (xs:=is.map iV) (fun i σ H'=>(∃v3:Option V,σ=[some (.ref x),some (.ref pa),some (.ref dd),v3])∧∃gl,Ptd H H' dd gl (parted (fun i=>S.ow.getD i 0) (is.take i)))
   ⟨⟨none,rfl⟩,[],s1,by simp,fun r hr=>by simp at hr,kac, .nil⟩ (fun i σ H' _ h=>SqL.of (h.2.choose_spec.sm _ _ hpa)) ?_ ?_⟩
  ·rintro i y σ H1 hy ⟨⟨v3,rfl⟩,gl,Z⟩
   obtain⟨a,ea,rfl⟩:=kbI hy
   have hil:=at_lt ea
   obtain⟨ln,eln⟩:=at_of (hi a (U1 ea))
   have eg:S.ow.getD a 0=ln:=by rw[Jc,eln];rfl
   have enext:parted (fun i=>S.ow.getD i 0) (is.take (i+1))=ins (parted (fun i=>S.ow.getD i 0) (is.take i)) ln a:=by
    rw[kbQ ea,kdV,eg]
   have lenG:=kev (fun i=>S.ow.getD i 0) (is.take i)
   rw[U8] at lenG
   have lenK:(kvOf (parted (fun i=>S.ow.getD i 0) (is.take i)) gl).length<sizeLine:=by
    refine kap ?_
    unfold kvOf
    rw[NW]
    omega
   refine⟨_,rfl, .inr (.inr (.inl ⟨rfl, .inl ⟨_,Z.dk⟩⟩)),_,rfl,x,d.qc,dxs,fss,_,rfl,Z.sm _ _ hx,W.qc.cl,W.qD,l1,_,rfl,o,_,_,_,rfl,rfl,SqL.of (Z.sm _ _ ho),ka5 (v:=.int (ln:Nat)) (by rw[UY,eln];rfl),by decide,fun e he=>?_⟩
   have ned:dd≠e:=kag Z.dk he
   refine⟨dd,kvOf (parted (fun i=>S.ow.getD i 0) (is.take i)) gl,(ln:Nat), .ref e,rfl,rfl,by rw[kaj ned];exact Z.dk,lenK,fun v hv=>?_,fun hn=>?_⟩
   ·rcases kgq (G:=parted (fun i=>S.ow.getD i 0) (is.take i)) ln a Z.ls.len with⟨h1,_⟩|⟨j,g,r,h1,h2,h3,h4⟩
    ·rw[h1] at hv
     cases hv
    ·rw[h3] at hv
     cases hv
     have hrv:=Z.ls.get h2 h1
     have gl20:g.length≤720:=by
      have eg':=(kcl (fun i=>S.ow.getD i 0) (is.take i)).gs ln g (U1 h1)
      rw[eg']
      refine UT (Nu _ _) ?_
      rw[U8]
      omega
     have hr2:(upd H1 e (.lst [])) r=some (.lst (g.map iV)):=by rw[kaj (kag hrv he)];exact hrv
     refine⟨.inl ⟨rfl,_,SqL.of hr2⟩,_,rfl,r,_,_,rfl,rfl,hr2,kap (by rw[UP];omega),⟨_,rfl⟩,gl,?_⟩
     rw[enext,h4]
     exact Z.put he h1 h2
   ·rcases kgq (G:=parted (fun i=>S.ow.getD i 0) (is.take i)) ln a Z.ls.len with⟨_,h4⟩|⟨j,g,r,h1,h2,h3,h4⟩
    ·have he2:(upd (upd H1 e (.lst [])) dd (.dK (kvOf (parted (fun i=>S.ow.getD i 0) (is.take i)) gl++[(Sum.inl ((ln:Nat):Int), .ref e)]))) e=some (.lst []):=by rw[kaj ned.symm,kac]
     refine⟨.inl ⟨rfl,_,SqL.of he2⟩,_,rfl,e,[],_,rfl,rfl,he2,by decide,⟨_,rfl⟩,gl++[e],?_⟩
     rw[enext,h4]
     exact Z.more hd he
    ·rw[h3] at hn
     cases hn
  ·rintro σ H1 ⟨⟨v3,rfl⟩,gl,Z⟩
   rw[UP,Jn] at Z
   refine⟨_,rfl,dd,_,rfl,Z.dk,fun l hl2=>?_⟩
   rw[khc Z.ls.len]
   refine k _ l gl (Z.sm.trans (kal hl2)) (none_of Z.sm hl2) kac (P2.mapR (f:=Prod.snd) (R:=fun r g=>(upd H1 l (.lst (gl.map V.ref))) r=some (.lst (g.map iV))) (Z.ls.mono fun r p h=>kal hl2 _ _ h)) fun r hr=>(Z.fg r hr).1
inductive kfi (d:D) (vs:List V) (H:Hp) (Q:VK) (E_:XK):Prop
 |ct (x pa:Addr)(S:Stnd)(is:List Nat)(m:Nat)(_:vs=[.ref x, .ref pa, .int m])(_:StndIs d.qc H x S)(_:H pa=some (.lst (is.map iV)))(_:is.Pairwise (· < ·))(_:(∀i∈is,i<S.pr.length))(_:is.length<64)(_:2≤m)(_:m≤20)(_:Tbs d H)(_:∀(H':Hp)(p:Addr)(gl:List Addr),Same H H'→H p=none→H' p=some (.lst (gl.map V.ref))→P2 (fun r g=>H' r=some (.lst (g.map iV))) gl (grp m (fallP S.pr is))→(∀r∈gl,H r=none)→Q (.ref p) H'):kfi d vs H Q E_
theorem kkX{pr:List Int}{is:List Nat}{ms:List Int}(hs:is.Pairwise (· < ·))(hp:ms.Perm (is.map fun(i:Nat)=>(i:Int)))(hk:ms.Pairwise fun a b=> -(pr.getD a.toNat 0)< -(pr.getD b.toNat 0)∨(-(pr.getD a.toNat 0)= -(pr.getD b.toNat 0)∧a<b)):ms.map V.int=(fallP pr is).map iV:=by
 have e:ms=(ms.map Int.toNat).map fun(i:Nat)=>(i:Int):=by
  rw[Jg]
  conv=>lhs;rw[←List.map_id ms]
  refine JA fun z hz=>?_
  obtain⟨i,_,rfl⟩:=Jf.mp (hp.mem_iff.mp hz)
  simp
 have hp2:(ms.map Int.toNat).Perm is:=by
  have:=hp.map Int.toNat
  rw[Jg] at this
  have e2:is.map (Int.toNat∘fun(i:Nat)=>(i:Int))=is:=by
   conv=>rhs;rw[←List.map_id is]
   exact JA fun i _=>rfl
  rwa [e2] at this
 have hk2:(ms.map Int.toNat).Pairwise (befP pr):=by
  rw[Mw]
  refine hk.imp_of_mem fun {a b} ha hb h=>?_
  obtain⟨i,_,rfl⟩:=Jf.mp (hp.mem_iff.mp ha)
  obtain⟨j,_,rfl⟩:=Jf.mp (hp.mem_iff.mp hb)
  unfold befP
  simp only[Int.toNat_natCast] at h⊢
  omega
 rw[e,khH hs hp2 hk2,Jg]
 rfl
theorem ZH:kao ["standing","pieces","many","falling"] ["standing","pieces","many"] (kaf kay):=by ac_rfl
theorem kdd(W:WB K mg d base):FO P w W 1 d.XC d.Qk ["standing","pieces","many"] (kfi d):=by
 refine FunD.okC W.Qw.F ZH (fun vs H Q E h=>?_) (fun A outer s H vs Q E hr h=>?_)
 ·obtain⟨x,pa,S,is,m,rfl,_⟩:=h
  rfl
 ·obtain⟨x,pa,S,is,m,rfl,hS,hpa,hs,hi,h64,hm2,hm20,htb,k⟩:=h
  obtain⟨o,p,mk,⟨dxs,fss,hx,l1,l2,l3,l4,l5⟩,ho,hp,hmk⟩:=id hS
  refine⟨_,kad (psl (i:=3) ZH.nd (khv (N:=["piece","standing"]) (cap:=[some 0]) (pv 1) ⟨CompScope.of (N:=["piece","standing"]) (cap:=[none,some 0]) (kaf kay).names ["standing","pieces","many","falling"] rfl rfl (by decide +kernel),rfl,rfl,rfl,rfl,by decide +kernel⟩ rfl hr.depth W.code_falling_groups W.ck_falling_groups W.blt (by rfl) W.B.sorted (fun _ _ _ _ _=>rfl) (fun _ _ _ _ _=>(pe_un khO (pe_ix (r:=rIxL K) kaK (kam (K:=K) (pv 1) rfl) (pv 0) (fun _ _=>rfl)))) (by rfl)))
   (kai (kan (kbF (N:=["start","falling","many"]) (CompScope.of (N:=["start","falling","many"]) (cap:=[none,some 3,some 2]) (kaf kay).names ["standing","pieces","many","falling"] rfl rfl (by decide +kernel)) rfl (ket rfl W.B.range (kaa kah (kaa (pe_op kbm (pe_op kfv (kaw (r:=kbd K) kaA (by rfl) W.B.len b_len (kaa (pv 3) kae)) (pv 2)) kah) (kaa (pv 2) kae)))) (fun _ _ _ _=>pgn (i:=0) (show(["start","falling","many"]:List Str).Nodup by decide +kernel)) (fun _ _ _ _=>(kb7 (r:=rSlL K) kcz (pv 1) (kb6 (pv 0)) (kb6 (pe_op kbm (pv 0) (pv 2)))))))),?_⟩
  have htb':TbAt d.tP_falling_groups H:=htb
  obtain⟨qs0,eT,_⟩:=id htb'
  have npT:∀{b:Addr}{u:HO},H b=some u→(∀ps,u≠.tbl ps)→b≠d.tP_falling_groups:=fun {b u} e hn z=>by
   rw[z,eT] at e
   cases e
   exact hn _ rfl
  have ei:is.map iV=(is.map fun(i:Nat)=>(i:Int)).map V.int:=by rw[Jg];rfl
  refine⟨_,rfl,pa,is.map fun(i:Nat)=>(i:Int),fun a=> -(S.pr.getD a.toNat 0),rfl,SqL.of (by rw[←ei];exact hpa),by rw[UP];exact h64,?_,htb',npT hpa (fun ps z=>by cases z),fun H2 G n hn=>?_,fun H2 l ms G f1 f2 hpm hpw=>?_⟩
  ·rw[Mw]
   exact hs.imp fun {a b} h=>by omega
  ·obtain⟨i,hin,rfl⟩:=Jf.mp hn
   obtain⟨z,ez⟩:=at_of (hi i hin)
   have hx2:=G.kp _ _ (npT hx (fun ps z=>by cases z)) hx
   have hp2:=G.kp _ _ (npT hp (fun ps z=>by cases z)) hp
   refine⟨_,rfl,x,d.qc,dxs,fss,_,rfl,hx2,W.qc.cl,W.qA,l2,_,rfl,p,_,_,_,rfl,rfl,SqL.of hp2,ka5 (v:=.int z) (by rw[UY,ez];rfl),_,rfl,?_,rfl⟩
   show V.int (-z)=V.int (-(S.pr.getD ((i:Int)).toNat 0))
   rw[Int.toNat_natCast,Jc,ez]
   rfl
  have s2:=G.same htb'
  rw[kkX hs hpm hpw]
  have lf:(fallP S.pr is).length=is.length:=(kbj S.pr is).length_eq
  have s3:=s2.trans (kal (o:=.lst ((fallP S.pr is).map iV)) f2)
  have el:(upd H2 l (.lst ((fallP S.pr is).map iV))) l=some (.lst ((fallP S.pr is).map iV)):=kac
  generalize upd H2 l (.lst ((fallP S.pr is).map iV))=H3 at *
  have ecnt:(Builtin.Range.rangeSize 0 ((((fallP S.pr is).map iV).length:Int)-(m:Int)+1) (m:Int)).toNat=(fallP S.pr is).length/m:=by
   rw[UP]
   exact kf7 (by omega)
  have lg:=kgr m (fallP S.pr is)
  refine⟨_,rfl,l,_,rfl, .inl (SqL.of el),_,rfl,_,_,rfl,rfl,_,_,rfl,rfl,_,rfl,0,_,_,rfl,by omega,?_,by omega,by omega,?_⟩
  ·rw[UP]
   omega
  rw[ecnt]
  refine ki5 (n:=(fallP S.pr is).length/m) (fun i σ ys H'=>Same H3 H'∧(∃v0:Option V,σ=[v0,some (.ref l),some (.int m)])∧∃gl,ys=gl.map V.ref∧P2 (fun r g=>H' r=some (.lst (g.map iV))) gl ((grp m (fallP S.pr is)).take i)∧∀r∈gl,H r=none)
   ⟨Same.refl _,⟨none,rfl⟩,[],rfl, .nil,fun r hr=>by simp at hr⟩ ?_ ?_ ?_ ?_
  ·have:(grp m (fallP S.pr is)).length=(fallP S.pr is).length/m:=by simp[grp]
   exact U3 (kap (by omega))
  ·rintro i σ ys H' hi' ⟨_,_,gl,rfl,hP,_⟩
   rw[UP,hP.len,U8]
   have:(grp m (fallP S.pr is)).length=(fallP S.pr is).length/m:=by simp[grp]
   omega
  ·rintro i σ ys H' hi' ⟨s4,⟨v0,rfl⟩,gl,rfl,hP,hfr⟩
   have eg:(grp m (fallP S.pr is))[i]?=some (((fallP S.pr is).drop (i*m)).take m):=by
    unfold grp
    rw[UY,NZ hi']
    rfl
   have ecut:cutV ((fallP S.pr is).map iV) (some (0+(i:Int)*(m:Int))) (some (0+(i:Int)*(m:Int)+(m:Int)))=(((fallP S.pr is).drop (i*m)).take m).map iV:=by
    have:=ki4 ((fallP S.pr is).map iV) (i*m) m
    rw[show(0:Int)+(i:Int)*(m:Int)=((i*m:Nat):Int) by rw[Int.zero_add,Int.natCast_mul],show((i*m:Nat):Int)+(m:Int)=((i*m+m:Nat):Int) by rw[Int.natCast_add],this,JU,Mx]
   refine⟨_,rfl,_,rfl,_,rfl,_,rfl,_,rfl,_,_,rfl,rfl,_,rfl,l,_,rfl,SqL.of (s4 _ _ el),fun r hr=>?_⟩
   refine⟨s4.trans (kal hr),⟨_,rfl⟩,gl++[r],by rw[UZ];rfl,?_,fun r' hr'=>?_⟩
   ·rw[kbQ eg,ecut]
    exact P2.snoc (hP.mono fun r' g e=>kal hr _ _ e) kac
   ·rcases Jy.mp hr' with h|h
    ·exact hfr r' h
    ·rw[JG] at h
     rw[h]
     exact(s3.trans s4).free hr
  ·rintro σ ys H' ⟨s4,⟨v0,rfl⟩,gl,rfl,hP,hfr⟩ D hD
   have el2:(grp m (fallP S.pr is)).length=(fallP S.pr is).length/m:=by simp[grp]
   rw[JY (by omega)] at hP
   exact k _ D gl ((s3.trans s4).trans (kal hD)) ((s3.trans s4).free hD) kac (hP.mono fun r g e=>kal hD _ _ e) hfr
theorem Qa:kao ["voucher","standing","pieces","groups","lasts"] ["voucher","standing","pieces"] (kaf ka4):=by ac_rfl
theorem kek(W:WB K mg d base):FO P w W 3 d.Xy d.Xz ["voucher","standing","pieces"] (kgH d):=by
 exists W.Y3.F,Qa
 ·obtain⟨v,x,pa,⟨so,ms⟩,ps,B,S,rfl,⟨mA,dxv,fsv,hv,lvm,hso,hM,hh,htb⟩,hS,hpa,wf,vo,k⟩:=h
  exists qO,kcb,W
  exists Vw,kdc,W
  exists ZI,kdd,W
  exists hr1,1,hr,0
  refine⟨_,kad (ps_if (kaX (kaw (r:=rIsi K) kaW (by rfl) W.B.isi b_isi (kaa (pv 0) (kaa (kc9 (v:=.ref d.c_Off) (by rfl) W.g_Off rfl) kae)))) (kai (kan (kaN (kaa (kcN (kaa (kaw (kfS rfl) (by rfl) W.B.min b_min (kaa (kam (K:=K) (pv 0) rfl) (kaa (pcl qO hr W.qK (kaa (pv 1) (kaa (pv 2) kae))) kae))) (kaa (pv 2) kae))) kae)))) (kat))
   (kad (ps_if (kaX (kaw (r:=rIsi K) kaW (by rfl) W.B.isi b_isi (kaa (pv 0) (kaa (kc9 (v:=.ref d.qh) (by rfl) W.ZS rfl) kae)))) (kad (psl (i:=3) Qa.nd (kdi (kbu (kaX (kam (K:=K) (pv 0) rfl)) (pcl Vw hr1 W.Y5 (kaa (pv 1) (kaa (pv 2) kae))) (kaN (kaa (pv 2) kae)))))
   (kai (kan (kbF (N:=["group","standing","voucher"]) (CompScope.of (N:=["group","standing","voucher"]) (cap:=[none,some 1,some 0]) (kaf ka4).names ["voucher","standing","pieces","groups","lasts"] rfl rfl (by decide +kernel)) rfl (kaE (K:=K) (pv 3)) (fun _ _ _ _=>pgn (i:=0) (show(["group","standing","voucher"]:List Str).Nodup by decide +kernel)) (fun _ _ _ _=>(kcN (kaa (pe_op kaC (pe_op kdX (pcl qO hr W.qK (kaa (pv 1) (kaa (pv 0) kae))) (kam (K:=K) (pv 2) rfl)) kah) (kaa (pv 0) kae)))))))) (kat))
   (kad (ps_if (kaX (kaw (r:=rIsi K) kaW (by rfl) W.B.isi b_isi (kaa (pv 0) (kaa (kc9 (v:=.ref d.qj) (by rfl) W.ZT rfl) kae)))) (kad (keT (N:=["group"]) (CompScope.plain rfl (by decide +kernel) (by decide +kernel) (by decide +kernel) (nd1 _)) rfl (kaE (K:=K) (pcl ZI hr1 W.Qw (kaa (pv 1) (kaa (pv 2) (kaa (kam (K:=K) (pv 0) rfl) kae))))) (fun _ _ _ _=>pgn (i:=0) (nd1 _)) (fun _ _ _ _=>(pe_ix (r:=rIxL K) kaK (pv 0) (pe_un khO kah) (fun _ _=>rfl))) (pgn (i:=4) Qa.nd))
   (kai (kan (kbF (N:=["last","standing"]) (CompScope.of (N:=["last","standing"]) (cap:=[none,some 1]) (kaf ka4).names ["voucher","standing","pieces","groups","lasts"] rfl rfl (by decide +kernel)) rfl (kaE (K:=K) (pv 4)) (fun _ _ _ _=>pgn (i:=0) (show(["last","standing"]:List Str).Nodup by decide +kernel)) (fun _ _ _ _=>(kcN (kaa (pe_ix (r:=rIxL K) kaK (kam (K:=K) (pv 1) rfl) (pv 0) (fun _ _=>rfl)) (kaa (kaN (kaa (pv 0) kae)) kae)))))))) (kat))
   (kad (ps_if (kaX (kaw (r:=rIsi K) kaW (by rfl) W.B.isi b_isi (kaa (pv 0) (kaa (kc9 (v:=.ref d.qi) (by rfl) W.ZU rfl) kae)))) (kad (psl (i:=3) Qa.nd (pcl ZI hr1 W.Qw (kaa (pv 1) (kaa (pv 2) (kaa (kam (K:=K) (pv 0) rfl) kae)))))
   (kai (kan (kbF (N:=["group","standing","voucher"]) (CompScope.of (N:=["group","standing","voucher"]) (cap:=[none,some 1,some 0]) (kaf ka4).names ["voucher","standing","pieces","groups","lasts"] rfl rfl (by decide +kernel)) rfl (kaE (K:=K) (pv 3)) (fun _ _ _ _=>pgn (i:=0) (show(["group","standing","voucher"]:List Str).Nodup by decide +kernel)) (fun _ _ _ _=>(kcN (kaa (kaw (kja rfl) (by rfl) W.B.max b_max (kaa (pe_op kfv (pcl qO hr W.qK (kaa (pv 1) (kaa (pv 0) kae))) (kam (K:=K) (pv 2) rfl)) (kaa kah kae))) (kaa (pv 0) kae)))))))) (kat))
   (kai (kan (kaN kae)))))),?_⟩
  have I:=kki W hh
  exists Y4
  refine⟨_,rfl,_,_,_,_,rfl, .inr ⟨_,rfl⟩,TyOf.ins hv (cl_of W hh) I.ha I.hn I.ht I.hm,kkW W hh,_,rfl,?_⟩
  have lp:=wf.lp
  have np:=wf.np
  have habl:∀i∈abt ps (kds B) ms.kind ms.lone S,i<S.pr.length:=fun i hi=>by rw[lp];exact khp hi
  have habo:∀i∈abt ps (kds B) ms.kind ms.lone S,i<S.ow.length:=fun i hi=>khp hi
  have hand:=kf0 ps (kds B) ms.kind ms.lone S
  have lab:(abt ps (kds B) ms.kind ms.lone S).length≤720:=UT (keg _ _ _ _ _) np
  cases so with
  | off am=>
   have qn:=kbY (qs_nn wf.nn (abt ps (kds B) ms.kind ms.lone S))
   have ha:0≤am∧am≤1000000000000:=vo.so
   refine iteT ?_
   symm
   exists Y6
   refine⟨_,rfl,v,d.c_Off,dxv,fsv,_,rfl,hv,W.c_Off.cl,W.Zs,hso,_,rfl,_,rfl,x,pa,S,_,rfl,hS,hpa,habl,lab,fun H1 s1=>?_⟩
   nofun
   exists Y6
   refine⟨_,_,rfl,_,rfl,(by show 2≤sizeLine;decide),fun t ht=>⟨(by show 1≤sizeLine;decide),fun l hl=>?_⟩⟩
   have emin:(if(qs S.pr (abt ps (kds B) ms.kind ms.lone S)).sum<am then(qs S.pr (abt ps (kds B) ms.kind ms.lone S)).sum else am)=min am (qs S.pr (abt ps (kds B) ms.kind ms.lone S)).sum:=by
    split <;> omega
   rw[emin] at hl⊢
   have s2:=s1.trans (kal (o:=.tup [.int (min am (qs S.pr (abt ps (kds B) ms.kind ms.lone S)).sum), .ref pa]) ht)
   have s3:=s2.trans (kal (o:=.lst [.ref t]) hl)
   nofun
   refine k _ l [t] [(min am (qs S.pr (abt ps (kds B) ms.kind ms.lone S)).sum,abt ps (kds B) ms.kind ms.lone S)] s3 (none_of s2 hl) kac (.cons ⟨pa,kal hl _ _ kac,s3 _ _ hpa, .inl rfl⟩ .nil) ?_ ?_ ?_ (by simp) ?_
   ·intro c g hc
    rw[JG] at hc
    cases hc
    nofun
    exact⟨by omega,by omega,lab⟩
   ·simpa using hand
   ·simpa using habl
   ·simp[want]
  | share sh bl=>
   have hsh:1≤sh∧sh≤1000:=vo.so
   refine iteF ?_
   symm
   exists Y6
   refine⟨_,rfl,_,_,_,_,rfl, .inr ⟨_,rfl⟩,TyOf.ins hv (cl_of W hh) I.ha I.hn I.ht I.hm,kcY W hh,_,rfl,iteT ?_⟩
   nofun
   exists Y6
   refine⟨fun gv H1=>∃(gp:Addr)(gl:List Addr)(gs:List (List Nat)),gv=.ref gp∧Same H H1∧H gp=none∧H1 gp=some (.lst (gl.map V.ref))∧P2 (fun r g=>H1 r=some (.lst (g.map iV))) gl gs∧(∀r∈gl,r=pa∨H r=none)∧gs.length≤720∧(∀g∈gs,g.length≤720)∧gs.flatten.Nodup∧(∀i∈gs.flatten,i<S.pr.length)∧
    spr S.pr.length gs.flatten (gs.map fun g=>dl ((qs S.pr g).sum*sh/1000) (qs S.pr g)).flatten=spr S.pr.length (abt ps (kds B) ms.kind ms.lone S) (want (.share sh bl) S.mkd.length ((abt ps (kds B) ms.kind ms.lone S).map fun i=>S.ow.getD i 0) (qs S.pr (abt ps (kds B) ms.kind ms.lone S))),?_,?_⟩
   ·refine⟨_,rfl,v,d.qh,dxv,fsv,_,rfl,hv,W.qh.cl,W.Zv,hso.2,bl,rfl,?_⟩
    cases bl with
    | true=>
     refine iteT ?_
     nofun
     exists Y10
     refine⟨_,rfl,_,rfl,x,pa,S,_,rfl,hS,hpa,habo,lab,fun H1 p gl s1 f1 h1 hP hg=>⟨p,gl,_,rfl,s1,f1,h1,hP,fun r hr=>.inr (hg r hr),?_,?_,?_,?_,?_⟩⟩
     ·rw[UP]
      exists 4
      exact UT (kev _ _) lab
     ·intro g hg'
      rw[(kcl (fun i=>S.ow.getD i 0) (abt ps (kds B) ms.kind ms.lone S)).snds] at hg'
      obtain⟨l,_,rfl⟩:=Jf.mp hg'
      exists 4
      exact UT (Nu _ _) lab
     ·have ok:=kcl (fun i=>S.ow.getD i 0) (abt ps (kds B) ms.kind ms.lone S)
      rw[ok.snds]
      exists 4
      exact kdU (f:=fun i=>S.ow.getD i 0) hand ok.nd
     ·intro i hi
      rw[(kcl (fun i=>S.ow.getD i 0) (abt ps (kds B) ms.kind ms.lone S)).snds] at hi
      obtain⟨g,hg',hi'⟩:=JT.mp hi
      obtain⟨l,_,rfl⟩:=Jf.mp hg'
      exists 4
      exact habl i (JB.mp hi').1
     ·refine khy (fun z=>z*sh/1000) hand fun i hi=>?_
      obtain⟨ln,eln⟩:=at_of (habo i hi)
      rw[Jc,eln,wf.lm]
      exists 4
      exact wf.line eln
    |false=>
     refine iteF ?_
     nofun
     exists Y10
     refine⟨_,rfl,(by show 1≤sizeLine;decide),fun p hp=>⟨p,[pa],[abt ps (kds B) ms.kind ms.lone S],rfl,kal hp,hp,kac, .cons (kal hp _ _ hpa) .nil,fun r hr=>.inl (by simpa using hr),by simp,fun g hg=>?_,by simpa using hand,by simpa using habl,by simp[want]⟩⟩
     rw[JG] at hg
     rw[hg]
     exists 4
     exact lab
   rintro gv H1 ⟨gp,gl,gs,rfl,s1,f1,h1,hP,hor,lgs,lg,gnd,glt,gsp⟩
   have lgl:=hP.len
   have gok:∀g∈gs,∀i∈g,i<S.pr.length:=fun g hg i hi=>glt i (JT.mpr ⟨g,hg,hi⟩)
   nofun
   exists Y6
   refine⟨_,rfl,gp,rfl,⟨_,SqL.of h1⟩,kaY (xs:=gl.map V.ref) (fun i σ ys H'=>Same H1 H'∧(∃v0:Option V,σ=[v0,some (.ref x),some (.ref v)])∧∃tl,ys=tl.map V.ref∧P2 (GrpAt H H' pa) tl ((gs.take i).map fun g=>((qs S.pr g).sum*sh/1000,g)))
    ⟨Same.refl _,⟨none,rfl⟩,[],rfl, .nil⟩ (by rw[UP];exact U3 (kap (by omega))) ?_ ?_ ?_⟩
   ·rintro i σ ys H2 hi ⟨s2,_,tl,rfl,hT⟩
    nofun
    exists Y8
    refine⟨SqL.of (s2 _ _ h1),?_⟩
    rw[UP,hT.len,UP,U8]
    rw[UP] at hi
    omega
   ·rintro i y σ ys H2 hy ⟨s2,⟨v0,rfl⟩,tl,rfl,hT⟩
    obtain⟨r,er,rfl⟩:=kbB hy
    obtain⟨g,eg,hr⟩:=hP.at er
    have s12:=s1.trans s2
    have hg:=U1 eg
    have sn:=kbY (qs_nn wf.nn g)
    have sl:=kik wf (lg g hg) (gok g hg)
    exists 3
    exists Y8
    refine⟨_,rfl,_,rfl,x,r,S,g,rfl,hS.same s12,s2 _ _ hr,gok g hg,lg g hg,fun H3 s3=>?_⟩
    have s13:=s12.trans s3
    exists 3
    exists Y8
    refine⟨_,rfl,v,d.qh,dxv,fsv,_,rfl,s13 _ _ hv,W.qh.cl,W.Zu,hso.1,_,_,rfl,rfl, .inl ⟨by omega,by omega⟩,_,_,rfl,rfl,⟨by decide,by decide⟩,_,rfl,(by show 2≤sizeLine;decide),fun t ht=>?_⟩
    have s4:=kal (o:=.tup [.int ((qs S.pr g).sum*sh/1000), .ref r]) ht
    exists 3
    exists Y8
    refine⟨(s2.trans s3).trans s4,⟨_,rfl⟩,tl++[t],by rw[UZ];rfl,?_⟩
    rw[kbQ eg,UZ]
    exists 3
    refine P2.snoc (hT.mono fun t' q ⟨ga,a1,a2,a3⟩=>⟨ga,(s3.trans s4) _ _ a1,(s3.trans s4) _ _ a2,a3⟩) ⟨r,kac,((s2.trans s3).trans s4) _ _ hr,hor r (U1 er)⟩
   ·rintro σ ys H2 ⟨s2,⟨v0,rfl⟩,tl,rfl,hT⟩ D hD
    rw[UP,lgl,Jn] at hT
    have s3:=kal (o:=.lst (tl.map V.ref)) hD
    have e1:(gs.map fun g=>((qs S.pr g).sum*sh/1000,g)).map Prod.snd=gs:=by
     rw[Jg]
     exists 3
     exact List.map_id' gs
    exists 3
    refine k _ D tl _ ((s1.trans s2).trans s3) (none_of (s1.trans s2) hD) kac (hT.mono fun t' q ⟨ga,a1,a2,a3⟩=>⟨ga,s3 _ _ a1,s3 _ _ a2,a3⟩) ?_ (by rw[e1];exact gnd) (by rw[e1];exact glt) (by rw[UP];exact lgs) ?_
    ·intro c g hc
     obtain⟨g',hg',e⟩:=Jf.mp hc
     cases e
     have sn:=kbY (qs_nn wf.nn g)
     have:=keM sn hsh.1 hsh.2
     exists 3
     exact⟨this.1,this.2,lg g hg'⟩
    ·rw[e1,Jg]
     exists 3
     exact gsp
  | cheap n=>
   have hn:2≤n∧n≤20:=vo.so
   obtain⟨m,rfl⟩:∃m:Nat,n=m:=⟨n.toNat,by omega⟩
   refine iteF ?_
   symm
   refine⟨_,rfl,_,_,_,_,rfl, .inr ⟨_,rfl⟩,TyOf.ins hv (cl_of W hh) I.ha I.hn I.ht I.hm,kcY W hh,_,rfl,iteF ⟨_,rfl,_,_,_,_,rfl, .inr ⟨_,rfl⟩,TyOf.ins hv (cl_of W hh) I.ha I.hn I.ht I.hm,kco W hh,_,rfl,iteT ?_⟩⟩
   have hpw:(abt ps (kds B) ms.kind ms.lone S).Pairwise (· < ·):=Nh.filter _ Mu
   have l64:(abt ps (kds B) ms.kind ms.lone S).length<64:=JS (keg _ _ _ _ _) wf.n64
   symm
   exists Y6
   refine⟨_,rfl,_,rfl,_,rfl,v,d.qj,dxv,fsv,_,rfl,hv,W.qj.cl,W.Zx,hso,x,pa,S,_,m,rfl,hS,hpa,hpw,habl,l64,by omega,by omega,htb,fun H1 gp gl s1 f1 h1 hP0 hg=>?_⟩
   have hP:P2 (fun r g=>H1 r=some (.lst (g.map iV))) gl (grp m (fallP S.pr (abt ps (kds B) ms.kind ms.lone S))):=hP0
   clear hP0
   have lgl:=hP.len
   have lG:=kgr m (fallP S.pr (abt ps (kds B) ms.kind ms.lone S))
   have lf:(fallP S.pr (abt ps (kds B) ms.kind ms.lone S)).length=(abt ps (kds B) ms.kind ms.lone S).length:=(kbj _ _).length_eq
   have hgr:∀{i:Nat}{g:List Nat},(grp m (fallP S.pr (abt ps (kds B) ms.kind ms.lone S)))[i]?=some g→0<g.length∧g[g.length-1]?=some (g.getLastD 0)∧g.getLastD 0∈abt ps (kds B) ms.kind ms.lone S:=fun {i g} eg=>by
    obtain⟨h1,h2,h3⟩:=khe eg
    have h4:=kgp (by omega) eg
    nofun
    exists Y8
    refine⟨by omega,?_,(kbj _ _).mem_iff.mp (U1 h4)⟩
    rw[h2,h3 _ (by omega)]
    exists 3
    exact h4
   have hla:∀a∈lasts (grp m (fallP S.pr (abt ps (kds B) ms.kind ms.lone S))),a∈abt ps (kds B) ms.kind ms.lone S:=fun a ha=>by
    obtain⟨g,hg',rfl⟩:=Jf.mp ha
    obtain⟨j,hj⟩:=Na.mp hg'
    nofun
    exact(hgr hj).2.2
   nofun
   exists Y6
   refine⟨gp,rfl,⟨_,SqL.of h1⟩,kaY (xs:=gl.map V.ref) (fun i σ ys H'=>Same H1 H'∧(∃v0:Option V,σ=[v0])∧ys=((lasts (grp m (fallP S.pr (abt ps (kds B) ms.kind ms.lone S)))).take i).map iV)
    ⟨Same.refl _,⟨none,rfl⟩,rfl⟩ (by rw[UP];exact U3 (kap (by omega))) ?_ ?_ ?_⟩
   ·rintro i σ ys H2 hi ⟨s2,_,rfl⟩
    nofun
    exists Y8
    refine⟨SqL.of (s2 _ _ h1),?_⟩
    rw[UP,U8,kcX]
    rw[UP] at hi
    omega
   ·rintro i y σ ys H2 hy ⟨s2,⟨v0,rfl⟩,rfl⟩
    obtain⟨r,er,rfl⟩:=kbB hy
    obtain⟨g,eg,hr⟩:=hP.at er
    obtain⟨g0,g1,g2⟩:=hgr eg
    have al:atI (g.map iV) (-1)=some (iV (g.getLastD 0)):=kfY (by rw[UP,UY,g1];rfl) (by rw[UP];exact g0)
    exists 3
    exists Y8
    refine⟨_,rfl,1,rfl,r,_,_,_,rfl,rfl,SqL.of (s2 _ _ hr),al,s2,⟨_,rfl⟩,?_⟩
    rw[kbQ (r:=g.getLastD 0) (by unfold lasts;rw[UY,eg];rfl),UZ]
    rfl
   rintro σ ys H2 ⟨s2,⟨v0,rfl⟩,rfl⟩ D hD
   rw[UP,lgl,JY (by rw[kcX];exact UR _)]
   have s3:=s2.trans (kal (o:=.lst ((lasts (grp m (fallP S.pr (abt ps (kds B) ms.kind ms.lone S)))).map iV)) hD)
   have fD:H D=none:=none_of (s1.trans s2) hD
   have eD:(upd H2 D (.lst ((lasts (grp m (fallP S.pr (abt ps (kds B) ms.kind ms.lone S)))).map iV))) D=some (.lst ((lasts (grp m (fallP S.pr (abt ps (kds B) ms.kind ms.lone S)))).map iV)):=kac
   generalize upd H2 D (.lst ((lasts (grp m (fallP S.pr (abt ps (kds B) ms.kind ms.lone S)))).map iV))=H3 at *
   obtain⟨o,p,mk,⟨dxs,fss,hx,l1,l2,l3,l4,l5⟩,ho,hp,hmk⟩:=id hS
   have s13:=s1.trans s3
   have lL:=kcX (grp m (fallP S.pr (abt ps (kds B) ms.kind ms.lone S)))
   nofun
   exists Y6
   refine⟨_,rfl,D,rfl,⟨_,SqL.of eD⟩,kaY (xs:=(lasts (grp m (fallP S.pr (abt ps (kds B) ms.kind ms.lone S)))).map iV) (fun i σ ys H'=>Same H3 H'∧(∃v0:Option V,σ=[v0,some (.ref x)])∧∃tl,ys=tl.map V.ref∧P2 (GrpAt H H' pa) tl (((lasts (grp m (fallP S.pr (abt ps (kds B) ms.kind ms.lone S)))).take i).map fun a=>(S.pr.getD a 0,[a])))
    ⟨Same.refl _,⟨none,rfl⟩,[],rfl, .nil⟩ (by rw[UP];exact U3 (kap (by omega))) ?_ ?_ ?_⟩
   ·rintro i σ ys H4 hi ⟨s4,_,tl,rfl,hT⟩
    nofun
    exists Y8
    refine⟨SqL.of (s4 _ _ eD),?_⟩
    rw[UP,hT.len,UP,U8]
    rw[UP] at hi
    omega
   ·rintro i y σ ys H4 hy ⟨s4,⟨v0,rfl⟩,tl,rfl,hT⟩
    obtain⟨a,ea,rfl⟩:=kbI hy
    have ha:=hla a (U1 ea)
    obtain⟨z,ez⟩:=at_of (habl a ha)
    have ez':S.pr.getD a 0=z:=by rw[Jc,ez];rfl
    have s14:=s13.trans s4
    exists 3
    exists Y8
    refine⟨_,rfl,x,d.qc,dxs,fss,_,rfl,s14 _ _ hx,W.qc.cl,W.qA,l2,_,rfl,p,_,_,_,rfl,rfl,SqL.of (s14 _ _ hp),ka5 (v:=.int z) (by rw[UY,ez];rfl),_,rfl,(by show 1≤sizeLine;decide),fun q hq=>⟨(by show 2≤sizeLine;decide),fun t ht=>?_⟩⟩
    have s5:=(kal (o:=.lst [iV a]) hq).trans (kal (o:=.tup [.int z, .ref q]) ht)
    exists 3
    exists Y8
    refine⟨s4.trans s5,⟨_,rfl⟩,tl++[t],by rw[UZ];rfl,?_⟩
    rw[kbQ ea,UZ]
    exists 3
    exact P2.snoc (hT.mono fun t' q' ⟨ga,a1,a2,a3⟩=>⟨ga,s5 _ _ a1,s5 _ _ a2,a3⟩) ⟨q,by show upd _ _ _ _=some (.tup [.int (S.pr.getD a 0), .ref q]);rw[ez'];exact kac,kal ht _ _ kac, .inr (none_of s14 hq)⟩
   ·rintro σ ys H4 ⟨s4,⟨v0,rfl⟩,tl,rfl,hT⟩ D2 hD2
    rw[UP,Jn] at hT
    have s5:=kal (o:=.lst (tl.map V.ref)) hD2
    have e1:((lasts (grp m (fallP S.pr (abt ps (kds B) ms.kind ms.lone S)))).map fun a=>(S.pr.getD a 0,[a])).map Prod.snd=(lasts (grp m (fallP S.pr (abt ps (kds B) ms.kind ms.lone S)))).map fun a=>[a]:=by
     rw[Jg]
     rfl
    have e2:=kic (fun i=>S.pr.getD i 0) (lasts (grp m (fallP S.pr (abt ps (kds B) ms.kind ms.lone S))))
    exists 3
    refine k _ D2 tl _ ((s13.trans s4).trans s5) (none_of (s13.trans s4) hD2) kac (hT.mono fun t' q ⟨ga,a1,a2,a3⟩=>⟨ga,s5 _ _ a1,s5 _ _ a2,a3⟩) ?_ (by rw[e1,e2.1];exact kgo (by omega) (keb hand)) (by rw[e1,e2.1];exact fun i hi=>habl i (hla i hi)) (by rw[UP];omega) ?_
    ·intro c g hc
     obtain⟨a,ha,e⟩:=Jf.mp hc
     cases e
     have q0:(qs S.pr [a]).sum=S.pr.getD a 0:=by simp[qs]
     have q1:=kbY (qs_nn wf.nn [a])
     rw[q0] at q1⊢
     exists 3
     exact⟨q1,Int.le_refl _,by simp⟩
    ·rw[e1,e2.1,Jg]
     have e3:(lasts (grp m (fallP S.pr (abt ps (kds B) ms.kind ms.lone S)))).map ((fun p=>dl p.1 (qs S.pr p.2))∘fun a=>(S.pr.getD a 0,[a]))=(lasts (grp m (fallP S.pr (abt ps (kds B) ms.kind ms.lone S)))).map fun a=>[S.pr.getD a 0]:=
      JA fun a _=>klK _
     rw[e3,e2.2]
     exists 3
     exact(ki9 (by omega) hand).symm
  | bund n pc=>
   have hn:2≤n∧n≤20∧0≤pc∧pc≤1000000000000:=vo.so
   obtain⟨m,rfl⟩:∃m:Nat,n=m:=⟨n.toNat,by omega⟩
   refine iteF ?_
   symm
   refine⟨_,rfl,_,_,_,_,rfl, .inr ⟨_,rfl⟩,TyOf.ins hv (cl_of W hh) I.ha I.hn I.ht I.hm,kcY W hh,_,rfl,iteF ⟨_,rfl,_,_,_,_,rfl, .inr ⟨_,rfl⟩,TyOf.ins hv (cl_of W hh) I.ha I.hn I.ht I.hm,kco W hh,_,rfl,iteF ⟨_,rfl,_,_,_,_,rfl, .inr ⟨_,rfl⟩,TyOf.ins hv (cl_of W hh) I.ha I.hn I.ht I.hm,keA W hh,_,rfl,iteT ?_⟩⟩⟩
   have hpw:(abt ps (kds B) ms.kind ms.lone S).Pairwise (· < ·):=Nh.filter _ Mu
   have l64:(abt ps (kds B) ms.kind ms.lone S).length<64:=JS (keg _ _ _ _ _) wf.n64
   symm
   exists Y6
   refine⟨_,rfl,_,rfl,_,rfl,v,d.qi,dxv,fsv,_,rfl,hv,W.qi.cl,W.Zz,hso.1,x,pa,S,_,m,rfl,hS,hpa,hpw,habl,l64,by omega,by omega,htb,fun H1 gp gl s1 f1 h1 hP0 hg=>?_⟩
   have hP:P2 (fun r g=>H1 r=some (.lst (g.map iV))) gl (grp m (fallP S.pr (abt ps (kds B) ms.kind ms.lone S))):=hP0
   clear hP0
   have lgl:=hP.len
   have lG:=kgr m (fallP S.pr (abt ps (kds B) ms.kind ms.lone S))
   have lf:(fallP S.pr (abt ps (kds B) ms.kind ms.lone S)).length=(abt ps (kds B) ms.kind ms.lone S).length:=(kbj _ _).length_eq
   have gin:∀g∈grp m (fallP S.pr (abt ps (kds B) ms.kind ms.lone S)),∀i∈g,i∈abt ps (kds B) ms.kind ms.lone S:=fun g hg' i hi=>(kbj _ _).mem_iff.mp (kiS hg' i hi)
   have gok:∀g∈grp m (fallP S.pr (abt ps (kds B) ms.kind ms.lone S)),∀i∈g,i<S.pr.length:=fun g hg' i hi=>habl i (gin g hg' i hi)
   have lg:∀g∈grp m (fallP S.pr (abt ps (kds B) ms.kind ms.lone S)),g.length≤720:=fun g hg'=>by
    obtain⟨j,hj⟩:=Na.mp hg'
    have:=(khe hj).2.1
    omega
   generalize egs:grp m (fallP S.pr (abt ps (kds B) ms.kind ms.lone S))=gs at *
   nofun
   exists Y6
   refine⟨_,rfl,gp,rfl,⟨_,SqL.of h1⟩,kaY (xs:=gl.map V.ref) (fun i σ ys H'=>Same H1 H'∧(∃v0:Option V,σ=[v0,some (.ref x),some (.ref v)])∧∃tl,ys=tl.map V.ref∧P2 (GrpAt H H' pa) tl ((gs.take i).map fun g=>(max 0 ((qs S.pr g).sum-pc),g)))
    ⟨Same.refl _,⟨none,rfl⟩,[],rfl, .nil⟩ (by rw[UP];exact U3 (kap (by omega))) ?_ ?_ ?_⟩
   ·rintro i σ ys H2 hi ⟨s2,_,tl,rfl,hT⟩
    nofun
    exists Y8
    refine⟨SqL.of (s2 _ _ h1),?_⟩
    rw[UP,hT.len,UP,U8]
    rw[UP] at hi
    omega
   ·rintro i y σ ys H2 hy ⟨s2,⟨v0,rfl⟩,tl,rfl,hT⟩
    obtain⟨r,er,rfl⟩:=kbB hy
    obtain⟨g,eg,hr⟩:=hP.at er
    have s12:=s1.trans s2
    have hg':=U1 eg
    have sn:=kbY (qs_nn wf.nn g)
    exists 3
    exists Y8
    refine⟨_,rfl,_,rfl,x,r,S,g,rfl,hS.same s12,s2 _ _ hr,gok g hg',lg g hg',fun H3 s3=>?_⟩
    have s13:=s12.trans s3
    exists 3
    exists Y8
    refine⟨_,rfl,v,d.qi,dxv,fsv,_,rfl,s13 _ _ hv,W.qi.cl,W.ZA,hso.2,_,_,rfl,rfl,?_⟩
    exists 3
    exists Y8
    refine⟨_,_,rfl,_,rfl,(by show 2≤sizeLine;decide),fun t ht=>?_⟩
    have emax:(if(0:Int) > (qs S.pr g).sum-pc then 0 else(qs S.pr g).sum-pc)=max 0 ((qs S.pr g).sum-pc):=by
     split <;> omega
    rw[emax]
    have s4:=kal (o:=.tup [.int (max 0 ((qs S.pr g).sum-pc)), .ref r]) ht
    exists 3
    exists Y8
    refine⟨(s2.trans s3).trans s4,⟨_,rfl⟩,tl++[t],by rw[UZ];rfl,?_⟩
    rw[kbQ eg,UZ]
    exists 3
    refine P2.snoc (hT.mono fun t' q ⟨ga,a1,a2,a3⟩=>⟨ga,(s3.trans s4) _ _ a1,(s3.trans s4) _ _ a2,a3⟩) ⟨r,kac,((s2.trans s3).trans s4) _ _ hr, .inr (hg r (U1 er))⟩
   ·rintro σ ys H2 ⟨s2,⟨v0,rfl⟩,tl,rfl,hT⟩ D hD
    rw[UP,lgl,Jn] at hT
    have s3:=kal (o:=.lst (tl.map V.ref)) hD
    have e1:(gs.map fun g=>(max 0 ((qs S.pr g).sum-pc),g)).map Prod.snd=gs:=by
     rw[Jg]
     exists 3
     exact List.map_id' gs
    exists 3
    refine k _ D tl _ ((s1.trans s2).trans s3) (none_of (s1.trans s2) hD) kac (hT.mono fun t' q ⟨ga,a1,a2,a3⟩=>⟨ga,s3 _ _ a1,s3 _ _ a2,a3⟩) ?_ (by rw[e1,←egs];exact kiR (keb hand)) (by rw[e1];intro i hi;obtain⟨g,hg',hi'⟩:=JT.mp hi;exact gok g hg' i hi') (by rw[UP];omega) ?_
    ·intro c g hc
     obtain⟨g',hg',e⟩:=Jf.mp hc
     cases e
     have sn:=kbY (qs_nn wf.nn g)
     exists 3
     exact⟨by omega,by omega,lg g hg'⟩
    ·rw[e1,Jg,←egs]
     exists 3
     exact(kjV (fun z=>max 0 (z-pc)) hand).symm
  |carr=>
   refine iteF ?_
   symm
   refine⟨_,rfl,_,_,_,_,rfl, .inr ⟨_,rfl⟩,TyOf.ins hv (cl_of W hh) I.ha I.hn I.ht I.hm,kcY W hh,_,rfl,iteF ⟨_,rfl,_,_,_,_,rfl, .inr ⟨_,rfl⟩,TyOf.ins hv (cl_of W hh) I.ha I.hn I.ht I.hm,kco W hh,_,rfl,iteF ⟨_,rfl,_,_,_,_,rfl, .inr ⟨_,rfl⟩,TyOf.ins hv (cl_of W hh) I.ha I.hn I.ht I.hm,keA W hh,_,rfl,iteF ?_⟩⟩⟩
   symm
   refine⟨by decide,fun l hl=>?_⟩
   symm
   refine k _ l [] [] (kal hl) hl kac .nil (fun c g hc=>by simp at hc) (by simp) (by simp) (by simp) ?_
   symm
   exact(spr_zero (k:=0)).trans spr_zero.symm
inductive kh9 (K:UQ) (d:D) (vs:List V) (H:Hp) (Q:VK) (E_:XK):Prop
 |ct (v a b x:Addr)(V:Vch)(ps:List (Option Nat))(B:Bask)(S:Stnd)(_:vs=[.ref v, .ref a, .ref b, .ref x])(_:VchIs d H v V)(_:SqL K H a (ps.map pV))(_:BaskIs d.qf d.qg H b B)(_:StndIs d.qc H x S)(_:Wf ps B S)(_:VchOk ps V)(_:∀(H':Hp)(p:Addr),Same H H'→H p=none→H' p=some (.lst ((cutM V ps (kds B) S).1.map L2.V.int))→Q (.ref p) H'):kh9 K d vs H Q E_
theorem qC:kao ["voucher","parents","basket","standing","pieces","wanted","cut","group","piece","part","most"] ["voucher","parents","basket","standing"] (kaf kbs):=by ac_rfl
theorem kde(W:WB K mg d base):FO P w W 4 d.Xu d.Xv ["voucher","parents","basket","standing"] (kh9 K d):=by
 exists W.Y1.F,qC
 ·obtain⟨v,a,b,x,Vc,ps,B,S,rfl,hV,hA,hB,hS,wf,vo,k⟩:=h
  exists Q2,kg5,W
  exists Vx,kek,W
  exists ZJ,kjz,W
  exists Q0,kdk,W
  exists hr1,1,hr,0
  refine⟨_,kad (psl (i:=4) qC.nd (pcl Q2 hr W.Qv (kaa (pv 0) (kaa (pv 1) (kaa (pv 2) (kaa (pv 3) kae))))))
   (kad (keT (N:=["price"]) (CompScope.plain rfl (by decide +kernel) (by decide +kernel) (by decide +kernel) (nd1 _)) rfl (kaE (K:=K) (kam (K:=K) (pv 3) rfl)) (fun _ _ _ _=>pgn (i:=0) (nd1 _)) (fun _ _ _ _=>kah) (pgn (i:=5) qC.nd))
   (kad (ka6 PassesOwn.never rfl (kaE (K:=K) (pcl Vx hr W.Y3 (kaa (pv 0) (kaa (pv 3) (kaa (pv 4) kae))))) (kbE (K:=K) (n:=2) rfl (kaB (pgn (i:=6) qC.nd) (kaB (pgn (i:=7) qC.nd) kbD)))
   (kai (ka6 PassesOwn.never rfl (keV rfl W.B.zip (kaa (pv 7) (kaa (pcl ZJ hr1 W.Qu (kaa (pv 6) (kaa (pcl Q0 hr1 W.Qx (kaa (pv 3) (kaa (pv 7) kae))) kae))) kae))) (kbE (K:=K) (n:=2) rfl (kaB (pgn (i:=8) qC.nd) (kaB (pgn (i:=9) qC.nd) kbD)))
   (kai (kka (pv 9) (kkc (pv 5) (pv 8) set_list))))))
   (kad (psl (i:=10) qC.nd (kam (K:=K) (kam (K:=K) (pv 0) rfl) rfl))
   (kad (ps_if (PW.pt (kca (kaq kda (pv 10) kaS (kau _)) (kbW (kaq op_gt (kaw (r:=rSum K) (kc1 rfl) (by rfl) W.B.sum b_sum (kaa (pv 5) kae)) (pv 10) (kau _))))) (kai (kan (pcl ZJ hr1 W.Qu (kaa (pv 10) (kaa (pv 5) kae))))) (kat))
   (kai (kan (pv 5))))))),?_⟩
  have np:=wf.np
  have lp:=wf.lp
  exists Y4
  refine⟨_,rfl,_,rfl,_,rfl,_,rfl,v,a,b,x,Vc,ps,B,S,rfl,hV,hA,hB,hS,wf,vo,fun H1 pa s1 f1 h1=>?_⟩
  have habl:∀i∈abt ps (kds B) Vc.ms.kind Vc.ms.lone S,i<S.pr.length:=fun i hi=>by rw[lp];exact khp hi
  have hand:=kf0 ps (kds B) Vc.ms.kind Vc.ms.lone S
  have lab:(abt ps (kds B) Vc.ms.kind Vc.ms.lone S).length≤720:=UT (keg _ _ _ _ _) np
  obtain⟨o,p,mk,⟨dxs,fss,hx,l1,l2,l3,l4,l5⟩,ho,hp,hmk⟩:=id (hS.same s1)
  symm
  exists Y4
  refine⟨_,rfl,x,d.qc,dxs,fss,_,rfl,hx,W.qc.cl,W.qA,l2,p,rfl,⟨_,SqL.of hp⟩,kaY (xs:=S.pr.map V.int) (fun i σ ys H'=>H'=H1∧ys=(UV i (0:Int)).map V.int∧∃v,σ=[v]) ⟨rfl,rfl,none,rfl⟩ ?_ ?_ ?_ ?_⟩
  ·rw[UP]
   symm
   exact U3 (kap (by omega))
  ·rintro i σ ys H' hi ⟨rfl,rfl,_⟩
   symm
   exact⟨SqL.of hp,by simp⟩
  ·rintro i y σ ys H' hy ⟨rfl,rfl,v,rfl⟩
   symm
   exact⟨rfl,by rw[MA,UZ];rfl,_,rfl⟩
  rintro σ ys H' ⟨rfl,rfl,v0,rfl⟩ w hw
  rw[UP]
  have s2:=s1.trans (kal (o:=.lst ((UV S.pr.length (0:Int)).map V.int)) hw)
  have hw0:H w=none:=none_of s1 hw
  have ew:(upd H' w (.lst ((UV S.pr.length (0:Int)).map V.int))) w=some (.lst ((UV S.pr.length (0:Int)).map V.int)):=kac
  have h1o:=h1
  have h1:=kal (o:=.lst ((UV S.pr.length (0:Int)).map V.int)) hw _ _ h1
  have nw:pa≠w:=kag h1o hw
  generalize upd H' w (.lst ((UV S.pr.length (0:Int)).map V.int))=H2 at *
  symm
  exists Y4
  refine⟨_,rfl,_,rfl,_,rfl,v,x,pa,Vc,ps,B,S,rfl,hV.same s2,hS.same s2,h1,wf,vo,fun H3 gp tl gl s3 f3 h3 hP hc hnd hlt hgl hsp=>?_⟩
  have s03:=s2.trans s3
  have e3:=s3 _ _ ew
  have ngw:gp≠w:=fun e=>by rw[e,ew] at f3;cases f3
  symm
  exists Y4
  refine⟨gp,rfl,⟨_,SqL.of h3⟩,kbe (K:=K) (a:=gp) (xs:=tl.map V.ref) (fun i σ H'=>(∃v8 v9 v10 v11 v12:Option V,σ=[some (.ref v),some (.ref a),some (.ref b),some (.ref x),some (.ref pa),some (.ref w),v8,v9,v10,v11,v12])∧But w H3 H'∧
    H' w=some (.lst ((spr S.pr.length ((gl.take i).map Prod.snd).flatten ((gl.take i).map fun p=>dl p.1 (qs S.pr p.2)).flatten).map V.int)))
   ⟨⟨none,none,none,none,none,rfl⟩,But.refl,by rw[e3];simp[kkz]⟩ (fun i σ H' _ h=>SqL.of (h.2.1 _ _ ngw h3)) ?_ ?_⟩
  ·rintro i y σ H4 hy ⟨⟨v8,v9,v10,v11,v12,rfl⟩,b4,h4⟩
   obtain⟨t,et,rfl⟩:=kbB hy
   obtain⟨⟨c,g⟩,eg,ga,ht,hga,hor⟩:=hP.at et
   have hcg:=hc c g (U1 eg)
   have hgl':∀i∈g,i<S.pr.length:=fun j hj=>hlt j (JT.mpr ⟨g,Jf.mpr ⟨(c,g),U1 eg,rfl⟩,hj⟩)
   have ngaw:ga≠w:=by
    rcases hor with rfl|hor
    ·exact nw
    ·exact fun e=>by rw[e,ew] at hor;cases hor
   have ntw:t≠w:=ne_of ht e3 (by intro z;cases z)
   have htt:H4 t=some (.tup [.int c, .ref ga]):=b4 _ _ ntw ht
   have hgg:H4 ga=some (.lst (g.map iV)):=b4 _ _ ngaw hga
   symm
   exists Y6
   refine⟨t,_,rfl,SqT.of htt,rfl,_,_,rfl,_,_,rfl,rfl,?_⟩
   have hS4:StndIs d.qc H4 x S:=by
    nofun
    exact StndIs.same (H:=H) (kgT hw0 s03 b4) hS
   have gnn:=qs_nn wf.nn g
   have gsum:=kik wf hcg.2.2 hgl'
   have hg720:=hcg.2.2
   nofun
   exists Y6
   refine⟨_,rfl,_,rfl,_,rfl,_,rfl,x,ga,S,g,rfl,hS4,hgg,hgl',hg720,fun p5 hp5=>?_⟩
   have s5:=kal (o:=.lst ((qs S.pr g).map V.int)) hp5
   nofun
   exists Y6
   refine⟨c,p5,qs S.pr g,rfl,SqL.of kac,gnn,by omega,hcg.1,by omega,by rw[kbN];omega,fun p6 hp6=>?_⟩
   have s6:=s5.trans (kal (o:=.lst ((dl c (qs S.pr g)).map V.int)) hp6)
   have h6:(upd (upd H4 p5 (.lst ((qs S.pr g).map V.int))) p6 (.lst ((dl c (qs S.pr g)).map V.int))) p6=some (.lst ((dl c (qs S.pr g)).map V.int)):=kac
   have n6:H4 p6=none:=none_of s5 hp6
   generalize upd (upd H4 p5 (.lst ((qs S.pr g).map V.int))) p6 (.lst ((dl c (qs S.pr g)).map V.int))=H6 at *
   have b6:=b4.same s6
   have w6:=s6 _ _ h4
   have n6w:p6≠w:=fun e=>by rw[e,h4] at n6;cases n6
   have ldl:(dl c (qs S.pr g)).length=g.length:=by rw[keD,kbN]
   have emin:min (g.map iV).length ((dl c (qs S.pr g)).map V.int).length=g.length:=by rw[UP,UP,ldl,Nq]
   have ndt:∀(j n:Nat),g[j]?=some n→(((gl.take i).map Prod.snd).flatten++g.take j++[n]).Nodup:=fun j n hj=>by
    rw[JU]
    nofun
    exact kdL hnd (i:=i) (by rw[UY,eg];rfl) hj
   have lfl:((gl.take i).map Prod.snd).flatten.length=((gl.take i).map fun p=>dl p.1 (qs S.pr p.2)).flatten.length:=by
    rw[List.length_flatten,List.length_flatten,Jg,Jg]
    congr 1
    nofun
    refine JA fun q _=>?_
    show q.2.length=(dl q.1 (qs S.pr q.2)).length
    rw[keD,kbN]
   nofun
   exists Y6
   refine⟨ga,p6,_,_,rfl,s6 _ _ hgg,h6,kiW (xs:=g.map iV) (ys:=(dl c (qs S.pr g)).map V.int) (fun j σ H'=>(∃v8 v9 v10 v11 v12:Option V,σ=[some (.ref v),some (.ref a),some (.ref b),some (.ref x),some (.ref pa),some (.ref w),v8,v9,v10,v11,v12])∧But w H3 H'∧H' ga=some (.lst (g.map iV))∧H' p6=some (.lst ((dl c (qs S.pr g)).map V.int))∧
     H' w=some (.lst ((spr S.pr.length (((gl.take i).map Prod.snd).flatten++g.take j) (((gl.take i).map fun p=>dl p.1 (qs S.pr p.2)).flatten++(dl c (qs S.pr g)).take j)).map V.int)))
    ⟨⟨_,_,_,_,_,rfl⟩,b6,s6 _ _ hgg,h6,by rw[w6];simp⟩ (fun j σ H' _ h=>⟨h.2.2.1,h.2.2.2.1⟩) ?_ ?_⟩
   ·rintro j y1 y2 t2 σ H7 hy1 hy2 ⟨⟨v8,v9,v10,v11,v12,rfl⟩,b7,g7,d7,w7⟩ ht2
    obtain⟨n,en,rfl⟩:=kbI hy1
    obtain⟨z,ez,rfl⟩:=kbI hy2
    have hn:=hgl' n (U1 en)
    have s8:=kal (o:=.tup [iV n,V.int z]) ht2
    nofun
    exists Y8
    refine⟨t2,_,rfl,SqT.of kac,rfl,_,_,rfl,_,_,rfl,rfl,?_⟩
    exists 3
    exists Y8
    refine⟨_,rfl,_,rfl,_,rfl,w,_,_,n,rfl,rfl,s8 _ _ w7,kiK (by rw[UP,kcy];exact hn),⟨_,_,_,_,_,rfl⟩,(b7.same s8).trans kar,?_,?_,?_⟩
    ·rw[kaj ngaw]
     exists 3
     exact s8 _ _ g7
    ·rw[kaj n6w]
     exists 3
     exact s8 _ _ d7
    ·rw[kac,←List.map_set,kbQ en,kbQ ez,←J7,←J7]
     rw[kjl (by rw[U9,U9,lfl,U8,U8,ldl]) (ndt j n en) hn]
   ·rintro σ H7 ⟨⟨v8,v9,v10,v11,v12,rfl⟩,b7,g7,d7,w7⟩
    exists 3
    exists Y8
    refine⟨⟨_,_,_,_,_,rfl⟩,b7,?_⟩
    rw[w7,emin,Jn,JY (NC ldl),kbQ eg]
    simp
  rintro σ H4 ⟨⟨v8,v9,v10,v11,v12,rfl⟩,b4,h4⟩
  have ltl:(tl.map V.ref).length=gl.length:=by rw[UP,hP.len]
  rw[ltl,Jn,hsp] at h4
  have s04:Same H H4:=kgT hw0 s03 b4
  obtain⟨mA,dxv,fsv,hv,lvm,_,⟨dxm,fsm,hm,m1,m2,m3,m4,m5,m6⟩,hh,htb⟩:=id (hV.same s04)
  symm
  exists Y4
  refine⟨_,rfl,v,clsOf d Vc.so,dxv,fsv,_,rfl,hv,cl_of W hh,na_of W hh,lvm,mA,d.qe,dxm,fsm,_,rfl,hm,W.qe.cl,W.QE,m3,?_⟩
  have wle:=khM (so:=Vc.so) (n:=S.mkd.length) (lines:=(abt ps (kds B) Vc.ms.kind Vc.ms.lone S).map fun i=>S.ow.getD i 0) (qs_nn wf.nn (abt ps (kds B) Vc.ms.kind Vc.ms.lone S)) vo.so
  have cn:=kjU (V:=Vc) (ps:=ps) (kk:=kds B) (S:=S)
  have cs:=fun(m:Int)(e:Vc.ms.most=some m)(h0:0≤m)=>kjT (V:=Vc) (ps:=ps) (kk:=kds B) (S:=S) lp wle e h0
  have sabs:=kik wf lab habl
  generalize ewant:want Vc.so S.mkd.length ((abt ps (kds B) Vc.ms.kind Vc.ms.lone S).map fun i=>S.ow.getD i 0) (qs S.pr (abt ps (kds B) Vc.ms.kind Vc.ms.lone S))=wn at *
  have fnn:Nn (spr S.pr.length (abt ps (kds B) Vc.ms.kind Vc.ms.lone S) wn):=(kfg wf.nn wle).nn
  have fsum:(spr S.pr.length (abt ps (kds B) Vc.ms.kind Vc.ms.lone S) wn).sum≤720000000000000:=by
   have h:=(kfg wf.nn wle).sum
   have h2:=kc3 (b:=1000000000000) (q:=S.pr) fun z hz=>(wf.pr z hz).2
   omega
  cases em:Vc.ms.most with
  |none=>
   symm
   refine⟨_,rfl,rfl,_,rfl,?_⟩
   show if(!decide (V.non=V.non))=true then _ else _
   rw[kke]
   refine iteF (iteF ⟨_,rfl,k _ w s04 hw0 ?_⟩)
   rw[h4,cn em]
  | some m=>
   have hm0:=vo.ms.most m em
   symm
   refine⟨_,rfl,rfl,_,rfl,?_⟩
   show if(!decide (V.int m=V.non))=true then _ else _
   rw[kkf]
   refine iteT ?_
   symm
   exists Y6
   refine⟨_,rfl,w,_,rfl,SqL.of h4,_,rfl,_,_,rfl,rfl,_,rfl,?_⟩
   by_cases hgt:(spr S.pr.length (abt ps (kds B) Vc.ms.kind Vc.ms.lone S) wn).sum > m
   ·rw[decide_eq_true hgt]
    refine iteT ?_
    nofun
    exists Y8
    refine⟨_,rfl,_,rfl,m,w,_,rfl,SqL.of h4,fnn,by omega,hm0.1,by omega,by rw[kcy];omega,fun p7 hp7=>?_⟩
    exists 3
    refine k _ p7 (s04.trans (kal hp7)) (none_of s04 hp7) ?_
    rw[kac,cs m em hm0.1,if_pos hgt]
   ·rw[decide_eq_false hgt]
    refine iteF ?_
    exists 3
    refine⟨_,rfl,k _ w s04 hw0 ?_⟩
    rw[h4,cs m em hm0.1,if_neg hgt]
theorem kjY{l:List Nat}{f g:Nat→Bool}(h:∀x∈l,f x=g x):l.any f=l.any g:=by
 induction l with
 |nil=>rfl
 |cons a l ih=>rw[JL,JL,h a Ji,ih fun x hx=>h x (Jb _ hx)]
theorem kgv{ow:List Nat}{cs:List Int}{i o l:Nat}(h:ow[i]?=some o):kcZ (ow.take (i+1)) cs l=(kcZ (ow.take i) cs l||(o==l&&decide (0<cs.getD i 0))):=by
 have hi:=at_lt h
 unfold kcZ
 rw[U8,U8,N3 (by omega),N3 (by omega),JE,List.any_append]
 congr 1
 ·refine kjY fun j hj=>?_
  have hj':j<i:=by simpa using hj
  simp only[Jc,List.getElem?_take]
  rw[if_pos (by omega),if_pos hj']
 ·simp only[JL,List.any_nil,Mo]
  rw[Jc,List.getElem?_take,if_pos (by omega),h]
  rfl
inductive kcu (d:D) (vs:List V) (H:Hp) (Q:VK) (E_:XK):Prop
 |ct (v x c:Addr)(V:Vch)(S:Stnd)(cs:List Int)(_:vs=[.ref v, .ref x, .ref c])(_:VchIs d H v V)(_:StndIs d.qc H x S)(_:H c=some (.lst (cs.map L2.V.int)))(_:cs.length=S.ow.length)(_:S.ow.length≤720)(_:S.mkd.length≤12)(_:(∀l∈S.ow,l<S.mkd.length))(_:∀(H':Hp)(p:Addr),Same H H'→H p=none→H' p=some (.lst (((UU S.mkd.length).map fun l=>S.mkd.getD l false||(V.ms.lone&&kcZ S.ow cs l)).map L2.V.bl))→Q (.ref p) H'):kcu d vs H Q E_
theorem Qb:kao ["voucher","standing","piece_cuts","marked","owner","cut"] ["voucher","standing","piece_cuts"] (kaf kbx):=by ac_rfl
theorem kdA(W:WB K mg d base):FO P w W 1 d.XD d.XE ["voucher","standing","piece_cuts"] (kcu d):=by
 exists W.Y7.F,Qb
 ·obtain⟨v,x,c,Vc,S,cs,rfl,⟨mA,dxv,fsv,hv,lvm,_,⟨dxm,fsm,hm,m1,m2,m3,m4,m5,m6⟩,hh,htb⟩,⟨o,p,mk,⟨dxs,fss,hx,l1,l2,l3,l4,l5⟩,ho,hp,hmk⟩,hc,lc,lo,lmk,hw,k⟩:=h
  refine⟨_,kad (psl (i:=3) Qb.nd (ka2 (r:=kbC K) kaI (by rfl) W.B.list kbP (kaa (kam (K:=K) (pv 1) rfl) kae)))
   (kad (ps_if (kaX (kam (K:=K) (kam (K:=K) (pv 0) rfl) rfl)) (kai (ka6 PassesOwn.never rfl (keV rfl W.B.zip (kaa (kam (K:=K) (pv 1) rfl) (kaa (pv 2) kae))) (kbE (K:=K) (n:=2) rfl (kaB (pgn (i:=4) Qb.nd) (kaB (pgn (i:=5) Qb.nd) kbD)))
   (kai (ps_if (kaq op_gt (pv 5) kah (kau _)) (kai (kka pe_bl (kkc (pv 3) (pv 4) set_list))) (kat))))) (kat))
   (kai (kan (pv 3)))),?_⟩
  have e0:S.mkd.map V.bl=((UU S.mkd.length).map fun l=>S.mkd.getD l false||kcZ (S.ow.take 0) cs l).map V.bl:=by
   congr 1
   apply J0
   ·simp
   ·intro j h1 h2
    simp[kcZ,h1]
  exists Y4
  refine⟨_,rfl,x,d.qc,dxs,fss,_,rfl,hx,W.qc.cl,W.qL,l4,mk,_,rfl, .inl (SqL.of hmk),fun q hq=>?_⟩
  have s1:=kal (o:=.lst (S.mkd.map V.bl)) hq
  symm
  exists Y4
  refine⟨_,rfl,v,clsOf d Vc.so,dxv,fsv,_,rfl,s1 _ _ hv,cl_of W hh,na_of W hh,lvm,mA,d.qe,dxm,fsm,_,rfl,s1 _ _ hm,W.qe.cl,W.QF,m6,_,rfl,?_⟩
  cases e:Vc.ms.lone with
  |false=>
   refine iteF ?_
   symm
   exists Y6
   refine⟨_,rfl,k _ q s1 hq ?_⟩
   rw[e0]
   simp only[e,Mc,Mo]
   rw[kac]
   congr 2
   simp[kcZ]
  | true=>
   refine iteT ?_
   have emin:min (S.ow.map iV).length (cs.map V.int).length=S.ow.length:=by rw[UP,UP,lc,Nq]
   symm
   exists Y6
   refine⟨_,rfl,x,d.qc,dxs,fss,_,rfl,s1 _ _ hx,W.qc.cl,W.qD,l1,_,rfl,o,c,_,_,rfl,s1 _ _ ho,s1 _ _ hc,
    kiW (xs:=S.ow.map iV) (ys:=cs.map V.int) (fun i σ H'=>(∃v4 v5:Option V,σ=[some (.ref v),some (.ref x),some (.ref c),some (.ref q),v4,v5])∧But q H H'∧H' q=some (.lst (((UU S.mkd.length).map fun l=>S.mkd.getD l false||kcZ (S.ow.take i) cs l).map V.bl)))
     ⟨⟨none,none,rfl⟩,But.of_same s1,by rw[kac,e0]⟩ (fun i σ H' _ h=>⟨h.2.1 _ _ (kag ho hq) ho,h.2.1 _ _ (kag hc hq) hc⟩) ?_ ?_⟩
   ·rintro i y z t σ H1 hy hz ⟨⟨v4,v5,rfl⟩,b1,h1⟩ ht
    obtain⟨ln,eln,rfl⟩:=kbI hy
    obtain⟨cz,ecz,rfl⟩:=kbI hz
    have hln:=hw ln (U1 eln)
    have st:=fun l=>kgv (cs:=cs) (l:=l) eln
    have eg:cs.getD i 0=cz:=by rw[Jc,ecz];rfl
    have tq:q≠t:=kag h1 ht
    have b2:=b1.same (kal (o:=.tup [iV ln,V.int cz]) ht)
    have h2:=kal (o:=.tup [iV ln,V.int cz]) ht _ _ h1
    nofun
    exists Y8
    refine⟨t,_,rfl,SqT.of kac,rfl,_,_,rfl,_,_,rfl,rfl,?_⟩
    exists 3
    exists Y8
    refine⟨_,rfl,_,_,rfl,rfl,_,rfl,?_⟩
    by_cases hc0:cz > 0
    ·rw[decide_eq_true hc0]
     refine iteT ?_
     exists 3
     exists Y10
     refine⟨_,rfl,_,rfl,q,_,_,ln,rfl,rfl,h2,kiK (by simpa using hln),⟨_,_,rfl⟩,b2.trans kar,?_⟩
     rw[kac,←List.map_set]
     congr 3
     apply J0
     ·simp
     ·intro j g1 g2
      have hj:j<S.mkd.length:=by simpa using g1
      rw[List.getElem_set]
      simp only[Nr,NT]
      rw[st j,eg]
      by_cases hjl:ln=j
      ·subst hjl
       simp[hc0]
      ·rw[if_neg hjl,show(ln==j)=false by simpa using hjl]
       simp
    ·rw[decide_eq_false hc0]
     refine iteF ?_
     try first|apply Y10|apply Y8|apply Y6|apply Y4
     exists Y10
     refine⟨⟨_,_,rfl⟩,b2,?_⟩
     rw[h2]
     congr 3
     try first|apply Y10|apply Y8|apply Y6|apply Y4
     refine JA fun l _=>?_
     rw[st l,eg,show decide (0<cz)=false by simpa using hc0]
     simp
   ·rintro σ H1 ⟨⟨v4,v5,rfl⟩,b1,h1⟩
    rw[emin,Jn] at h1
    exists 3
    exists Y8
    refine⟨_,rfl,k _ q (kjb b1 hq) hq ?_⟩
    rw[h1]
    simp only[e,Bool.true_and]
noncomputable def rmv(x:Addr)(H:Hp):Hp:=fun a=>if a=x then none else H a
theorem kih{x:Addr}{H:Hp}:rmv x H x=none:=if_pos rfl
theorem kfu{x a:Addr}{H:Hp}(n:a≠x):rmv x H a=H a:=if_neg n
theorem keS{x a:Addr}{H:Hp}{o:HO}(h:rmv x H a=some o):H a=some o:=by
 by_cases e:a=x
 ·subst e
  rw[kih] at h
  cases h
 ·rw[kfu e] at h
  exact h
theorem kkE{x:Addr}{H:Hp}(hx:NX H x):But x H (rmv x H):=fun b u n e=>ev_eq (by rw[kfu n];exact e) fun⟨ps,e1,t,hor⟩=>⟨ps,by rw[kfu n];exact e1,t,fun pos c ec=>by
 obtain⟨c',rfl,z2⟩:=hor pos c ec
 exact⟨c',rfl,by rw[kfu fun e=>hx _ (e▸z2)];exact z2⟩⟩
theorem kkD{x:Addr}{H:Hp}:Same (rmv x H) H:=fun b u e=>ev_eq (keS e) fun⟨ps,e1,t,hor⟩=>⟨ps,keS e1,t,fun pos c ec=>by
 obtain⟨c',rfl,z2⟩:=hor pos c ec
 exact⟨c',rfl,keS z2⟩⟩
theorem kho{Hs H H':Hp}{x:Addr}(s:Same Hs H)(b:But x H H')(f:Hs x=none):Same Hs H':=fun c u e=>kbl (s c u e) fun u' e'=>b c u' (kag e f) e'
inductive StndN (C:Addr) (H0 H:Hp) (x:Addr) (S:Stnd):Prop
 |ct (_:H0 x=none)(o p mk:Addr)(_:StandAt C H x o p mk S.cg)(_:H0 o=none)(_:H0 p=none)(_:H0 mk=none)(_:H o=some (.lst (S.ow.map iV)))(_:H p=some (.lst (S.pr.map V.int)))(_:H mk=some (.lst (S.mkd.map V.bl))):StndN C H0 H x S
theorem StndN.is{C x:Addr}{H0 H:Hp}{S:Stnd}:StndN C H0 H x S→StndIs C H x S:=fun⟨_,o,p,mk,h,_,_,_,h1,h2,h3⟩=>⟨o,p,mk,h,h1,h2,h3⟩
theorem kbM{H0 H:Hp}{q a:Addr}(hq:H0 q≠none)(f:H0 a=none):rmv q H a=H a:=kfu fun e=>hq (e▸f)
theorem StndN.rmv{C x q:Addr}{H0 H:Hp}{S:Stnd}(hq:H0 q≠none):StndN C H0 H x S→StndIs C (rmv q H) x S:=fun⟨f,o,p,mk,⟨dx,fs,hx,r⟩,f1,f2,f3,h1,h2,h3⟩=>⟨o,p,mk,⟨dx,fs,(kbM hq f).trans hx,r⟩,(kbM hq f1).trans h1,(kbM hq f2).trans h2,(kbM hq f3).trans h3⟩
inductive WayN (d:D) (m:Nat) (H0 H:Hp) (w t b x:Addr) (hand:List Int) (used:List Nat):Prop
 |ct (_:H0 w=none)(dx:Addr)(fs:List (Str×V))(h u:Addr)(_:H0 h=none)(_:H0 u=none)(_:H w=some (.ins d.c_Way dx fs))(_:fs.lookup ("till" :Str)=some (.ref t))(_:fs.lookup ("basket" :Str)=some (.ref b))(_:fs.lookup ("hand" :Str)=some (.ref h))(_:fs.lookup ("used" :Str)=some (.ref u))(_:fs.lookup ("standing" :Str)=some (.ref x))(_:fs.lookup ("word_for" :Str)=none)(_:fs.lookup ("behind" :Str)=none)(_:fs.lookup ("is_let_by" :Str)=none)(_:fs.lookup ("followers" :Str)=none)(_:fs.length≤m)(_:H h=some (.lst (hand.map V.int)))(_:H u=some (.lst (used.map iV))):WayN d m H0 H w t b x hand used
theorem WayN.at{d:D}{m:Nat}{H0 H:Hp}{w t b x:Addr}{hand:List Int}{used:List Nat}:WayN d m H0 H w t b x hand used→WayAt d m H w t b x hand used:=fun⟨_,dx,fs,h,u,_,_,h1,h2,h3,h4,h5,h6,h7,h8,h9,h10,h11,h12,h13⟩=>⟨dx,fs,h,u,h1,h2,h3,h4,h5,h6,h7,h8,h9,h10,h11,h12,h13⟩
theorem WayN.rmv{d:D}{m:Nat}{H0 H:Hp}{w t b x q:Addr}{hand:List Int}{used:List Nat}(hq:H0 q≠none):WayN d m H0 H w t b x hand used→WayAt d m (rmv q H) w t b x hand used:=fun⟨f,dx,fs,h,u,f1,f2,g,h2,h3,h4,h5,h6,h7,h8,h9,h10,h11,h12,h13⟩=>⟨dx,fs,h,u,(kbM hq f).trans g,h2,h3,h4,h5,h6,h7,h8,h9,h10,h11,(kbM hq f1).trans h12,(kbM hq f2).trans h13⟩
inductive kgS (K:UQ) (d:D) (vs:List V) (H:Hp) (Q:VK) (E_:XK):Prop
 |ct (v a b x:Addr)(V:Vch)(ps:List (Option Nat))(B:Bask)(S:Stnd)(_:vs=[.ref v, .ref a, .ref b, .ref x])(_:VchIs d H v V)(_:SqL K H a (ps.map pV))(_:BaskIs d.qf d.qg H b B)(_:StndIs d.qc H x S)(_:Wf ps B S)(_:VchOk ps V)(_:∀(H':Hp)(x':Addr),Same H H'→H x'=none→StndN d.qc H H' x' (aftM V ps (kds B) S)→Q (.ref x') H'):kgS K d vs H Q E_
theorem Q4:kao ["voucher","parents","basket","standing","piece_cuts","left"] ["voucher","parents","basket","standing"] (kaf kgd):=by ac_rfl
theorem kjA(W:WB K mg d base):FO P w W 5 d.Xs d.Xt ["voucher","parents","basket","standing"] (kgS K d):=by
 exists W.Y0.F,Q4
 ·obtain⟨v,a,b,x,Vc,ps,B,S,rfl,hV,hA,hB,hS,wf,vo,k⟩:=h
  exists Vy,kde,W
  exists Q5,kcc,W
  exists Vz,kcR,W
  exists VA,kdA,W
  exists hr1,1,hr,0
  exists hr2,2,hr,0
  exists hr3,3,hr,0
  refine⟨_,kad (psl (i:=4) Q4.nd (pcl Vy hr W.Y1 (kaa (pv 0) (kaa (pv 1) (kaa (pv 2) (kaa (pv 3) kae))))))
   (kad (psl (i:=5) Q4.nd (ka7 (W.qM.mk' W.qc) Q5 hr3 rfl W.qc.m W.qM.b .nil pass0 (kaa (pv 2) kae)))
   (kad (kaD (pv 5) (ka2 (r:=kbC K) kaI (by rfl) W.B.list kbP (kaa (kam (K:=K) (pv 3) rfl) kae)) rfl)
   (kad (kaD (pv 5) (kbF (N:=["price","cut"]) (CompScope.plain rfl (by decide +kernel) (by decide +kernel) (by decide +kernel) (show(["price","cut"]:List Str).Nodup by decide +kernel)) rfl (keV rfl W.B.zip (kaa (kam (K:=K) (pv 3) rfl) (kaa (pv 4) kae))) (fun _ _ _ _=>kbE (K:=K) (n:=2) rfl (kaB (pgn (i:=0) (show(["price","cut"]:List Str).Nodup by decide +kernel)) (kaB (pgn (i:=1) (show(["price","cut"]:List Str).Nodup by decide +kernel)) kbD))) (fun _ _ _ _=>(pe_op kfv (pv 0) (pv 1)))) rfl)
   (kad (kaD (pv 5) (pe_op kfv (kam (K:=K) (pv 3) rfl) (pcl Vz hr2 W.Y2 (kaa (pv 0) (kaa (pv 3) kae)))) rfl)
   (kad (kaD (pv 5) (pcl VA hr1 W.Y7 (kaa (pv 0) (kaa (pv 3) (kaa (pv 4) kae)))) rfl)
   (kai (kan (pv 5)))))))),?_⟩
  have np:=wf.np
  have lp:=wf.lp
  have lcut:(cutM Vc ps (kds B) S).1.length=S.pr.length:=(kko wf.nn wf.cg.1 vo.so fun m e=>(vo.ms.most m e).1).1.1
  exists Y4
  refine⟨_,rfl,_,rfl,_,rfl,_,rfl,v,a,b,x,Vc,ps,B,S,rfl,hV,hA,hB,hS,wf,vo,fun H1 pc s1 f1 h1=>?_⟩
  obtain⟨l,ls,hb1,hl1,hL1⟩:=id (hB.same s1)
  symm
  exists Y4
  refine⟨_,rfl,kiC hb1 hl1 hL1 wf.nl wf.ok fun H2 y s2 f2 dxy fsy hy ly lyw=>?_⟩
  have fy:H y=none:=none_of s1 f2
  have s02:=s1.trans s2
  obtain⟨o,p,mk,⟨dxs,fss,hx,l1,l2,l3,l4,l5⟩,ho,hp,hmk⟩:=id hS
  symm
  exists Y4
  refine⟨_,rfl,x,d.qc,dxs,fss,_,rfl,s02 _ _ hx,W.qc.cl,W.qD,l1,o,_,rfl, .inl (SqL.of (s02 _ _ ho)),fun q1 hq1=>?_⟩
  have n1:q1≠y:=(kag hy hq1).symm
  symm
  exists Y4
  refine⟨_,rfl,y,d.qc,dxy,fsy,rfl,kal hq1 _ _ hy,W.qc.cl,W.qD,few (by omega),?_⟩
  have s3:Same H (upd (upd H2 q1 (.lst (S.ow.map iV))) y (.ins d.qc dxy (putF "owners" (.ref q1) fsy))):=kas fy (s02.trans (kal hq1))
  have e3:(upd (upd H2 q1 (.lst (S.ow.map iV))) y (.ins d.qc dxy (putF "owners" (.ref q1) fsy))) q1=some (.lst (S.ow.map iV)):=by rw[kaj n1,kac]
  have y3:(upd (upd H2 q1 (.lst (S.ow.map iV))) y (.ins d.qc dxy (putF "owners" (.ref q1) fsy))) y=some (.ins d.qc dxy (putF "owners" (.ref q1) fsy)):=kac
  have c3:(upd (upd H2 q1 (.lst (S.ow.map iV))) y (.ins d.qc dxy (putF "owners" (.ref q1) fsy))) pc=some (.lst ((cutM Vc ps (kds B) S).1.map V.int)):=by
   rw[kaj (kag h1 f2)]
   symm
   exact kal hq1 _ _ (s2 _ _ h1)
  have f3:=UT (kak (f:="owners") (v:=.ref q1) ly) (by decide:11≤20)
  generalize upd (upd H2 q1 (.lst (S.ow.map iV))) y (.ins d.qc dxy (putF "owners" (.ref q1) fsy))=H3 at *
  have emin:min (S.pr.map V.int).length ((cutM Vc ps (kds B) S).1.map V.int).length=S.pr.length:=by rw[UP,UP,lcut,Nq]
  symm
  exists Y4
  refine⟨_,rfl,x,d.qc,dxs,fss,_,rfl,s3 _ _ hx,W.qc.cl,W.qA,l2,_,rfl,p,pc,_,_,rfl,s3 _ _ hp,c3,
   khl (xs:=S.pr.map V.int) (ys:=(cutM Vc ps (kds B) S).1.map V.int) (fun i σ zs H'=>Same H3 H'∧zs=((Jx (· - ·) S.pr (cutM Vc ps (kds B) S).1).take i).map V.int∧∃v0 v1:Option V,σ=[v0,v1])
    ⟨Same.refl _,rfl,none,none,rfl⟩ (by rw[emin];exact U3 (kap (by omega))) (fun i σ zs H' hi h=>⟨h.1 _ _ (s3 _ _ hp),h.1 _ _ c3,by rw[h.2.1,UP,U8,NW,lcut];rw[emin] at hi;omega⟩) ?_ ?_⟩
  ·rintro i y1 y2 t σ zs H4 hy1 hy2 ⟨s4,rfl,v0,v1,rfl⟩ ht
   obtain⟨z1,ez1,rfl⟩:=kbI hy1
   obtain⟨z2,ez2,rfl⟩:=kbI hy2
   symm
   exists Y6
   refine⟨t,_,rfl,SqT.of kac,rfl,_,_,rfl,_,_,rfl,rfl,_,rfl,_,rfl,_,_,rfl,rfl,s4.trans (kal ht),?_,_,_,rfl⟩
   rw[kbQ (r:=z1-z2) (by rw[NY,ez1,ez2]),UZ]
   rfl
  rintro σ zs H4 ⟨s4,rfl,v0,v1,rfl⟩ q2 hq2
  rw[emin,JY (by rw[NW,lcut];omega)]
  have n2:q2≠y:=(kag (s4 _ _ y3) hq2).symm
  have n12:q1≠q2:=kag (s4 _ _ e3) hq2
  have s5:=kal (o:=.lst ((Jx (· - ·) S.pr (cutM Vc ps (kds B) S).1).map V.int)) hq2
  symm
  exists Y4
  refine⟨_,rfl,y,d.qc,dxy,_,rfl,s5 _ _ (s4 _ _ y3),W.qc.cl,W.qA,few f3,?_⟩
  have s6:Same H (upd (upd H4 q2 (.lst ((Jx (· - ·) S.pr (cutM Vc ps (kds B) S).1).map V.int))) y (.ins d.qc dxy (putF "prices" (.ref q2) (putF "owners" (.ref q1) fsy)))):=kas fy ((s3.trans s4).trans s5) (nx (s5 _ _ (s4 _ _ y3)))
  have e6:(upd (upd H4 q2 (.lst ((Jx (· - ·) S.pr (cutM Vc ps (kds B) S).1).map V.int))) y (.ins d.qc dxy (putF "prices" (.ref q2) (putF "owners" (.ref q1) fsy)))) q1=some (.lst (S.ow.map iV)):=by
   rw[kaj n1]
   symm
   exact s5 _ _ (s4 _ _ e3)
  have p6:(upd (upd H4 q2 (.lst ((Jx (· - ·) S.pr (cutM Vc ps (kds B) S).1).map V.int))) y (.ins d.qc dxy (putF "prices" (.ref q2) (putF "owners" (.ref q1) fsy)))) q2=some (.lst ((Jx (· - ·) S.pr (cutM Vc ps (kds B) S).1).map V.int)):=by rw[kaj n2,kac]
  have y6:(upd (upd H4 q2 (.lst ((Jx (· - ·) S.pr (cutM Vc ps (kds B) S).1).map V.int))) y (.ins d.qc dxy (putF "prices" (.ref q2) (putF "owners" (.ref q1) fsy)))) y=some (.ins d.qc dxy (putF "prices" (.ref q2) (putF "owners" (.ref q1) fsy))):=kac
  have c6:(upd (upd H4 q2 (.lst ((Jx (· - ·) S.pr (cutM Vc ps (kds B) S).1).map V.int))) y (.ins d.qc dxy (putF "prices" (.ref q2) (putF "owners" (.ref q1) fsy)))) pc=some (.lst ((cutM Vc ps (kds B) S).1.map V.int)):=by
   rw[kaj (kag h1 f2)]
   symm
   exact s5 _ _ (s4 _ _ c3)
  have f6:=UT (kak (f:="prices") (v:=.ref q2) (kak (f:="owners") (v:=.ref q1) ly)) (by decide:12≤20)
  generalize upd (upd H4 q2 (.lst ((Jx (· - ·) S.pr (cutM Vc ps (kds B) S).1).map V.int))) y (.ins d.qc dxy (putF "prices" (.ref q2) (putF "owners" (.ref q1) fsy)))=H6 at *
  symm
  exists Y4
  refine⟨_,rfl,x,d.qc,dxs,fss,_,rfl,s6 _ _ hx,W.qc.cl,W.qX,l3,_,rfl,_,rfl,v,x,Vc,S,rfl,hV.same s6,hS.same s6,_,_,rfl,rfl,?_⟩
  rw[←kk6 (ps:=ps) (kk:=kds B) (S:=S) vo]
  symm
  exists Y4
  refine⟨_,rfl,y,d.qc,dxy,_,rfl,y6,W.qc.cl,W.qX,few f6,?_⟩
  have s7:Same H (upd H6 y (.ins d.qc dxy (putF "carriage" (.int (S.cg-(cutM Vc ps (kds B) S).2)) (putF "prices" (.ref q2) (putF "owners" (.ref q1) fsy))))):=kas fy s6
  have e7:(upd H6 y (.ins d.qc dxy (putF "carriage" (.int (S.cg-(cutM Vc ps (kds B) S).2)) (putF "prices" (.ref q2) (putF "owners" (.ref q1) fsy))))) q1=some (.lst (S.ow.map iV)):=by rw[kaj n1];exact e6
  have p7:(upd H6 y (.ins d.qc dxy (putF "carriage" (.int (S.cg-(cutM Vc ps (kds B) S).2)) (putF "prices" (.ref q2) (putF "owners" (.ref q1) fsy))))) q2=some (.lst ((Jx (· - ·) S.pr (cutM Vc ps (kds B) S).1).map V.int)):=by rw[kaj n2];exact p6
  have y7:(upd H6 y (.ins d.qc dxy (putF "carriage" (.int (S.cg-(cutM Vc ps (kds B) S).2)) (putF "prices" (.ref q2) (putF "owners" (.ref q1) fsy))))) y=some (.ins d.qc dxy (putF "carriage" (.int (S.cg-(cutM Vc ps (kds B) S).2)) (putF "prices" (.ref q2) (putF "owners" (.ref q1) fsy)))):=kac
  have c7:(upd H6 y (.ins d.qc dxy (putF "carriage" (.int (S.cg-(cutM Vc ps (kds B) S).2)) (putF "prices" (.ref q2) (putF "owners" (.ref q1) fsy))))) pc=some (.lst ((cutM Vc ps (kds B) S).1.map V.int)):=by rw[kaj (kag h1 f2)];exact c6
  have f7:=UT (kak (f:="carriage") (v:=.int (S.cg-(cutM Vc ps (kds B) S).2)) (kak (f:="prices") (v:=.ref q2) (kak (f:="owners") (v:=.ref q1) ly))) (by decide:13≤20)
  generalize upd H6 y (.ins d.qc dxy (putF "carriage" (.int (S.cg-(cutM Vc ps (kds B) S).2)) (putF "prices" (.ref q2) (putF "owners" (.ref q1) fsy))))=H7 at *
  symm
  exists Y4
  refine⟨_,rfl,_,rfl,_,rfl,v,x,pc,Vc,S,_,rfl,hV.same s7,hS.same s7,c7,by rw[lcut,lp],np,by rw[wf.lm];exact wf.nl,fun l hl=>?_,fun H8 q3 s8 f8 h8=>?_⟩
  ·obtain⟨i,hi⟩:=Na.mp hl
   rw[wf.lm]
   symm
   exact wf.line hi
  have n3:q3≠y:=(kag y7 f8).symm
  symm
  exists Y4
  refine⟨_,rfl,y,d.qc,dxy,_,rfl,s8 _ _ y7,W.qc.cl,W.qL,few f7,?_⟩
  symm
  exists Y4
  refine⟨_,rfl,k _ y (kas fy (s7.trans s8) (nx (s8 _ _ y7))) fy ⟨fy,q1,q2,q3,⟨dxy,_,kac,?_,?_,?_,?_,?_⟩,none_of s02 hq1,none_of (s3.trans s4) hq2,none_of s7 f8,?_,?_,?_⟩⟩
  ·ac_nf
  ·ac_nf
  ·ac_nf
   rfl
  ·ac_nf
  ·rw[kab,if_neg (by decide +kernel),kab,if_neg (by decide +kernel),kab,if_neg (by decide +kernel),kab,if_neg (by decide +kernel)]
   symm
   exact lyw
  ·rw[kaj n1]
   symm
   exact s8 _ _ e7
  ·rw[kaj n2]
   symm
   exact s8 _ _ p7
  ·rw[kaj n3]
   symm
   exact h8
inductive kf3 (d:D) (vs:List V) (H:Hp) (Q:VK) (E_:XK):Prop
 |ct (H0:Hp)(x dx p vl rl:Addr)(ps vs' rs:List V)(bk:Str)(_:vs=[.ref x, .ref p, .ref vl, .ref rl, .str bk])(_:H0 x=none)(_:Same H0 H)(_:H x=some (.ins d.qd dx []))(_:H0 p=some (.lst ps))(_:H0 vl=some (.lst vs'))(_:H0 rl=some (.lst rs))(_:∀(H':Hp)(p' vl' rl':Addr)(fs:List (Str×V)),Same H0 H'→H0 p'=none→H0 vl'=none→H0 rl'=none→H' p'=some (.lst ps)→H' vl'=some (.lst vs')→H' rl'=some (.lst rs)→H' x=some (.ins d.qd dx fs)→fs.lookup ("parents" :Str)=some (.ref p')→fs.lookup ("vouchers" :Str)=some (.ref vl')→fs.lookup ("rules" :Str)=some (.ref rl')→fs.lookup ("back" :Str)=some (.str bk)→Q .non H'):kf3 d vs H Q E_
theorem kfq:kao ["self","parents","vouchers","rules","back"] ["self","parents","vouchers","rules","back"] (kaf ka0):=by ac_rfl
theorem kdm(W:WB K mg d base):FO P w W 1 d.YV d.Qt ["self","parents","vouchers","rules","back"] (kf3 d):=by
 exists W.QX.F,kfq
 ·obtain⟨H0,x,dx,p,vl,rl,ps,vs',rs,bk,rfl,fx,s0,hx,hp,hvl,hrl,k⟩:=h
  refine⟨_,kad (kaD (pv 0) (ka2 (r:=kbC K) kaI (by rfl) W.B.list kbP (kaa (pv 1) kae)) rfl)
   (kad (kaD (pv 0) (ka2 (r:=kbC K) kaI (by rfl) W.B.list kbP (kaa (pv 2) kae)) rfl)
   (kad (kaD (pv 0) (ka2 (r:=kbC K) kaI (by rfl) W.B.list kbP (kaa (pv 3) kae)) rfl)
   (kai (kaD (pv 0) (pv 4) rfl)))),?_⟩
  exists Y4
  refine⟨_,rfl,p,_,rfl, .inl (SqL.of (s0 _ _ hp)),fun p' hp'=>?_⟩
  have n1:=kal (o:=.lst ps) hp'
  have fp:=s0.free hp'
  have np:p'≠x:=(kag hx hp').symm
  have e1:(upd H p' (.lst ps)) p'=some (.lst ps):=kac
  have s1:=s0.trans n1
  have hx1:=n1 _ _ hx
  clear n1
  generalize upd H p' (.lst ps)=H1 at *
  symm
  exists Y4
  refine⟨_,rfl,x,d.qd,dx,[],rfl,hx1,W.qd.cl,W.qG,by decide,?_⟩
  have s2:Same H0 (upd H1 x (.ins d.qd dx (putF "parents" (.ref p') []))):=kas fx s1 (nx hx1)
  have e2:(upd H1 x (.ins d.qd dx (putF "parents" (.ref p') []))) p'=some (.lst ps):=by rw[kaj np];exact e1
  have hx2:(upd H1 x (.ins d.qd dx (putF "parents" (.ref p') []))) x=some (.ins d.qd dx (putF "parents" (.ref p') [])):=kac
  generalize upd H1 x (.ins d.qd dx (putF "parents" (.ref p') []))=H2 at *
  symm
  exists Y4
  refine⟨_,rfl,vl,_,rfl, .inl (SqL.of (s2 _ _ hvl)),fun v' hv'=>?_⟩
  have n3:=kal (o:=.lst vs') hv'
  have fv:=s2.free hv'
  have nv:v'≠x:=(kag hx2 hv').symm
  have s3:=s2.trans n3
  have e3:=n3 _ _ e2
  have ev3:(upd H2 v' (.lst vs')) v'=some (.lst vs'):=kac
  have hx3:=n3 _ _ hx2
  clear n3
  generalize upd H2 v' (.lst vs')=H3 at *
  symm
  exists Y4
  refine⟨_,rfl,x,d.qd,dx,_,rfl,hx3,W.qd.cl,W.qt,few (UT (kak (n:=0) (UR _)) (by decide)),?_⟩
  have s4:Same H0 (upd H3 x (.ins d.qd dx (putF "vouchers" (.ref v') (putF "parents" (.ref p') [])))):=kas fx s3 (nx hx3)
  have e4:(upd H3 x (.ins d.qd dx (putF "vouchers" (.ref v') (putF "parents" (.ref p') [])))) p'=some (.lst ps):=by rw[kaj np];exact e3
  have ev4:(upd H3 x (.ins d.qd dx (putF "vouchers" (.ref v') (putF "parents" (.ref p') [])))) v'=some (.lst vs'):=by rw[kaj nv];exact ev3
  have hx4:(upd H3 x (.ins d.qd dx (putF "vouchers" (.ref v') (putF "parents" (.ref p') [])))) x=some (.ins d.qd dx (putF "vouchers" (.ref v') (putF "parents" (.ref p') []))):=kac
  generalize upd H3 x (.ins d.qd dx (putF "vouchers" (.ref v') (putF "parents" (.ref p') [])))=H4 at *
  symm
  exists Y4
  refine⟨_,rfl,rl,_,rfl, .inl (SqL.of (s4 _ _ hrl)),fun r' hr'=>?_⟩
  have n5:=kal (o:=.lst rs) hr'
  have fr:=s4.free hr'
  have nr:r'≠x:=(kag hx4 hr').symm
  have s5:=s4.trans n5
  have e5:=n5 _ _ e4
  have ev5:=n5 _ _ ev4
  have er5:(upd H4 r' (.lst rs)) r'=some (.lst rs):=kac
  have hx5:=n5 _ _ hx4
  clear n5
  generalize upd H4 r' (.lst rs)=H5 at *
  symm
  exists Y4
  refine⟨_,rfl,x,d.qd,dx,_,rfl,hx5,W.qd.cl,W.qH,few (UT (kak (kak (n:=0) (UR _))) (by decide)),?_⟩
  have s6:Same H0 (upd H5 x (.ins d.qd dx (putF "rules" (.ref r') (putF "vouchers" (.ref v') (putF "parents" (.ref p') []))))):=kas fx s5 (nx hx5)
  have hx6:(upd H5 x (.ins d.qd dx (putF "rules" (.ref r') (putF "vouchers" (.ref v') (putF "parents" (.ref p') []))))) x=some (.ins d.qd dx (putF "rules" (.ref r') (putF "vouchers" (.ref v') (putF "parents" (.ref p') [])))):=kac
  symm
  exists Y4
  refine⟨_,rfl,_,rfl,x,d.qd,dx,_,rfl,hx6,W.qd.cl,W.ZW,few (UT (kak (kak (kak (n:=0) (UR _)))) (by decide)),?_⟩
  symm
  refine k _ p' v' r' _ (kas fx s6 (nx hx6)) fp fv fr ?_ ?_ ?_ kac ?_ ?_ ?_ ?_
  ·rw[kaj np,kaj np];exact e5
  ·rw[kaj nv,kaj nv];exact ev5
  ·rw[kaj nr,kaj nr];exact er5
  ·ac_nf
  ·ac_nf
  ·ac_nf
  ·ac_nf
theorem kiB{d:D}{H:Hp}{p vl rl:Addr}{T:TillD}{va ra:List Addr}{R:Addr→Hp→Prop}{E:XK}(hp:H p=some (.lst (T.ps.map pV)))(hvl:H vl=some (.lst (va.map V.ref)))(hv:P2 (fun a V=>VchIs d H a V) va T.vs)(hrl:H rl=some (.lst (ra.map V.ref)))(hr:P2 (fun a r=>RulIs H a r) ra T.rs)
  (k:∀(H':Hp)(x:Addr),Same H H'→H x=none→TillIs d H' x T→R x H'):
  ∀x dx,H x=none→H dx=none→dx≠x→kf3 d [.ref x, .ref p, .ref vl, .ref rl, .str T.bk] (upd (upd H dx (.own x)) x (.ins d.qd dx [])) (fun v H2=>v=.non∧R x H2) E:=
 fun x dx nx nd _=>⟨H,x,dx,p,vl,rl,_,_,_,_,rfl,nx,kba nx nd,kac,hp,hvl,hrl,fun H' p' vl' rl' fs s f1 f2 f3 h1 h2 h3 hx l1 l2 l3 l4=>⟨rfl,k H' x s nx ⟨dx,fs,p',vl',rl',va,ra,hx,l1,l2,l3,l4,h1,h2,hv.mono fun a V h=>h.same s,h3,hr.mono fun a r h=>s _ _ h⟩⟩⟩
inductive kf4 (f:List Rul→List Nat→Nat→Bool) (vs:List V) (H:Hp) (Q:VK) (E_:XK):Prop
 |ct (rl u:Addr)(ra:List Addr)(rs:List Rul)(used:List Nat)(n:Nat)(_:vs=[.ref rl, .ref u,iV n])(_:H rl=some (.lst (ra.map V.ref)))(_:P2 (fun a r=>RulIs H a r) ra rs)(_:H u=some (.lst (used.map iV)))(_:Q (.bl (f rs used n)) H):kf4 f vs H Q E_
theorem kjf{f:Rul→Bool}{rs:List Rul}{i:Nat}{r:Rul}(e:rs[i]?=some r)(h:f r=true):rs.any f=true:=List.any_eq_true.mpr ⟨r,U1 e,h⟩
theorem kks{f:Rul→Bool}{rs:List Rul}{n:Nat}(hn:n=rs.length)(h:∀r∈rs.take n,f r=false):rs.any f=false:=by
 rw[hn,Jn] at h
 cases e:rs.any f with
 |false=>rfl
 |true=>
  obtain⟨r,hr,e2⟩:=List.any_eq_true.mp e
  rw[h r hr] at e2
  cases e2
theorem kbH{f:Rul→Bool}{rs:List Rul}{i:Nat}{r:Rul}(e:rs[i]?=some r)(h:∀q∈rs.take i,f q=false)(hr:f r=false):∀q∈rs.take (i+1),f q=false:=fun q hq=>by
 rw[JN,e] at hq
 rcases Jy.mp hq with z|z
 ·exact h q z
 ·have e2:q=r:=by simpa using z
  rw[e2]
  exact hr
theorem Qc:kao ["rules","used","number","word","one","other"] ["rules","used","number"] (kaf kbR):=by ac_rfl
theorem kdZ(W:WB K mg d base):FO P w W 1 d.XR d.XS ["rules","used","number"] (kf4 kex):=by
 exists W.Zb.F,Qc
 ·obtain⟨rl,u,ra,rs,used,n,rfl,hrl,hr,hu,k⟩:=h
  refine⟨_,kad (ka6 PassesOwn.never rfl (kaE (K:=K) (pv 0)) (kbE (K:=K) (n:=3) rfl (kaB (pgn (i:=3) Qc.nd) (kaB (pgn (i:=4) Qc.nd) (kaB (pgn (i:=5) Qc.nd) kbD))))
   (kai (ps_if (PW.pt (kca (kaq op_eq (pv 3) kb0 (kau _)) (kbW (PW.pt (pw_or (PW.pt (kca (kaq op_eq (pv 4) (pv 2) (kau _)) (kbW (kaq kbG (pv 5) (pv 1) (by with_unfolding_all rfl))))) (kes (PW.pt (kca (kaq op_eq (pv 5) (pv 2) (kau _)) (kbW (kaq kbG (pv 4) (pv 1) (by with_unfolding_all rfl))))))))))) (kai (kan pe_bl)) (kat))))
   (kai (kan pe_bl)),?_⟩
  refine⟨_,rfl,rl,rfl,⟨_,SqL.of hrl⟩,kbe (xs:=ra.map V.ref) (fun i σ H'=>H'=H∧(∀r∈rs.take i,nevR used n r=false)∧∃v3 v4 v5:Option V,σ=[some (.ref rl),some (.ref u),some (iV n),v3,v4,v5])
   ⟨rfl,(fun r hr=>by simp at hr),none,none,none,rfl⟩ (fun i σ H' _ h=>by rw[h.1];exact SqL.of hrl) ?_ ?_⟩
  ·rintro i y σ H' hy ⟨rfl,hno,v3,v4,v5,rfl⟩
   obtain⟨a,ea,rfl⟩:=kbB hy
   obtain⟨r,er,hra⟩:=hr.at ea
   have yes:nevR used n r=true→Q (.bl true) H':=fun e=>by
    have z:=kjf (f:=nevR used n) er e
    unfold kex at k
    rw[z] at k
    exact k
   refine⟨a,_,rfl,SqT.of hra,rfl,_,_,rfl,_,_,rfl,_,_,rfl,rfl,?_⟩
   refine⟨_,rfl,rfl,_,rfl,?_⟩
   show if decide (V.str r.w=V.str "never")=true then _ else _
   rw[eq_str]
   by_cases hw:r.w=("never" :Str)
   ·rw [decide_eq_true hw]
    refine iteT ⟨_,rfl,_,rfl,rfl,_,rfl,?_⟩
    show if decide (iV r.a=iV n)=true then _ else _
    rw[kfN]
    by_cases ha:r.a=n
    ·rw[decide_eq_true ha]
     refine iteT ⟨_,rfl,_,rfl,u,_,rfl, .inl (SqL.of hu),rfl,kbJ _,_,rfl,?_⟩
     rw[if_neg UX,kbX]
     cases hb:used.contains r.b with
     |true=>exact iteT (iteT (yes (by unfold nevR;rw[decide_eq_true hw,decide_eq_true ha,hb];rfl)))
     | false=>
      refine iteF ⟨_,rfl,_,rfl,rfl,_,rfl,?_⟩
      show if decide (iV r.b=iV n)=true then _ else _
      rw[kfN]
      by_cases hc:r.b=n
      ·rw[decide_eq_true hc]
       refine iteT ⟨_,rfl,_,rfl,u,_,rfl, .inl (SqL.of hu),rfl,kbJ _,_,rfl,?_⟩
       rw[if_neg UX,kbX]
       cases hd:used.contains r.a with
       |true=>exact iteT (yes (by unfold nevR;rw[decide_eq_true hw,decide_eq_true ha,hb,decide_eq_true hc,hd];rfl))
       |false=>exact iteF ⟨rfl,kbH er hno (by unfold nevR;rw[decide_eq_true hw,decide_eq_true ha,hb,decide_eq_true hc,hd];rfl),_,_,_,rfl⟩
      ·rw[decide_eq_false hc]
       exact iteF (iteF ⟨rfl,kbH er hno (by unfold nevR;rw[decide_eq_true hw,decide_eq_true ha,hb,decide_eq_false hc];rfl),_,_,_,rfl⟩)
    ·rw[decide_eq_false ha]
     refine iteF (iteF ⟨_,rfl,_,rfl,rfl,_,rfl,?_⟩)
     show if decide (iV r.b=iV n)=true then _ else _
     rw[kfN]
     by_cases hc:r.b=n
     ·rw[decide_eq_true hc]
      refine iteT ⟨_,rfl,_,rfl,u,_,rfl, .inl (SqL.of hu),rfl,kbJ _,_,rfl,?_⟩
      rw[if_neg UX,kbX]
      cases hd:used.contains r.a with
      |true=>exact iteT (yes (by unfold nevR;rw[decide_eq_true hw,decide_eq_false ha,decide_eq_true hc,hd];rfl))
      |false=>exact iteF ⟨rfl,kbH er hno (by unfold nevR;rw[decide_eq_true hw,decide_eq_false ha,decide_eq_true hc,hd];rfl),_,_,_,rfl⟩
     ·rw[decide_eq_false hc]
      exact iteF (iteF ⟨rfl,kbH er hno (by unfold nevR;rw[decide_eq_true hw,decide_eq_false ha,decide_eq_false hc];rfl),_,_,_,rfl⟩)
   ·rw[decide_eq_false hw]
    refine iteF (iteF ⟨rfl,kbH er hno ?_,_,_,_,rfl⟩)
    unfold nevR
    rw[decide_eq_false hw]
    rfl
  ·rintro σ H' ⟨rfl,hno,v3,v4,v5,rfl⟩
   have z:=kks (by rw[UP];exact hr.len) hno
   unfold kex at k
   rw[z] at k
   exact k
theorem Qd:kao ["rules","used","number","word","one","other"] ["rules","used","number"] (kaf kbS):=by ac_rfl
theorem kd0(W:WB K mg d base):FO P w W 1 d.XT d.XU ["rules","used","number"] (kf4 keF):=by
 exists W.Zc.F,Qd
 ·obtain⟨rl,u,ra,rs,used,n,rfl,hrl,hr,hu,k⟩:=h
  refine⟨_,kad (ka6 PassesOwn.never rfl (kaE (K:=K) (pv 0)) (kbE (K:=K) (n:=3) rfl (kaB (pgn (i:=3) Qd.nd) (kaB (pgn (i:=4) Qd.nd) (kaB (pgn (i:=5) Qd.nd) kbD))))
   (kai (ps_if (PW.pt (kca (kaq op_eq (pv 3) kb0 (kau _)) (kca (kaq op_eq (pv 4) (pv 2) (kau _)) (kbW (kaq kbG (pv 5) (pv 1) (by with_unfolding_all rfl)))))) (kai (kan pe_bl)) (kat))))
   (kai (kan pe_bl)),?_⟩
  refine⟨_,rfl,rl,rfl,⟨_,SqL.of hrl⟩,kbe (xs:=ra.map V.ref) (fun i σ H'=>H'=H∧(∀r∈rs.take i,ahdR used n r=false)∧∃v3 v4 v5:Option V,σ=[some (.ref rl),some (.ref u),some (iV n),v3,v4,v5])
   ⟨rfl,(fun r hr=>by simp at hr),none,none,none,rfl⟩ (fun i σ H' _ h=>by rw[h.1];exact SqL.of hrl) ?_ ?_⟩
  ·rintro i y σ H' hy ⟨rfl,hno,v3,v4,v5,rfl⟩
   obtain⟨a,ea,rfl⟩:=kbB hy
   obtain⟨r,er,hra⟩:=hr.at ea
   have yes:ahdR used n r=true→Q (.bl true) H':=fun e=>by
    have z:=kjf (f:=ahdR used n) er e
    unfold keF at k
    rw[z] at k
    exact k
   refine⟨a,_,rfl,SqT.of hra,rfl,_,_,rfl,_,_,rfl,_,_,rfl,rfl,?_⟩
   refine⟨_,rfl,rfl,_,rfl,?_⟩
   show if decide (V.str r.w=V.str "ahead")=true then _ else _
   rw[eq_str]
   by_cases hw:r.w=("ahead" :Str)
   ·rw[decide_eq_true hw]
    refine iteT ⟨_,rfl,_,rfl,rfl,_,rfl,?_⟩
    show if decide (iV r.a=iV n)=true then _ else _
    rw[kfN]
    by_cases ha:r.a=n
    ·rw[decide_eq_true ha]
     refine iteT ⟨_,rfl,_,rfl,u,_,rfl, .inl (SqL.of hu),rfl,kbJ _,_,rfl,?_⟩
     rw[if_neg UX,kbX]
     cases hb:used.contains r.b with
     |true=>exact iteT (yes (by unfold ahdR;rw[decide_eq_true hw,decide_eq_true ha,hb];rfl))
     |false=>exact iteF ⟨rfl,kbH er hno (by unfold ahdR;rw[decide_eq_true hw,decide_eq_true ha,hb];rfl),_,_,_,rfl⟩
    ·rw[decide_eq_false ha]
     exact iteF (iteF ⟨rfl,kbH er hno (by unfold ahdR;rw[decide_eq_true hw,decide_eq_false ha];rfl),_,_,_,rfl⟩)
   ·rw[decide_eq_false hw]
    refine iteF (iteF ⟨rfl,kbH er hno ?_,_,_,_,rfl⟩)
    unfold ahdR
    rw[decide_eq_false hw]
    rfl
  ·rintro σ H' ⟨rfl,hno,v3,v4,v5,rfl⟩
   have z:=kks (by rw[UP];exact hr.len) hno
   unfold keF at k
   rw[z] at k
   exact k
inductive kfk (vs:List V) (H:Hp) (Q:VK) (E_:XK):Prop
 |ct (rl u:Addr)(ra:List Addr)(rs:List Rul)(order:List Nat)(_:vs=[.ref rl, .ref u])(_:H rl=some (.lst (ra.map V.ref)))(_:P2 (fun a r=>RulIs H a r) ra rs)(_:H u=some (.lst (order.map iV)))(_:Q (pV (onlyM rs order)) H):kfk vs H Q E_
theorem khh{f:Rul→Bool}:∀{rs:List Rul}{i:Nat}{r:Rul},rs[i]?=some r→f r=true→(∀q∈rs.take i,f q=false)→rs.find? f=some r
 |[],i,r,e,_,_=>by simp at e
 |q::rs,0,r,e,h,_=>by
  have e2:q=r:=by simpa using e
  subst e2
  simp[h]
 |q::rs,i+1,r,e,h,hno=>by
  have h1:=hno q (by simp)
  rw[List.find?_cons_of_neg (by rw[h1];simp)]
  exact khh (by simpa using e) h fun z hz=>hno z (by simp[hz])
theorem kk5{f:Rul→Bool}{rs:List Rul}{n:Nat}(hn:n=rs.length)(h:∀r∈rs.take n,f r=false):rs.find? f=none:=by
 rw[hn,Jn] at h
 exact List.find?_eq_none.mpr fun r hr=>by rw[h r hr];simp
theorem Qe:kao ["rules","order","word","one","other"] ["rules","order"] (kaf kbg):=by ac_rfl
theorem kcQ(W:WB K mg d base):FO P w W 1 d.XW d.XX ["rules","order"] kfk:=by
 exists W.Zd.F,Qe
 ·obtain⟨rl,u,ra,rs,order,rfl,hrl,hr,hu,k⟩:=h
  refine⟨_,kad (ka6 PassesOwn.never rfl (kaE (K:=K) (pv 0)) (kbE (K:=K) (n:=3) rfl (kaB (pgn (i:=2) Qe.nd) (kaB (pgn (i:=3) Qe.nd) (kaB (pgn (i:=4) Qe.nd) kbD))))
   (kai (ps_if (PW.pt (kca (kaq op_eq (pv 2) kb0 (kau _)) (kca (kaq kbG (pv 3) (pv 1) (by with_unfolding_all rfl)) (kbW (kaq kfw (pv 4) (pv 1) (by with_unfolding_all rfl)))))) (kai (kan (pv 3))) (kat))))
   (kai (kan kaS)),?_⟩
  refine⟨_,rfl,rl,rfl,⟨_,SqL.of hrl⟩,kbe (xs:=ra.map V.ref) (fun i σ H'=>H'=H∧(∀r∈rs.take i,loneM order r=false)∧∃v3 v4 v5:Option V,σ=[some (.ref rl),some (.ref u),v3,v4,v5])
   ⟨rfl,(fun r hr=>by simp at hr),none,none,none,rfl⟩ (fun i σ H' _ h=>by rw[h.1];exact SqL.of hrl) ?_ ?_⟩
  ·rintro i y σ H' hy ⟨rfl,hno,v3,v4,v5,rfl⟩
   obtain⟨a,ea,rfl⟩:=kbB hy
   obtain⟨r,er,hra⟩:=hr.at ea
   refine⟨a,_,rfl,SqT.of hra,rfl,_,_,rfl,_,_,rfl,_,_,rfl,rfl,?_⟩
   refine⟨_,rfl,rfl,_,rfl,?_⟩
   show if decide (V.str r.w=V.str "only")=true then _ else _
   rw[eq_str]
   by_cases hw:r.w=("only" :Str)
   ·rw[decide_eq_true hw]
    refine iteT ⟨_,rfl,_,rfl,u,_,rfl, .inl (SqL.of hu),rfl,kbJ _,_,rfl,?_⟩
    rw[if_neg UX,kbX]
    cases ha:order.contains r.a with
    | true=>
     refine iteT ⟨_,rfl,_,rfl,u,_,rfl, .inl (SqL.of hu),rfl,kbJ _,_,rfl,?_⟩
     rw[if_pos rfl,kbX]
     cases hb:order.contains r.b with
     |true=>exact iteF ⟨rfl,kbH er hno (by unfold loneM;rw[decide_eq_true hw,ha,hb];rfl),_,_,_,rfl⟩
     |false=>
      refine iteT ⟨_,rfl,?_⟩
      have z:=khh (f:=loneM order) er (by unfold loneM;rw[decide_eq_true hw,ha,hb];rfl) hno
      unfold onlyM at k
      rw[z] at k
      exact k
    |false=>exact iteF (iteF ⟨rfl,kbH er hno (by unfold loneM;rw[decide_eq_true hw,ha];rfl),_,_,_,rfl⟩)
   ·rw[decide_eq_false hw]
    refine iteF (iteF ⟨rfl,kbH er hno ?_,_,_,_,rfl⟩)
    unfold loneM
    rw[decide_eq_false hw]
    rfl
  ·rintro σ H' ⟨rfl,hno,v3,v4,v5,rfl⟩
   have z:=kk5 (by rw[UP];exact hr.len) hno
   unfold onlyM at k
   rw[z] at k
   exact k
inductive kgF (d:D) (vs:List V) (H:Hp) (Q:VK) (E_:XK):Prop
 |ct (t h u:Addr)(T:TillD)(hand:List Int)(used:List Nat)(n:Nat)(V:Vch)(_:vs=[.ref t, .ref h, .ref u,iV n])(_:TillIs d H t T)(_:H h=some (.lst (hand.map L2.V.int)))(_:H u=some (.lst (used.map iV)))(_:T.vs[n]?=some V)(_:hand.length=T.vs.length)(_:Q (sV (wordM V T.rs hand used n)) H):kgF d vs H Q E_
theorem kdt:kao ["till","hand","used","number"] ["till","hand","used","number"] (kaf kbv):=by ac_rfl
theorem kdz(W:WB K mg d base):FO P w W 2 d.XO d.XQ ["till","hand","used","number"] (kgF d):=by
 exists W.Za.F,kdt
 ·obtain⟨t,h,u,T,hand,used,n,Vc,rfl,hT,hh,hu,hn,hl,k⟩:=h
  obtain⟨dx,fs,p,vl,rl,va,ra,ht,t1,t2,t3,t4,hp,hvl,hva,hrl,hra⟩:=hT
  exists VB,kdZ,W
  exists VC,kd0,W
  refine⟨_,kad (ps_if (kaq op_gt (pe_op kbm (pe_bm JF PySem.F.slot_list_count PySem.F.type_list_count kjB (pv 2) (kaa (pv 3) kae)) kah) (pe_ix (r:=rIxL K) kaK (pv 1) (pv 3) (fun _ _=>rfl)) (kau _)) (kai (kan kb0)) (kat))
   (kad (ps_if (PW.pt (kca (kaX (kam (K:=K) (kam (K:=K) (pe_ix (r:=rIxL K) kaK (kam (K:=K) (pv 0) rfl) (pv 3) (fun _ _=>rfl)) rfl) rfl)) (kbW (kaq kbG (pv 3) (pv 2) (by with_unfolding_all rfl))))) (kai (kan kb0)) (kat))
   (kad (ps_if (kaX (pcl VB hr W.Zb (kaa (kam (K:=K) (pv 0) rfl) (kaa (pv 2) (kaa (pv 3) kae))))) (kai (kan kb0)) (kat))
   (kad (ps_if (kaX (pcl VC hr W.Zc (kaa (kam (K:=K) (pv 0) rfl) (kaa (pv 2) (kaa (pv 3) kae))))) (kai (kan kb0)) (kat))
   (kai (kan kaS))))),?_⟩
  obtain⟨v,ev⟩:=at_of (xs:=va) (i:=n) (by rw[hva.len];exact at_lt hn)
  obtain⟨Vc',eV',hV⟩:=hva.at ev
  rw[hn] at eV'
  cases eV'
  obtain⟨mA,dxv,fsv,hv,lvm,_,⟨dxm,fsm,hm,m1,m2,m3,m4,m5,m6⟩,hh',_⟩:=id hV
  obtain⟨z,ez⟩:=at_of (xs:=hand) (i:=n) (by rw[hl];exact at_lt hn)
  have eu:H u=some (.lst ((used.map fun(i:Nat)=>(i:Int)).map V.int)):=by rw[hu,Jg];rfl
  have eg:hand.getD n 0=z:=by rw[Jc,ez];rfl
  refine⟨_,rfl, .inl ⟨rfl,_,SqL.of hu⟩,_,rfl,u,_,_,rfl,rfl,eu,_,_,rfl,rfl,_,rfl,_,rfl,h,_,_,_,rfl,rfl,SqL.of hh,ka5 (v:=.int z) (by rw[UY,ez];rfl),_,_,rfl,rfl,_,rfl,?_⟩
  rw[kk9]
  unfold wordM at k
  rw[eg] at k
  by_cases c1:z<(used.count n:Int)+1
  ·rw[if_pos c1] at k
   rw[show decide ((used.count n:Int)+1 > z)=true from decide_eq_true c1]
   exact iteT k
  rw[if_neg c1] at k
  rw[show decide ((used.count n:Int)+1 > z)=false from decide_eq_false c1]
  refine iteF ?_
  refine⟨_,rfl,t,d.qd,dx,fs,_,rfl,ht,W.qd.cl,W.qt,t2,_,rfl,vl,_,_,_,rfl,rfl,SqL.of hvl,ka5 (v:=.ref v) (by rw[UY,ev];rfl),v,clsOf d Vc.so,dxv,fsv,_,rfl,hv,cl_of W hh',na_of W hh',lvm,mA,d.qe,dxm,fsm,_,rfl,hm,W.qe.cl,W.Zr,m5,Vc.ms.once,rfl,?_⟩
  cases ho:Vc.ms.once with
  | true=>
   rw[ho,Bool.true_and] at k
   refine iteT ⟨_,rfl,_,rfl,u,_,rfl, .inl (SqL.of hu),rfl,kbJ _,_,rfl,?_⟩
   rw[if_neg UX,kbX]
   cases hc:used.contains n with
   |true=>
    rw[hc,if_pos rfl] at k
    exact iteT k
   | false=>
    rw[hc,if_neg UX] at k
    refine iteF ?_
    refine⟨_,rfl,t,d.qd,dx,fs,_,rfl,ht,W.qd.cl,W.qH,t3,_,rfl,_,rfl,rl,u,ra,T.rs,used,n,rfl,hrl,hra,hu,_,rfl,?_⟩
    cases h1:kex T.rs used n with
    |true=>
     rw[h1,if_pos rfl] at k
     exact iteT k
    | false=>
     rw[h1,if_neg UX] at k
     refine iteF ⟨_,rfl,t,d.qd,dx,fs,_,rfl,ht,W.qd.cl,W.qH,t3,_,rfl,_,rfl,rl,u,ra,T.rs,used,n,rfl,hrl,hra,hu,_,rfl,?_⟩
     cases h2:keF T.rs used n with
     |true=>
      rw[h2,if_pos rfl] at k
      exact iteT k
     |false=>
      rw[h2,if_neg UX] at k
      exact iteF k
  | false=>
   rw[ho,Mc,if_neg UX] at k
   refine iteF (iteF ?_)
   refine⟨_,rfl,t,d.qd,dx,fs,_,rfl,ht,W.qd.cl,W.qH,t3,_,rfl,_,rfl,rl,u,ra,T.rs,used,n,rfl,hrl,hra,hu,_,rfl,?_⟩
   cases h1:kex T.rs used n with
   |true=>
    rw[h1,if_pos rfl] at k
    exact iteT k
   | false=>
    rw[h1,if_neg UX] at k
    refine iteF ⟨_,rfl,t,d.qd,dx,fs,_,rfl,ht,W.qd.cl,W.qH,t3,_,rfl,_,rfl,rl,u,ra,T.rs,used,n,rfl,hrl,hra,hu,_,rfl,?_⟩
    cases h2:keF T.rs used n with
    |true=>
     rw[h2,if_pos rfl] at k
     exact iteT k
    |false=>
     rw[h2,if_neg UX] at k
     exact iteF k
inductive khY (d:D) (vs:List V) (H:Hp) (Q:VK) (E_:XK):Prop
 |ct (H0:Hp)(w dx t b h:Addr)(hand:List Int)(B:Bask)(_:vs=[.ref w, .ref t, .ref b, .ref h])(_:H0 w=none)(_:Same H0 H)(_:H w=some (.ins d.c_Way dx []))(_:H0 h=some (.lst (hand.map V.int)))(_:BaskIs d.qf d.qg H0 b B)(_:B.rs.length≤12)(_:(∀r∈B.rs,r.Ok))(_:∀(H':Hp)(x:Addr),Same H0 H'→H0 x=none→WayN d 5 H0 H' w t b x hand []→StndIs d.qc H' x (stnd0 B)→Q .non H'):khY d vs H Q E_
theorem kf9:kao ["self","till","basket","hand"] ["self","till","basket","hand"] (kaf kc8):=by ac_rfl
theorem kcH(W:WB K mg d base):FO P w W 4 d.YK d.YL ["self","till","basket","hand"] (khY d):=by
 exists W.qE.F,kf9
 ·obtain⟨H0,wy,dx,t,b,h,hand,B,rfl,fw,s0,hw,hh,hb,hB,hok,k⟩:=h
  exists Q5,kcc,W
  refine⟨_,kad (kaD (pv 0) (pv 1) rfl)
   (kad (kaD (pv 0) (pv 2) rfl)
   (kad (kaD (pv 0) (ka2 (r:=kbC K) kaI (by rfl) W.B.list kbP (kaa (pv 3) kae)) rfl)
   (kad (kaD (pv 0) (kaN kae) rfl)
   (kai (kaD (pv 0) (ka7 (W.qM.mk' W.qc) Q5 hr rfl W.qc.m W.qM.b .nil pass0 (kaa (pv 2) kae)) rfl))))),?_⟩
  exists Y4
  refine⟨_,rfl,_,rfl,wy,d.c_Way,dx,[],rfl,hw,W.c_Way.cl,W.qw,by decide,?_⟩
  have s1:Same H0 (upd H wy (.ins d.c_Way dx (putF "till" (.ref t) []))):=kas fw s0 (nx hw)
  have hw1:(upd H wy (.ins d.c_Way dx (putF "till" (.ref t) []))) wy=some (.ins d.c_Way dx (putF "till" (.ref t) [])):=kac
  generalize upd H wy (.ins d.c_Way dx (putF "till" (.ref t) []))=H1 at *
  symm
  exists Y4
  refine⟨_,rfl,_,rfl,wy,d.c_Way,dx,_,rfl,hw1,W.c_Way.cl,W.qY,few (UT (kak (n:=0) (UR _)) (by decide)),?_⟩
  have s2:Same H0 (upd H1 wy (.ins d.c_Way dx (putF "basket" (.ref b) (putF "till" (.ref t) [])))):=kas fw s1 (nx hw1)
  have hw2:(upd H1 wy (.ins d.c_Way dx (putF "basket" (.ref b) (putF "till" (.ref t) [])))) wy=some (.ins d.c_Way dx (putF "basket" (.ref b) (putF "till" (.ref t) []))):=kac
  generalize upd H1 wy (.ins d.c_Way dx (putF "basket" (.ref b) (putF "till" (.ref t) [])))=H2 at *
  symm
  exists Y4
  refine⟨_,rfl,h,_,rfl, .inl (SqL.of (s2 _ _ hh)),fun h' hh'=>?_⟩
  have n3:=kal (o:=.lst (hand.map V.int)) hh'
  have nh:h'≠wy:=(kag hw2 hh').symm
  have s3:=s2.trans n3
  have e3:(upd H2 h' (.lst (hand.map V.int))) h'=some (.lst (hand.map V.int)):=kac
  have hw3:=n3 _ _ hw2
  clear n3
  generalize upd H2 h' (.lst (hand.map V.int))=H3 at *
  symm
  exists Y4
  refine⟨_,rfl,wy,d.c_Way,dx,_,rfl,hw3,W.c_Way.cl,W.QS,few (UT (kak (kak (n:=0) (UR _))) (by decide)),?_⟩
  have s4:Same H0 (upd H3 wy (.ins d.c_Way dx (putF "hand" (.ref h') (putF "basket" (.ref b) (putF "till" (.ref t) []))))):=kas fw s3 (nx hw3)
  have e4:(upd H3 wy (.ins d.c_Way dx (putF "hand" (.ref h') (putF "basket" (.ref b) (putF "till" (.ref t) []))))) h'=some (.lst (hand.map V.int)):=by rw[kaj nh];exact e3
  have hw4:(upd H3 wy (.ins d.c_Way dx (putF "hand" (.ref h') (putF "basket" (.ref b) (putF "till" (.ref t) []))))) wy=some (.ins d.c_Way dx (putF "hand" (.ref h') (putF "basket" (.ref b) (putF "till" (.ref t) [])))):=kac
  generalize upd H3 wy (.ins d.c_Way dx (putF "hand" (.ref h') (putF "basket" (.ref b) (putF "till" (.ref t) []))))=H4 at *
  symm
  exists Y4
  refine⟨by decide,fun u hu=>?_⟩
  have n5:=kal (o:=.lst []) hu
  have nu:u≠wy:=(kag hw4 hu).symm
  have s5:=s4.trans n5
  have e5:=n5 _ _ e4
  have eu5:(upd H4 u (.lst [])) u=some (.lst (([]:List Nat).map iV)):=kac
  have hw5:=n5 _ _ hw4
  clear n5
  generalize upd H4 u (.lst [])=H5 at *
  symm
  exists Y4
  refine⟨_,rfl,wy,d.c_Way,dx,_,rfl,hw5,W.c_Way.cl,W.qB,few (UT (kak (kak (kak (n:=0) (UR _)))) (by decide)),?_⟩
  have s6:Same H0 (upd H5 wy (.ins d.c_Way dx (putF "used" (.ref u) (putF "hand" (.ref h') (putF "basket" (.ref b) (putF "till" (.ref t) [])))))):=kas fw s5 (nx hw5)
  have e6:(upd H5 wy (.ins d.c_Way dx (putF "used" (.ref u) (putF "hand" (.ref h') (putF "basket" (.ref b) (putF "till" (.ref t) [])))))) h'=some (.lst (hand.map V.int)):=by rw[kaj nh];exact e5
  have eu6:(upd H5 wy (.ins d.c_Way dx (putF "used" (.ref u) (putF "hand" (.ref h') (putF "basket" (.ref b) (putF "till" (.ref t) [])))))) u=some (.lst (([]:List Nat).map iV)):=by rw[kaj nu];exact eu5
  have hw6:(upd H5 wy (.ins d.c_Way dx (putF "used" (.ref u) (putF "hand" (.ref h') (putF "basket" (.ref b) (putF "till" (.ref t) [])))))) wy=some (.ins d.c_Way dx (putF "used" (.ref u) (putF "hand" (.ref h') (putF "basket" (.ref b) (putF "till" (.ref t) []))))):=kac
  generalize upd H5 wy (.ins d.c_Way dx (putF "used" (.ref u) (putF "hand" (.ref h') (putF "basket" (.ref b) (putF "till" (.ref t) [])))))=H6 at *
  symm
  exists Y4
  refine⟨_,rfl,kkT (hb.same s6) hB hok fun H7 x s7 f7 hx=>?_⟩
  have hw7:=s7 _ _ hw6
  have fx:H0 x=none:=s6.free f7
  have nxw:x≠wy:=(kag hw6 f7).symm
  symm
  exists Y4
  refine⟨_,rfl,wy,d.c_Way,dx,_,rfl,hw7,W.c_Way.cl,W.qZ,few (UT (kak (kak (kak (kak (n:=0) (UR _))))) (by decide)),?_⟩
  symm
  refine k _ x (kas fw (s6.trans s7) (nx hw7)) fx ⟨fw,dx,_,h',u,none_of s2 hh',none_of s4 hu,kac,?_,?_,?_,?_,?_,?_,?_,?_,?_,?_,?_,?_⟩ ?_
  ·ac_nf
  ·ac_nf
  ·ac_nf
  ·ac_nf
  ·ac_nf
  ·ac_nf
   rfl
  ·ac_nf
   rfl
  ·ac_nf
   rfl
  ·ac_nf
   rfl
  ·exact UT (kak (kak (kak (kak (kak (n:=0) (UR _)))))) (by decide)
  ·rw[kaj nh];exact s7 _ _ e6
  ·rw[kaj nu];exact s7 _ _ eu6
  ·obtain⟨o,pp,mm,⟨dxs,fss,hxs,q⟩,ho,hpp,hmm⟩:=hx
   symm
   exact⟨o,pp,mm,⟨dxs,fss,by rw[kaj nxw];exact hxs,q⟩,by rw[kaj (ne_of ho hw7 (by intro z;cases z))];exact ho,by rw[kaj (ne_of hpp hw7 (by intro z;cases z))];exact hpp,by rw[kaj (ne_of hmm hw7 (by intro z;cases z))];exact hmm⟩
theorem kiA{d:D}{H:Hp}{t b h:Addr}{hand:List Int}{B:Bask}{R:Addr→Hp→Prop}{E:XK}(hh:H h=some (.lst (hand.map V.int)))(hb:BaskIs d.qf d.qg H b B)(hB:B.rs.length≤12)(hok:∀r∈B.rs,r.Ok)
  (k:∀(H':Hp)(w x:Addr),Same H H'→H w=none→H x=none→WayN d 5 H H' w t b x hand []→StndIs d.qc H' x (stnd0 B)→R w H'):
  ∀w dx,H w=none→H dx=none→dx≠w→khY d [.ref w, .ref t, .ref b, .ref h] (upd (upd H dx (.own w)) w (.ins d.c_Way dx [])) (fun v H2=>v=.non∧R w H2) E:=
 fun w dx nw nd _=>⟨H,w,dx,t,b,h,hand,B,rfl,nw,kba nw nd,kac,hh,hb,hB,hok,fun H' x s f hW hx=>⟨rfl,k H' w x s nw f hW hx⟩⟩
inductive kfh (d:D) (vs:List V) (H:Hp) (Q:VK) (E_:XK):Prop
 |ct (wy t b x:Addr)(T:TillD)(B:Bask)(S:Stnd)(hand:List Int)(used:List Nat)(n:Nat)(V:Vch)(_:vs=[.ref wy,iV n])(_:WayIs d H wy t b x hand used)(_:TillIs d H t T)(_:BaskIs d.qf d.qg H b B)(_:StndIs d.qc H x S)(_:Wf T.ps B S)(_:VchOk T.ps V)(_:T.vs[n]?=some V)(_:hand.length=T.vs.length)(_:∀(H':Hp),Same H H'→Q (dueM V T B hand used S n) H'):kfh d vs H Q E_
theorem ZK:kao ["self","number","word"] ["self","number"] (kaf kbV):=by ac_rfl
theorem kd4(W:WB K mg d base):FO P w W 5 d.YM d.YN ["self","number"] (kfh d):=by
 exists W.QT.F,ZK
 ·obtain⟨wy,t,b,x,T,B,S,hand,used,n,Vc,rfl,hW,hT,hB,hS,wf,vo,hn,hl,k⟩:=h
  obtain⟨dxw,fsw,h,u,hw,w1,w2,w3,w4,w5,w6,w7,w8,w9,w10,hh,hu⟩:=id hW
  obtain⟨dx,fs,p,vl,rl,va,ra,ht,t1,t2,t3,t4,hp,hvl,hva,hrl,hra⟩:=id hT
  exists VD,kdz,W
  exists VE,kfy,W
  exists hr2,2,hr,0
  refine⟨_,kad (psl (i:=2) ZK.nd (pcl VD hr2 W.Za (kaa (kam (K:=K) (pv 0) rfl) (kaa (kam (K:=K) (pv 0) rfl) (kaa (kam (K:=K) (pv 0) rfl) (kaa (pv 1) kae))))))
   (kad (ps_if (kaq kda (pv 2) kaS (kau _)) (kai (kan (pv 2))) (kat))
   (kai (kan (pcl VE hr W.YZ (kaa (pe_ix (r:=rIxL K) kaK (kam (K:=K) (kam (K:=K) (pv 0) rfl) rfl) (pv 1) (fun _ _=>rfl)) (kaa (kam (K:=K) (kam (K:=K) (pv 0) rfl) rfl) (kaa (kam (K:=K) (pv 0) rfl) (kaa (kam (K:=K) (pv 0) rfl) kae)))))))),?_⟩
  obtain⟨v,ev⟩:=at_of (xs:=va) (i:=n) (by rw[hva.len];exact at_lt hn)
  obtain⟨Vc',eV',hV⟩:=hva.at ev
  rw[hn] at eV'
  cases eV'
  refine⟨_,rfl,wy,d.c_Way,dxw,fsw,_,rfl,hw,W.c_Way.cl,W.qw,w1,_,rfl,wy,d.c_Way,dxw,fsw,_,rfl,hw,W.c_Way.cl,W.QS,w3,_,rfl,wy,d.c_Way,dxw,fsw,_,rfl,hw,W.c_Way.cl,W.qB,w4,_,rfl,t,h,u,T,hand,used,n,Vc,rfl,hT,hh,hu,hn,hl,?_⟩
  unfold dueM at k
  cases e:wordM Vc T.rs hand used n with
  |some z=>
   rw[e] at k
   refine⟨_,rfl,rfl,_,rfl,?_⟩
   show if(!decide (V.str z=V.non))=true then _ else _
   rw[show(!decide (V.str z=V.non))=true by simp]
   exact iteT ⟨_,rfl,k H (Same.refl _)⟩
  |none=>
   rw[e] at k
   refine⟨_,rfl,rfl,_,rfl,?_⟩
   show if(!decide (V.non=V.non))=true then _ else _
   rw[show(!decide (V.non=V.non))=false by simp]
   refine iteF ⟨_,rfl,wy,d.c_Way,dxw,fsw,_,rfl,hw,W.c_Way.cl,W.qw,w1,t,d.qd,dx,fs,_,rfl,ht,W.qd.cl,W.qt,t2,_,rfl,vl,_,_,_,rfl,rfl,SqL.of hvl,ka5 (v:=.ref v) (by rw[UY,ev];rfl),?_⟩
   refine⟨_,rfl,wy,d.c_Way,dxw,fsw,_,rfl,hw,W.c_Way.cl,W.qw,w1,t,d.qd,dx,fs,_,rfl,ht,W.qd.cl,W.qG,t1,_,rfl,wy,d.c_Way,dxw,fsw,_,rfl,hw,W.c_Way.cl,W.qY,w2,_,rfl,wy,d.c_Way,dxw,fsw,_,rfl,hw,W.c_Way.cl,W.qZ,w5,?_⟩
   exact⟨v,p,b,x,Vc,T.ps,B,S,rfl,hV,SqL.of hp,hB,hS,wf,vo,k⟩
inductive kgP (d:D) (vs:List V) (H:Hp) (Q:VK) (E_:XK):Prop
 |ct (wy t b x:Addr)(T:TillD)(B:Bask)(S:Stnd)(hand:List Int)(used:List Nat)(n:Nat)(V:Vch)(_:vs=[.ref wy,iV n])(_:WayIs d H wy t b x hand used)(_:TillIs d H t T)(_:BaskIs d.qf d.qg H b B)(_:StndIs d.qc H x S)(_:Wf T.ps B S)(_:VchOk T.ps V)(_:T.vs[n]?=some V)(_:used.length<64)(_:∀(H':Hp)(wy' x':Addr),Same H H'→H wy'=none→WayN d 7 H H' wy' t b x' hand (used++[n])→StndN d.qc H H' x' (aftM V T.ps (kds B) S)→Q (.ref wy') H'):kgP d vs H Q E_
theorem ZL:kao ["self","number","further"] ["self","number"] (kaf kck):=by ac_rfl
theorem ke2(W:WB K mg d base):FO P w W 6 d.YO d.YQ ["self","number"] (kgP d):=by
 exists W.QU.F,ZL
 ·obtain⟨wy,t,b,x,T,B,S,hand,used,n,Vc,rfl,hW,hT,hB,hS,wf,vo,hn,hl,k⟩:=h
  obtain⟨dxw,fsw,h,u,hw,w1,w2,w3,w4,w5,w6,w7,w8,w9,w10,hh,hu⟩:=id hW
  obtain⟨dx,fs,p,vl,rl,va,ra,ht,t1,t2,t3,t4,hp,hvl,hva,hrl,hra⟩:=id hT
  exists qP,kcH,W
  exists VF,kjA,W
  refine⟨_,kad (psl (i:=2) ZL.nd (ka7 (W.qE.mk' W.c_Way) qP hr rfl W.c_Way.m W.qE.b .nil pass0 (kaa (kam (K:=K) (pv 0) rfl) (kaa (kam (K:=K) (pv 0) rfl) (kaa (kam (K:=K) (pv 0) rfl) kae)))))
   (kad (kaD (pv 2) (pe_op klz (kam (K:=K) (pv 0) rfl) (kaN (kaa (pv 1) kae))) rfl)
   (kad (kaD (pv 2) (pcl VF hr W.Y0 (kaa (pe_ix (r:=rIxL K) kaK (kam (K:=K) (kam (K:=K) (pv 0) rfl) rfl) (pv 1) (fun _ _=>rfl)) (kaa (kam (K:=K) (kam (K:=K) (pv 0) rfl) rfl) (kaa (kam (K:=K) (pv 0) rfl) (kaa (kam (K:=K) (pv 0) rfl) kae))))) rfl)
   (kai (kan (pv 2))))),?_⟩
  obtain⟨v,ev⟩:=at_of (xs:=va) (i:=n) (by rw[hva.len];exact at_lt hn)
  obtain⟨Vc',eV',hV⟩:=hva.at ev
  rw[hn] at eV'
  cases eV'
  exists Y4
  refine⟨_,rfl,wy,d.c_Way,dxw,fsw,_,rfl,hw,W.c_Way.cl,W.qw,w1,_,rfl,wy,d.c_Way,dxw,fsw,_,rfl,hw,W.c_Way.cl,W.qY,w2,_,rfl,wy,d.c_Way,dxw,fsw,_,rfl,hw,W.c_Way.cl,W.QS,w3,kiA hh hB wf.nl wf.ok fun H1 y x1 s1 fy fx1 hy hx1=>?_⟩
  obtain⟨_,dxy,fsy,h1,u1,fh1,_,hyy,y1,y2,y3,y4,y5,y6,y7,y8,y9,y10,hh1,hu1⟩:=hy
  symm
  exists Y4
  refine⟨_,rfl,wy,d.c_Way,dxw,fsw,_,rfl,s1 _ _ hw,W.c_Way.cl,W.qB,w4,_,rfl,(by show 1≤sizeLine;decide),fun q1 hq1=>?_⟩
  have n2:=kal (o:=.lst [iV n]) hq1
  have eq1:(upd H1 q1 (.lst [iV n])) q1=some (.lst [iV n]):=kac
  have s2:=s1.trans n2
  have hy2:=n2 _ _ hyy
  have hh2:=n2 _ _ hh1
  clear n2
  generalize upd H1 q1 (.lst [iV n])=H2 at *
  symm
  exists Y4
  refine⟨u,q1,_,_,rfl,rfl,s2 _ _ hu,eq1,U3 (kap (by rw[UP];show _+1≤1000;omega)),fun q2 hq2=>?_⟩
  have n3:=kal (o:=.lst (used.map iV++[iV n])) hq2
  have eq2:(upd H2 q2 (.lst (used.map iV++[iV n]))) q2=some (.lst ((used++[n]).map iV)):=by rw[kac,UZ];rfl
  have s3:=s2.trans n3
  have hy3:=n3 _ _ hy2
  have hh3:=n3 _ _ hh2
  have nq2:q2≠y:=(kag hy2 hq2).symm
  clear n3
  generalize upd H2 q2 (.lst (used.map iV++[iV n]))=H3 at *
  have nh1:h1≠y:=ne_of hh3 hy3 (by intro z;cases z)
  symm
  exists Y4
  refine⟨_,rfl,y,d.c_Way,dxy,fsy,rfl,hy3,W.c_Way.cl,W.qB,few (UT y10 (by decide)),?_⟩
  have s4:Same H (upd H3 y (.ins d.c_Way dxy (putF "used" (.ref q2) fsy))):=kas fy s3 (nx hy3)
  have eq4:(upd H3 y (.ins d.c_Way dxy (putF "used" (.ref q2) fsy))) q2=some (.lst ((used++[n]).map iV)):=by rw[kaj nq2];exact eq2
  have hh4:(upd H3 y (.ins d.c_Way dxy (putF "used" (.ref q2) fsy))) h1=some (.lst (hand.map V.int)):=by rw[kaj nh1];exact hh3
  have hy4:(upd H3 y (.ins d.c_Way dxy (putF "used" (.ref q2) fsy))) y=some (.ins d.c_Way dxy (putF "used" (.ref q2) fsy)):=kac
  generalize upd H3 y (.ins d.c_Way dxy (putF "used" (.ref q2) fsy))=H4 at *
  symm
  exists Y4
  refine⟨_,rfl,wy,d.c_Way,dxw,fsw,_,rfl,s4 _ _ hw,W.c_Way.cl,W.qw,w1,t,d.qd,dx,fs,_,rfl,s4 _ _ ht,W.qd.cl,W.qt,t2,_,rfl,vl,_,_,_,rfl,rfl,SqL.of (s4 _ _ hvl),ka5 (v:=.ref v) (by rw[UY,ev];rfl),?_⟩
  symm
  exists Y4
  refine⟨_,rfl,wy,d.c_Way,dxw,fsw,_,rfl,s4 _ _ hw,W.c_Way.cl,W.qw,w1,t,d.qd,dx,fs,_,rfl,s4 _ _ ht,W.qd.cl,W.qG,t1,_,rfl,wy,d.c_Way,dxw,fsw,_,rfl,s4 _ _ hw,W.c_Way.cl,W.qY,w2,_,rfl,wy,d.c_Way,dxw,fsw,_,rfl,s4 _ _ hw,W.c_Way.cl,W.qZ,w5,?_⟩
  symm
  exists Y4
  refine⟨v,p,b,x,Vc,T.ps,B,S,rfl,hV.same s4,SqL.of (s4 _ _ hp),hB.same s4,hS.same s4,wf,vo,fun H5 x' s5 f5 ⟨_,o,pp,mm,⟨dxs,fss,hxs,q⟩,fo,fpp,fmm,ho,hpp,hmm⟩=>?_⟩
  have hy5:=s5 _ _ hy4
  have hh5:=s5 _ _ hh4
  have eq5:=s5 _ _ eq4
  have nx':x'≠y:=(kag hy4 f5).symm
  symm
  exists Y4
  refine⟨_,rfl,y,d.c_Way,dxy,_,rfl,hy5,W.c_Way.cl,W.qZ,few (UT (kak y10) (by decide)),?_⟩
  symm
  exists Y4
  refine⟨_,rfl,k _ y x' (kas fy (s4.trans s5) (nx hy5)) fy ⟨fy,dxy,_,h1,q2,fh1,none_of s2 hq2,kac,?_,?_,?_,?_,?_,?_,?_,?_,?_,?_,?_,?_⟩ ?_⟩
  ·ac_nf
   symm
   exact y1
  ·ac_nf
   symm
   exact y2
  ·ac_nf
   symm
   exact y3
  ·ac_nf
  ·ac_nf
  ·ac_nf
   symm
   exact y6
  ·ac_nf
   symm
   exact y7
  ·ac_nf
   symm
   exact y8
  ·ac_nf
   symm
   exact y9
  ·exact UT (kak (kak y10)) (by decide)
  ·rw[kaj nh1];exact hh5
  ·rw[kaj nq2];exact eq5
  ·exact⟨none_of s4 f5,o,pp,mm,⟨dxs,fss,by rw[kaj nx'];exact hxs,q⟩,none_of s4 fo,none_of s4 fpp,none_of s4 fmm,by rw[kaj (ne_of ho hy5 (by intro z;cases z))];exact ho,by rw[kaj (ne_of hpp hy5 (by intro z;cases z))];exact hpp,by rw[kaj (ne_of hmm hy5 (by intro z;cases z))];exact hmm⟩
inductive kh6 (d:D) (vs:List V) (H:Hp) (Q:VK) (E_:XK):Prop
 |ct (wy t b x:Addr)(T:TillD)(hand:List Int)(used:List Nat)(_:vs=[.ref wy])(_:WayIs d H wy t b x hand used)(_:TillIs d H t T)(_:Q (.bl (onlyM T.rs used).isNone) H):kh6 d vs H Q E_
theorem kdv:kao ["self"] ["self"] (kaf kbz):=by ac_rfl
theorem kdC(W:WB K mg d base):FO P w W 2 d.YT d.YU ["self"] (kh6 d):=by
 exists W.QW.F,kdv
 ·obtain⟨wy,t,b,x,T,hand,used,rfl,hW,hT,k⟩:=h
  obtain⟨dxw,fsw,h,u,hw,w1,w2,w3,w4,w5,w6,w7,w8,w9,w10,hh,hu⟩:=id hW
  obtain⟨dx,fs,p,vl,rl,va,ra,ht,t1,t2,t3,t4,hp,hvl,hva,hrl,hra⟩:=id hT
  exists VG,kcQ,W
  refine⟨_,kai (kan (kbt kcv (pcl VG hr W.Zd (kaa (kam (K:=K) (kam (K:=K) (pv 0) rfl) rfl) (kaa (kam (K:=K) (pv 0) rfl) kae))) kaS (kau _))),?_⟩
  refine⟨_,rfl,wy,d.c_Way,dxw,fsw,_,rfl,hw,W.c_Way.cl,W.qw,w1,t,d.qd,dx,fs,_,rfl,ht,W.qd.cl,W.qH,t3,_,rfl,wy,d.c_Way,dxw,fsw,_,rfl,hw,W.c_Way.cl,W.qB,w4,rl,u,ra,T.rs,used,rfl,hrl,hra,hu,rfl,?_⟩
  cases e:onlyM T.rs used with
  |none=>
   rw[e] at k
   show Q (.bl (decide (V.non=V.non))) H
   rw[show decide (V.non=V.non)=true by simp]
   exact k
  |some z=>
   rw[e] at k
   show Q (.bl (decide (V.int (z:Int)=V.non))) H
   rw[show decide (V.int (z:Int)=V.non)=false by simp]
   exact k
noncomputable def canM(T:TillD)(B:Bask)(hand:List Int)(used:List Nat)(S:Stnd)(n:Nat):Bool:=match T.vs[n]? with
 |none=>false
 |some V=>decide (dueM V T B hand used S n=.non)
noncomputable def folM(T:TillD)(B:Bask)(hand:List Int)(used:List Nat)(S:Stnd):List Nat:=(UU T.vs.length).filter (canM T B hand used S)
theorem khu{p:Nat→Bool}{i:Nat}:(UU (i+1)).filter p=(UU i).filter p++(if p i=true then [i] else []):=by
 rw[JE,Nb,Nt,Mz]
inductive kgO (d:D) (vs:List V) (H:Hp) (Q:VK) (E_:XK):Prop
 |ct (wy t b x:Addr)(T:TillD)(B:Bask)(S:Stnd)(hand:List Int)(used:List Nat)(_:vs=[.ref wy])(_:WayIs d H wy t b x hand used)(_:TillIs d H t T)(_:kdr T)(_:BaskIs d.qf d.qg H b B)(_:StndIs d.qc H x S)(_:Wf T.ps B S)(_:hand.length=T.vs.length)(_:∀(H':Hp)(p:Addr),Same H H'→H p=none→H' p=some (.lst ((folM T B hand used S).map iV))→Q (.ref p) H'):kgO d vs H Q E_
theorem kdw:kao ["self"] ["self"] (kaf kbc):=by ac_rfl
theorem kdD(W:WB K mg d base):FO P w W 6 d.YR d.YS ["self"] (kgO d):=by
 exists W.QV.F,kdw
 ·obtain⟨wy,t,b,x,T,B,S,hand,used,rfl,hW,hT,tok,hB,hS,wf,hl,kk⟩:=h
  obtain⟨dxw,fsw,h,u,hw,w1,w2,w3,w4,w5,w6,w7,w8,w9,w10,hh,hu⟩:=id hW
  obtain⟨dx,fs,p,vl,rl,va,ra,ht,t1,t2,t3,t4,hp,hvl,hva,hrl,hra⟩:=id hT
  exists VH,kd4,W
  refine⟨_,kai (kan (kg1 (N:=["number","self"]) (CompScope.of (N:=["number","self"]) (cap:=[none,some 0]) (kaf kbc).names ["self"] rfl rfl (by decide +kernel)) rfl (kbZ rfl W.B.range (kaa (kaw (r:=kbd K) kaA (by rfl) W.B.len b_len (kaa (kam (K:=K) (kam (K:=K) (pv 0) rfl) rfl) kae)) kae)) (fun _ _ _ _=>pgn (i:=0) (show(["number","self"]:List Str).Nodup by decide +kernel)) (fun _ _ _ _=>kir (kaq kcv (kit (pv 1) W.c_Way.cl W.QT.me VH hr W.QT.b .nil pass0 (kaa (pv 0) kae)) kaS (kau _))) (fun _ _ _ _=>(pv 0)))),?_⟩
  have nv:=tok.nv
  have lva:=hva.len
  refine⟨_,rfl,wy,d.c_Way,dxw,fsw,_,rfl,hw,W.c_Way.cl,W.qw,w1,t,d.qd,dx,fs,_,rfl,ht,W.qd.cl,W.qt,t2,vl,_,rfl, .inl (SqL.of hvl),_,rfl,by omega,by rw[UP];omega,?_⟩
  rw[show(((va.map V.ref).length:Nat):Int).toNat=T.vs.length by rw[UP];omega]
  refine kgw (fun i σ ys H'=>Same H H'∧ys=((UU i).filter (canM T B hand used S)).map iV∧∃v0:Option V,σ=[v0,some (.ref wy)]) ⟨Same.refl _,rfl,none,rfl⟩ (U3 (kap (by omega))) ?_ ?_ ?_
  ·rintro i σ ys H' hi ⟨_,rfl,_⟩
   rw[UP]
   exact UT (Nu _ _) (by rw[List.length_range];exact UR _)
  ·rintro i σ ys H' hi ⟨s1,rfl,v0,rfl⟩
   rw[Int.zero_add]
   obtain⟨Vc,hV⟩:=at_of (xs:=T.vs) (i:=i) hi
   have vo:=tok.vs Vc (U1 hV)
   refine⟨_,rfl,wy,dxw,fsw,rfl,s1 _ _ hw,w6,_,rfl,wy,t,b,x,T,B,S,hand,used,i,Vc,rfl,hW.same s1,hT.same s1,hB.same s1,hS.same s1,wf,vo,hV,hl,fun H2 s2=>⟨rfl,_,rfl,?_⟩⟩
   have ec:canM T B hand used S i=decide (dueM Vc T B hand used S i=.non):=by unfold canM;rw[hV]
   rw[khu,ec]
   by_cases hn:dueM Vc T B hand used S i=.non
   ·rw[decide_eq_true hn]
    refine iteT ⟨_,rfl,s1.trans s2,?_,_,rfl⟩
    rw[if_pos rfl,UZ]
    rfl
   ·rw[decide_eq_false hn]
    refine iteF ⟨s1.trans s2,?_,_,rfl⟩
    rw[if_neg UX,JQ]
  ·rintro σ ys H' ⟨s1,rfl,v0,rfl⟩ q hq
   exact kk _ q (s1.trans (kal hq)) (s1.free hq) kac
noncomputable def remM(hand:List Int)(used:List Nat):Nat:=((UU hand.length).map fun m=>(hand.getD m 0-(used.count m:Int)).toNat).sum
theorem kgE{f g:Nat→Nat}{n:Nat}:∀{L:Nat},n<L→f n=g n+1→(∀m,m≠n→f m=g m)→((UU L).map f).sum=((UU L).map g).sum+1
 |0,h,_,_=>by omega
 | L+1,h,h1,h2=>by
  rw[JE,UZ,UZ,Nw,Nw]
  simp only[U4,Nf,Nv,MB]
  by_cases e:n=L
  ·subst e
   have:(UU n).map f=(UU n).map g:=JA fun m hm=>h2 m (by have:=Ma.mp hm;omega)
   rw[this,h1]
   omega
  ·rw[kgE (by omega) h1 h2,h2 L (Ne.symm e)]
   omega
theorem kgW{hand:List Int}{used:List Nat}{n:Nat}(hn:n<hand.length)(h:(used.count n:Int)+1≤hand.getD n 0):remM hand used=remM hand (used++[n])+1:=by
 unfold remM
 refine kgE hn ?_ fun m hm=>?_
 ·rw[List.count_append,show List.count n [n]=1 by simp]
  generalize hand.getD n 0=g at *
  omega
 ·rw[List.count_append]
  have:List.count m [n]=0:=by simp[Ne.symm hm]
  rw[this]
  simp
theorem kkF:∀(hand:List Int),(∀z∈hand,0≤z)→(remM hand []:Int)=hand.sum:=by
 intro hand h
 have key:∀(L:Nat),L≤hand.length→((((UU L).map fun m=>(hand.getD m 0-((([]:List Nat).count m:Nat):Int)).toNat).sum:Nat):Int)=(hand.take L).sum:=by
  intro L
  induction L with
  |zero=>intro _;rfl
  |succ L ih=>
   intro hL
   have hz:hand[L]?=some hand[L]:=JM (by omega)
   have e:hand.take (L+1)=hand.take L++[hand[L]]:=by rw[JN,hz];rfl
   have h0:=h hand[L] (Mm _)
   rw[JE,UZ,Nw,e,Nw]
   simp only[U4,Nf,Nv,MB,List.count_nil]
   have eg:hand.getD L 0=hand[L]:=by rw[Jc,hz];rfl
   rw[eg]
   have:=ih (by omega)
   simp only[List.count_nil] at this
   omega
 have:=key hand.length (UR _)
 rw[Jn] at this
 exact this
theorem kkr{p:Nat→Bool}{f:Nat→Nat}(h:∀m,p m=true→1≤f m):∀L:Nat,((UU L).filter p).length≤((UU L).map f).sum
 |0=>UR _
 | L+1=>by
  have ih:=kkr h L
  rw[JE,Nb,U9,UZ,Nw]
  simp only[U4,Nf,Nv,MB,Nt,Mz]
  by_cases e:p L=true
  ·have:=h L e
   rw[if_pos e]
   simp
   omega
  ·rw[if_neg e]
   simp
   omega
noncomputable def fan:Nat→Nat
 |0=>1
 |r+1=>1+(r+1)*fan r
theorem khg{α:Type}{f:Nat→List α}{k:Nat}:∀{l:List Nat},(∀n∈l,(f n).length≤k)→(l.flatMap f).length≤l.length*k
 |[],_=>by simp
 |a::l,h=>by
  have ih:=khg (f:=f) (k:=k) (l:=l) fun n hn=>h n (Jb _ hn)
  rw[List.flatMap_cons,U9,Jp,Nat.add_mul,Nat.one_mul]
  have:=h a Ji
  omega
theorem khi:∀{r s:Nat},r≤s→fan r≤fan s
 |r,0,h=>by rw[Nat.le_zero.mp h];exact UR _
 | r,s+1,h=>by
  by_cases e:r=s+1
  ·rw[e];exact UR _
  ·have:=khi (r:=r) (s:=s) (by omega)
   show fan r≤1+(s+1)*fan s
   have h2:fan s≤(s+1)*fan s:=Nat.le_mul_of_pos_left _ (by omega)
   omega
variable {T:TillD}{B:Bask}{hand:List Int}
theorem ke9{used:List Nat}{S:Stnd}{n:Nat}(h:canM T B hand used S n=true):n<T.vs.length∧(used.count n:Int)+1≤hand.getD n 0:=by
 unfold canM at h
 cases e:T.vs[n]? with
 |none=>rw[e] at h;cases h
 | some V=>
  rw[e] at h
  refine⟨at_lt e,?_⟩
  have h1:dueM V T B hand used S n=.non:=of_decide_eq_true h
  unfold dueM wordM at h1
  by_cases c1:hand.getD n 0<(used.count n:Int)+1
  ·rw[if_pos c1] at h1
   cases h1
  ·omega
theorem kkk{used:List Nat}{S:Stnd}(hl:hand.length=T.vs.length):(folM T B hand used S).length≤remM hand used:=by
 unfold folM remM
 rw[←hl]
 refine kkr (fun m hm=>?_) _
 have:=(ke9 hm).2
 omega
noncomputable def waysM(T:TillD)(B:Bask)(hand:List Int):Nat→List Nat→Stnd→List (List Nat×Stnd)
 |0,_,_=>[]
 |k+1,used,S=>(if(onlyM T.rs used).isNone=true then [(used,S)] else [])++(folM T B hand used S).flatMap fun n=>match T.vs[n]? with
  |none=>[]
  |some V=>waysM T B hand k (used++[n]) (aftM V T.ps (kds B) S)
noncomputable def Deep(T:TillD)(B:Bask)(hand:List Int):Nat→List Nat→Stnd→Prop
 |0,_,_=>False
 |k+1,used,S=>∀n∈folM T B hand used S,∀V,T.vs[n]?=some V→Deep T B hand k (used++[n]) (aftM V T.ps (kds B) S)
theorem WayN.same{d:D}{m:Nat}{H0 H H':Hp}{w t b x:Addr}{hand:List Int}{used:List Nat}(s:Same H H'):WayN d m H0 H w t b x hand used→WayN d m H0 H' w t b x hand used:=fun⟨f,dx,fs,h,u,f1,f2,h1,h2,h3,h4,h5,h6,h7,h8,h9,h10,h11,h12,h13⟩=>
 ⟨f,dx,fs,h,u,f1,f2,s _ _ h1,h2,h3,h4,h5,h6,h7,h8,h9,h10,h11,s _ _ h12,s _ _ h13⟩
theorem StndN.same{C x:Addr}{H0 H H':Hp}{S:Stnd}(s:Same H H'):StndN C H0 H x S→StndN C H0 H' x S:=fun⟨f,o,p,mk,⟨dx,fs,hx,r⟩,f1,f2,f3,h1,h2,h3⟩=>⟨f,o,p,mk,⟨dx,fs,s _ _ hx,r⟩,f1,f2,f3,s _ _ h1,s _ _ h2,s _ _ h3⟩
noncomputable def WayQ(d:D)(t b:Addr)(hand:List Int)(H0 H:Hp)(w:Addr)(q:List Nat×Stnd):Prop:=∃x,WayN d 7 H0 H w t b x hand q.1∧StndN d.qc H0 H x q.2
theorem WayQ.same{d:D}{t b w:Addr}{hand:List Int}{H0 H H':Hp}{q:List Nat×Stnd}(s:Same H H'):WayQ d t b hand H0 H w q→WayQ d t b hand H0 H' w q:=fun⟨x,h1,h2⟩=>⟨x,h1.same s,h2.same s⟩
theorem WayQ.rmv{d:D}{t b w z:Addr}{hand:List Int}{H0 H1 H:Hp}{q:List Nat×Stnd}(s:Same H0 H1)(hz:H1 z≠none):WayQ d t b hand H1 H w q→WayQ d t b hand H0 (Vs.rmv z H) w q:=fun⟨x,⟨f,dx,fs,h,u,f1,f2,g,h2,h3,h4,h5,h6,h7,h8,h9,h10,h11,h12,h13⟩,⟨e,o,p,mk,⟨dy,gs,hx,r⟩,e1,e2,e3,k1,k2,k3⟩⟩=>
 ⟨x,⟨none_of s f,dx,fs,h,u,none_of s f1,none_of s f2,(kbM hz f).trans g,h2,h3,h4,h5,h6,h7,h8,h9,h10,h11,(kbM hz f1).trans h12,(kbM hz f2).trans h13⟩,
  ⟨none_of s e,o,p,mk,⟨dy,gs,(kbM hz e).trans hx,r⟩,none_of s e1,none_of s e2,none_of s e3,(kbM hz e1).trans k1,(kbM hz e2).trans k2,(kbM hz e3).trans k3⟩⟩
inductive keo (d:D) (n:Nat) (vs:List V) (H:Hp) (Q:VK) (E_:XK):Prop
 |ct (H0:Hp)(wy t b:Addr)(T:TillD)(B:Bask)(S:Stnd)(hand:List Int)(used:List Nat)(_:vs=[.ref wy])(_:Same H0 H)(_:WayQ d t b hand H0 H wy (used,S))(_:TillIs d H t T)(_:kdr T)(_:BaskIs d.qf d.qg H b B)(_:Wf T.ps B S)(_:hand.length=T.vs.length)(_:Deep T B hand n used S)(_:used.length+n<64)(_:(waysM T B hand n used S).length≤1000)(_:∀(H':Hp)(p:Addr)(wl:List Addr),Same H H'→H p=none→H' p=some (.lst (wl.map V.ref))→P2 (fun w q=>WayQ d t b hand H0 H' w q) wl (waysM T B hand n used S)→Q (.ref p) H'):keo d n vs H Q E_
theorem khX{d:D}{vs:List V}{H:Hp}{Q:VK}{E:XK}(h:keo d 0 vs H Q E):False:=by
 obtain⟨_,_,_,_,_,_,_,_,_,_,_,_,_,_,_,_,_,h,_⟩:=h
 exact h
theorem kfM{α β:Type}{f: α→List β}{l:List α}{i:Nat}{a: α}(h:l[i]?=some a):(l.take (i+1)).flatMap f=(l.take i).flatMap f++f a:=by
 rw[take_snoc h,List.flatMap_append,List.flatMap_cons,MC,JQ]
theorem kk2{α β:Type}{f: α→List β}{l:List α}{i:Nat}:((l.take i).flatMap f).length≤(l.flatMap f).length:=by
 conv=>rhs;rw[←Mv i l,List.flatMap_append,U9]
 omega
theorem Q6:kao ["way","found","number"] ["way"] (kaf kcA):=by ac_rfl
theorem keh(W:WB K mg d base)(n:Nat)(G_rec:FO P w W (6+n) d.qI d.qJ ["way"] ((keo d) n)):FO P w W (6+n+1) d.qI d.qJ ["way"] ((keo d) (n+1)):=by
 refine FunD.ok W.qF.F Q6 (fun vs H Q E h=>?_) (fun cdv A outer s H vs Q E hr h=>?_)
 ·obtain⟨H0,wy,t,b,T,B,S,hand,used,rfl,_⟩:=h
  rfl
 ·obtain⟨H0,wy,t,b,T,B,S,hand,used,rfl,s0,hq,hT,tok,hB,wf,hl,hdp,h64,hlen,kk⟩:=h
  exists VI,kdC,W
  exists VJ,kdD,W
  exists VL,ke2,W
  have hr2:Room 2 _:=hr.mono (by omega)
  have hr6:Room 6 _:=hr.mono (by omega)
  refine⟨_,kad (psl (i:=1) Q6.nd (kdi (kbu (kaX (kg0 (pv 0) W.c_Way.cl W.QW.me VI hr2 W.QW.b .nil pass0)) (kaN (kaa (pv 0) kae)) (kaN kae))))
   (kad (ka6 PassesOwn.never rfl (kaE (K:=K) (kg0 (pv 0) W.c_Way.cl W.QV.me VJ hr6 W.QV.b .nil pass0)) (pgn (i:=2) Q6.nd)
   (kai (kaU (pe_bm JF N4 N5 kcU (pv 1) (kaa (kiu G_rec hr rfl W.qF.m W.qF.F.kp W.qF.b .nil pass0 (kaa (kit (pv 0) W.c_Way.cl W.QU.me VL hr6 W.QU.b .nil pass0 (kaa (pv 2) kae)) kae)) kae)))))
   (kai (kan (pv 1)))),?_⟩
  obtain⟨x,hY,hS⟩:=id hq
  have hYI:=hY.at
  have hSI:=hS.is
  obtain⟨dxw,fsw,hd,u,hw,w1,w2,w3,w4,w5,w6,w7,w8,w9,w10,hh,hu⟩:=id hYI
  have hws:waysM T B hand (n+1) used S=(if(onlyM T.rs used).isNone=true then [(used,S)] else [])++(folM T B hand used S).flatMap fun m=>match T.vs[m]? with
   |none=>[]
   |some V=>waysM T B hand n (used++[m]) (aftM V T.ps (kds B) S):=rfl
  generalize hpre:(if(onlyM T.rs used).isNone=true then [(used,S)] else [])=pre at hws
  have hdp':∀m∈folM T B hand used S,∀V,T.vs[m]?=some V→Deep T B hand n (used++[m]) (aftM V T.ps (kds B) S):=hdp
  generalize hfm:(fun m=>match T.vs[m]? with
   |none=>[]
   |some V=>waysM T B hand n (used++[m]) (aftM V T.ps (kds B) S))=fm at hws
  refine⟨fun v H1=>∃(fo:Addr)(wl:List Addr),v=.ref fo∧Same H H1∧H fo=none∧H1 fo=some (.lst (wl.map V.ref))∧P2 (fun w q=>WayQ d t b hand H0 H w q) wl pre,?_,?_⟩
  ·refine⟨_,rfl,wy,dxw,fsw,rfl,hw,w8,wy,t,b,x,T,hand,used,rfl,hYI,hT,_,rfl,?_⟩
   cases e:(onlyM T.rs used).isNone with
   |true=>
    rw[e,if_pos rfl] at hpre
    subst hpre
    exact iteT ⟨_,rfl,(by show 1≤sizeLine;decide),fun fo ffo=>⟨fo,[wy],rfl,kal ffo,ffo,kac, .cons hq .nil⟩⟩
   |false=>
    rw[e,if_neg UX] at hpre
    subst hpre
    exact iteF ⟨(by show 0≤sizeLine;decide),fun fo ffo=>⟨fo,[],rfl,kal ffo,ffo,kac, .nil⟩⟩
  rintro v H1 ⟨fo,wl0,rfl,s1,ffo,efo0,hwl0⟩
  refine⟨_,rfl,wy,dxw,fsw,rfl,s1 _ _ hw,w9,wy,t,b,x,T,B,S,hand,used,rfl,hYI.same s1,hT.same s1,tok,hB.same s1,hSI.same s1,wf,hl,fun H2 fl s2 ffl efl=>?_⟩
  have s02:=s1.trans s2
  refine⟨fl,rfl,⟨_,SqL.of efl⟩,kbe (xs:=(folM T B hand used S).map iV) (fun i σ H'=>Same H H'∧H' fl=some (.lst ((folM T B hand used S).map iV))∧∃(Hw:Hp)(wl:List Addr)(v2:Option V),Same Hw H'∧Same H0 Hw∧Hw fo=none∧H' fo=some (.lst (wl.map V.ref))∧P2 (fun w q=>WayQ d t b hand H0 Hw w q) wl (pre++((folM T B hand used S).take i).flatMap fm)∧σ=[some (.ref wy),some (.ref fo),v2])
   ⟨s02,efl,H,wl0,none,s02,s0,ffo,s2 _ _ efo0,by rw[List.take_zero,MC,JQ];exact hwl0,rfl⟩ (fun i σ H' _ h=>SqL.of h.2.1) ?_ ?_⟩
  ·rintro i y σ H' hy ⟨sI,efl',Hw,wl,v2,sw,s0w,fwo,efo,hwl,rfl⟩
   obtain⟨m,em,rfl⟩:∃m,(folM T B hand used S)[i]?=some m∧y=iV m:=kbI hy
   have hmem:=U1 em
   have hm:m<T.vs.length:=by
    unfold folM at hmem
    exact Ma.mp (JB.mp hmem).1
   obtain⟨Vc,hV⟩:=at_of hm
   have vo:=tok.vs Vc (U1 hV)
   have efm:fm m=waysM T B hand n (used++[m]) (aftM Vc T.ps (kds B) S):=by rw[←hfm];simp only[hV]
   have hle:=kk2 (f:=fm) (l:=folM T B hand used S) (i:=i+1)
   rw[kfM em,U9] at hle
   rw[hws,U9] at hlen
   have lwl:=hwl.len
   rw[U9] at lwl
   refine⟨_,rfl, .inl ⟨rfl,_,SqL.of efo⟩,_,rfl,wy,dxw,fsw,rfl,sI _ _ hw,w7,_,rfl,wy,t,b,x,T,B,S,hand,used,m,Vc,rfl,hYI.same sI,hT.same sI,hB.same sI,hSI.same sI,wf,vo,hV,by omega,fun H4 wy' x' s4 f4 hY' hx'=>?_⟩
   have s04:=sI.trans s4
   refine⟨H',wy',t,b,T,B,aftM Vc T.ps (kds B) S,hand,used++[m],rfl,s4,⟨x',hY',hx'⟩,hT.same s04,tok,hB.same s04,wf.after vo,hl,hdp' m hmem Vc hV,(by rw[U9,Ng];omega),(by rw[←efm];omega),fun H5 p5 wl5 s5 f5 e5 hwl5=>?_⟩
   have s15:=s4.trans s5
   have efo5:=s15 _ _ efo
   rw[←efm] at hwl5
   have l5:=hwl5.len
   refine⟨fo,p5,_,_,rfl,rfl,efo5,e5,U3 (kap (by rw[UP,UP];omega)),?_⟩
   rw[←UZ]
   have hfo':H' fo≠none:=by rw[efo];intro z;cases z
   have nfl:fl≠fo:=fun e=>by
    rw[e] at ffl
    rw[efo0] at ffl
    cases ffl
   have bw:=kkE (x:=fo) (H:=H5) (nx efo5)
   have sw5:=kho (sw.trans s15) bw fwo
   have s0H':Same H0 H':=s0.trans sI
   refine⟨kas ffo (sI.trans s15) (nx efo5),by rw[kaj nfl];exact s15 _ _ efl',Vs.rmv fo H5,wl++wl5,_,kho kkD (kar (nx efo5)) kih,s0w.trans sw5,kih,kac,?_,rfl⟩
   rw[kfM em,←J7]
   exact P2.append (hwl.mono fun w q h=>h.same sw5) (hwl5.mono fun w q h=>h.rmv s0H' hfo')
  ·rintro σ H' ⟨sI,_,Hw,wl,v2,sw,s0w,fwo,efo,hwl,rfl⟩
   rw[UP,Jn,←hws] at hwl
   exact⟨_,rfl,kk H' fo wl sI ffo efo (hwl.mono fun w q h=>h.same sw)⟩
theorem kcP(W:WB K mg d base):∀n:Nat,FO P w W (6+n) d.qI d.qJ ["way"] ((keo d) n)
 |0=>⟨fun _ _ _ _ h=>(khX h).elim,fun _ _ _ _ _ _ _ _ _ _ _ _ _ h=>(khX h).elim⟩
 |n+1=>keh W n (kcP W n)
theorem kdj(W:WB K mg d base):FO P w W 16 d.qI d.qJ ["way"] ((keo d) 10):=kcP W 10
theorem ki1(hl:hand.length=T.vs.length):∀(k:Nat)(used:List Nat)(S:Stnd),remM hand used<k→Deep T B hand k used S
 |0,_,_,h=>by omega
 |k+1,used,S,h=>fun n hn V _=>by
  have hc:=(JB.mp hn).2
  obtain⟨h1,h2⟩:=ke9 hc
  have:=kgW (hand:=hand) (used:=used) (n:=n) (by omega) h2
  exact ki1 hl k _ _ (by omega)
theorem kgz{T:TillD}{B:Bask}{hand:List Int}(hl:hand.length=T.vs.length):∀(k:Nat)(used:List Nat)(S:Stnd),(waysM T B hand k used S).length≤fan (remM hand used)
 |0,_,_=>by unfold waysM;exact Jk _
 | k+1,used,S=>by
  have h0:(if(onlyM T.rs used).isNone=true then [(used,S)] else []).length≤1:=by split <;> simp
  unfold waysM
  rw[U9]
  cases er:remM hand used with
  |zero=>
   have hf:=kkk (T:=T) (B:=B) (used:=used) (S:=S) hl
   rw[er] at hf
   have:folM T B hand used S=[]:=List.length_eq_zero_iff.mp (Nat.le_zero.mp hf)
   rw[this,MC]
   show _+0≤1
   omega
  | succ r=>
   have hf:=kkk (T:=T) (B:=B) (used:=used) (S:=S) hl
   rw[er] at hf
   show _≤1+(r+1)*fan r
   refine UT (Nat.add_le_add h0 (khg (k:=fan r) (fun n hn=>?_))) (Nat.add_le_add_left (Nat.mul_le_mul_right _ hf) 1)
   cases e:T.vs[n]? with
   |none=>exact Jk _
   |some V=>
    have hc:=(JB.mp hn).2
    obtain⟨h1,h2⟩:=ke9 hc
    have hd:=kgW (hand:=hand) (used:=used) (n:=n) (by omega) h2
    have hi:=kgz (B:=B) hl k (used++[n]) (aftM V T.ps (kds B) S)
    rw[show remM hand (used++[n])=r by omega] at hi
    exact hi
theorem kiQ{S:Stnd}(hl:hand.length=T.vs.length)(hn:∀z∈hand,0≤z)(h5:hand.sum≤5):Deep T B hand 10 [] S∧(waysM T B hand 10 [] S).length≤1000:=by
 have e:=kkF hand hn
 have h:remM hand []≤5:=by omega
 exact⟨ki1 hl 10 [] S (by omega),UT (kgz hl 10 [] S) (UT (khi h) (by decide))⟩
theorem P2.memO{α β:Type}{R: α→β→Prop}:∀{as:List α}{bs:List β},P2 R as bs→∀a∈as,∃b∈bs,R a b
 |_,_, .nil,a,h=>by simp at h
 | _,_, .cons (a:=x) (b:=y) r t,a,h=>by
  rcases Jd.mp h with rfl|h
  ·exact⟨y,by simp,r⟩
  ·obtain⟨b,hb,q⟩:=P2.memO t a h
   exact⟨b,Jb _ hb,q⟩
theorem kgA{d:D}{m:Nat}{H:Hp}{w t b x:Addr}{hand:List Int}{used:List Nat}(hm:m≤7):WayAt d m H w t b x hand used→WayN d 7 (fun _=>none) H w t b x hand used:=fun⟨dx,fs,h,u,h1,h2,h3,h4,h5,h6,h7,h8,h9,h10,h11,h12,h13⟩=>
 ⟨rfl,dx,fs,h,u,rfl,rfl,h1,h2,h3,h4,h5,h6,h7,h8,h9,h10,UT h11 hm,h12,h13⟩
theorem kff{C x:Addr}{H:Hp}{S:Stnd}:StndIs C H x S→StndN C (fun _=>none) H x S:=fun⟨o,p,mk,h,h1,h2,h3⟩=>⟨rfl,o,p,mk,h,rfl,rfl,rfl,h1,h2,h3⟩
theorem kfs{H:Hp}:Same (fun _=>none) H:=fun b u e=>by cases e
inductive kgM (d:D) (vs:List V) (H:Hp) (Q:VK) (E_:XK):Prop
 |ct (t b h:Addr)(T:TillD)(B:Bask)(hand:List Int)(_:vs=[.ref t, .ref b, .ref h])(_:TillIs d H t T)(_:kdr T)(_:BaskIs d.qf d.qg H b B)(_:Wf T.ps B (stnd0 B))(_:H h=some (.lst (hand.map V.int)))(_:hand.length=T.vs.length)(_:Deep T B hand 10 [] (stnd0 B))(_:(waysM T B hand 10 [] (stnd0 B)).length≤1000)(_:∀(H':Hp)(p:Addr)(ol:List Addr),Same H H'→H p=none→H' p=some (.lst (ol.map V.ref))→P2 (fun o q=>H o=none∧H' o=some (.lst (q.map iV))) ol ((waysM T B hand 10 [] (stnd0 B)).map Prod.fst)→ol.Nodup→(∀o∈ol,o≠p)→Q (.ref p) H'):kgM d vs H Q E_
theorem kie:kao ["till","basket","hand"] ["till","basket","hand"] (kaf keR):=by ac_rfl
theorem kfx(W:WB K mg d base):FO P w W 17 d.XY d.XZ ["till","basket","hand"] (kgM d):=by
 exists W.Qy.F,kie
 ·obtain⟨t,b,h,T,B,hand,rfl,hT,tok,hB,wf0,hh,hl,hdp,hlen,kk⟩:=h
  exists Q7,kdj,W
  exists qP,kcH,W
  exists hr5,5,hr,0
  refine⟨_,kai (kan (kbF (N:=["way"]) (CompScope.plain rfl (by decide +kernel) (by decide +kernel) (by decide +kernel) (nd1 _)) rfl (kaE (K:=K) (pcl Q7 hr W.qF (kaa (ka7 (W.qE.mk' W.c_Way) qP hr5 rfl W.c_Way.m W.qE.b .nil pass0 (kaa (pv 0) (kaa (pv 1) (kaa (pv 2) kae)))) kae))) (fun _ _ _ _=>pgn (i:=0) (nd1 _)) (fun _ _ _ _=>(ka2 (r:=kbC K) kaI (by rfl) W.B.list kbP (kaa (kam (K:=K) (pv 0) rfl) kae))))),?_⟩
  refine⟨_,rfl,_,rfl,_,rfl,kiA hh hB wf0.nl wf0.ok fun H1 y x s1 fy fx hy hx=>?_⟩
  refine⟨fun _=>none,y,t,b,T,B,stnd0 B,hand,[],rfl,kfs,⟨x,kgA (by decide) hy.at,kff hx⟩,hT.same s1,tok,hB.same s1,wf0,hl,hdp,by decide,hlen,fun H2 p wl s2 fp ep hwl=>?_⟩
  have hws:=hwl.len
  have s02:=s1.trans s2
  refine⟨p,rfl,⟨_,SqL.of ep⟩,kaY (xs:=wl.map V.ref) (fun i σ ys H'=>Same H2 H'∧∃(ol:List Addr)(v0:Option V),ys=ol.map V.ref∧P2 (fun o q=>H o=none∧H' o=some (.lst (q.map iV))) ol (((waysM T B hand 10 [] (stnd0 B)).map Prod.fst).take i)∧ol.Nodup∧σ=[v0]) ⟨Same.refl _,[],none,rfl, .nil,NO,rfl⟩ (by rw[UP];exact U3 (kap (by omega))) ?_ ?_ ?_⟩
  ·rintro i σ ys H' hi ⟨s3,ol,v0,rfl,hol,_,rfl⟩
   rw[UP] at hi
   exact⟨SqL.of (s3 _ _ ep),by rw[UP,hol.len,U8,UP];omega⟩
  ·rintro i y σ ys H' hy ⟨s3,ol,v0,rfl,hol,hnd,rfl⟩
   obtain⟨w,ew,rfl⟩:=kbB hy
   obtain⟨q,eq,hw⟩:=hwl.at ew
   obtain⟨x',hW,_⟩:=hw.same s3
   obtain⟨_,dxw,fsw,hd,u,_,_,hwi,w1,w2,w3,w4,w5,w6,w7,w8,w9,w10,hh',hu⟩:=hW
   refine⟨_,rfl,w,d.c_Way,dxw,fsw,_,rfl,hwi,W.c_Way.cl,W.qB,w4,u,_,rfl, .inl (SqL.of hu),fun o fo=>?_⟩
   have n4:=kal (o:=.lst (q.1.map iV)) fo
   refine⟨s3.trans n4,ol++[o],_,by rw[UZ];rfl,?_,?_,rfl⟩
   ·rw[take_snoc (show((waysM T B hand 10 [] (stnd0 B)).map Prod.fst)[i]?=some q.1 by rw[UY,eq];rfl)]
    exact P2.snoc (hol.mono fun o q h=>⟨h.1,n4 _ _ h.2⟩) ⟨(s02.trans s3).free fo,kac⟩
   ·rw[N1]
    refine⟨hnd,by simp,fun a ha c hc=>?_⟩
    have e:c=o:=by simpa using hc
    rw[e]
    obtain⟨q',_,hq'⟩:=P2.memO hol a ha
    exact kag hq'.2 fo
  ·rintro σ ys H' ⟨s3,ol,v0,rfl,hol,hnd,rfl⟩ D hD
   rw[UP,hws,←UP (f:=Prod.fst),Jn] at hol
   have n4:=kal (o:=.lst (ol.map V.ref)) hD
   refine kk _ D ol ((s02.trans s3).trans n4) ((s02.trans s3).free hD) kac (hol.mono fun o q h=>⟨h.1,n4 _ _ h.2⟩) hnd fun o ho=>?_
   obtain⟨q',_,hq'⟩:=P2.memO hol o ho
   exact kag hq'.2 hD
noncomputable def withW(n:Nat):List (List Nat×Stnd)→Option (List Nat)
 |[]=>none
 |q::qs=>if q.1.contains n=true then some q.1 else withW n qs
noncomputable def LkW(H H':Hp)(v:V):Option (List Nat)→Prop
 |none=>v=.non
 |some o=>∃p l,v=.ref p∧H l=none∧H' p=some (.tup [.ref l])∧H' l=some (.lst (o.map iV))
inductive spOW (d:D) (vs:List V) (H:Hp) (Q:VK) (E_:XK):Prop
 |ct (wl t b:Addr)(wa:List Addr)(hand:List Int)(qs:List (List Nat×Stnd))(n:Nat)(_:vs=[.ref wl,iV n])(_:H wl=some (.lst (wa.map V.ref)))(_:P2 (fun wy q=>∃x,WayIs d H wy t b x hand q.1) wa qs)(_:∀(H':Hp)(v:V),Same H H'→LkW H H' v (withW n qs)→Q v H'):spOW d vs H Q E_
theorem ZM:kao ["ways","voucher","way"] ["ways","voucher"] (kaf kce):=by ac_rfl
theorem keY(W:WB K mg d base):FO P w W 1 d.X3 d.X4 ["ways","voucher"] (spOW d):=by
 exists W.Zf.F,ZM
 ·obtain⟨wl,t,b,wa,hand,qs,n,rfl,hwl,hwa,kk⟩:=h
  have lwa:=hwa.len
  refine⟨_,kad (ka6 PassesOwn.never rfl (kaE (K:=K) (pv 0)) (pgn (i:=2) ZM.nd)
   (kai (ps_if (kaq kbG (pv 1) (kam (K:=K) (pv 2) rfl) (by with_unfolding_all rfl)) (kai (kan (kcN (kaa (ka2 (r:=kbC K) kaI (by rfl) W.B.list kbP (kaa (kam (K:=K) (pv 2) rfl) kae)) kae)))) (kat))))
   (kai (kan kaS)),?_⟩
  generalize eR:withW n qs=R at kk
  refine⟨_,rfl,wl,rfl,⟨_,SqL.of hwl⟩,kbe (xs:=wa.map V.ref) (fun i σ H'=>H'=H∧∃(v2:Option V),withW n (qs.drop i)=R∧σ=[some (.ref wl),some (iV n),v2])
   ⟨rfl,none,eR,rfl⟩ (fun i σ H' _ h=>by rw[h.1];exact SqL.of hwl) ?_ ?_⟩
  ·rintro i y σ H1 hy ⟨rfl,v2,hR,rfl⟩
   obtain⟨wy,ew,rfl⟩:=kbB hy
   obtain⟨q,eq,x,hW⟩:=hwa.at ew
   have ed:qs.drop i=q::qs.drop (i+1):=by
    obtain⟨h1,h2⟩:=U0.mp eq
    rw[N6 h1,h2]
   rw[ed] at hR
   unfold withW at hR
   obtain⟨dxw,fsw,h,u,hw,w1,w2,w3,w4,w5,w6,w7,w8,w9,w10,hh',hu⟩:=id hW
   refine⟨_,rfl,_,rfl,wy,d.c_Way,dxw,fsw,_,rfl,hw,W.c_Way.cl,W.qB,w4,u,_,rfl, .inl (SqL.of hu),rfl,kbJ _,_,rfl,?_⟩
   rw[if_neg UX,kbX]
   cases hc:q.1.contains n with
   |true=>
    rw[hc,if_pos rfl] at hR
    refine iteT ⟨_,rfl,wy,d.c_Way,dxw,fsw,_,rfl,hw,W.c_Way.cl,W.qB,w4,u,_,rfl, .inl (SqL.of hu),fun l fl=>?_⟩
    exists H1,l,H3,n3,e3,fl
    refine⟨(by show 1≤sizeLine;decide),fun p fp=>?_⟩
    exists H3,p,H4,n4,e4,fp
    refine kk H4 (.ref p) (n3.trans n4) ?_
    rw[←hR]
    exact⟨p,l,rfl,fl,e4,n4 _ _ e3⟩
   |false=>
    rw[hc,if_neg UX] at hR
    exact iteF ⟨rfl,_,hR,rfl⟩
  ·rintro σ H1 ⟨rfl,v2,hR,rfl⟩
   rw[UP,lwa,N7] at hR
   refine kk H1 .non (Same.refl _) ?_
   rw[←hR]
   rfl
noncomputable def ones(T:TillD):List Int:=T.vs.map fun _=>(1:Int)
noncomputable def kbf(T:TillD)(n:Nat):List Bask→Nat→Option (Nat×List Nat)
 |[],_=>none
 |B::bs,i=>match withW n (waysM T B (ones T) 10 [] (stnd0 B)) with
  |some o=>some (i,o)
  |none=>kbf T n bs (i+1)
noncomputable def FdW(H H':Hp)(v:V):Option (Nat×List Nat)→Prop
 |none=>v=.non
 |some (i,o)=>∃p l,v=.ref p∧H p=none∧H l=none∧H' p=some (.tup [iV i, .ref l])∧H' l=some (.lst (o.map iV))
theorem WayAt.unt{d:D}{m:Nat}{H:Hp}{w t b x c:Addr}{co:Obj}{hand:List Int}{used:List Nat}(hc:H c=some (Fz c co)):WayAt d m H w t b x hand used→WayAt d m (unt c H) w t b x hand used:=fun⟨dx,fs,h,u,h1,h2,h3,h4,h5,h6,h7,h8,h9,h10,h11,h12,h13⟩=>
 ⟨dx,fs,h,u,(kaZ (ne_of h1 hc (by intro z;cases z))).trans h1,h2,h3,h4,h5,h6,h7,h8,h9,h10,h11,(kaZ (ne_of h12 hc (by intro z;cases z))).trans h12,(kaZ (ne_of h13 hc (by intro z;cases z))).trans h13⟩
inductive spLkL (d:D) (f c cc:Addr) (fo co:Obj) (qual:Str) (n:Nat) (vs:List V) (H:Hp) (Q:VK) (E_:XK):Prop
 |ct (wl t b:Addr)(wa:List Addr)(hand:List Int)(qs:List (List Nat×Stnd))(_:vs=[.ref wl])(_:H f=some (Fz f fo))(_:H c=some (Fz c co))(_:H cc=some (CodeO cc qual))(_:H wl=some (.lst (wa.map V.ref)))(_:P2 (fun wy q=>∃x,WayIs d H wy t b x hand q.1) wa qs)(_:∀(H':Hp)(v:V),Same H H'→LkW H H' v (withW n qs)→Q v H'):spLkL d f c cc fo co qual n vs H Q E_
theorem kg4:∀(l:List Vch),(l.map fun _=>(1:Int)).sum=l.length
 |[]=>rfl
 |_::l=>by
  rw[U4,Nv,kg4 l,Jp]
  omega
theorem kdY{T:TillD}{B:Bask}(h:T.vs.length≤5):Deep T B (ones T) 10 [] (stnd0 B)∧(waysM T B (ones T) 10 [] (stnd0 B)).length≤1000:=by
 refine kiQ (by unfold ones;rw[UP]) (fun z hz=>?_) (by unfold ones;rw[kg4];omega)
 unfold ones at hz
 obtain⟨_,_,rfl⟩:=Jf.mp hz
 decide
theorem khL:∀(k:Nat)(used:List Nat)(S:Stnd),(∀n∈used,n<T.vs.length)→∀q∈waysM T B hand k used S,(∀n∈q.1,n<T.vs.length)∧q.1.length≤used.length+k
 |0,used,S,_,q,h=>by simp[waysM] at h
 | k +1,used,S,hu,q,h=>by
  unfold waysM at h
  rcases Jy.mp h with h|h
  ·split at h
   ·rw[JG.mp h]
    exact⟨hu,by show used.length≤_;omega⟩
   ·simp at h
  ·obtain⟨n,hn,h2⟩:=List.mem_flatMap.mp h
   cases eV:T.vs[n]? with
   |none=>rw[eV] at h2;simp at h2
   | some V=>
    rw[eV] at h2
    obtain⟨g1,g2⟩:=khL k (used++[n]) _ (fun m hm=>by
     rcases Jy.mp hm with h'|h'
     ·exact hu m h'
     ·have e:m=n:=by simpa using h'
      rw[e]
      exact at_lt eV) q h2
    rw[U9,Ng] at g2
    exact⟨g1,by omega⟩
inductive kh7 (P:Program) (w:World) (K:UQ) (mg:Str→Option Value) (base:Heap) (d:D) (k:Nat) (vs:List V) (H:Hp) (Q:VK) (E_:XK):Prop
 |ct (t bl f c cc:Addr)(fo co:Obj)(qual:Str)(n:Nat)(fd:FuncData)(ba:List Addr)(T:TillD)(bs:List Bask)(_:vs=[.ref t, .ref bl, .ref f])(_:FnOk P w K mg base (CX0) k f fd ["ways"] (spLkL d f c cc fo co qual n))(_:fo.data=.func fd)(_:Binds K fd ["ways"] [])(_:H f=some (Fz f fo))(_:H c=some (Fz c co))(_:H cc=some (CodeO cc qual))(_:TillIs d H t T)(_:kdr T)(_:T.vs.length≤5)(_:H bl=some (.lst (ba.map V.ref)))(_:P2 (fun a B=>BaskIs d.qf d.qg H a B∧Wf T.ps B (stnd0 B)) ba bs)(_:∀(H':Hp)(v:V),Same H H'→FdW H H' v (kbf T n bs 0)→Q v H'):kh7 P w K mg base d k vs H Q E_
theorem Qf:kao ["till","baskets","look","number","basket","found"] ["till","baskets","look"] (kaf kb5):=by ac_rfl
theorem kel(W:WB K mg d base):FO P w W 20 d.X1 d.X2 ["till","baskets","look"] (kh7 P w K mg base d 19):=by
 exists W.Ze.F,Qf
 ·obtain⟨t,bl,f,c,cc,fo,co,qual,n,fd,ba,T,bs,rfl,Gl,hfo,bl9,hf9,hc9,hcc9,hT,tok,h5,hbl,hba,kk⟩:=h
  obtain⟨dx,fs,p,vl,rl,va,ra,ht,t1,t2,t3,t4,hp,hvl,hva,hrl,hra⟩:=id hT
  have lba:=hba.len
  have lva:=hva.len
  exists Q7,kdj,W
  exists qP,kcH,W
  exists hr5,5,hr,0
  exists hr16,16,hr,0
  refine⟨_,kad (ka6 PassesOwn.never rfl (kge rfl W.B.enum (kaa (pv 1) kae)) (kbE (K:=K) (n:=2) rfl (kaB (pgn (i:=3) Qf.nd) (kaB (pgn (i:=4) Qf.nd) kbD)))
   (kad (psl (i:=5) Qf.nd (kjt (pv 2) Gl hr hfo bl9 (kaa (pcl Q7 hr16 W.qF (kaa (ka7 (W.qE.mk' W.c_Way) qP hr5 rfl W.c_Way.m W.qE.b .nil pass0 (kaa (pv 0) (kaa (pv 4) (kaa (kbF (N:=["voucher"]) (CompScope.plain rfl (by decide +kernel) (by decide +kernel) (by decide +kernel) (nd1 _)) rfl (kaE (K:=K) (kam (K:=K) (pv 0) rfl)) (fun _ _ _ _=>pgn (i:=0) (nd1 _)) (fun _ _ _ _=>kah)) kae)))) kae)) kae)))
   (kai (ps_if (kaq kda (pv 5) kaS (kau _)) (kai (kan (pe_op kkO (kcN (kaa (pv 3) kae)) (pv 5)))) (kat)))))
   (kai (kan kaS)),?_⟩
  generalize eR:kbf T n bs 0=R at kk
  refine⟨_,rfl,bl,_,rfl,hbl,khf (xs:=ba.map V.ref) (fun i σ H'=>Same H H'∧∃(v3 v4 v5:Option V),kbf T n (bs.drop i) i=R∧σ=[some (.ref t),some (.ref bl),some (.ref f),v3,v4,v5])
   ⟨Same.refl _,none,none,none,eR,rfl⟩ (fun i σ H' _ h=>h.1 _ _ hbl) ?_ ?_⟩
  ·rintro i yv tp σ H1 hyv ⟨s1,v3,v4,v5,hR,rfl⟩ ftp
   obtain⟨b,eb,rfl⟩:=kbB hyv
   obtain⟨B,eB,hB,wf0⟩:=hba.at eb
   have ed:bs.drop i=B::bs.drop (i+1):=by
    obtain⟨h1,h2⟩:=U0.mp eB
    rw[N6 h1,h2]
   rw[ed] at hR
   unfold kbf at hR
   exists H1,tp,H2,n2,e2,ftp
   have s2:=s1.trans n2
   refine⟨tp,_,rfl,SqT.of e2,rfl,_,_,rfl,_,_,rfl,rfl,?_⟩
   have lon:(ones T).length=T.vs.length:=by unfold ones;rw[UP]
   have nv:=tok.nv
   refine⟨rfl,_,rfl,_,rfl,_,rfl,t,d.qd,dx,fs,_,rfl,s2 _ _ ht,W.qd.cl,W.qt,t2,vl,rfl,⟨_,SqL.of (s2 _ _ hvl)⟩,kaY (xs:=va.map V.ref) (fun j σ ys H'=>H'=H2∧ys=((ones T).take j).map V.int∧∃v,σ=[v]) ⟨rfl,rfl,none,rfl⟩ (by rw[UP,lva];exact U3 (kap (by omega))) ?_ ?_ ?_⟩
   ·rintro j σ ys H' hj ⟨rfl,rfl,_⟩
    rw[UP] at hj
    exact⟨SqL.of (s2 _ _ hvl),by rw[UP,U8];omega⟩
   ·rintro j y σ ys H' hy ⟨rfl,rfl,v,rfl⟩
    have hj:j<T.vs.length:=by have:=at_lt hy;rw[UP,lva] at this;exact this
    have e1:(ones T)[j]?=some 1:=by
     unfold ones
     rw[UY]
     obtain⟨V,eV⟩:=at_of hj
     rw[eV]
     rfl
    refine⟨rfl,?_,_,rfl⟩
    rw[take_snoc e1,UZ]
    rfl
   rintro σ ys H' ⟨rfl,rfl,v,rfl⟩ hh fhh
   rw[UP,lva,←lon,Jn]
   exists H',hh,H3,n3,e3,fhh
   have s3:=s2.trans n3
   refine kiA e3 (hB.same s3) wf0.nl wf0.ok fun H4 y x s4 fy fx hy hx=>?_
   have s04:=s3.trans s4
   obtain⟨hdp,hlen⟩:=kdY (B:=B) h5
   refine⟨fun _=>none,y,t,b,T,B,stnd0 B,ones T,[],rfl,kfs,⟨x,kgA (by decide) hy.at,kff hx⟩,hT.same s04,tok,hB.same s04,wf0,lon,hdp,by decide,hlen,fun H5 p5 wl s5 fp ep hwl=>?_⟩
   have s05:=s04.trans s5
   refine⟨s05 _ _ hf9,p5,t,b,wl,ones T,waysM T B (ones T) 10 [] (stnd0 B),rfl,s05 _ _ hf9,s05 _ _ hc9,s05 _ _ hcc9,ep,hwl.mono (fun w q ⟨x,h1,_⟩=>⟨x,h1.at⟩),fun H6 v6 s6 hlk=>?_⟩
   have s06:=s05.trans s6
   cases cs:withW n (waysM T B (ones T) 10 [] (stnd0 B)) with
   |none=>
    rw[cs] at hR hlk
    have ev:v6=.non:=hlk
    subst ev
    refine⟨_,rfl,rfl,_,rfl,?_⟩
    rw[show(!decide (V.non=V.non))=false by simp]
    exact iteF ⟨s06,_,_,_,hR,rfl⟩
   |some o=>
    rw[cs] at hR hlk
    obtain⟨p7,l,rfl,fl,ep7,el⟩:=hlk
    refine⟨_,rfl,rfl,_,rfl,?_⟩
    rw[show(!decide (V.ref p7=V.non))=true by simp]
    refine iteT ⟨_,rfl,(by show 1≤sizeLine;decide),fun t8 ft8=>?_⟩
    exists H6,t8,H8,n8,e8,ft8
    refine⟨_,rfl,t8,p7,_,_,rfl,rfl,SqT.of e8,SqT.of (n8 _ _ ep7),(fun z=>by cases z),(by show 2≤sizeLine;decide),(fun z=>by cases z),fun _ r9 fr9=>?_⟩
    exists H8,r9,H9,n9,e9,fr9
    refine kk H9 (.ref r9) ((s06.trans n8).trans n9) ?_
    rw[←hR]
    exact⟨r9,l,rfl,(s06.trans n8).free fr9,s05.free fl,e9,n9 _ _ (n8 _ _ el)⟩
  ·rintro σ H1 ⟨s1,v3,v4,v5,hR,rfl⟩
   rw[UP,lba,N7] at hR
   refine kk H1 .non s1 ?_
   rw[←hR]
   rfl
inductive kj8 (d:D) (vs:List V) (H:Hp) (Q:VK) (E_:XK):Prop
 |ct (t bl:Addr)(n:Nat)(ba:List Addr)(T:TillD)(bs:List Bask)(_:vs=[.ref t,iV n, .ref bl])(_:TillIs d H t T)(_:kdr T)(_:T.vs.length≤5)(_:H bl=some (.lst (ba.map V.ref)))(_:P2 (fun a B=>BaskIs d.qf d.qg H a B∧Wf T.ps B (stnd0 B)) ba bs)(_:TbAt d.tP_first_use H)(_:∀(H':Hp)(v:V),Same H H'→FdW H H' v (kbf T n bs 0)→Q v H'):kj8 d vs H Q E_
theorem kfo:kao ["till","voucher","baskets"] ["till","voucher","baskets"] (kaf kaT):=by ac_rfl
theorem kfz(W:WB K mg d base):FO P w W 21 d.X0 d.Ql ["till","voucher","baskets"] (kj8 d):=by
 refine FunD.okC W.qU.F kfo (fun vs H Q E h=>?_) (fun A outer s H vs Q E hr h=>?_)
 ·obtain⟨t,bl,n,ba,T,bs,rfl,_⟩:=h
  rfl
 ·obtain⟨t,bl,n,ba,T,bs,rfl,hT,tok,h5,hbl,hba,htb,kk⟩:=h
  exists VM,kel,W
  exists G_ow,keY,W
  refine⟨_,kai (kan (kju (y:="voucher") (i:=1) VM hr W.Ze (kaa (pv 0) (kaa (pv 2) (kaa (klv (x:="ways") (N:=["ways","voucher"]) (cap:=[some 1]) ⟨CompScope.of (N:=["ways","voucher"]) (cap:=[none,some 1]) (kaf kaT).names ["till","voucher","baskets"] rfl rfl (by decide +kernel),rfl,rfl,rfl,rfl,by decide +kernel⟩ W.code_first_use W.ck_first_use W.blt) kae))) rfl rfl rfl)),?_⟩
  refine⟨_,rfl,_,rfl,htb,fun H2 f cc pm ctv G f0 f2 ecc=>⟨_,rfl,fun c co uy hcell hc hco ry=>?_⟩⟩
  generalize lamN _=ql at *
  generalize hfo:J8 "<lambda>" _ _ _ _ _ pm cc ctv=fo at *
  have s2:=G.same htb
  have n3:=kal (o:=Fz f fo) f2
  have e3:(upd H2 f (Fz f fo)) f=some (Fz f fo):=kac
  have ecc3:=n3 _ _ ecc
  generalize upd H2 f (Fz f fo)=H3 at *
  have n4:=kal (o:=Fz c co) hc
  have e4:(upd H3 c (Fz c co)) c=some (Fz c co):=kac
  have ef4:=n4 _ _ e3
  have ecc4:=n4 _ _ ecc3
  have s03:=s2.trans n3
  have h0c:=s03.free hc
  have s04:=s03.trans n4
  generalize upd H3 c (Fz c co)=H4 at *
  have G_lam:=klB (P:=P) (w:=w) (K:=K) (mg:=mg) (base:=base) (k:=18) (f:=f) (c:=c) (cc:=cc) (fo:=fo) (co:=co) (x:="ways") (y:="voucher") (vy:=iV n) (uy:=uy) ⟨rfl,rfl,rfl,by decide +kernel,by decide +kernel,rfl,rfl⟩ (klL (x:="ways") (y:="voucher") ⟨rfl,rfl,rfl,by decide +kernel,by decide +kernel,rfl,rfl⟩ hcell) hfo.symm hco ry (fun A outer s H hr=>pcl G_ow (hr.mono (by decide)) W.Zf (kaa (pv 0) (kaa (pv 1) kae)))
  have VN:=G_lam.imp (sp':=spLkL d f c cc fo co ql n) (fun vs H Q E ⟨wl,t,b,wa,hand,qs,e,h1,h2,h3,h4,h5,k⟩=>by
   subst e
   refine⟨_,rfl,h1,h2,h3,_,rfl,_,rfl,wl,t,b,wa,hand,qs,n,rfl,(kaZ (ne_of h4 h2 (by intro z;cases z))).trans h4,h5.mono fun wy q ⟨x,hw⟩=>⟨x,hw.unt h2⟩,fun H' v s hl hn=>k _ v (kif h2 s hn) ?_⟩
   cases e:withW n qs with
   |none=>
    rw[e] at hl
    exact hl
   | some o=>
    rw[e] at hl
    obtain⟨p,l,e1,fl,e2,e3⟩:=hl
    have nl:l≠c:=kag e3 hn
    refine⟨p,l,e1,by rw[kaZ nl] at fl;exact fl,?_,?_⟩
    ·rw[kaj (kag e2 hn)]
     exact e2
    ·rw[kaj nl]
     exact e3)
  refine⟨t,bl,f,c,cc,fo,co,_,n,_,ba,T,bs,rfl,VN,by rw[←hfo],Binds.all fun us h=>?_,ef4,e4,ecc4,hT.same s04,tok,h5,s04 _ _ hbl,hba.mono fun a B h=>⟨h.1.same s04,h.2⟩,fun H' v s5 hfd hcz=>?_⟩
  ·obtain⟨u,rfl⟩:∃u,us=[u]:=by
    match us,h with
    |[u],_=>exact⟨u,rfl⟩
   rfl
  refine kk _ v (kkC h0c (s04.trans s5) hcz) ?_
  cases e:kbf T n bs 0 with
  |none=>
   rw[e] at hfd
   exact hfd
  |some z=>
   obtain⟨i,o⟩:=z
   rw[e] at hfd
   obtain⟨p,l,e1,fp,fl,e2,e3⟩:=hfd
   exact⟨p,l,e1,s04.free fp,s04.free fl,(kaZ (ne_of e2 hcz (by intro z;cases z))).trans e2,(kaZ (ne_of e3 hcz (by intro z;cases z))).trans e3⟩
theorem keN:kao ["_law_found"] ["_law_found"] (kaf kcf):=by ac_rfl
theorem kcS(W:WB K mg d base):FO P w W 1 d.X5 d.X6 ["_law_found"] kgG:=by
 exists W.Qz.F,keN
 ·obtain⟨n,rfl,k⟩:=h
  refine⟨_,kai (kan (kiv (kaw (r:=rIsi K) kaW (by rfl) W.B.isi b_isi (kaa (pv 0) (kaa (keW (v:=.ty "int") (by rfl) W.B.int b_int rfl) kae))) (kgZ (klu (kaw (r:=rIsi K) kaW (by rfl) W.B.isi b_isi (kaa (pv 0) (kaa (keW (v:=.ty "bool") (by rfl) W.B.bool klO rfl) kae))))))),?_⟩
  exact⟨_,rfl,_,_,_,_,rfl, .inl ⟨_,rfl⟩,TyOf.int _,kbO _ _,_,rfl,iteT ⟨_,rfl,_,_,_,_,rfl, .inl ⟨_,rfl⟩,TyOf.int _,kfH _,_,rfl,k⟩⟩
theorem kf8:kao ["_law_cell","_law_factor","_law_prime"] ["_law_cell","_law_factor","_law_prime"] (kaf kc5):=by ac_rfl
theorem kbi(W:WB K mg d base):FO P w W 1 d.X7 d.X8 ["_law_cell","_law_factor","_law_prime"] spMix:=by
 exists W.qr.F,kf8
 ·obtain⟨c,f,p,rfl,hf,hp,k⟩:=h
  refine⟨_,kai (kan (pe_op kaz (pe_op kdX (pv 0) (pv 1)) (pv 2))),?_⟩
  exact⟨_,rfl,_,rfl,_,_,rfl,rfl, .inr hf,_,rfl,_,_,rfl,rfl,hp,k⟩
noncomputable def coinM(c:Int):Int:=if c%4=0 then c/4%10 else if c%4=1 then c/4%1000 else if c%4=2 then(if c/4%4=0 then 0 else if c/4%4=1 then 1 else if c/4%4=2 then 999999999999 else 1000000000000) else c/4*48271%1000000000001
theorem ki6(c:Int):0≤coinM c∧coinM c≤1000000000000:=by
 unfold coinM
 repeat' split
 all_goals omega
theorem dec_ii{i j:Int}:(decide (V.int i=V.int j)=true)↔i=j:=by
 rw[decide_eq_true_iff]
 exact⟨fun h=>by injection h,fun h=>by rw[h]⟩
inductive kia (vs:List V) (H:Hp) (Q:VK) (E_:XK):Prop
 |ct (c:Int)(_:vs=[.int c])(_:∀(H':Hp),Same H H'→Q (.int (coinM c)) H'):kia vs H Q E_
theorem ZN:kao ["_law_cell","_law_how"] ["_law_cell"] (kaf kcF):=by ac_rfl
theorem kdl(W:WB K mg d base):FO P w W 1 d.X9 d.Ya ["_law_cell"] kia:=by
 exists W.QA.F,ZN
 ·obtain⟨c,rfl,kk⟩:=h
  refine⟨_,kad (psl (i:=1) ZN.nd (pe_op kaz (pv 0) kah))
   (kad (ps_if (kaq op_eq (pv 1) kah (kau _)) (kai (kan (pe_op kaz (pe_op kaC (pv 0) kah) kah))) (kat))
   (kad (ps_if (kaq op_eq (pv 1) kah (kau _)) (kai (kan (pe_op kaz (pe_op kaC (pv 0) kah) kah))) (kat))
   (kad (ps_if (kaq op_eq (pv 1) kah (kau _)) (kai (kan (pe_ix (r:=rIxL K) kaK (kaN (kaa kah (kaa kah (kaa kah (kaa kah kae))))) (pe_op kaz (pe_op kaC (pv 0) kah) kah) (fun _ _=>rfl)))) (kat))
   (kai (kan (pe_op kaz (pe_op kdX (pe_op kaC (pv 0) kah) kah) kah)))))),?_⟩
  have hcm:coinM c=if c%4=0 then c/4%10 else if c%4=1 then c/4%1000 else if c%4=2 then(if c/4%4=0 then 0 else if c/4%4=1 then 1 else if c/4%4=2 then 999999999999 else 1000000000000) else c/4*48271%1000000000001:=rfl
  have kk0:=kk H (Same.refl _)
  refine⟨_,rfl,_,_,rfl,rfl,(by show(0:Int)<4;decide),?_⟩
  refine⟨_,rfl,rfl,_,rfl,ite2 (fun h=>?_) (fun h=>?_)⟩
  ·have h0:=dec_ii.mp h
   rw[hcm,if_pos h0] at kk0
   exact⟨_,rfl,_,_,rfl,rfl,⟨by decide,by decide⟩,_,_,rfl,rfl,(by show(0:Int)<10;decide),kk0⟩
  have h0:¬c%4=0:=fun z=>h (dec_ii.mpr z)
  refine⟨_,rfl,rfl,_,rfl,ite2 (fun h=>?_) (fun h=>?_)⟩
  ·have h1:=dec_ii.mp h
   rw[hcm,if_neg h0,if_pos h1] at kk0
   exact⟨_,rfl,_,_,rfl,rfl,⟨by decide,by decide⟩,_,_,rfl,rfl,(by show(0:Int)<1000;decide),kk0⟩
  have h1:¬c%4=1:=fun z=>h (dec_ii.mpr z)
  refine⟨_,rfl,rfl,_,rfl,ite2 (fun h=>?_) (fun h=>?_)⟩
  ·have h2:=dec_ii.mp h
   refine⟨(by show 4≤sizeLine;decide),fun l fl=>?_⟩
   exists H,l,H1,n1,e1,fl
   have kk1:=kk H1 n1
   rw[hcm,if_neg h0,if_neg h1,if_pos h2] at kk1
   have hix:atI [V.int 0,V.int 1,V.int 999999999999,V.int 1000000000000] (c/4%4)=some (.int (if c/4%4=0 then 0 else if c/4%4=1 then 1 else if c/4%4=2 then 999999999999 else 1000000000000)):=by
    have hc:c/4%4=0∨c/4%4=1∨c/4%4=2∨c/4%4=3:=by omega
    rcases hc with e|e|e|e <;> rw[e] <;> rfl
   exact⟨_,rfl,_,_,rfl,rfl,⟨by decide,by decide⟩,_,_,rfl,rfl,(by show(0:Int)<4;decide),l,_,_,_,rfl,rfl,SqL.of e1,hix,kk1⟩
  have h2:¬c%4=2:=fun z=>h (dec_ii.mpr z)
  rw[hcm,if_neg h0,if_neg h1,if_neg h2] at kk0
  exact⟨_,rfl,_,_,rfl,rfl,⟨by decide,by decide⟩,_,_,rfl,rfl, .inr ⟨by decide,by decide⟩,_,_,rfl,rfl,(by show(0:Int)<1000000000001;decide),kk0⟩
inductive kj5 (vs:List V) (H:Hp) (Q:VK) (E_:XK):Prop
 |ct (c:Int)(_:vs=[.int c])(_:∀(H':Hp)(p:Addr)(ps:List (Option Nat)),Same H H'→H p=none→H' p=some (.lst (ps.map pV))→Good ps→ps.length≤4→0<ps.length→Q (.ref p) H'):kj5 vs H Q E_
theorem Qg:kao ["_law_cell","_law_parents_here","_law_k","_law_drawn"] ["_law_cell"] (kaf kbU):=by ac_rfl
theorem kd2(W:WB K mg d base):FO P w W 2 d.Yb d.Yc ["_law_cell"] kj5:=by
 exists W.Zg.F,Qg
 ·obtain⟨c,rfl,kk⟩:=h
  exists qo,kbi,W
  refine⟨_,kad (psl (i:=1) Qg.nd (kaN kae))
   (kad (ka6 PassesOwn.never rfl (kbZ rfl W.B.range (kaa (pe_op kbm kah (pe_op kaz (pv 0) kah)) kae)) (pgn (i:=2) Qg.nd)
   (kad (psl (i:=3) Qg.nd (pcl qo hr W.qr (kaa (pe_op kbm (pe_op kbm (pv 0) (pe_op kdX (pv 2) (pv 2))) kah) (kaa kah (kaa kah kae)))))
   (kai (kaU (pe_bm JF J4 J5 kbn (pv 1) (kaa (kdi (kbu (PW.pt (pw_or (kaq op_eq (pv 2) kah (kau _)) (kes (kaq op_eq (pe_op kaz (pv 3) kah) kah (kau _))))) kaS (pe_op kaz (pe_op kaC (pv 3) kah) (pv 2)))) kae))))))
   (kai (kan (pv 1)))),?_⟩
  refine⟨by decide,fun p fp=>?_⟩
  exists H,p,H1,n1,e1,fp
  obtain⟨m,em⟩:=Int.eq_ofNat_of_zero_le (show 0≤1+c%4 by omega)
  have hm4:m≤4∧0<m:=by omega
  refine⟨_,rfl,_,_,rfl,rfl,(by show(0:Int)<4;decide),_,_,rfl,rfl,_,rfl,by omega,by omega,?_⟩
  rw[show((1:Int)+c%4).toNat=m by omega]
  refine kcp (fun i σ H'=>Same H H'∧∃(ps:List (Option Nat))(v2 v3:Option V),σ=[some (.int c),some (.ref p),v2,v3]∧H' p=some (.lst (ps.map pV))∧ps.length=i∧Good ps)
   ⟨n1,[],none,none,rfl,e1,rfl,kjO⟩ ?_ ?_
  ·rintro i σ H' hi ⟨s2,ps,v2,v3,rfl,hp2,hl,hg⟩
   rw[Int.zero_add]
   refine⟨_,rfl,_,rfl,_,rfl,_,_,rfl,rfl, .inl ⟨by omega,by omega⟩,_,_,rfl,rfl,_,_,rfl,rfl,_,16807,2147483399,rfl,⟨by decide,by decide⟩,by decide,?_⟩
   dsimp only
   have hx0:0≤(c+(i:Int)*(i:Int)+1)*16807%2147483399:=by omega
   generalize (c+(i:Int)*(i:Int)+1)*16807%2147483399=mx at *
   refine⟨_,rfl, .inl ⟨rfl,_,SqL.of hp2⟩,?_⟩
   refine⟨fun v H3=>H3=H'∧∃o:Option Nat,v=pV o∧∀k,o=some k→k<i,?_,?_⟩
   ·refine⟨_,rfl,rfl,_,rfl,?_⟩
    show if decide (iV i=iV 0)=true then _ else _
    rw[kfN]
    by_cases h0:i=0
    ·rw[decide_eq_true h0]
     exact iteT (iteT ⟨rfl,none,rfl,fun k e=>by cases e⟩)
    ·rw[decide_eq_false h0]
     have k0:0≤mx/3%(i:Int):=Int.emod_nonneg _ (by omega)
     have k1:mx/3%(i:Int)<(i:Int):=Int.emod_lt_of_pos _ (by omega)
     refine iteF ⟨_,rfl,_,_,rfl,rfl,(by show(0:Int)<3;decide),rfl,_,rfl,ite2 (fun _=>⟨rfl,none,rfl,fun k e=>by cases e⟩) (fun _=>?_)⟩
     refine⟨_,rfl,_,_,rfl,rfl,⟨by decide,by decide⟩,_,rfl,_,_,rfl,rfl,(by show(0:Int)<(i:Int);omega),rfl,some (mx/3%(i:Int)).toNat,?_,fun k e=>by cases e;omega⟩
     show V.int _=V.int (((mx/3%(i:Int)).toNat:Nat):Int)
     rw[Int.toNat_of_nonneg k0]
   rintro v H3 ⟨rfl,o,rfl,ho⟩
   refine⟨p,_,_,rfl,rfl,hp2,kap (by rw[UP];omega),?_⟩
   refine⟨kas fp s2 (nx hp2),ps++[o],_,_,rfl,?_,by simp[hl],kiV hg (fun k e=>by rw[hl];exact ho k e)⟩
   rw[kac]
   simp
  ·rintro σ H' ⟨s2,ps,v2,v3,rfl,hp2,hl,hg⟩
   exact⟨_,rfl,kk H' p ps s2 fp hp2 hg (by omega) (by omega)⟩
inductive kgN (d:D) (vs:List V) (H:Hp) (Q:VK) (E_:XK):Prop
 |ct (c:Int)(ps:List (Option Nat))(_:vs=[.int c,iV ps.length])(_:0<ps.length)(_:∀(H':Hp)(x:Addr)(M:Mks),Same H H'→H x=none→MksIs d.qe H' x M→MksOk ps M→Q (.ref x) H'):kgN d vs H Q E_
theorem Qh:kao ["_law_cell","_law_kinds","_law_kind","_law_needs","_law_most_here"] ["_law_cell","_law_kinds"] (kaf kci):=by ac_rfl
theorem ke1(W:WB K mg d base):FO P w W 3 d.Yd d.Ye ["_law_cell","_law_kinds"] (kgN d):=by
 exists W.Zh.F,Qh
 ·obtain⟨c,ps,rfl,hn,kk⟩:=h
  exists qo,kbi,W
  exists QZ,kcT,W
  exists hr1,1,hr,0
  refine⟨_,kad (psl (i:=2) Qh.nd (kdi (kbu (kaq op_eq (pe_op kaz (pv 0) kah) kah (kau _)) kaS (pe_op kaz (pe_op kaC (pv 0) kah) (pv 1)))))
   (kad (psl (i:=3) Qh.nd (kdi (kbu (kaq op_gt (pe_op kaz (pe_op kaC (pv 0) kah) kah) kah (kau _)) kah (pe_op kaz (pcl qo hr1 W.qr (kaa (pv 0) (kaa kah (kaa kah kae)))) kah))))
   (kad (psl (i:=4) Qh.nd (kdi (kbu (kaq op_gt (pe_op kaz (pe_op kaC (pv 0) kah) kah) kah (kau _)) kaS (pe_op kaz (pcl qo hr1 W.qr (kaa (pv 0) (kaa kah (kaa kah kae)))) kah))))
   (kai (kan (ka7 (W.qW.mk' W.qe) QZ hr rfl W.qe.m W.qW.b .nil pass0 (kaa (pv 2) (kaa (pv 3) (kaa (pv 4) (kaa (kbt op_eq (pe_op kaz (pe_op kaC (pv 0) kah) kah) kah (kau _)) (kaa (kbt op_eq (pe_op kaz (pe_op kaC (pv 0) kah) kah) kah (kau _)) (kaa (kbt op_eq (pe_op kaz (pe_op kaC (pv 0) kah) kah) kah (kau _)) kae))))))))))),?_⟩
  refine⟨fun v H'=>H'=H∧∃kd:Option Nat,(∀k,kd=some k→k<ps.length)∧v=pV kd,?_,?_⟩
  ·refine⟨_,rfl,_,_,rfl,rfl,(by show(0:Int)<2;decide),rfl,_,rfl,ite2 (fun _=>⟨rfl,none,(fun z e=>by cases e),rfl⟩) (fun _=>?_)⟩
   have k0:0≤c/2%(ps.length:Int):=Int.emod_nonneg _ (by omega)
   have k1:c/2%(ps.length:Int)<(ps.length:Int):=Int.emod_lt_of_pos _ (by omega)
   refine⟨_,rfl,_,_,rfl,rfl,⟨by decide,by decide⟩,_,rfl,_,_,rfl,rfl,(by show(0:Int)<(ps.length:Int);omega),rfl,some (c/2%(ps.length:Int)).toNat,(fun k e=>by cases e;omega),?_⟩
   show V.int _=V.int (((c/2%(ps.length:Int)).toNat:Nat):Int)
   rw[Int.toNat_of_nonneg k0]
  rintro v H' ⟨rfl,kd,hkd,rfl⟩
  refine⟨fun v H2=>H2=H'∧∃nd:Int,(0≤nd∧nd≤1000000000000)∧v=.int nd,?_,?_⟩
  ·refine⟨_,rfl,_,_,rfl,rfl,⟨by decide,by decide⟩,_,_,rfl,rfl,(by show(0:Int)<3;decide),_,_,rfl,rfl,_,rfl,ite2 (fun _=>⟨rfl,0,⟨by decide,by decide⟩,rfl⟩) (fun _=>?_)⟩
   exact⟨_,rfl,c,48271,2147483647,rfl,⟨by decide,by decide⟩,by decide,_,_,rfl,rfl,(by show(0:Int)<60;decide),rfl,c*48271%2147483647%60,⟨by omega,by omega⟩,rfl⟩
  rintro v H2 ⟨rfl,nd,hnd,rfl⟩
  refine⟨fun v H3=>H3=H2∧∃mo:Option Int,(∀z,mo=some z→0≤z∧z≤1000000000000)∧v=oV mo,?_,?_⟩
  ·refine⟨_,rfl,_,_,rfl,rfl,⟨by decide,by decide⟩,_,_,rfl,rfl,(by show(0:Int)<4;decide),_,_,rfl,rfl,_,rfl,ite2 (fun _=>⟨rfl,none,(fun z e=>by cases e),rfl⟩) (fun _=>?_)⟩
   exact⟨_,rfl,c,69621,2147483629,rfl,⟨by decide,by decide⟩,by decide,_,_,rfl,rfl,(by show(0:Int)<40;decide),rfl,some (c*69621%2147483629%40),(fun y e=>by cases e;omega),rfl⟩
  rintro v H3 ⟨rfl,mo,hmo,rfl⟩
  have fin:∀b1 b2 b3:Bool,∀x dx,H3 x=none→H3 dx=none→dx≠x→kdG d.qe [.ref x,pV kd, .int nd,oV mo, .bl b1, .bl b2, .bl b3] (upd (upd H3 dx (.own x)) x (.ins d.qe dx [])) (fun v H2=>v=.non∧Q (.ref x) H2) E0:=fun b1 b2 b3=>kg8 (M:=⟨kd,nd,mo,b1,b2,b3⟩) fun H1 x s1 fx hM=>kk H1 x _ s1 fx hM ⟨hkd,hnd,hmo⟩
  refine⟨_,rfl,_,rfl,_,rfl,_,rfl,_,_,rfl,rfl,⟨by decide,by decide⟩,_,_,rfl,rfl,(by show(0:Int)<5;decide),rfl,_,rfl,_,_,rfl,rfl,⟨by decide,by decide⟩,_,_,rfl,rfl,(by show(0:Int)<3;decide),rfl,_,rfl,_,_,rfl,rfl,⟨by decide,by decide⟩,_,_,rfl,rfl,(by show(0:Int)<3;decide),rfl,?_⟩
  exact fin _ _ _
theorem at3V'{a b c:V}{i:Int}(h0:0≤i)(h3:i<3):∃v,atI [a,b,c] i=some v∧(v=a∨v=b∨v=c):=by
 obtain⟨n,rfl⟩:=Int.eq_ofNat_of_zero_le h0
 have hn:n<3:=by omega
 match n,hn with
 |0,_=>exact⟨a,rfl, .inl rfl⟩
 |1,_=>exact⟨b,rfl, .inr (.inl rfl)⟩
 |2,_=>exact⟨c,rfl, .inr (.inr rfl)⟩
theorem at2V{a b:V}{i:Int}(h0:0≤i)(h2:i<2):∃v,atI [a,b] i=some v∧(v=a∨v=b):=by
 obtain⟨n,rfl⟩:=Int.eq_ofNat_of_zero_le h0
 have hn:n<2:=by omega
 match n,hn with
 |0,_=>exact⟨a,rfl, .inl rfl⟩
 |1,_=>exact⟨b,rfl, .inr rfl⟩
inductive kgI (d:D) (vs:List V) (H:Hp) (Q:VK) (E_:XK):Prop
 |ct (c:Int)(ps:List (Option Nat))(_:vs=[.int c,iV ps.length])(_:0<ps.length)(_:Tbs d H)(_:∀(H':Hp)(x:Addr)(V:Vch),Same H H'→H x=none→VchIs d H' x V→VchOk ps V→Q (.ref x) H'):kgI d vs H Q E_
theorem Qi:kao ["_law_cell","_law_kinds","_law_marks_here","_law_sort","_law_rest"] ["_law_cell","_law_kinds"] (kaf kbT):=by ac_rfl
theorem kd1(W:WB K mg d base):FO P w W 6 d.Yf d.Yg ["_law_cell","_law_kinds"] (kgI d):=by
 exists W.Zi.F,Qi
 ·obtain⟨c,ps,rfl,hn,htb0,kk⟩:=h
  exists VO,ke1,W
  exists qo,kbi,W
  exists VP,kgj,W
  exists Q8,kdl,W
  exists VQ,ke3,W
  exists VR,kdE,W
  exists VS,kem,W
  exists VT,kdF,W
  exists hr1,1,hr,0
  exists hr3,3,hr,0
  refine⟨_,kad (psl (i:=2) Qi.nd (pcl VO hr3 W.Zh (kaa (pcl qo hr1 W.qr (kaa (pv 0) (kaa kah (kaa kah kae)))) (kaa (pv 1) kae))))
   (kad (psl (i:=3) Qi.nd (pe_op kaz (pv 0) kah))
   (kad (psl (i:=4) Qi.nd (pe_op kaC (pv 0) kah))
   (kad (ps_if (kaq op_lt (pv 3) kah (kau _)) (kai (kan (ka7 (W.QG.mk' W.c_Off) VP hr rfl W.c_Off.m W.QG.b .nil pass0 (kaa (pe_ix (r:=rIxL K) kaK (kaN (kaa (pe_op kaz (pv 4) kah) (kaa (pcl Q8 hr1 W.QA (kaa (pv 4) kae)) kae))) (pe_op kaC (pe_op kaz (pv 4) kah) kah) (fun _ _=>rfl)) (kaa (pv 2) kae))))) (kat))
   (kad (ps_if (kaq op_eq (pv 3) kah (kau _)) (kai (kan (ka7 (W.QH.mk' W.qh) VQ hr rfl W.qh.m W.QH.b .nil pass0 (kaa (pe_ix (r:=rIxL K) kaK (kaN (kaa kah (kaa (pe_op kbm kah (pe_op kaz (pe_op kaC (pv 4) kah) kah)) kae))) (pe_op kaz (pv 4) kah) (fun _ _=>rfl)) (kaa (kbt op_eq (pe_op kaz (pe_op kaC (pv 4) kah) kah) kah (kau _)) (kaa (pv 2) kae)))))) (kat))
   (kad (ps_if (kaq op_eq (pv 3) kah (kau _)) (kai (kan (ka7 (W.QI.mk' W.qj) VR hr rfl W.qj.m W.QI.b .nil pass0 (kaa (pe_op kbm kah (pe_op kaz (pv 4) kah)) (kaa (pv 2) kae))))) (kat))
   (kad (ps_if (kaq op_eq (pv 3) kah (kau _)) (kai (kan (ka7 (W.QJ.mk' W.qi) VS hr rfl W.qi.m W.QJ.b .nil pass0 (kaa (pe_op kbm kah (pe_op kaz (pv 4) kah)) (kaa (pe_op kaz (pe_op kaC (pv 4) kah) kah) (kaa (pv 2) kae)))))) (kat))
   (kai (kan (ka7 (W.QK.mk' W.qm) VT hr rfl W.qm.m W.QK.b .nil pass0 (kaa (pv 2) kae)))))))))),?_⟩
  exists Y4
  refine⟨_,rfl,c,39373,2147483587,rfl,⟨by decide,by decide⟩,by decide,_,rfl,_,ps,rfl,hn,fun H1 mA M s1 f1 hM hMo=>?_⟩
  symm
  exists Y4
  refine⟨_,rfl,_,_,rfl,rfl,(by show(0:Int)<6;decide),?_⟩
  symm
  exists Y4
  refine⟨_,rfl,_,_,rfl,rfl,⟨by decide,by decide⟩,?_⟩
  show gName 4 (V.int (c/6)) _ _ _
  generalize c/6=rs
  have fin:∀(so:Srt)(H2:Hp)(x:Addr),Same H1 H2→H1 x=none→VchIs d H2 x ⟨so,M⟩→SrtOk so→Q (.ref x) H2:=fun so H2 x s2 f2 hV hso=>kk H2 x _ (s1.trans s2) (s1.free f2) hV ⟨hso,hMo⟩
  have htb:Tbs d H1:=Tbs.same s1 htb0
  symm
  exists Y4
  refine⟨_,rfl,_,_,rfl,rfl,_,rfl,ite2 (fun _=>?_) (fun _=>?_)⟩
  ·refine⟨_,rfl,_,_,rfl,rfl,(by show(0:Int)<60;decide),_,rfl,_,rfl,fun H2 s2=>⟨(by show 2≤sizeLine;decide),fun l fl=>?_⟩⟩
   exists H2,l,H3,n3,e3,fl
   have s13:=s2.trans n3
   obtain⟨v,ev,hv⟩:=at2V (a:=.int (rs%60)) (b:=.int (coinM rs)) (i:=rs%7/6) (by omega) (by omega)
   have hco:=ki6 rs
   obtain⟨z,rfl,hz⟩:∃z:Int,v=.int z∧0≤z∧z≤1000000000000:=by
    rcases hv with rfl|rfl
    ·exact⟨_,rfl,by omega,by omega⟩
    ·exact⟨_,rfl,hco⟩
   symm
   exact⟨_,rfl,_,_,rfl,rfl,(by show(0:Int)<7;decide),_,_,rfl,rfl,⟨by decide,by decide⟩,l,_,_,_,rfl,rfl,SqL.of e3,ev,_,rfl,kfE (so:=.off z) ⟨_,rfl⟩ rfl (hM.same s13) (fun H4 x s4 f4 hV=>fin (.off z) H4 x (s13.trans s4) (s13.free f4) hV hz) (Tbs.same s13 htb)⟩
  symm
  exists Y4
  refine⟨_,rfl,rfl,_,rfl,ite2 (fun _=>?_) (fun _=>?_)⟩
  ·refine⟨_,rfl,_,_,rfl,rfl,⟨by decide,by decide⟩,_,_,rfl,rfl,(by show(0:Int)<1000;decide),_,_,rfl,rfl,(by show 2≤sizeLine;decide),fun l fl=>?_⟩
   exists H1,l,H3,n3,e3,fl
   obtain⟨v,ev,hv⟩:=at2V (a:=.int 1000) (b:=.int (1+rs/2%1000)) (i:=rs%2) (by omega) (by omega)
   obtain⟨sh,rfl,hsh⟩:∃sh:Int,v=.int sh∧1≤sh∧sh≤1000:=by
    rcases hv with rfl|rfl
    ·exact⟨1000,rfl,by decide,by decide⟩
    ·exact⟨_,rfl,by omega,by omega⟩
   have mk:∀b:Bool,∀x dx,H3 x=none→H3 dx=none→dx≠x→kdh d.qh d.qe (fun so=>∃s b,so=.share s b) (.ref x::([.int sh, .bl b]++[.ref mA])) (upd (upd H3 dx (.own x)) x (.ins d.qh dx [])) (fun v H2=>v=.non∧Q (.ref x) H2) E0:=fun b=>kfE (so:=.share sh b) ⟨_,_,rfl⟩ rfl (hM.same n3) (fun H4 x s4 f4 hV=>fin (.share sh b) H4 x (n3.trans s4) (n3.free f4) hV hsh) (Tbs.same n3 htb)
   symm
   exists Y6
   refine⟨_,rfl,_,_,rfl,rfl,(by show(0:Int)<2;decide),l,_,_,_,rfl,rfl,SqL.of e3,ev,_,rfl,_,_,rfl,rfl,⟨by decide,by decide⟩,_,_,rfl,rfl,(by show(0:Int)<2;decide),rfl,_,rfl,?_⟩
   nofun
   exact mk _
  symm
  exists Y4
  refine⟨_,rfl,rfl,_,rfl,ite2 (fun _=>?_) (fun _=>?_)⟩
  ·exact⟨_,rfl,_,_,rfl,rfl,(by show(0:Int)<2;decide),_,_,rfl,rfl,_,rfl,kfE (so:=.cheap (2+rs%2)) ⟨_,rfl⟩ rfl hM fun H2 x s2 f2 hV=>fin _ H2 x s2 f2 hV ⟨by omega,by omega⟩⟩
  symm
  exists Y4
  refine⟨_,rfl,rfl,_,rfl,ite2 (fun _=>?_) (fun _=>?_)⟩
  ·exact⟨_,rfl,_,_,rfl,rfl,(by show(0:Int)<2;decide),_,_,rfl,rfl,_,rfl,_,_,rfl,rfl,⟨by decide,by decide⟩,_,_,rfl,rfl,(by show(0:Int)<40;decide),_,rfl,kfE (so:=.bund (2+rs%2) (rs/2%40)) ⟨_,_,rfl⟩ rfl hM fun H2 x s2 f2 hV=>fin _ H2 x s2 f2 hV ⟨by omega,by omega,by omega,by omega⟩⟩
  symm
  exact⟨_,rfl,kfE (so:=.carr) rfl rfl hM fun H2 x s2 f2 hV=>fin _ H2 x s2 f2 hV trivial⟩
inductive kgJ (vs:List V) (H:Hp) (Q:VK) (E_:XK):Prop
 |ct (c:Int)(m:Nat)(_:vs=[.int c,iV m])(_:0<m)(_:∀(H':Hp)(l:Addr)(ra:List Addr)(rs:List Rul),Same H H'→H l=none→H' l=some (.lst (ra.map V.ref))→P2 (fun a r=>RulIs H' a r) ra rs→Q (.ref l) H'):kgJ vs H Q E_
theorem Qj:kao ["_law_cell","_law_many","_law_told","_law_k","_law_drawn"] ["_law_cell","_law_many"] (kaf kcg):=by ac_rfl
theorem keZ(W:WB K mg d base):FO P w W 2 d.Yh d.Yi ["_law_cell","_law_many"] kgJ:=by
 exists W.Zj.F,Qj
 ·obtain⟨c,m,rfl,hm,kk⟩:=h
  exists qo,kbi,W
  refine⟨_,kad (psl (i:=2) Qj.nd (kaN kae))
   (kad (ka6 PassesOwn.never rfl (kbZ rfl W.B.range (kaa (pe_op kaz (pv 0) kah) kae)) (pgn (i:=3) Qj.nd)
   (kad (psl (i:=4) Qj.nd (pcl qo hr W.qr (kaa (pe_op kbm (pe_op kbm (pv 0) (pe_op kdX (pe_op kdX kah (pv 3)) (pv 3))) kah) (kaa kah (kaa kah kae)))))
   (kai (kaU (pe_bm JF J4 J5 kbn (pv 2) (kaa (kcN (kaa (pe_ix (r:=rIxL K) kaK (kaN (kaa kb0 (kaa kb0 (kaa kb0 kae)))) (pe_op kaz (pv 4) kah) (fun _ _=>rfl)) (kaa (pe_op kaz (pe_op kaC (pv 4) kah) (pv 1)) (kaa (pe_op kaz (pe_op kaC (pv 4) kah) (pv 1)) kae)))) kae))))))
   (kai (kan (pv 2)))),?_⟩
  exists Y4
  refine⟨by decide,fun l fl=>?_⟩
  generalize hg1:upd H l _=H1
  obtain⟨s1,(el1:H1 l=some (.lst (([]:List Addr).map V.ref)))⟩:=kaF hg1 fl
  clear hg1
  symm
  exists Y4
  refine⟨_,rfl,_,_,rfl,rfl,(by show(0:Int)<4;decide),_,rfl,by omega,by omega,?_⟩
  symm
  refine kcp (fun i σ H'=>Same H H'∧∃(ra:List Addr)(rs:List Rul)(v3 v4:Option V),H' l=some (.lst (ra.map V.ref))∧P2 (fun a r=>RulIs H' a r) ra rs∧rs.length=i∧σ=[some (.int c),some (iV m),some (.ref l),v3,v4])
   ⟨s1,[],[],none,none,el1, .nil,rfl,rfl⟩ ?_ ?_
  ·rintro i σ H' hi ⟨s2,ra,rs,v3,v4,el,hr,hlen,rfl⟩
   have hi4:i<4:=by omega
   rw[Int.zero_add]
   symm
   exists Y6
   refine⟨_,rfl,_,rfl,_,_,rfl,rfl, .inl ⟨by decide,by decide⟩,_,rfl,_,_,rfl,rfl, .inr ⟨by omega,by omega⟩,_,_,rfl,rfl,_,_,rfl,rfl,_,40692,2147483579,rfl,⟨by decide,by decide⟩,by decide,?_⟩
   dsimp only
   have hx0:0≤(c+7*(i:Int)*(i:Int)+1)*40692%2147483579:=by omega
   generalize (c+7*(i:Int)*(i:Int)+1)*40692%2147483579=mx at *
   nofun
   exists Y6
   refine⟨_,rfl, .inl ⟨rfl,_,SqL.of el⟩,(by show 3≤sizeLine;decide),fun q1 hq1=>?_⟩
   exists H',q1,H3,n3,e3,hq1
   obtain⟨v,ev,hv⟩:=at3V' (a:=.str "only") (b:=.str "never") (c:=.str "ahead") (i:=mx%3) (by omega) (by omega)
   obtain⟨wd,rfl⟩:∃w:Str,v=.str w:=by
    rcases hv with rfl|rfl|rfl <;> exact⟨_,rfl⟩
   have x0:0≤mx/3%(m:Int):=Int.emod_nonneg _ (by omega)
   have y0:0≤mx/30%(m:Int):=Int.emod_nonneg _ (by omega)
   nofun
   exists Y6
   refine⟨_,rfl,_,_,rfl,rfl,(by show(0:Int)<3;decide),q1,_,_,_,rfl,rfl,SqL.of e3,ev,_,rfl,_,_,rfl,rfl,⟨by decide,by decide⟩,_,rfl,_,_,rfl,rfl,(by show(0:Int)<(m:Int);omega),_,rfl,_,_,rfl,rfl,⟨by decide,by decide⟩,_,rfl,_,_,rfl,rfl,(by show(0:Int)<(m:Int);omega),(by show 3≤sizeLine;decide),fun q hq=>?_⟩
   obtain⟨xn,ex⟩:=Int.eq_ofNat_of_zero_le x0
   obtain⟨yn,ey⟩:=Int.eq_ofNat_of_zero_le y0
   exists H3,q,H4,n4,e4',hq
   have e4:H4 q=some (.tup [V.str wd,V.int (xn:Int),V.int (yn:Int)]):=by
    rw[e4',←ex,←ey]
   have s34:=n3.trans n4
   have el4:=s34 _ _ el
   have s4:=s2.trans s34
   nofun
   exists Y6
   refine⟨l,_,_,rfl,rfl,el4,kap (by rw[UP,hr.len];omega),?_⟩
   have b5:But l H4 (upd H4 l (.lst (ra.map V.ref++[V.ref q]))):=kar (nx el4)
   nofun
   exists Y6
   refine⟨kas fl s4 (nx el4),ra++[q],rs++[⟨wd,xn,yn⟩],_,_,by rw[kac,UZ];rfl,P2.snoc (hr.mono fun a r h=>b5 _ _ (ne_of (s34 _ _ h) el4 (by intro z;cases z)) (s34 _ _ h)) (b5 _ _ (ne_of e4 el4 (by intro z;cases z)) e4),by rw[U9,hlen];rfl,rfl⟩
  ·rintro σ H' ⟨s2,ra,rs,v3,v4,el,hr,hlen,rfl⟩
   nofun
   exact⟨_,rfl,kk H' l ra rs s2 fl el hr⟩
theorem khN{d:D}{H H':Hp}{q v:Addr}{xs:List V}{Vc:Vch}(b:But q H H')(hq:H q=some (.lst xs)):VchIs d H v Vc→VchIs d H' v Vc:=by
 rintro⟨mA,dv,fv,h1,h2,h3,⟨dm,fm,hm,r⟩,h5,tb⟩
 have hn:∀{a C dx:Addr}{fs:List (Str×L2.V)},H a=some (.ins C dx fs)→a≠q:=fun h=>ne_of h hq (by intro z;cases z)
 refine⟨mA,dv,fv,b _ _ (hn h1) h1,h2,h3,⟨dm,fm,b _ _ (hn hm) hm,r⟩,h5,?_⟩
 obtain⟨ps,e,t⟩:=id tb
 exact(b _ _ (ne_of e hq (by intro z;cases z)) e).2 tb
inductive kh0 (K:UQ) (d:D) (vs:List V) (H:Hp) (Q:VK) (E_:XK):Prop
 |ct (a:Addr)(ns:List Int)(m:Nat)(_:vs=[.ref a,iV m])(_:SqL K H a (ns.map V.int))(_:ns.length≤63)(_:0<m)(_:m≤4)(_:Tbs d H)(_:∀(H':Hp)(t:Addr)(T:TillD),Same H H'→H t=none→TillIs d H' t T→kdr T→0<T.vs.length→T.vs.length≤4→Good T.ps→T.ps.length≤4→0<T.ps.length→Q (.ref t) H'):kh0 K d vs H Q E_
theorem qQ:kao ["_law_script","_law_most_here","_law_first","_law_parents_here","_law_vouchers","_law_k"] ["_law_script","_law_most_here"] (kaf kcC):=by ac_rfl
theorem kfA(W:WB K mg d base):FO P w W 7 d.Yj d.Yk ["_law_script","_law_most_here"] (kh0 K d):=by
 exists W.Zk.F,qQ
 ·obtain⟨a,ns,m,rfl,hS,hn,hm0,hm4,htb0,kk⟩:=h
  exists VU,kd2,W
  exists qo,kbi,W
  exists VV,kd1,W
  exists Q9,kdm,W
  exists VW,keZ,W
  exists hr1,1,hr,0
  exists hr2,2,hr,0
  refine⟨_,kad (psl (i:=2) qQ.nd (kb7 (r:=rSlL K) kcz (pe_op kkP (pv 0) (kaN (kaa kah (kaa kah (kaa kah (kaa kah (kaa kah (kaa kah kae)))))))) kdS (kb6 kah)))
   (kad (psl (i:=3) qQ.nd (pcl VU hr2 W.Zg (kaa (pcl qo hr1 W.qr (kaa (pe_ix (r:=rIxL K) kaK (pv 2) kah (fun _ _=>rfl)) (kaa kah (kaa kah kae)))) kae)))
   (kad (psl (i:=4) qQ.nd (kaN kae))
   (kad (ka6 PassesOwn.never rfl (kbZ rfl W.B.range (kaa (pe_op kbm kah (pe_op kaz (pe_op kaC (pe_ix (r:=rIxL K) kaK (pv 2) kah (fun _ _=>rfl)) kah) (pv 1))) kae)) (pgn (i:=5) qQ.nd)
   (kai (kaU (pe_bm JF J4 J5 kbn (pv 4) (kaa (pcl VV hr W.Zi (kaa (pcl qo hr1 W.qr (kaa (pe_op kbm (pe_ix (r:=rIxL K) kaK (pv 2) (pe_op kbm kah (pe_op kaz (pv 5) kah)) (fun _ _=>rfl)) (pv 5)) (kaa kah (kaa kah kae)))) (kaa (kaw (r:=kbd K) kaA (by rfl) W.B.len b_len (kaa (pv 3) kae)) kae))) kae)))))
   (kai (kan (ka7 (W.QX.mk' W.qd) Q9 hr2 rfl W.qd.m W.b1_Till_init (show Vals [.str "again"] [.str "again" d.tok0_Till_init] from(.cons ⟨_,rfl⟩ .nil)) pass0 (kaa (pv 3) (kaa (pv 4) (kaa (pcl VW hr2 W.Zj (kaa (pcl qo hr1 W.qr (kaa (pe_ix (r:=rIxL K) kaK (pv 2) kah (fun _ _=>rfl)) (kaa kah (kaa kah kae)))) (kaa (kaw (r:=kbd K) kaA (by rfl) W.B.len b_len (kaa (pv 4) kae)) kae))) kae))))))))),?_⟩
  refine sN fun A1 hA1=>?_
  exists Y4
  refine⟨_,rfl,(by show 6≤sizeLine;decide),fun l1 fl1=>?_⟩
  exists H,l1,H1,n1,e1,fl1
  symm
  exists Y4
  refine⟨a,l1,_,_,rfl,rfl,n1.seq hS,SqL.of e1,U3 (kap (by rw[UP];show ns.length+6≤1000;omega)),fun l2 fl2=>?_⟩
  rw[show ns.map V.int++[V.int 3,V.int 1,V.int 4,V.int 1,V.int 5,V.int 9]=(ns++[3,1,4,1,5,9]).map V.int by rw[UZ];rfl]
  exists H1,l2,H2,n2,e2,fl2
  symm
  exists Y4
  refine⟨_,rfl,l2,_,rfl,SqL.of e2,fun l3 fl3=>?_⟩
  rw[show(6:Int)=((6:Nat):Int) from rfl,kfP,←JU]
  have hfl:((ns++[3,1,4,1,5,9]).take 6).length=6:=by
   rw[U8,U9]
   show min 6 (ns.length+6)=6
   omega
  generalize (ns++[3,1,4,1,5,9]).take 6=fs at *
  exists H2,l3,H3,n3,e3,fl3
  have s3:=(n1.trans n2).trans n3
  symm
  refine hA1 _ _ ?_
  clear hA1 e1 e2 n1 n2 n3 fl1 fl2 fl3
  have hat:∀i:Nat,i<6→∃z,fs[i]?=some z:=fun i hi=>at_of (by omega)
  obtain⟨z0,ez0⟩:=hat 0 (by decide)
  symm
  refine sN fun A2 hA2=>?_
  symm
  exists Y4
  refine⟨_,rfl,l3,_,_,_,rfl,rfl,SqL.of e3,ka5 (j:=0) (v:=V.int z0) (by rw[UY,ez0];rfl),z0,48271,2147483647,rfl,⟨by decide,by decide⟩,by decide,_,rfl,fun H4 p ps s4 fp ep hg hp4 hp0=>?_⟩
  symm
  refine hA2 _ _ ?_
  symm
  refine sN fun A3 hA3=>?_
  symm
  exists Y4
  refine⟨by decide,fun vl fvl=>?_⟩
  exists H4,vl,H5,n5,e5,fvl
  symm
  refine hA3 _ _ ?_
  have e35:=(s4.trans n5) _ _ e3
  have s05:=(s3.trans s4).trans n5
  symm
  refine sN fun A4 hA4=>?_
  have k0:0≤z0/5%(m:Int):=Int.emod_nonneg _ (by omega)
  have k1:z0/5%(m:Int)<(m:Int):=Int.emod_lt_of_pos _ (by omega)
  obtain⟨c,ec⟩:=Int.eq_ofNat_of_zero_le (show 0≤1+z0/5%(m:Int) by omega)
  symm
  exists Y4
  refine⟨_,rfl,l3,_,_,_,rfl,rfl,SqL.of e35,ka5 (j:=0) (v:=V.int z0) (by rw[UY,ez0];rfl),_,_,rfl,rfl,⟨by decide,by decide⟩,_,rfl,_,_,rfl,rfl,(by show(0:Int)<(m:Int);omega),_,_,rfl,rfl,_,rfl,by omega,by omega,?_⟩
  rw[show((1:Int)+z0/5%(m:Int)).toNat=c by omega]
  symm
  refine kcp (fun i σ H'=>Same H4 H'∧∃(va:List Addr)(Vs:List Vch)(v5:Option V),H' vl=some (.lst (va.map V.ref))∧P2 (fun a V=>a≠vl∧VchIs d H' a V) va Vs∧(∀V∈Vs,VchOk ps V)∧Vs.length=i∧σ=[some (.ref a),some (iV m),some (.ref l3),some (.ref p),some (.ref vl),v5])
   ⟨n5,[],[],none,e5, .nil,(fun V hV=>by simp at hV),rfl,rfl⟩ ?_ ?_
  ·rintro i σ H6 hi ⟨s6,va,Vs,v5,evl,hP,hvo,hl,rfl⟩
   rw[Int.zero_add]
   have s36:Same H3 H6:=s4.trans s6
   have e36:=s36 _ _ e3
   obtain⟨zk,ezk⟩:=hat (1+i%4) (by omega)
   have hix:atI (fs.map V.int) (1+(i:Int)%4)=some (V.int zk):=by
    rw[show(1:Int)+(i:Int)%4=((1+i%4:Nat):Int) by omega]
    symm
    exact ka5 (by rw[UY,ezk];rfl)
   symm
   exists Y6
   refine⟨_,rfl, .inl ⟨rfl,_,SqL.of evl⟩,_,rfl,_,rfl,_,_,rfl,rfl,(by show(0:Int)<4;decide),_,_,rfl,rfl,l3,_,_,_,rfl,rfl,SqL.of e36,hix,_,rfl,_,_,rfl,rfl,_,16807,2147483399,rfl,⟨by decide,by decide⟩,by decide,_,rfl,p,_,rfl, .inl (SqL.of (s6 _ _ ep)),_,ps,(by rw[UP];rfl),hp0,Tbs.same (s3.trans s36) htb0,fun H7 v Vc s7 f7 hV vo=>?_⟩
   have evl7:=s7 _ _ evl
   have lva:=hP.len
   nofun
   exists Y6
   refine⟨vl,_,_,rfl,rfl,evl7,kap (by rw[UP];omega),?_⟩
   rw[show va.map V.ref++[V.ref v]=(va++[v]).map V.ref by rw[UZ];rfl]
   have b8:But vl H7 (upd H7 vl (.lst ((va++[v]).map V.ref))):=kar (nx evl7)
   nofun
   exists Y6
   refine⟨kas fvl (s6.trans s7) (nx evl7),va++[v],Vs++[Vc],_,kac,P2.snoc (hP.mono fun a V h=>⟨h.1,khN b8 evl7 (h.2.same s7)⟩) ⟨(kag evl f7).symm,khN b8 evl7 hV⟩,fun V hV'=>?_,by simp[hl],rfl⟩
   rcases Jy.mp hV' with h|h
   ·exact hvo V h
   ·have e:V=Vc:=by simpa using h
    rw[e]
    nofun
    exact vo
  rintro σ H6 ⟨s6,va,Vs,v5,evl,hP,hvo,hl,rfl⟩
  symm
  refine hA4 _ _ ?_
  have lva:=hP.len
  obtain⟨z5,ez5⟩:=hat 5 (by decide)
  have s36:Same H3 H6:=s4.trans s6
  symm
  exists Y4
  refine⟨_,rfl,_,rfl,_,rfl,l3,_,_,_,rfl,rfl,SqL.of (s36 _ _ e3),ka5 (j:=5) (v:=V.int z5) (by rw[UY,ez5];rfl),z5,69621,2147483629,rfl,⟨by decide,by decide⟩,by decide,_,rfl,vl,_,rfl, .inl (SqL.of evl),_,Vs.length,(by rw[UP,lva];rfl),by omega,fun H7 rl ra rs s7 f7 e7 hr=>?_⟩
  symm
  refine kiB (T:=⟨ps,Vs,rs,"again"⟩) ((s6.trans s7) _ _ ep) (s7 _ _ evl) (hP.mono fun a V h=>h.2.same s7) e7 hr fun H8 t s8 f8 hT=>?_
  have s38:=(s36.trans s7).trans s8
  symm
  exact kk H8 t _ (s3.trans s38) ((s3.trans (s36.trans s7)).free f8) hT ⟨hvo,by show Vs.length≤8;omega⟩ (by show 0<Vs.length;omega) (by show Vs.length≤4;omega) hg hp4 hp0
noncomputable def lineM(c:Int)(n:Nat):Row:=⟨c/7%(n:Int),(if c%3=0 then c/3%30 else if c%3=1 then 1+c/3%9 else coinM (c/3)),c/11%4,if c/90%2=0 then none else some (c/180%30)⟩
theorem kgm{c:Int}{n:Nat}(hn:0<n):(lineM c n).Ok∧(0≤(lineM c n).kd∧(lineM c n).kd<(n:Int))∧0≤(lineM c n).mn∧(lineM c n).mn≤3:=by
 have k0:0≤c/7%(n:Int):=Int.emod_nonneg _ (by omega)
 have k1:c/7%(n:Int)<(n:Int):=Int.emod_lt_of_pos _ (by omega)
 have hc:=ki6 (c/3)
 have hp:0≤(if c%3=0 then c/3%30 else if c%3=1 then 1+c/3%9 else coinM (c/3))∧(if c%3=0 then c/3%30 else if c%3=1 then 1+c/3%9 else coinM (c/3))≤1000000000000:=by
  repeat' split
  all_goals omega
 refine⟨⟨hp.1,hp.2,(by show 0≤c/11%4;omega),(by show c/11%4≤60;omega),fun z e=>?_⟩,⟨k0,k1⟩,(by show 0≤c/11%4;omega),(by show c/11%4≤3;omega)⟩
 have e':(if c/90%2=0 then none else some (c/180%30))=some z:=e
 split at e'
 ·cases e'
 ·cases e'
  omega
inductive kh5 (d:D) (vs:List V) (H:Hp) (Q:VK) (E_:XK):Prop
 |ct (c:Int)(n:Nat)(_:vs=[.int c,iV n])(_:0<n)(_:∀(H':Hp)(x:Addr),Same H H'→H x=none→LineAt d.qf H' x (lineM c n)→Q (.ref x) H'):kh5 d vs H Q E_
theorem Xa:kao ["_law_cell","_law_kinds","_law_price","_law_special"] ["_law_cell","_law_kinds"] (kaf kcE):=by ac_rfl
theorem kfC(W:WB K mg d base):FO P w W 3 d.Yl d.Ym ["_law_cell","_law_kinds"] (kh5 d):=by
 exists W.Zl.F,Xa
 ·obtain⟨c,n,rfl,hn,kk⟩:=h
  exists Q8,kdl,W
  exists VX,kfD,W
  exists hr1,1,hr,0
  refine⟨_,kad (psl (i:=2) Xa.nd (pe_ix (r:=rIxL K) kaK (kaN (kaa (pe_op kaz (pe_op kaC (pv 0) kah) kah) (kaa (pe_op kbm kah (pe_op kaz (pe_op kaC (pv 0) kah) kah)) (kaa (pcl Q8 hr1 W.QA (kaa (pe_op kaC (pv 0) kah) kae)) kae)))) (pe_op kaz (pv 0) kah) (fun _ _=>rfl)))
   (kad (psl (i:=3) Xa.nd (kdi (kbu (kaq op_eq (pe_op kaz (pe_op kaC (pv 0) kah) kah) kah (kau _)) kaS (pe_op kaz (pe_op kaC (pv 0) kah) kah))))
   (kai (kan (ka7 (W.QO.mk' W.qf) VX hr rfl W.qf.m W.QO.b .nil pass0 (kaa (pe_op kaz (pe_op kaC (pv 0) kah) (pv 1)) (kaa (pv 2) (kaa (pe_op kaz (pe_op kaC (pv 0) kah) kah) (kaa (pv 3) kae)))))))),?_⟩
  refine sN fun A1 hA1=>?_
  refine⟨_,rfl,_,_,rfl,rfl,⟨by decide,by decide⟩,_,_,rfl,rfl,(by show(0:Int)<30;decide),_,rfl,_,_,rfl,rfl,⟨by decide,by decide⟩,_,_,rfl,rfl,(by show(0:Int)<9;decide),_,_,rfl,rfl,_,rfl,_,_,rfl,rfl,⟨by decide,by decide⟩,_,rfl,fun H1 s1=>⟨(by show 3≤sizeLine;decide),fun l fl=>?_⟩⟩
  exists H1,l,H2,n2,e2,fl
  have hix:atI [V.int (c/3%30),V.int (1+c/3%9),V.int (coinM (c/3))] (c%3)=some (.int (if c%3=0 then c/3%30 else if c%3=1 then 1+c/3%9 else coinM (c/3))):=by
   have hc:c%3=0∨c%3=1∨c%3=2:=by omega
   rcases hc with e|e|e <;> rw[e] <;> rfl
  refine⟨_,rfl,_,_,rfl,rfl,(by show(0:Int)<3;decide),l,_,_,_,rfl,rfl,SqL.of e2,hix,?_⟩
  refine hA1 _ _ ?_
  have s02:=s1.trans n2
  refine sN fun A2 hA2=>?_
  refine⟨fun v H'=>H'=H2∧v=oV (if c/90%2=0 then none else some (c/180%30)),?_,?_⟩
  ·refine⟨_,rfl,_,_,rfl,rfl,⟨by decide,by decide⟩,_,_,rfl,rfl,(by show(0:Int)<2;decide),rfl,_,rfl,ite2 (fun h=>?_) (fun h=>?_)⟩
   ·rw[if_pos (dec_ii.mp h)]
    exact⟨rfl,rfl⟩
   ·rw[if_neg fun z=>h (dec_ii.mpr z)]
    exact⟨_,rfl,_,_,rfl,rfl,⟨by decide,by decide⟩,_,_,rfl,rfl,(by show(0:Int)<30;decide),rfl,rfl⟩
  rintro v H' ⟨rfl,rfl⟩
  refine hA2 _ _ ?_
  exact⟨_,rfl,_,_,rfl,rfl,⟨by decide,by decide⟩,_,rfl,_,_,rfl,rfl,(by show(0:Int)<(n:Int);omega),_,rfl,_,rfl,_,_,rfl,rfl,⟨by decide,by decide⟩,_,_,rfl,rfl,(by show(0:Int)<4;decide),_,rfl,kkU (r:=lineM c n) fun H3 y s3 fy hy=>kk H3 y (s02.trans s3) (s02.free fy) hy⟩
theorem kew{b:Nat}:∀(rs:List Row)(k:Nat),(∀r∈rs,r.mn.toNat≤b)→((rs.zipIdx k).map fun p=>UV p.1.mn.toNat p.2).flatten.length≤b*rs.length
 |[],_,_=>by simp
 |r::rs,k,h=>by
  have h1:=h r Ji
  have ih:=kew (b:=b) rs (k+1) fun x hx=>h x (Jb _ hx)
  rw[Mt,U4,Jl,U9,JX,Jp,Nat.mul_add,Nat.mul_one]
  show r.mn.toNat+_≤_
  omega
theorem kiy{b:Nat}(rs:List Row)(h:∀r∈rs,r.mn.toNat≤b):(ownN rs).length≤b*rs.length:=kew rs 0 h
noncomputable def mixD(c:Int):Int:=(c+3)*39373%2147483587
noncomputable def drawM(ns:List Int)(m:Int)(i:Nat):List Int:=if 8<m then(((ns.drop (6+3*i)).take 3).map mixD).take 1 else((ns.drop (6+3*i)).take 3).map mixD
noncomputable def baskM(ns:List Int)(n:Nat)(m:Int)(i:Nat):Bask:=⟨(drawM ns m i).map (fun c=>lineM c n),(drawM ns m i).headD 0/13%9,decide ((drawM ns m i).getLastD 0%2=0)⟩
noncomputable def bsM(ns:List Int)(n:Nat)(m:Int):Nat→List Bask
 |0=>[]
 |i+1=>if((bsM ns n m i).length:Int)<m then bsM ns n m i++[baskM ns n m i] else bsM ns n m i
noncomputable def cntM(ns:List Int):Nat:=(Builtin.Range.rangeSize 6 (ns.length:Int) 3).toNat
theorem ki8{ns:List Int}{i:Nat}(h:i<cntM ns):6+3*i<ns.length:=by
 unfold cntM Builtin.Range.rangeSize at h
 rw[if_pos (by decide)] at h
 split at h <;> omega
theorem khk{ns:List Int}{m:Int}{i:Nat}(h:6+3*i<ns.length):0<(drawM ns m i).length∧(drawM ns m i).length≤3:=by
 unfold drawM
 split
 ·rw[U8,UP,U8,Nm]
  omega
 ·rw[UP,U8,Nm]
  omega
theorem kjc{ns:List Int}{n:Nat}{m:Int}:∀(i:Nat),(bsM ns n m i).length≤i
 |0=>UR _
 | i+1=>by
  have:=kjc (ns:=ns) (n:=n) (m:=m) i
  unfold bsM
  split
  ·rw[U9,Ng]
   omega
  ·omega
theorem bs_wf{ns:List Int}{ps:List (Option Nat)}{m:Int}(g:Good ps)(pl:ps.length≤4)(p0:0<ps.length):∀(i:Nat),i≤cntM ns→∀B∈bsM ns ps.length m i,Wf ps B (stnd0 B)
 |0,_,B,h=>by simp[bsM] at h
 | i +1,hi,B,h=>by
  unfold bsM at h
  split at h
  ·rcases Jy.mp h with h|h
   ·exact bs_wf g pl p0 i (by omega) B h
   ·have e:B=baskM ns ps.length m i:=by simpa using h
    rw[e]
    have hd:=khk (m:=m) (ki8 (show i<cntM ns by omega))
    refine Wf.start g (by omega) (fun r hr=>?_) (fun r hr=>?_) ?_ ?_ ?_
    ·obtain⟨c,_,rfl⟩:=Jf.mp hr
     exact(kgm p0).2.1
    ·obtain⟨c,_,rfl⟩:=Jf.mp hr
     exact(kgm p0).1
    ·show((drawM ns m i).map _).length≤12
     rw[UP]
     omega
    ·show 0≤_/13%9∧_/13%9≤_
     constructor <;> omega
    ·have hm:=kiy (b:=3) (baskM ns ps.length m i).rs (fun r hr=>by
      obtain⟨c,_,rfl⟩:=Jf.mp hr
      have:=(kgm (c:=c) p0).2.2
      omega)
     have hl:(baskM ns ps.length m i).rs.length≤3:=by
      show((drawM ns m i).map _).length≤3
      rw[UP]
      omega
     omega
  ·exact bs_wf g pl p0 i (by omega) B h
noncomputable def BaskX(d:D)(z:Addr)(H:Hp)(b:Addr)(B:Bask):Prop:=b≠z∧∃(l:Addr)(ls:List Addr),l≠z∧BaskAt d.qg H b l B.cg B.m∧H l=some (.lst (ls.map V.ref))∧Lines d.qf H ls B.rs
theorem BaskX.same{d:D}{z b:Addr}{H H':Hp}{B:Bask}(s:Same H H'):BaskX d z H b B→BaskX d z H' b B:=fun⟨n,l,ls,nl,h1,h2,h3⟩=>⟨n,l,ls,nl,h1.same s,s _ _ h2,h3.same s⟩
theorem BaskX.set{d:D}{z b:Addr}{H:Hp}{B:Bask}{xs:List V}{o:HO}(hz:H z=some (.lst xs)):BaskX d z H b B→BaskX d z (upd H z o) b B:=fun⟨n,l,ls,nl,h1,h2,h3⟩=>⟨n,l,ls,nl,h1.set hz,(by rw[kaj nl];exact h2),h3.set hz⟩
theorem BaskX.is{d:D}{z b:Addr}{H:Hp}{B:Bask}:BaskX d z H b B→BaskIs d.qf d.qg H b B:=fun⟨_,l,ls,_,h1,h2,h3⟩=>⟨l,ls,h1,h2,h3⟩
inductive kgQ (K:UQ) (d:D) (vs:List V) (H:Hp) (Q:VK) (E_:XK):Prop
 |ct (a:Addr)(ns:List Int)(n:Nat)(m:Int)(_:vs=[.ref a,iV n, .int m])(_:SqL K H a (ns.map V.int))(_:ns.length≤63)(_:0<n)(_:∀(H':Hp)(l:Addr)(ba:List Addr),Same H H'→H l=none→H' l=some (.lst (ba.map V.ref))→P2 (BaskX d l H') ba (bsM ns n m (cntM ns))→Q (.ref l) H'):kgQ K d vs H Q E_
theorem qR:kao ["_law_script","_law_kinds","_law_most_here","_law_told","_law_start","_law_drawn"] ["_law_script","_law_kinds","_law_most_here"] (kaf kbk):=by ac_rfl
theorem kd3(W:WB K mg d base):FO P w W 4 d.Yn d.Yo ["_law_script","_law_kinds","_law_most_here"] (kgQ K d):=by
 exists W.QB.F,qR
 ·obtain⟨a,ns,n,m,rfl,hS,hn63,hn,kk⟩:=h
  exists qo,kbi,W
  exists VY,ken,W
  exists VZ,kfC,W
  exists hr1,1,hr,0
  exists hr2,2,hr,0
  refine⟨_,kad (psl (i:=3) qR.nd (kaN kae))
   (kad (ka6 PassesOwn.never rfl (ket rfl W.B.range (kaa kah (kaa (kaw (r:=kbd K) kaA (by rfl) W.B.len b_len (kaa (pv 0) kae)) (kaa kah kae)))) (pgn (i:=4) qR.nd)
   (kai (ps_if (kaq op_lt (kaw (r:=kbd K) kaA (by rfl) W.B.len b_len (kaa (pv 3) kae)) (pv 2) (kau _)) (kad (keT (N:=["_law_cell"]) (CompScope.plain rfl (by decide +kernel) (by decide +kernel) (by decide +kernel) (nd1 _)) rfl (kaE (K:=K) (kb7 (r:=rSlL K) kcz (pv 0) (kb6 (pv 4)) (kb6 (pe_op kbm (pv 4) kah)))) (fun _ _ _ _=>pgn (i:=0) (nd1 _)) (fun _ _ _ _=>(pcl qo hr1 W.qr (kaa (pe_op kbm (pv 0) kah) (kaa kah (kaa kah kae))))) (pgn (i:=5) qR.nd))
   (kad (kim (ps_if (kaq op_gt (pv 2) kah (kau _)) (kai (psl (i:=5) qR.nd (kb7 (r:=rSlL K) kcz (pv 5) kdS (kb6 kah)))) (kat)))
   (kai (kaU (pe_bm JF J4 J5 kbn (pv 3) (kaa (ka7 (W.QR.mk' W.qg) VY hr2 rfl W.qg.m W.QR.b .nil pass0 (kaa (kbF (N:=["_law_cell","_law_kinds"]) (CompScope.of (N:=["_law_cell","_law_kinds"]) (cap:=[none,some 1]) (kaf kbk).names ["_law_script","_law_kinds","_law_most_here","_law_told","_law_start","_law_drawn"] rfl rfl (by decide +kernel)) rfl (kaE (K:=K) (pv 5)) (fun _ _ _ _=>pgn (i:=0) (show(["_law_cell","_law_kinds"]:List Str).Nodup by decide +kernel)) (fun _ _ _ _=>(pcl VZ hr W.Zl (kaa (pv 0) (kaa (pv 1) kae))))) (kaa (pe_op kaz (pe_op kaC (pe_ix (r:=rIxL K) kaK (pv 5) kah (fun _ _=>rfl)) kah) kah) (kaa (kbt op_eq (pe_op kaz (pe_ix (r:=rIxL K) kaK (pv 5) (pe_un khO kah) (fun _ _=>rfl)) kah) kah (kau _)) kae)))) kae)))))) (kat))))
   (kai (kan (pv 3)))),?_⟩
  refine⟨by decide,fun l fl=>?_⟩
  exists H,l,H1,n1,e1,fl
  refine⟨_,rfl,a,_,rfl, .inl (n1.seq hS),_,_,_,rfl,⟨by decide,by decide⟩,⟨by omega,by rw[UP];omega⟩,by decide,by decide,?_⟩
  rw[show(Builtin.Range.rangeSize 6 (((ns.map V.int).length:Nat):Int) 3).toNat=cntM ns by unfold cntM;rw[UP]]
  refine kjQ (fun i σ H'=>Same H H'∧∃(ba:List Addr)(v4 v5:Option V),H' l=some (.lst (ba.map V.ref))∧P2 (BaskX d l H') ba (bsM ns n m i)∧σ=[some (.ref a),some (iV n),some (.int m),some (.ref l),v4,v5])
   ⟨n1,[],none,none,e1, .nil,rfl⟩ ?_ ?_
  ·rintro i σ H2 hi ⟨s2,ba,v4,v5,el,hba,rfl⟩
   have hlt:=ki8 hi
   have lba:=hba.len
   have lbs:=kjc (ns:=ns) (n:=n) (m:=m) i
   rw[show(6:Int)+(i:Int)*3=((6+3*i:Nat):Int) by omega]
   refine⟨_,rfl,l,_,rfl, .inl (SqL.of el),_,rfl,_,_,rfl,rfl,_,rfl,?_⟩
   rw[UP,lba]
   by_cases c:((bsM ns n m i).length:Int)<m
   ·rw[decide_eq_true c]
    refine iteT ?_
    refine sN fun A1 hA1=>?_
    refine⟨_,rfl,_,rfl,_,rfl,_,rfl,_,_,rfl,rfl,_,rfl,a,_,rfl,s2.seq hS,fun l3 fl3=>?_⟩
    rw[show((6+3*i:Nat):Int)+3=((6+3*i+3:Nat):Int) by omega,ki4,←Mx,←JU]
    exists H2,l3,H3,n3,e3,fl3
    have l3len:((ns.drop (6+3*i)).take 3).length≤3:=by rw[U8];omega
    refine⟨l3,rfl,⟨_,SqL.of e3⟩,kaY (xs:=((ns.drop (6+3*i)).take 3).map V.int) (fun j σ ys H'=>H'=H3∧ys=((((ns.drop (6+3*i)).take 3).take j).map mixD).map V.int∧∃v,σ=[v]) ⟨rfl,rfl,none,rfl⟩ (by rw[UP];exact U3 (kap (by omega))) ?_ ?_ ?_⟩
    ·rintro j σ ys H' hj ⟨rfl,rfl,_⟩
     rw[UP] at hj
     exact⟨SqL.of e3,by rw[UP,UP,U8];omega⟩
    ·rintro j y σ ys H' hy ⟨rfl,rfl,v,rfl⟩
     obtain⟨z,ez,rfl⟩:=kbI hy
     refine⟨_,rfl,_,_,rfl,rfl,_,39373,2147483587,rfl,⟨by decide,by decide⟩,by decide,rfl,?_,_,rfl⟩
     rw[take_snoc ez,UZ,UZ]
     rfl
    rintro σ ys H' ⟨rfl,rfl,v,rfl⟩ l4 fl4
    rw[UP,Jn]
    exists H',l4,H4,n4,e4,fl4
    refine hA1 _ _ ?_
    have s24:=n3.trans n4
    refine sN fun A2 hA2=>?_
    refine⟨fun σ' H5=>Same H2 H5∧∃dl:Addr,H5 dl=some (.lst ((drawM ns m i).map V.int))∧σ'=[some (.ref a),some (iV n),some (.int m),some (.ref l),some (iV (6+3*i)),some (.ref dl)],?_,?_⟩
    ·refine⟨_,rfl,_,_,rfl,rfl,_,rfl,?_⟩
     by_cases c8:(8:Int)<m
     ·rw[decide_eq_true c8]
      refine iteT ⟨_,rfl,_,rfl,l4,_,rfl,SqL.of e4,fun l5 fl5=>?_⟩
      rw[show(1:Int)=((1:Nat):Int) from rfl,kfP,←JU]
      exists H4,l5,H5,n5,e5,fl5
      refine⟨s24.trans n5,l5,?_,rfl⟩
      unfold drawM
      rw[if_pos c8]
      exact e5
     ·rw[decide_eq_false c8]
      refine iteF ⟨s24,l4,?_,rfl⟩
      unfold drawM
      rw[if_neg c8]
      exact e4
    rintro σ H5 ⟨s5,dl,edl,rfl⟩
    refine hA2 _ _ ?_
    obtain⟨hd0,hd3⟩:=khk (m:=m) hlt
    have el5:=s5 _ _ el
    obtain⟨q0,eq0⟩:=at_of hd0
    obtain⟨qk,eqk⟩:=at_of (show(drawM ns m i).length-1<(drawM ns m i).length by omega)
    have eh:(drawM ns m i).headD 0=q0:=by
     rw[List.headD_eq_head?_getD,List.head?_eq_getElem?,eq0]
     rfl
    have et:(drawM ns m i).getLastD 0=qk:=by
     rw[N2,List.getLast?_eq_getElem?,eqk]
     rfl
    have hlast:atI ((drawM ns m i).map V.int) (-1)=some (V.int qk):=kfY (by rw[UP,UY,eqk];rfl) (by rw[UP];exact hd0)
    refine⟨_,rfl, .inl ⟨rfl,_,SqL.of el5⟩,_,rfl,dl,rfl,⟨_,SqL.of edl⟩,kaY (xs:=(drawM ns m i).map V.int) (fun j σ ys H'=>Same H5 H'∧∃(la:List Addr)(v0:Option V),ys=la.map V.ref∧Lines d.qf H' la (((drawM ns m i).take j).map fun c=>lineM c n)∧σ=[v0,some (iV n)]) ⟨Same.refl _,[],none,rfl, .nil,rfl⟩ (by rw[UP];exact U3 (kap (by omega))) ?_ ?_ ?_⟩
    ·rintro j σ ys H' hj ⟨s6,la,v0,rfl,hla,rfl⟩
     rw[UP] at hj
     have:=hla.len
     rw[UP,U8] at this
     exact⟨SqL.of (s6 _ _ edl),by rw[UP];omega⟩
    ·rintro j y σ ys H' hy ⟨s6,la,v0,rfl,hla,rfl⟩
     obtain⟨z,ez,rfl⟩:=kbI hy
     refine⟨_,rfl,_,rfl,z,n,rfl,hn,fun H7 x s7 fx hx=>⟨s6.trans s7,la++[x],_,by rw[UZ];rfl,?_,rfl⟩⟩
     rw[take_snoc ez,UZ]
     exact P2.snoc (hla.same s7) hx
    rintro σ ys H6 ⟨s6,la,v0,rfl,hla,rfl⟩ l7 fl7
    rw[UP,Jn] at hla
    exists H6,l7,H7,n7,e7,fl7
    have s57:=s6.trans n7
    refine⟨_,rfl,dl,_,_,_,rfl,rfl,SqL.of (s57 _ _ edl),ka5 (j:=0) (v:=V.int q0) (by rw[UY,eq0];rfl),_,_,rfl,rfl,⟨by decide,by decide⟩,_,_,rfl,rfl,(by show(0:Int)<9;decide),_,rfl,_,rfl,dl,_,_,_,rfl,rfl,SqL.of (s57 _ _ edl),hlast,_,_,rfl,rfl,(by show(0:Int)<2;decide),rfl,kkV (SqL.of e7) fun H8 b l' s8 fb fl' hl' hb'=>?_⟩
    have s28:=(s5.trans s57).trans s8
    have el8:=s28 _ _ el
    refine⟨l,_,_,rfl,rfl,el8,kap (by rw[UP];omega),?_⟩
    rw[show ba.map V.ref++[V.ref b]=(ba++[b]).map V.ref by rw[UZ];rfl]
    refine⟨kas fl (s2.trans s28) (nx el8),ba++[b],_,_,kac,?_,rfl⟩
    unfold bsM
    rw[if_pos c]
    have el7:=(s5.trans s57) _ _ el
    refine P2.snoc (hba.mono fun b B h=>(h.same s28).set el8) (BaskX.set el8 ⟨(kag el7 fb).symm,l',la,(kag el7 fl').symm,?_,hl',(hla.same n7).same s8⟩)
    unfold baskM
    simp only
    rw[eh,et,show decide (qk%2=0)=decide (V.int (qk%2)=V.int 0) by rw[kgt];rfl]
    exact hb'
   ·rw[decide_eq_false c]
    refine iteF ⟨s2,ba,_,_,el,?_,rfl⟩
    unfold bsM
    rw[if_neg c]
    exact hba
  ·rintro σ H2 ⟨s2,ba,v4,v5,el,hba,rfl⟩
   exact⟨_,rfl,kk H2 l ba s2 fl el hba⟩
inductive kh3 (vs:List V) (H:Hp) (Q:VK) (E_:XK):Prop
 |ct (x y:Addr)(o o2:List Nat)(_:vs=[.ref x, .ref y])(_:H x=some (.lst (o.map iV)))(_:H y=some (.lst (o2.map iV)))(_:Q (.bl (decide (o=o2))) H):kh3 vs H Q E_
theorem kiY{us vs:List Nat}:eqVs (us.map iV) (vs.map iV)=decide (us=vs):=by
 have e:∀u:List Nat,u.map iV=(u.map fun(n:Nat)=>(n:Int)).map V.int:=fun u=>by rw[Jg];rfl
 rw[e,e,kfO]
 by_cases c:us=vs
 ·rw[c]
  simp
 ·rw[decide_eq_false c]
  exact decide_eq_false fun z=>c ((List.map_inj_right (fun _ _ h=>by omega)).mp z)
theorem ZO:kao ["_law_found","_law_due_here","_law_number"] ["_law_found","_law_due_here"] (kaf kby):=by ac_rfl
theorem kdB(W:WB K mg d base):FO P w W 2 d.Yp d.Yq ["_law_found","_law_due_here"] kh3:=by
 exists W.Zm.F,ZO
 ·obtain⟨x,y,o,o2,rfl,hx,hy,kk⟩:=h
  exists Xb,kcS,W
  refine⟨_,kad (ps_if (PW.pt (pw_or (kdR (kaX (kaw (r:=rIsi K) kaW (by rfl) W.B.isi b_isi (kaa (pv 0) (kaa (keW (v:=.ty "list") (by rfl) W.B.list kbP rfl) kae))))) (kes (kaq (klx hr.units0) (pv 0) (pv 1) (kau _))))) (kai (kan pe_bl)) (kat))
   (kad (ka6 PassesOwn.never rfl (kaE (K:=K) (pv 0)) (pgn (i:=2) ZO.nd)
   (kai (ps_if (kdR (kaX (pcl Xb hr W.Qz (kaa (pv 2) kae)))) (kai (kan pe_bl)) (kat))))
   (kai (kan pe_bl))),?_⟩
  refine⟨_,rfl,_,_,_,_,rfl, .inl ⟨_,rfl⟩,TyOf.lst hx,kbO _ _,_,rfl,iteF ?_⟩
  refine⟨_,rfl,_,rfl,x,y,_,_,rfl,rfl,SqL.of hx,SqL.of hy,kbJ _,kbJ _,_,rfl,?_⟩
  rw[show(if true=true then !eqVs (o.map iV) (o2.map iV) else eqVs (o.map iV) (o2.map iV))= !decide (o=o2) by rw[if_pos rfl,kiY]]
  by_cases c:o=o2
  ·rw[decide_eq_true c]
   rw[decide_eq_true c] at kk
   refine iteF ?_
   refine⟨_,rfl,x,rfl,⟨_,SqL.of hx⟩,kbe (xs:=o.map iV) (fun i σ H'=>H'=H∧∃v2:Option V,σ=[some (.ref x),some (.ref y),v2])
    ⟨rfl,none,rfl⟩ (fun i σ H' _ h=>by rw[h.1];exact SqL.of hx) ?_ ?_⟩
   ·rintro i v σ H' hv ⟨rfl,v2,rfl⟩
    obtain⟨n,_,rfl⟩:=kbI hv
    exact⟨_,rfl,_,rfl,_,rfl,iteF ⟨rfl,_,rfl⟩⟩
   rintro σ H' ⟨rfl,v2,rfl⟩
   exact kk
  ·rw[decide_eq_false c]
   rw[decide_eq_false c] at kk
   exact iteT kk
noncomputable def mostM(ns:List Int)(wide:Bool):Int:=if wide=true then 1 else if(ns.take 1).sum/160%16/15=0 then 8 else 19
inductive kh4 (K:UQ) (vs:List V) (H:Hp) (Q:VK) (E_:XK):Prop
 |ct (a:Addr)(ns:List Int)(wide:Bool)(_:vs=[.ref a, .bl wide])(_:SqL K H a (ns.map V.int))(_:∀(H':Hp),Same H H'→Q (.int (mostM ns wide)) H'):kh4 K vs H Q E_
theorem kfp:kao ["_law_script","_law_wide"] ["_law_script","_law_wide"] (kaf kcD):=by ac_rfl
theorem kfB(W:WB K mg d base):FO P w W 1 d.Yv d.Yw ["_law_script","_law_wide"] (kh4 K):=by
 exists W.QD.F,kfp
 ·obtain⟨a,ns,wide,rfl,hS,kk⟩:=h
  refine⟨_,kad (ps_if (kaX (pv 1)) (kai (kan kah)) (kat))
   (kai (kan (pe_ix (r:=rIxL K) kaK (kaN (kaa kah (kaa kah kae))) (pe_op kaC (pe_op kaz (pe_op kaC (kaw (r:=rSum K) (kc1 rfl) (by rfl) W.B.sum b_sum (kaa (kb7 (r:=rSlL K) kcz (pv 0) kdS (kb6 kah)) kae)) kah) kah) kah) (fun _ _=>rfl)))),?_⟩
  cases wide with
  |true=>exact⟨_,rfl,_,rfl,iteT (kk H (Same.refl _))⟩
  | false=>
   refine⟨_,rfl,_,rfl,iteF ?_⟩
   refine⟨(by show 2≤sizeLine;decide),fun l1 fl1=>?_⟩
   exists H,l1,H1,n1,e1,fl1
   refine⟨_,rfl,_,rfl,a,_,rfl,n1.seq hS,fun l2 fl2=>?_⟩
   rw[show(1:Int)=((1:Nat):Int) from rfl,kfP,←JU]
   exists H1,l2,H2,n2,e2,fl2
   have hix:atI [V.int 8,V.int 19] ((ns.take 1).sum/160%16/15)=some (.int (if(ns.take 1).sum/160%16/15=0 then 8 else 19)):=by
    have hc:(ns.take 1).sum/160%16/15=0∨(ns.take 1).sum/160%16/15=1:=by omega
    rcases hc with e|e <;> rw[e] <;> rfl
   have:=kk H2 (n1.trans n2)
   exact⟨l2,_,rfl,SqL.of e2,_,_,rfl,rfl,⟨by decide,by decide⟩,_,_,rfl,rfl,(by show(0:Int)<16;decide),_,_,rfl,rfl,⟨by decide,by decide⟩,l1,_,_,_,rfl,rfl,SqL.of (n2 _ _ e1),hix,this⟩
noncomputable def FdV(H:Hp)(v:V):Option (Nat×List Nat)→Prop
 |none=>v=.non
 |some (i,o)=>∃p l,v=.ref p∧H p=some (.tup [iV i, .ref l])∧H l=some (.lst (o.map iV))
theorem FdV.same{H H':Hp}{v:V}(s:Same H H'):∀{r:Option (Nat×List Nat)},FdV H v r→FdV H' v r
 |none,h=>h
 |some (_,_),⟨p,l,e,h1,h2⟩=>⟨p,l,e,s _ _ h1,s _ _ h2⟩
theorem FdW.v{H H':Hp}{v:V}:∀{r:Option (Nat×List Nat)},FdW H H' v r→FdV H' v r
 |none,h=>h
 |some (_,_),⟨p,l,e,_,_,h1,h2⟩=>⟨p,l,e,h1,h2⟩
inductive kgK (vs:List V) (H:Hp) (Q:VK) (E_:XK):Prop
 |ct (v v2:V)(r:Option (Nat×List Nat))(_:vs=[v,v2])(_:FdV H v r)(_:FdV H v2 r)(_:Q (.bl true) H):kgK vs H Q E_
theorem keO:kao ["_law_found","_law_due_here"] ["_law_found","_law_due_here"] (kaf kch):=by ac_rfl
theorem ke0(W:WB K mg d base):FO P w W 3 d.Yt d.Yu ["_law_found","_law_due_here"] kgK:=by
 exists W.QC.F,keO
 ·obtain⟨v,v2,r,rfl,h1,h2,kk⟩:=h
  exists Xb,kcS,W
  exists V0,kdB,W
  exists hr1,1,hr,0
  refine⟨_,kad (ps_if (PW.pt (pw_or (kaq kcv (pv 0) kaS (kau _)) (kes (kaq kcv (pv 1) kaS (kau _))))) (kai (kan (kiv (kbt kcv (pv 0) kaS (kau _)) (kgZ (kbt kcv (pv 1) kaS (kau _)))))) (kat))
   (kad (ps_if (PW.pt (pw_or (kdR (kaX (kaw (r:=rIsi K) kaW (by rfl) W.B.isi b_isi (kaa (pv 0) (kaa (keW (v:=.ty "tuple") (by rfl) W.B.tuple klb rfl) kae))))) (pw_or (kaq op_ne (kaw (r:=kbd K) kaA (by rfl) W.B.len b_len (kaa (pv 0) kae)) kah (kau _)) (kes (kdR (kaX (pcl Xb hr1 W.Qz (kaa (pe_ix (r:=rIxT K) kdo (pv 0) kah (fun _ _=>rfl)) kae)))))))) (kai (kan pe_bl)) (kat))
   (kai (kan (kiv (kbt op_eq (pe_ix (r:=rIxT K) kdo (pv 0) kah (fun _ _=>rfl)) (pe_ix (r:=rIxT K) kdo (pv 1) kah (fun _ _=>rfl)) (kau _)) (kgZ (pcl V0 hr W.Zm (kaa (pe_ix (r:=rIxT K) kdo (pv 0) kah (fun _ _=>rfl)) (kaa (pe_ix (r:=rIxT K) kdo (pv 1) kah (fun _ _=>rfl)) kae)))))))),?_⟩
  cases r with
  |none=>
   have e1:v=.non:=h1
   have e2:v2=.non:=h2
   subst e1 e2
   refine⟨_,rfl,rfl,_,rfl,?_⟩
   rw[show decide (V.non=V.non)=true by simp]
   refine iteT (iteT ?_)
   refine⟨_,rfl,rfl,?_⟩
   rw[show decide (V.non=V.non)=true by simp]
   refine⟨_,rfl,iteT ⟨_,rfl,rfl,?_⟩⟩
   rw[show decide (V.non=V.non)=true by simp]
   exact kk
  |some z=>
   obtain⟨i,o⟩:=z
   obtain⟨p,l,rfl,hp,hl⟩:=h1
   obtain⟨p2,l2,rfl,hp2,hl2⟩:=h2
   refine⟨_,rfl,rfl,_,rfl,?_⟩
   rw[show decide (V.ref p=V.non)=false by simp]
   refine iteF ⟨_,rfl,rfl,_,rfl,?_⟩
   rw[show decide (V.ref p2=V.non)=false by simp]
   refine iteF ?_
   refine⟨_,rfl,_,_,_,_,rfl, .inl ⟨_,rfl⟩,TyOf.tup hp,kbO _ _,_,rfl,iteF ?_⟩
   refine⟨_,rfl,p,_,rfl, .inr (SqT.of hp),rfl,_,rfl,iteF ?_⟩
   refine⟨_,rfl,p,_,_,_,rfl,rfl,SqT.of hp,rfl,_,rfl,_,rfl,iteF ?_⟩
   refine⟨_,rfl,p,_,_,_,rfl,rfl,SqT.of hp,rfl,_,rfl,p2,_,_,_,rfl,rfl,SqT.of hp2,rfl,rfl,?_⟩
   rw[show decide (iV i=iV i)=true by simp]
   refine⟨_,rfl,iteT ⟨_,rfl,p,_,_,_,rfl,rfl,SqT.of hp,rfl,_,rfl,p2,_,_,_,rfl,rfl,SqT.of hp2,rfl,l,l2,o,o,rfl,hl,hl2,?_⟩⟩
   rw[show decide (o=o)=true by simp]
   exact kk
theorem kgV{T:TillD}{k:Int}(h:k=((T.vs.length:Nat):Int)):(UV k.toNat [V.int 1]).flatten=(ones T).map V.int:=by
 rw[h,Int.toNat_natCast]
 unfold ones
 induction T.vs with
 |nil=>rfl
 |cons V vs ih=>
  rw[Jp,JR,Jl,U4,U4,ih]
  rfl
theorem kkQ{T T':TillD}(h:T.vs.length=T'.vs.length):ones T=ones T':=by
 have e:∀l:List Vch,(l.map fun _=>(1:Int))=UV l.length 1:=fun l=>by rw[List.map_const']
 unfold ones
 rw[e,e,h]
inductive spMet (d:D) (vs:List V) (H:Hp) (Q:VK) (E_:XK):Prop
 |ct (t bl:Addr)(ba:List Addr)(T:TillD)(bs:List Bask)(_:vs=[.ref t, .ref bl])(_:TillIs d H t T)(_:kdr T)(_:T.vs.length≤5)(_:H bl=some (.lst (ba.map V.ref)))(_:P2 (fun a B=>BaskIs d.qf d.qg H a B∧Wf T.ps B (stnd0 B)) ba bs)(_:∀(H':Hp),Same H H'→Q .non H'):spMet d vs H Q E_
theorem Xc:kao ["_law_till_here","_law_baskets_here","_law_other","_law_basket"] ["_law_till_here","_law_baskets_here"] (kaf kc6):=by ac_rfl
theorem kgh(W:WB K mg d base):FO P w W 18 d.Yx d.Yy ["_law_till_here","_law_baskets_here"] (spMet d):=by
 exists W.Zo.F,Xc
 ·obtain⟨t,bl,ba,T,bs,rfl,hT,tok,h5,hbl,hba,kk⟩:=h
  obtain⟨dxt,fst,pt,vl,rl,va,ra,ht,t1,t2,t3,t4,hpt,hvl,hva,hrl,hra⟩:=id hT
  have lva:=hva.len
  exists Q9,kdm,W
  exists Xd,kfx,W
  exists hr2,2,hr,0
  refine⟨_,kad (psl (i:=2) Xc.nd (ka7 (W.QX.mk' W.qd) Q9 hr2 rfl W.qd.m W.b1_Till_init (show Vals [.str "again"] [.str "again" d.tok0_Till_init] from(.cons ⟨_,rfl⟩ .nil)) pass0 (kaa (kam (K:=K) (pv 0) rfl) (kaa (kgg (K:=K) rfl (by rfl) W.B.list (by rfl) W.B.rev (kam (K:=K) (pv 0) rfl)) (kaa (kaN kae) kae)))))
   (kai (ka6 PassesOwn.never rfl (kaE (K:=K) (pv 1)) (pgn (i:=3) Xc.nd)
   (kai (kaU (pcl Xd hr W.Qy (kaa (pv 2) (kaa (pv 3) (kaa (pe_op kg3 (kaN (kaa kah kae)) (kaw (r:=kbd K) kaA (by rfl) W.B.len b_len (kaa (kam (K:=K) (pv 0) rfl) kae))) kae)))))))),?_⟩
  refine⟨_,rfl,t,d.qd,dxt,fst,_,rfl,ht,W.qd.cl,W.qG,t1,_,rfl,t,d.qd,dxt,fst,_,rfl,ht,W.qd.cl,W.qt,t2,vl,_,rfl,SqL.of hvl,fun v3 fv3=>?_⟩
  rw[←List.map_reverse]
  exists H,v3,H3,n3,e3,fv3
  refine⟨by decide,fun r4 fr4=>?_⟩
  exists H3,r4,H4,n4,e4,fr4
  have s4:=n3.trans n4
  refine kiB (T:=⟨T.ps,T.vs.reverse,[],"again"⟩) (va:=va.reverse) (ra:=[]) (s4 _ _ hpt) (n4 _ _ e3) ((hva.mono fun v V h=>h.same s4).reverse) e4 .nil fun H5 t5 s5 ft5 hT5=>?_
  have tok5:kdr ⟨T.ps,T.vs.reverse,[],"again"⟩:=⟨fun V hV=>tok.vs V (List.mem_reverse.mp hV),by show T.vs.reverse.length≤8;rw[NN];exact tok.nv⟩
  have s05:=s4.trans s5
  refine⟨_,rfl,bl,rfl,⟨_,SqL.of (s05 _ _ hbl)⟩,kbe (xs:=ba.map V.ref) (fun i σ H'=>Same H5 H'∧∃v3:Option V,σ=[some (.ref t),some (.ref bl),some (.ref t5),v3])
   ⟨Same.refl _,none,rfl⟩ (fun i σ H' _ h=>SqL.of ((s05.trans h.1) _ _ hbl)) ?_ ?_⟩
  ·rintro i y σ H6 hy ⟨s6,v3,rfl⟩
   obtain⟨b,eb,rfl⟩:=kbB hy
   obtain⟨B,eB,hB,wf0⟩:=hba.at eb
   have s06:=s05.trans s6
   refine⟨_,rfl,_,rfl,(by show 1≤sizeLine;decide),fun l7 fl7=>?_⟩
   exists H6,l7,H7,n7,e7,fl7
   have s07:=s06.trans n7
   have nv:=tok.nv
   refine⟨_,rfl,t,d.qd,dxt,fst,_,rfl,s07 _ _ ht,W.qd.cl,W.qt,t2,vl,_,rfl, .inl (SqL.of (s07 _ _ hvl)),l7,_,_,rfl,rfl,e7,by omega,(by rw[UP];omega),(by rw[UP];show 1*_≤sizeLine;exact U3 (kap (by omega))),fun h8 fh8=>?_⟩
   rw[kgV (T:=T) (by rw[UP,lva])]
   exists H7,h8,H8,n8,e8,fh8
   have s68:=n7.trans n8
   have s08:=s06.trans s68
   have eo:ones T=ones ⟨T.ps,T.vs.reverse,[],"again"⟩:=kkQ (by show _=T.vs.reverse.length;rw[NN])
   rw[eo] at e8
   obtain⟨hdp,hlen⟩:=kdY (T:=⟨T.ps,T.vs.reverse,[],"again"⟩) (B:=B) (by show T.vs.reverse.length≤5;rw[NN];exact h5)
   exact⟨t5,b,h8,⟨T.ps,T.vs.reverse,[],"again"⟩,B,_,rfl,(hT5.same s6).same s68,tok5,hB.same s08,wf0,e8,(by unfold ones;rw[UP]),hdp,hlen,fun H9 p ol s9 _ _ _ _ _=>⟨(s6.trans s68).trans s9,_,rfl⟩⟩
  ·rintro σ H6 ⟨s6,v3,rfl⟩
   exact kk H6 (s05.trans s6)
noncomputable def dueW(n:Nat):List (List (List Nat×Stnd))→Nat→Option (Nat×List Nat)
 |[],_=>none
 |ws::wss,i=>match withW n ws with
  |some o=>some (i,o)
  |none=>dueW n wss (i+1)
theorem keC{T:TillD}{n:Nat}:∀(bs:List Bask)(i:Nat),dueW n (bs.map fun B=>waysM T B (ones T) 10 [] (stnd0 B)) i=kbf T n bs i
 |[],_=>rfl
 |B::bs,i=>by
  rw[U4]
  unfold dueW kbf
  cases withW n (waysM T B (ones T) 10 [] (stnd0 B)) with
  |some o=>rfl
  |none=>exact keC bs (i+1)
noncomputable def OrdsAt(H:Hp)(a:Addr)(ws:List (List Nat×Stnd)):Prop:=∃ol:List Addr,H a=some (.lst (ol.map V.ref))∧P2 (fun o q=>H o=some (.lst (q.map iV))) ol (ws.map Prod.fst)
theorem OrdsAt.same{H H':Hp}{a:Addr}{ws:List (List Nat×Stnd)}(s:Same H H'):OrdsAt H a ws→OrdsAt H' a ws:=fun⟨ol,h1,h2⟩=>⟨ol,s _ _ h1,h2.mono fun o q h=>s _ _ h⟩
inductive kj9 (vs:List V) (H:Hp) (Q:VK) (E_:XK):Prop
 |ct (tl:Addr)(n:Nat)(ta:List Addr)(wss:List (List (List Nat×Stnd)))(_:vs=[.ref tl,iV n])(_:H tl=some (.lst (ta.map V.ref)))(_:P2 (fun a ws=>OrdsAt H a ws) ta wss)(_:wss.length≤1000)(_:∀(H':Hp)(v:V),Same H H'→FdV H' v (dueW n wss 0)→Q v H'):kj9 vs H Q E_
theorem Xe:kao ["_law_told","_law_voucher_here","_law_at","_law_order"] ["_law_told","_law_voucher_here"] (kaf kc7):=by ac_rfl
theorem kgi(W:WB K mg d base):FO P w W 1 d.Yr d.Ys ["_law_told","_law_voucher_here"] kj9:=by
 exists W.Zn.F,Xe
 ·obtain⟨tl,n,ta,wss,rfl,htl,hta,lws,kk⟩:=h
  have lta:=hta.len
  refine⟨_,kad (ka6 PassesOwn.never rfl (kbZ rfl W.B.range (kaa (kaw (r:=kbd K) kaA (by rfl) W.B.len b_len (kaa (pv 0) kae)) kae)) (pgn (i:=2) Xe.nd)
   (kai (ka6 PassesOwn.never rfl (kaE (K:=K) (pe_ix (r:=rIxL K) kaK (pv 0) (pv 2) (fun _ _=>rfl))) (pgn (i:=3) Xe.nd)
   (kai (ps_if (kaq kbG (pv 1) (pv 3) (by with_unfolding_all rfl)) (kai (kan (kcN (kaa (pv 2) (kaa (pv 3) kae))))) (kat))))))
   (kai (kan kaS)),?_⟩
  generalize eR:dueW n wss 0=R at kk
  refine⟨_,rfl,tl,_,rfl, .inl (SqL.of htl),_,rfl,by omega,(by rw[UP];omega),?_⟩
  rw[show(((ta.map V.ref).length:Nat):Int).toNat=wss.length by rw[UP];omega]
  refine kcp (fun i σ H'=>H'=H∧∃(v2 v3:Option V),dueW n (wss.drop i) i=R∧σ=[some (.ref tl),some (iV n),v2,v3])
   ⟨rfl,none,none,eR,rfl⟩ ?_ ?_
  ·rintro i σ H1 hi ⟨rfl,v2,v3,hR,rfl⟩
   rw[Int.zero_add]
   obtain⟨a,ea⟩:=at_of (show i<ta.length by omega)
   obtain⟨ws,ew,ol,hol,hos⟩:=hta.at ea
   have ed:wss.drop i=ws::wss.drop (i+1):=by
    obtain⟨h1,h2⟩:=U0.mp ew
    rw[N6 h1,h2]
   rw[ed] at hR
   unfold dueW at hR
   have lol:=hos.len
   rw[UP] at lol
   generalize eW:withW n ws=WR at hR
   refine⟨_,rfl,_,rfl,tl,_,_,_,rfl,rfl,SqL.of htl,ka5 (v:=V.ref a) (by rw[UY,ea];rfl),a,rfl,⟨_,SqL.of hol⟩,kbe (xs:=ol.map V.ref) (fun j σ H'=>H'=H1∧∃(v3:Option V),withW n (ws.drop j)=WR∧σ=[some (.ref tl),some (iV n),some (iV i),v3])
    ⟨rfl,_,eW,rfl⟩ (fun j σ H' _ h=>by rw[h.1];exact SqL.of hol) ?_ ?_⟩
   ·rintro j y σ H2 hy ⟨rfl,v3,hw,rfl⟩
    obtain⟨o,eo,rfl⟩:=kbB hy
    obtain⟨q1,eq1,ho⟩:=hos.at eo
    rw[UY] at eq1
    obtain⟨q,eq,rfl⟩:∃q,ws[j]?=some q∧q.1=q1:=by
     cases e:ws[j]? with
     |none=>rw[e] at eq1;cases eq1
     |some q=>
      rw[e] at eq1
      cases eq1
      exact⟨q,rfl,rfl⟩
    have edw:ws.drop j=q::ws.drop (j+1):=by
     obtain⟨h1,h2⟩:=U0.mp eq
     rw[N6 h1,h2]
    rw[edw] at hw
    unfold withW at hw
    refine⟨_,rfl,_,rfl,o,_,rfl, .inl (SqL.of ho),rfl,kbJ _,_,rfl,?_⟩
    rw[if_neg UX,kbX]
    cases hc:q.1.contains n with
    |true=>
     rw[hc,if_pos rfl] at hw
     refine iteT ⟨_,rfl,_,rfl,(by show 2≤sizeLine;decide),fun p fp=>?_⟩
     exists H2,p,H4,n4,e4,fp
     refine kk H4 (.ref p) n4 ?_
     rw[←hw] at hR
     rw[←hR]
     exact⟨p,o,rfl,e4,n4 _ _ ho⟩
    |false=>
     rw[hc,if_neg UX] at hw
     exact iteF ⟨rfl,_,hw,rfl⟩
   ·rintro σ H2 ⟨rfl,v3,hw,rfl⟩
    rw[UP,lol,N7] at hw
    rw[←hw] at hR
    exact⟨rfl,_,_,hR,rfl⟩
  ·rintro σ H1 ⟨rfl,v2,v3,hR,rfl⟩
   rw[N7] at hR
   refine kk H1 .non (Same.refl _) ?_
   rw[←hR]
   rfl
theorem kfb{n:Nat}{o:List Nat}:∀(ws:List (List Nat×Stnd)),withW n ws=some o→∃q∈ws,q.1=o
 |[],h=>by simp[withW] at h
 | q::qs,h=>by
  unfold withW at h
  split at h
  ·cases h
   exact⟨q,Ji ..,rfl⟩
  ·obtain⟨q',h1,h2⟩:=kfb qs h
   exact⟨q',Jb _ h1,h2⟩
theorem kfK{T:TillD}{n j:Nat}{o:List Nat}:∀(bs:List Bask)(i:Nat),kbf T n bs i=some (j,o)→o.length≤10
 |[],i,h=>by simp[kbf] at h
 | B::bs,i,h=>by
  unfold kbf at h
  split at h
  next o' e=>
   cases h
   obtain⟨q,h1,rfl⟩:=kfb _ e
   have:=(khL (T:=T) (B:=B) (hand:=ones T) 10 [] (stnd0 B) (fun n hn=>by simp at hn) q h1).2
   rw[List.length_nil] at this
   omega
  next=>exact kfK bs (i+1) h
theorem kfL{T:TillD}{n:Nat}{r:Nat×List Nat}{cs:List Bask}:∀(bs:List Bask)(i:Nat),kbf T n bs i=some r→kbf T n (bs++cs) i=some r
 |[],i,h=>by simp[kbf] at h
 | B::bs,i,h=>by
  rw[NQ]
  unfold kbf at h⊢
  cases e:withW n (waysM T B (ones T) 10 [] (stnd0 B)) with
  |some o=>
   rw[e] at h
   exact h
  |none=>
   rw[e] at h
   exact kfL bs (i+1) h
theorem kla{ns:List Int}:cntM ns≤ns.length:=by
 cases e:cntM ns with
 |zero=>exact Jk _
 |succ n=>
  have:=ki8 (ns:=ns) (i:=n) (by omega)
  omega
theorem qq:kao ["_law_script","_law_wide","_law_till_here","_law_baskets_here","_law_alike","_law_told","_law_voucher_here","_law_due_here","_law_handed","_law_found","_law_held"] ["_law_script"] (kaf s_law):=by ac_rfl
theorem klA(W:WB K mg d base):FO P w W 22 d.f_law d.Yz ["_law_script"] (kdM K d.tP_falling_groups d.tP_first_use):=by
 refine FunD.ok W.d_law.F qq (fun vs H Q E h=>?_) (fun cdv A outer s H vs Q E hr h=>?_)
 ·obtain⟨a,ns,rfl,_⟩:=h
  rfl
 ·obtain⟨a,ns,rfl,hS,hn,htb0,htb1,k⟩:=h
  exists V1,kfA,W
  exists ZP,kd3,W
  exists ZQ,kfB,W
  exists Xd,kfx,W
  exists V2,kgh,W
  exists V3,kgi,W
  exists Xf,kfz,W
  exists ZR,ke0,W
  exists hr1,1,hr,0
  exists hr3,3,hr,0
  exists hr4,4,hr,0
  exists hr7,7,hr,0
  exists hr17,17,hr,0
  exists hr18,18,hr,0
  refine⟨_,kad (psl (i:=1) qq.nd (kbt op_eq (pe_op kaz (pe_op kaC (kaw (r:=rSum K) (kc1 rfl) (by rfl) W.B.sum b_sum (kaa (kb7 (r:=rSlL K) kcz (pv 0) kdS (kb6 kah)) kae)) kah) kah) kah (kau _)))
   (kad (psl (i:=2) qq.nd (pcl V1 hr7 W.Zk (kaa (pv 0) (kaa (kdi (kbu (kaX (pv 1)) kah kah)) kae))))
   (kad (psl (i:=3) qq.nd (pcl ZP hr4 W.QB (kaa (pv 0) (kaa (kaw (r:=kbd K) kaA (by rfl) W.B.len b_len (kaa (kam (K:=K) (pv 2) rfl) kae)) (kaa (pcl ZQ hr1 W.QD (kaa (pv 0) (kaa (pv 1) kae))) kae)))))
   (kad (psl (i:=4) qq.nd (pcl ZP hr4 W.QB (kaa (pv 0) (kaa (kaw (r:=kbd K) kaA (by rfl) W.B.len b_len (kaa (kam (K:=K) (pv 2) rfl) kae)) (kaa (pcl ZQ hr1 W.QD (kaa (pv 0) (kaa (pv 1) kae))) kae)))))
   (kad (keT (N:=["_law_basket","_law_till_here"]) (CompScope.of (N:=["_law_basket","_law_till_here"]) (cap:=[none,some 2]) (kaf s_law).names ["_law_script","_law_wide","_law_till_here","_law_baskets_here","_law_alike","_law_told","_law_voucher_here","_law_due_here","_law_handed","_law_found","_law_held"] rfl rfl (by decide +kernel)) rfl (kaE (K:=K) (pv 4)) (fun _ _ _ _=>pgn (i:=0) (show(["_law_basket","_law_till_here"]:List Str).Nodup by decide +kernel)) (fun _ _ _ _=>(pcl Xd hr17 W.Qy (kaa (pv 1) (kaa (pv 0) (kaa (pe_op kg3 (kaN (kaa kah kae)) (kaw (r:=kbd K) kaA (by rfl) W.B.len b_len (kaa (kam (K:=K) (pv 1) rfl) kae))) kae))))) (pgn (i:=5) qq.nd))
   (kad (kaU (pcl V2 hr18 W.Zo (kaa (pv 2) (kaa (pv 3) kae))))
   (kad (ka6 PassesOwn.never rfl (kbZ rfl W.B.range (kaa (kaw (r:=kbd K) kaA (by rfl) W.B.len b_len (kaa (kam (K:=K) (pv 2) rfl) kae)) kae)) (pgn (i:=6) qq.nd)
   (kad (psl (i:=7) qq.nd (pcl V3 hr1 W.Zn (kaa (pv 5) (kaa (pv 6) kae))))
   (kad (psl (i:=8) qq.nd (ka2 (r:=kbC K) kaI (by rfl) W.B.list kbP (kaa (pv 3) kae)))
   (kad (psl (i:=9) qq.nd (pcl Xf hr W.qU (kaa (pv 2) (kaa (pv 6) (kaa (pv 8) kae)))))
   (kad (ps_if (PW.pt (pw_or (kdR (kaX (pcl ZR hr3 W.QC (kaa (pv 9) (kaa (pv 7) kae))))) (kes (kaq (kly hr.units) (pv 8) (pv 3) (kau _))))) (kai (kan pe_bl)) (kat))
   (kai (ps_if (kaq kda (pv 9) kaS (kau _)) (kad (psl (i:=10) qq.nd (kcN (kaa (pe_ix (r:=rIxT K) kdo (pv 9) kah (fun _ _=>rfl)) (kaa (ka2 (r:=kbC K) kaI (by rfl) W.B.list kbP (kaa (pe_ix (r:=rIxT K) kdo (pv 9) kah (fun _ _=>rfl)) kae)) kae))))
   (kad (kaU (pe_bm JF J4 J5 kbn (pe_ix (r:=rIxT K) kdo (pv 9) kah (fun _ _=>rfl)) (kaa kah kae)))
   (kad (kaU (pe_bm JF N4 N5 kcU (pv 8) (kaa (kb7 (r:=rSlL K) kcz (pv 3) kdS (kb6 kah)) kae)))
   (kai (ps_if (kdR (kaX (pcl ZR hr3 W.QC (kaa (pcl Xf hr W.qU (kaa (pv 2) (kaa (pv 6) (kaa (pv 8) kae)))) (kaa (pv 10) kae))))) (kai (kan pe_bl)) (kat)))))) (kat))))))))
   (kai (kan (kbt kcv (pcl Xf hr W.qU (kaa (pv 2) (kaa kah (kaa (kaN kae) kae)))) kaS (kau _)))))))))),?_⟩
  refine sN fun A1 hA1=>?_
  exists Y4
  refine⟨_,rfl,_,rfl,a,_,rfl,hS,fun l1 fl1=>?_⟩
  rw[show(1:Int)=((1:Nat):Int) from rfl,kfP,←JU]
  exists H,l1,H1,n1,e1,fl1
  symm
  exists Y4
  refine⟨l1,_,rfl,SqL.of e1,_,_,rfl,rfl,⟨by decide,by decide⟩,_,_,rfl,rfl,(by show(0:Int)<8;decide),rfl,?_⟩
  symm
  refine hA1 _ _ ?_
  clear hA1
  generalize decide (V.int ((ns.take 1).sum/20%8)=V.int 3)=wide
  symm
  refine sN fun A2 hA2=>?_
  symm
  exists Y4
  refine⟨_,rfl,⟨fun v H'=>H'=H1∧∃m:Nat,0<m∧m≤4∧v=iV m,?_,?_⟩⟩
  ·exact⟨_,rfl,_,rfl,ite2 (fun _=>⟨rfl,4,by decide,by decide,rfl⟩) (fun _=>⟨rfl,3,by decide,by decide,rfl⟩)⟩
  rintro v H' ⟨rfl,m,m0,m4,rfl⟩
  symm
  exists Y4
  refine⟨a,ns,m,rfl,n1.seq hS,hn,m0,m4,Tbs.same n1 htb0,fun H2 t T s2 ft hT tok v0 v4 hg p4 p0=>?_⟩
  symm
  refine hA2 _ _ ?_
  clear hA2
  have s02:=n1.trans s2
  obtain⟨dxt,fst,pt,vl,rl,va,ra,ht,t1,t2,t3,t4,hpt,hvl,hva,hrl,hra⟩:=id hT
  have elp:(T.ps.map pV).length=T.ps.length:=UP _
  symm
  refine sN fun A3 hA3=>?_
  symm
  exists Y4
  refine⟨_,rfl,_,rfl,t,d.qd,dxt,fst,_,rfl,ht,W.qd.cl,W.qG,t1,pt,_,rfl, .inl (SqL.of hpt),_,rfl,_,rfl,a,ns,_,rfl,s02.seq hS,fun H3 s3=>⟨a,ns,T.ps.length,_,(by rw[elp];rfl),(s02.trans s3).seq hS,hn,p0,fun H4 bl ba s4 fbl ebl hba=>?_⟩⟩
  symm
  refine hA3 _ _ ?_
  clear hA3
  have s24:=s3.trans s4
  have s04:=s02.trans s24
  have wfs:=bs_wf (ns:=ns) (m:=mostM ns wide) hg p4 p0 (cntM ns) (UR _)
  have lbs:=kjc (ns:=ns) (n:=T.ps.length) (m:=mostM ns wide) (cntM ns)
  have lcn:=kla (ns:=ns)
  symm
  refine sN fun A4 hA4=>?_
  symm
  exists Y4
  refine⟨_,rfl,_,rfl,t,d.qd,dxt,fst,_,rfl,s24 _ _ ht,W.qd.cl,W.qG,t1,pt,_,rfl, .inl (SqL.of (s24 _ _ hpt)),_,rfl,_,rfl,a,ns,_,rfl,s04.seq hS,fun H5 s5=>⟨a,ns,T.ps.length,_,(by rw[elp];rfl),(s04.trans s5).seq hS,hn,p0,fun H6 bl2 ba2 s6 _ ebl2 hba2=>?_⟩⟩
  have s46:=s5.trans s6
  symm
  refine hA4 _ _ ?_
  clear hA4
  have hbb:P2 (fun a B=>BaskIs d.qf d.qg H4 a B∧Wf T.ps B (stnd0 B)) ba (bsM ns T.ps.length (mostM ns wide) (cntM ns)):=P2.of hba.len fun i a B e1 e2=>⟨(hba.get e1 e2).is,wfs B (U1 e2)⟩
  have hbb2:P2 (fun a B=>BaskIs d.qf d.qg H6 a B∧Wf T.ps B (stnd0 B)) ba2 (bsM ns T.ps.length (mostM ns wide) (cntM ns)):=P2.of hba2.len fun i a B e1 e2=>⟨(hba2.get e1 e2).is,wfs B (U1 e2)⟩
  have lb63:(bsM ns T.ps.length (mostM ns wide) (cntM ns)).length≤63:=by omega
  clear hba hba2 wfs lbs lcn
  generalize bsM ns T.ps.length (mostM ns wide) (cntM ns)=bs at *
  have lba:=hbb.len
  have lba2:=hbb2.len
  have s26:=s24.trans s46
  have lva:=hva.len
  have nv:=tok.nv
  symm
  refine sN fun A5 hA5=>?_
  symm
  exists Y4
  refine⟨_,rfl,bl2,rfl,⟨_,SqL.of ebl2⟩,kaY (xs:=ba2.map V.ref) (fun i σ ys H'=>Same H6 H'∧∃(ta:List Addr)(v0:Option V),ys=ta.map V.ref∧P2 (fun a ws=>OrdsAt H' a ws) ta ((bs.take i).map fun B=>waysM T B (ones T) 10 [] (stnd0 B))∧σ=[v0,some (.ref t)]) ⟨Same.refl _,[],none,rfl, .nil,rfl⟩ (by rw[UP];exact U3 (kap (by omega))) ?_ ?_ ?_⟩
  ·rintro i σ ys H' hi ⟨s7,ta,v0,rfl,hta,rfl⟩
   rw[UP] at hi
   have:=hta.len
   rw[UP,U8] at this
   symm
   exact⟨SqL.of (s7 _ _ ebl2),by rw[UP];omega⟩
  ·rintro i y σ ys H7 hy ⟨s7,ta,v0,rfl,hta,rfl⟩
   obtain⟨b,eb,rfl⟩:=kbB hy
   obtain⟨B,eB,hB,wf0⟩:=hbb2.at eb
   symm
   exists Y6
   refine⟨_,rfl,_,rfl,(by show 1≤sizeLine;decide),fun l8 fl8=>?_⟩
   exists H7,l8,H8,n8,e8,fl8
   have s68:=s7.trans n8
   have s28:=s26.trans s68
   nofun
   exists Y6
   refine⟨_,rfl,t,d.qd,dxt,fst,_,rfl,s28 _ _ ht,W.qd.cl,W.qt,t2,vl,_,rfl, .inl (SqL.of (s28 _ _ hvl)),l8,_,_,rfl,rfl,e8,by omega,(by rw[UP];omega),(by rw[UP];show 1*_≤sizeLine;exact U3 (kap (by omega))),fun h9 fh9=>?_⟩
   rw[kgV (T:=T) (by rw[UP,lva])]
   exists H8,h9,H9,n9,e9,fh9
   have s79:=n8.trans n9
   have s69:=s7.trans s79
   obtain⟨hdp,hlen⟩:=kdY (T:=T) (B:=B) (by omega)
   nofun
   exists Y6
   refine⟨t,b,h9,T,B,ones T,rfl,hT.same (s26.trans s69),tok,hB.same s69,wf0,e9,(by unfold ones;rw[UP]),hdp,hlen,fun H10 p ol s10 _ ep hol _ _=>⟨s69.trans s10,ta++[p],_,by rw[UZ];rfl,?_,rfl⟩⟩
   rw[take_snoc eB,UZ]
   nofun
   exact P2.snoc (hta.mono fun a ws h=>h.same (s79.trans s10)) ⟨ol,ep,hol.mono fun o q h=>h.2⟩
  rintro σ ys H7 ⟨s7,ta,v0,rfl,hta,rfl⟩ tl ftl
  rw[UP,lba2,Jn] at hta
  exists H7,tl,H8,n8,etl,ftl
  have hta8:P2 (fun a ws=>OrdsAt H8 a ws) ta (bs.map fun B=>waysM T B (ones T) 10 [] (stnd0 B)):=hta.mono fun a ws h=>h.same n8
  symm
  refine hA5 _ _ ?_
  clear hA5 hta
  have s48:=s46.trans (s7.trans n8)
  have hbb8:=hbb.mono (R':=fun a B=>BaskIs d.qf d.qg H8 a B∧Wf T.ps B (stnd0 B)) fun a B h=>⟨h.1.same s48,h.2⟩
  have hT8:=hT.same (s24.trans s48)
  have ebl8:=s48 _ _ ebl
  have htb8:TbAt d.tP_first_use H8:=(s04.trans s48).tb htb1
  have ht8:=(s24.trans s48) _ _ ht
  have hvl8:=(s24.trans s48) _ _ hvl
  clear hbb hbb2 hT ebl htb1 htb0 ht hvl hpt hva hrl hra
  symm
  refine sN fun A6 hA6=>?_
  symm
  exists Y4
  refine⟨_,rfl,_,rfl,t,bl,ba,T,bs,rfl,hT8,tok,by omega,ebl8,hbb8,fun H9 s9=>?_⟩
  symm
  refine hA6 _ _ ?_
  clear hA6
  symm
  refine sN fun A7 hA7=>?_
  symm
  exists Y4
  refine⟨_,rfl,t,d.qd,dxt,fst,_,rfl,s9 _ _ ht8,W.qd.cl,W.qt,t2,vl,_,rfl, .inl (SqL.of (s9 _ _ hvl8)),_,rfl,by omega,(by rw[UP];omega),?_⟩
  rw[show(((va.map V.ref).length:Nat):Int).toNat=T.vs.length by rw[UP];omega]
  symm
  refine kcp (fun i σ H'=>Same H8 H'∧∃(v7 v8 v9 v10 v11:Option V),σ=[some (.ref a),some (.bl wide),some (.ref t),some (.ref bl),some (.ref bl2),some (.ref tl),v7,v8,v9,v10,v11])
   ⟨s9,none,none,none,none,none,rfl⟩ ?_ ?_
  ·rintro n σ H10 hn' ⟨s10,v7,v8,v9,v10,v11,rfl⟩
   rw[Int.zero_add]
   symm
   refine sN fun B1 hB1=>?_
   symm
   exists Y6
   refine⟨_,rfl,_,rfl,tl,n,ta,_,rfl,s10 _ _ etl,hta8.mono fun a ws h=>h.same s10,(by rw[UP];omega),fun H11 vd s11 hfd=>?_⟩
   rw[keC] at hfd
   nofun
   refine hB1 _ _ ?_
   clear hB1
   have s811:=s10.trans s11
   nofun
   refine sN fun B2 hB2=>?_
   nofun
   exists Y6
   refine⟨_,rfl,bl,_,rfl, .inl (SqL.of (s811 _ _ ebl8)),fun hd fhd=>?_⟩
   exists H11,hd,H12,n12,ehd,fhd
   nofun
   refine hB2 _ _ ?_
   clear hB2
   have s812:=s811.trans n12
   nofun
   refine sN fun B3 hB3=>?_
   nofun
   exists Y6
   refine⟨_,rfl,_,rfl,_,rfl,t,hd,n,ba,T,bs,rfl,hT8.same s812,tok,by omega,ehd,hbb8.mono (fun a B h=>⟨h.1.same s812,h.2⟩),s812.tb htb8,fun H13 vf s13 hff=>?_⟩
   nofun
   refine hB3 _ _ ?_
   clear hB3
   have s813:=s812.trans s13
   nofun
   refine sN fun B4 hB4=>?_
   nofun
   exists Y6
   refine⟨_,rfl,_,rfl,vf,vd,kbf T n bs 0,rfl,hff.v,hfd.same (n12.trans s13),_,rfl,iteF ?_⟩
   nofun
   exists Y6
   refine⟨_,rfl,_,rfl,hd,bl,_,_,rfl,rfl, .inl ⟨SqL.of (s13 _ _ ehd),SqL.of (s813 _ _ ebl8)⟩,rfl,fun i x y e1 e2=>?_,_,rfl,iteF ?_⟩
   ·rw[e1] at e2
    cases e2
    obtain⟨z,_,rfl⟩:=kbB e1
    nofun
    exact .same z
   nofun
   refine hB4 _ _ ?_
   clear hB4
   cases eR:kbf T n bs 0 with
   |none=>
    rw[eR] at hff
    have e3:vf=.non:=hff
    subst e3
    nofun
    exists Y8
    refine⟨_,rfl,rfl,_,rfl,iteF ?_⟩
    exists 3
    exact⟨s813,_,_,_,_,_,rfl⟩
   |some z=>
    obtain⟨j,o⟩:=z
    rw[eR] at hff
    have lo:=kfK bs 0 eR
    obtain⟨p,l,rfl,_,fl,hp,hl⟩:=hff
    nofun
    exists Y8
    refine⟨_,rfl,rfl,_,rfl,iteT ?_⟩
    exists 3
    refine sN fun B5 hB5=>?_
    exists 3
    exists Y8
    refine⟨_,rfl,p,_,_,_,rfl,rfl,SqT.of hp,rfl,_,rfl,p,_,_,_,rfl,rfl,SqT.of hp,rfl,l,_,rfl, .inl (SqL.of hl),fun l14 fl14=>?_⟩
    exists H13,l14,H14,n14,e14,fl14
    exists 3
    exists Y8
    refine⟨(by show 2≤sizeLine;decide),fun p15 fp15=>?_⟩
    exists H14,p15,H15,n15,e15,fp15
    exists 3
    refine hB5 _ _ ?_
    clear hB5
    have n1315:=n14.trans n15
    have hp15:=n1315 _ _ hp
    have hl15:=n1315 _ _ hl
    have ehd15:=(s13.trans n1315) _ _ ehd
    have e1415:=n15 _ _ e14
    have s1215:=s13.trans n1315
    have n14l:l14≠l:=(kag hl fl14).symm
    have hdl:hd≠l:=kag ehd fl
    have h14hd:l14≠hd:=(kag (s13 _ _ ehd) fl14).symm
    exists 3
    refine sN fun B6 hB6=>?_
    exists 3
    exists Y8
    refine⟨_,rfl,p,_,_,_,rfl,rfl,SqT.of hp15,rfl, .inl ⟨rfl,_,SqL.of hl15⟩,l,_,_,rfl,rfl,hl15,(by rw[UP];exact kap (by omega)),?_⟩
    have s16:=kas (o:=.lst (o.map iV++[V.int 7])) fl s1215 (nx hl15)
    have ehd16:(upd H15 l (.lst (o.map iV++[V.int 7]))) hd=some (.lst (ba.map V.ref)):=by rw[kaj hdl];exact ehd15
    have e1516:(upd H15 l (.lst (o.map iV++[V.int 7]))) p15=some (.tup [iV j, .ref l14]):=by rw[kaj (ne_of e15 hl15 (by intro z;cases z))];exact e15
    have e1416:(upd H15 l (.lst (o.map iV++[V.int 7]))) l14=some (.lst (o.map iV)):=by rw[kaj n14l];exact e1415
    exists 3
    refine hB6 _ _ ?_
    clear hB6
    generalize upd H15 l (.lst (o.map iV++[V.int 7]))=H16 at *
    have s1116:=n12.trans s16
    have s816:=s811.trans s1116
    exists 3
    refine sN fun B7 hB7=>?_
    exists 3
    exists Y8
    refine⟨_,rfl, .inl ⟨rfl,_,SqL.of ehd16⟩,_,rfl,_,rfl,bl,_,rfl,SqL.of (s816 _ _ ebl8),fun l17 fl17=>?_⟩
    rw[show(1:Int)=((1:Nat):Int) from rfl,kfP,←JU]
    exists H16,l17,H17,n17,e17,fl17
    have ehd17:=n17 _ _ ehd16
    have l17h:l17≠hd:=(kag ehd16 fl17).symm
    exists 3
    exists Y8
    refine⟨hd,l17,_,_,rfl,rfl,ehd17,e17,U3 (kap (by rw[UP,UP,U8];omega)),?_⟩
    rw[←UZ]
    have s18:=kas (o:=.lst ((ba++ba.take 1).map V.ref)) fhd (s1116.trans n17) (nx ehd17)
    have ehd18:(upd H17 hd (.lst ((ba++ba.take 1).map V.ref))) hd=some (.lst ((ba++ba.take 1).map V.ref)):=kac
    have e1518:(upd H17 hd (.lst ((ba++ba.take 1).map V.ref))) p15=some (.tup [iV j, .ref l14]):=by rw[kaj (ne_of (n17 _ _ e1516) ehd17 (by intro z;cases z))];exact n17 _ _ e1516
    have e1418:(upd H17 hd (.lst ((ba++ba.take 1).map V.ref))) l14=some (.lst (o.map iV)):=by rw[kaj h14hd];exact n17 _ _ e1416
    exists 3
    refine hB7 _ _ ?_
    clear hB7
    generalize upd H17 hd (.lst ((ba++ba.take 1).map V.ref))=H18 at *
    have s818:=s811.trans s18
    have hbb18:=hbb8.mono (R':=fun a B=>BaskIs d.qf d.qg H18 a B∧Wf T.ps B (stnd0 B)) fun a B h=>⟨h.1.same s818,h.2⟩
    exists 3
    exists Y8
    refine⟨_,rfl,_,rfl,_,rfl,t,hd,n,ba++ba.take 1,T,bs++bs.take 1,rfl,hT8.same s818,tok,by omega,ehd18,P2.append hbb18 (hbb18.take 1),s818.tb htb8,fun H19 vf2 s19 hff2=>?_⟩
    rw[kfL bs 0 eR] at hff2
    exists 3
    exists Y8
    refine⟨_,rfl,vf2, .ref p15,some (j,o),rfl,hff2.v,⟨p15,l14,rfl,s19 _ _ e1518,s19 _ _ e1418⟩,?_⟩
    exists 3
    exists Y8
    refine⟨_,rfl,iteF ?_⟩
    exists 3
    exact⟨s818.trans s19,_,_,_,_,_,rfl⟩
  rintro σ H10 ⟨s10,v7,v8,v9,v10,v11,rfl⟩
  symm
  refine hA7 _ _ ?_
  symm
  exists Y4
  refine⟨_,rfl,by decide,fun l14 fl14=>?_⟩
  exists H10,l14,H14,n14,e14,fl14
  have s814:=s10.trans n14
  symm
  exists Y4
  refine⟨t,l14,0,[],T,[],rfl,hT8.same s814,tok,by omega,e14, .nil,s814.tb htb8,fun H15 vf3 s15 hff3=>?_⟩
  have e3:vf3=.non:=hff3
  subst e3
  symm
  exists Y4
  refine⟨rfl,?_⟩
  rw[show decide (V.non=V.non)=true by simp]
  symm
  exact k _
end
end Vs
namespace Vs
open PySem L2
theorem ln0{C:List Value→Prop}(k:C []):∀us:List Value,us.length=0→C us:=fun us h=>by
 cases us with
 |nil=>exact k
 |cons a us=>cases h
theorem lnS{C:List Value→Prop}{n:Nat}(k:∀(a:Value)(us:List Value),us.length=n→C (a::us)):∀us:List Value,us.length=n+1→C us:=fun us h=>by
 cases us with
 |nil=>cases h
 |cons a us=>exact k a us (Nat.succ.inj h)
def nL1{C:List Value→Prop}(k:∀a0:Value,C [a0]):∀us:List Value,us.length=1→C us:=lnS fun a0=>ln0 (k a0)
def nL2{C:List Value→Prop}(k:∀a0 a1:Value,C [a0,a1]):∀us:List Value,us.length=2→C us:=lnS fun a0=>lnS fun a1=>ln0 (k a0 a1)
def nL3{C:List Value→Prop}(k:∀a0 a1 a2:Value,C [a0,a1,a2]):∀us:List Value,us.length=3→C us:=lnS fun a0=>lnS fun a1=>lnS fun a2=>ln0 (k a0 a1 a2)
def nL4{C:List Value→Prop}(k:∀a0 a1 a2 a3:Value,C [a0,a1,a2,a3]):∀us:List Value,us.length=4→C us:=lnS fun a0=>lnS fun a1=>lnS fun a2=>lnS fun a3=>ln0 (k a0 a1 a2 a3)
def nL5{C:List Value→Prop}(k:∀a0 a1 a2 a3 a4:Value,C [a0,a1,a2,a3,a4]):∀us:List Value,us.length=5→C us:=lnS fun a0=>lnS fun a1=>lnS fun a2=>lnS fun a3=>lnS fun a4=>ln0 (k a0 a1 a2 a3 a4)
def nL6{C:List Value→Prop}(k:∀a0 a1 a2 a3 a4 a5:Value,C [a0,a1,a2,a3,a4,a5]):∀us:List Value,us.length=6→C us:=lnS fun a0=>lnS fun a1=>lnS fun a2=>lnS fun a3=>lnS fun a4=>lnS fun a5=>ln0 (k a0 a1 a2 a3 a4 a5)
def nL7{C:List Value→Prop}(k:∀a0 a1 a2 a3 a4 a5 a6:Value,C [a0,a1,a2,a3,a4,a5,a6]):∀us:List Value,us.length=7→C us:=lnS fun a0=>lnS fun a1=>lnS fun a2=>lnS fun a3=>lnS fun a4=>lnS fun a5=>lnS fun a6=>ln0 (k a0 a1 a2 a3 a4 a5 a6)
def bd_mk{K:UQ}{fd:FuncData}{ps:List Str}{ds:List Value}{n:Nat}(hn:n+ds.length=ps.length)(k:∀s:Shared,K.In s.heap→∀us:List Value,us.length=n→BindsTo s fd ⟨us,[]⟩ (ps.zip (us++ds))):Binds K fd ps ds:=fun s us KX hl=>k s KX us (by rw[U9] at hl;omega)
def dn_mk{K:UQ}{st:Stmt}{ps:List Str}{f:Addr}{oc:Value}{od an:Option Addr}{osl:Array (Option Value)}{kV doc pm cdv ct:Value}{h:Heap}{mg:Str→Option Value}{x:Str}(X:K.In h)(G:h.Ns mainGlobals mg)(a:U7 K mainGlobals x=some (some (.ref f)))(l:K.lookup f=some ⟨oc,od, .func (U2 x x (kax st) (kav st) (kaf st) .none kV doc pm an cdv ct),osl⟩)(c:Jm K cdv x=true)(k:U5 K (.ref f)=true)(b:∀(kV doc pm:Value)(an:Option Addr)(cdv ct:Value),∀us:List Value,us.length=ps.length→bindArgs (U2 x x (kax st) (kav st) (kaf st) .none kV doc pm an cdv ct) ⟨us,[]⟩=pure (ps.zip us)):Dn K mg x st ps f (U2 x x (kax st) (kav st) (kaf st) .none kV doc pm an cdv ct):=⟨ka8 l c k,Binds.all (b _ _ _ _ _ _),Jj X G a⟩
def mt_mk{K:UQ}{st:Stmt}{ps:List Str}{f:Addr}{oc:Value}{od an:Option Addr}{osl:Array (Option Value)}{kV doc pm cdv ct:Value}{m qual:Str}{C:Addr}(a:US K (.ref C) m=some (some (.ref f)))(i:Jv K (.ref f)=true)(l:K.lookup f=some ⟨oc,od, .func (U2 m qual (kax st) (kav st) (kaf st) .none kV doc pm an cdv ct),osl⟩)(c:Jm K cdv qual=true)(k:U5 K (.ref f)=true)(b:∀(kV doc pm:Value)(an:Option Addr)(cdv ct:Value),∀us:List Value,us.length=ps.length→bindArgs (U2 m qual (kax st) (kav st) (kaf st) .none kV doc pm an cdv ct) ⟨us,[]⟩=pure (ps.zip us)):MthT K C m qual st ps f (U2 m qual (kax st) (kav st) (kaf st) .none kV doc pm an cdv ct):=⟨a,i,ka8 l c k,Binds.all (b _ _ _ _ _ _)⟩
theorem all_mk{l:PySem.W.OpenLaw}{w:World}{K:UQ}{h:Heap}{mg:Str→Option Value}{fa zes zf4 z2q zff zg5 z76 zf5 z37 z1x z59 z36 zw z3s z7j z3x zbh z3t z4c z4b z22 zd2 z81 z1w z5a z5m z6g z9h z82 z4l z6a z4g z67 z8f z8g z48 z3h z9k z61 z8h z9o zbj zi z1a z3f zg zq z1t zk z1p z5f ze z19 z3e za zu z1m zc zx z2o zb zt z1n zp z1j z45 zj zy z29 zd z40 zm z9g z4e z5z z3z z3g zo z1c z46 zn zh zz zs:Addr}{z70 z20 zc0 z62 zi4 zg7 zay z5c zb7 z9a z3j z9b zd4 z7b zda zb8 z51 zan z7c z2t z7v zac z4t za9 z7p z32 z84 zbq z5v zbt z9x z4a za7 zbp z5q zcv z5k zb6:Option Addr}{z6s zcd zi3 zb0 zbi z96 z94 zd9 zei zal zao z7r z7y zaj zab z77 z7t zcs zc2 z9s za3 zc9 zcz z5j zaz:Array (Option Value)}{z6q z27 z2b z2g zv z2m zcp z5s z6e z5x z1o z6b zhz zg9 zg6 zg4 zeo zga zar z5i z53 z5e z2c z5g zax z8u z3u z41 z3q z1l z43 z8s zdg z80 z7o z8i z47 z78 zej zbe z58 z56 z5h z2i z5d zb1 z7d z35 z2z z2v z1k z3a z83 zae z4x z50 z4z z1s z4p zai z86 z2x z34 z2s z1b z2u z8a zcr z6d z5p z64 z3c z6j zcf za8 z4s z49 z4f z1u z4q z9r zce z65 z66 z5w z3b z5r zct z1v z5b:Value}{zav z30 z8m zd5 zap z7l za1 z7k zcx z9z z1z zby z3r z2n z23 z2h z5n z6f z5y:Nat}{zfi zfa z31 zf9 zg8 z7e zey z38 z1y z55 z2w z42 z7i z3v zb9 z3i z4o z4r z2f zd3 z79 z57 z5o z60 z9i z7h z4j z69 z4y z5l z85 z7s z4u z3p z9e z6c z7x z9m z3l z9n z4i z5u z44 z3w:FuncData}{zf zl:Array Value}{z2e z6k:Str}{z25 z28 z68 z6i:Int}{z24 z5t:Bool}{ts:List Addr}(X:K.In h)(G:h.Ns mainGlobals mg)(hfa:mg "law"=some (.ref fa))
  (zgy:Dn K mg "dealt" kgc ["cut","weights"] zes zfi)
  (zhc:Dn K mg "under" kgb ["parents","one","other"] zf4 zfa)
  (z8d:Dn K mg "price_of_piece" kbq ["line","member"] z2q z31)
  (zgz:Dn K mg "about" kdP ["voucher","parents","basket","standing"] zff zf9)
  (zht:Dn K mg "fits" kig ["marks","parents","kind","marked"] zg5 zg8)
  (zen:Dn K mg "hindrance" kcB ["voucher","parents","basket","standing"] z76 z7e)
  (zhj:Dn K mg "after" kgd ["voucher","parents","basket","standing"] zf5 zey)
  (z7g:Dn K mg "cuts_of_pieces" kbs ["voucher","parents","basket","standing"] z37 z38)
  (z6o:Dn K mg "cut_of_carriage" kbh ["voucher","standing"] z1x z1y)
  (zbb:Dn K mg "wanted_cuts" ka4 ["voucher","standing","pieces"] z59 z55)
  (z7w:Dn K mg "parted_by_line" kbr ["standing","pieces"] z36 z2w)
  (z8e:U7 K mainGlobals "falling_groups"=some (some (.ref zw))) (z7a:K.lookup zw=some ⟨z6q,z70, .func (U2 "falling_groups" "falling_groups" (kax kay) (kav kay) (kaf kay) .none z27 z2b z2g z20 zv z2m),z6s⟩) (z7q:Jm K zv "falling_groups"=true) (z7z:U5 K (.ref zw)=true)
  (z92:Dn K mg "marked_behind" kbx ["voucher","standing","piece_cuts"] z3s z42)
  (ze6:Dn K mg "prices_of" kb4 ["standing","pieces"] z7j z7i)
  (z8r:Dn K mg "sum_of_prices" kbw ["standing","pieces"] z3x z3v)
  (zfz:Dn K mg "at_most" kdO ["most","number"] zbh zb9)
  (z8n:Dn K mg "word_of_order" kbv ["till","hand","used","number"] z3t z3i)
  (za0:Dn K mg "breaks_never" kbR ["rules","used","number"] z4c z4o)
  (za5:Dn K mg "breaks_ahead" kbS ["rules","used","number"] z4b z4r)
  (z75:Dn K mg "without_company" kbg ["rules","order"] z22 z2f)
  (zgb:Dn K mg "orders" keR ["till","basket","hand"] zd2 zd3)
  (ze7:Dn K mg "ways_from" kcA ["way"] z81 z79)
  (zek:U7 K mainGlobals "first_use"=some (some (.ref z1w))) (zdp:K.lookup z1w=some ⟨zcp,zc0, .func (U2 "first_use" "first_use" (kax kaT) (kav kaT) (kaf kaT) .none z5s z6e z5x z62 z1o z6b),zcd⟩) (zdy:Jm K z1o "first_use"=true) (zdx:U5 K (.ref z1w)=true)
  (zba:Dn K mg "first_found" kb5 ["till","baskets","look"] z5a z57)
  (zbz:Dn K mg "order_with" kce ["ways","voucher"] z5m z5o)
  (zcq:Dn K mg "_law_whole" kcf ["_law_found"] z6g z60)
  (zfe:Dn K mg "_law_mix" kc5 ["_law_cell","_law_factor","_law_prime"] z9h z9i)
  (zdq:Dn K mg "_law_coin" kcF ["_law_cell"] z82 z7h)
  (za2:Dn K mg "_law_parents" kbU ["_law_cell"] z4l z4j)
  (zd0:Dn K mg "_law_marks" kci ["_law_cell","_law_kinds"] z6a z69)
  (z9t:Dn K mg "_law_voucher" kbT ["_law_cell","_law_kinds"] z4g z4y)
  (zcc:Dn K mg "_law_rules" kcg ["_law_cell","_law_many"] z67 z5l)
  (zdh:Dn K mg "_law_till" kcC ["_law_script","_law_most_here"] z8f z85)
  (ze5:Dn K mg "_law_line" kcE ["_law_cell","_law_kinds"] z8g z7s)
  (z9q:Dn K mg "_law_baskets" kbk ["_law_script","_law_kinds","_law_most_here"] z48 z4u)
  (z9d:Dn K mg "_law_order_is" kby ["_law_found","_law_due_here"] z3h z3p)
  (zf2:Dn K mg "_law_due" kc7 ["_law_told","_law_voucher_here"] z9k z9e)
  (zc3:Dn K mg "_law_right" kch ["_law_found","_law_due_here"] z61 z6c)
  (zdw:Dn K mg "_law_most" kcD ["_law_script","_law_wide"] z8h z7x)
  (zer:Dn K mg "_law_met" kc6 ["_law_till_here","_law_baskets_here"] z9o z9m)
  (zh4:U7 K mainGlobals "law"=some (some (.ref zbj))) (zib:K.lookup zbj=some ⟨zhz,zi4, .func (U2 "law" "law" (kax s_law) (kav s_law) (kaf s_law) .none zg9 zg6 zg4 zg7 zeo zga),zi3⟩) (zi9:Jm K zeo "law"=true) (zi8:U5 K (.ref zbj)=true)
  (zh7:U7 K mainGlobals "Marks"=some (some (.ref zi)))
  (zgl:UW K zi (.type "object")=some true) (zgj:UW K zi (.ref zi)=some true) (zgf:Js K (.ref zi)=some (.type "type"))
  (inX:Nj K (.builtin "object.__class__") "__get__"=some (some (.builtin "getset_descriptor.__get__"))) (itX:Mg K (.builtin "object.__class__")=some true)
  (zgd:Jr K zi Str.empty=true) (zgc:Ju K zi=true) (zgg:Jz K zi=true) (zgp:US K (.ref zi) "__setattr__"=some (some (.builtin "object.__setattr__"))) (zgh:Jw K zi=true) (zgk:U5 K (.ref zi)=true) (zgq:US K (.ref zi) "__class__"=some (some (.builtin "object.__class__")))
  (zcb:US K (.ref zi) "kind"=some none)
  (zb3:US K (.ref zi) "needs"=some none)
  (zbu:US K (.ref zi) "most"=some none)
  (z9w:US K (.ref zi) "member"=some none)
  (zcn:US K (.ref zi) "once"=some none)
  (zbw:US K (.ref zi) "lone"=some none)
  (zcj:US K (.ref zi) "__init__"=some (some (.ref z1a))) (zbo:Jv K (.ref z1a)=true) (zc7:K.lookup z1a=some ⟨zar,zay, .func (U2 "__init__" "Marks.__init__" (kax kaR) (kav kaR) (kaf kaR) (.ref z3f) z5i z53 z5e z5c z2c z5g),zb0⟩) (zbk:Jm K z2c "Marks.__init__"=true) (zck:U5 K (.ref z1a)=true) (zr:K.lookup z3f=some ⟨zax,zb7, .seq #[.none, .int 0 z30, .none, .bool false, .bool false, .bool false] zav,zbi⟩)
  (zg0:U7 K mainGlobals "Voucher"=some (some (.ref zg)))
  (zfc:UW K zg (.type "object")=some true) (zez:UW K zg (.ref zg)=some true) (zex:Js K (.ref zg)=some (.type "type"))
  (zf3:Jr K zg Str.empty=true) (zfb:Ju K zg=true) (zev:Jz K zg=true) (zf1:US K (.ref zg) "__setattr__"=some (some (.builtin "object.__setattr__"))) (zfj:Jw K zg=true) (zf0:U5 K (.ref zg)=true) (zet:US K (.ref zg) "__class__"=some (some (.builtin "object.__class__")))
  (zaa:US K (.ref zg) "__init__"=some (some (.ref zq))) (z9p:Jv K (.ref zq)=true) (zak:K.lookup zq=some ⟨z8u,z9a, .func (U2 "__init__" "Voucher.__init__" (kax kaL) (kav kaL) (kaf kaL) (.ref z1t) z3u z41 z3q z3j z1l z43),z96⟩) (zag:Jm K z1l "Voucher.__init__"=true) (za6:U5 K (.ref zq)=true) (z4v:K.lookup z1t=some ⟨z8s,z9b, .seq #[.none] z8m,z94⟩)
  (zhh:U7 K mainGlobals "Off"=some (some (.ref zk)))
  (z88:UW K zk (.type "object")=some true) (z8c:UW K zk (.ref zk)=some true) (z7m:Js K (.ref zk)=some (.type "type"))
  (zhr:Jr K zk Str.empty=true) (zhp:Ju K zk=true) (zhx:Jz K zk=true) (zhs:US K (.ref zk) "__setattr__"=some (some (.builtin "object.__setattr__"))) (zhq:Jw K zk=true) (zi6:U5 K (.ref zk)=true) (zhn:US K (.ref zk) "__class__"=some (some (.builtin "object.__class__")))
  (zc4:US K (.ref zk) "amount"=some none)
  (zdf:US K (.ref zk) "marks"=some none)
  (zeq:US K (.ref zk) "__init__"=some (some (.ref z1p))) (zew:Jv K (.ref z1p)=true) (zep:K.lookup z1p=some ⟨zdg,zd4, .func (U2 "__init__" "Off.__init__" (kax ka9) (kav ka9) (kaf ka9) (.ref z5f) z80 z7o z8i z7b z47 z78),zd9⟩) (zeu:Jm K z47 "Off.__init__"=true) (zf7:U5 K (.ref z1p)=true) (z9l:K.lookup z5f=some ⟨zej,zda, .seq #[.none] zd5,zei⟩)
  (zfg:U7 K mainGlobals "Share"=some (some (.ref ze)))
  (z3o:UW K ze (.type "object")=some true) (z3m:UW K ze (.ref ze)=some true) (z3n:Js K (.ref ze)=some (.type "type"))
  (zgt:Jr K ze Str.empty=true) (zgr:Ju K ze=true) (zgi:Jz K ze=true) (zgs:US K (.ref ze) "__setattr__"=some (some (.builtin "object.__setattr__"))) (zgn:Jw K ze=true) (zgo:U5 K (.ref ze)=true) (zgm:US K (.ref ze) "__class__"=some (some (.builtin "object.__class__")))
  (zat:US K (.ref ze) "share"=some none)
  (z8x:US K (.ref ze) "by_line"=some none)
  (zas:US K (.ref ze) "marks"=some none)
  (zbn:US K (.ref ze) "__init__"=some (some (.ref z19))) (zcw:Jv K (.ref z19)=true) (zc6:K.lookup z19=some ⟨zbe,zb8, .func (U2 "__init__" "Share.__init__" (kax kaQ) (kav kaQ) (kaf kaQ) (.ref z3e) z58 z56 z5h z51 z2i z5d),zal⟩) (zcl:Jm K z2i "Share.__init__"=true) (zca:U5 K (.ref z19)=true) (z3d:K.lookup z3e=some ⟨zb1,zan, .seq #[.bool false, .none] zap,zao⟩)
  (z9j:U7 K mainGlobals "Cheapest"=some (some (.ref za)))
  (z1h:UW K za (.type "object")=some true) (z1f:UW K za (.ref za)=some true) (z1g:Js K (.ref za)=some (.type "type"))
  (ze4:Jr K za Str.empty=true) (zdj:Ju K za=true) (zdd:Jz K za=true) (zdo:US K (.ref za) "__setattr__"=some (some (.builtin "object.__setattr__"))) (zec:Jw K za=true) (zeg:U5 K (.ref za)=true) (zde:US K (.ref za) "__class__"=some (some (.builtin "object.__class__")))
  (z8l:US K (.ref za) "many"=some none)
  (z7u:US K (.ref za) "marks"=some none)
  (z95:US K (.ref za) "__init__"=some (some (.ref zu))) (z8v:Jv K (.ref zu)=true) (z99:K.lookup zu=some ⟨z7d,z7c, .func (U2 "__init__" "Cheapest.__init__" (kax kaG) (kav kaG) (kaf kaG) (.ref z1m) z35 z2z z2v z2t z1k z3a),z7r⟩) (z8w:Jm K z1k "Cheapest.__init__"=true) (z91:U5 K (.ref zu)=true) (z3y:K.lookup z1m=some ⟨z83,z7v, .seq #[.none] z7l,z7y⟩)
  (zd1:U7 K mainGlobals "Bundle"=some (some (.ref zc)))
  (z2j:UW K zc (.type "object")=some true) (z26:UW K zc (.ref zc)=some true) (z2p:Js K (.ref zc)=some (.type "type"))
  (zfu:Jr K zc Str.empty=true) (zfw:Ju K zc=true) (zfo:Jz K zc=true) (zfq:US K (.ref zc) "__setattr__"=some (some (.builtin "object.__setattr__"))) (zfy:Jw K zc=true) (zfs:U5 K (.ref zc)=true) (zg1:US K (.ref zc) "__class__"=some (some (.builtin "object.__class__")))
  (zaq:US K (.ref zc) "many"=some none)
  (z9u:US K (.ref zc) "price"=some none)
  (z9y:US K (.ref zc) "marks"=some none)
  (zbf:US K (.ref zc) "__init__"=some (some (.ref zx))) (zaw:Jv K (.ref zx)=true) (zbg:K.lookup zx=some ⟨zae,zac, .func (U2 "__init__" "Bundle.__init__" (kax kaO) (kav kaO) (kaf kaO) (.ref z2o) z4x z50 z4z z4t z1s z4p),zaj⟩) (zam:Jm K z1s "Bundle.__init__"=true) (zb2:U5 K (.ref zx)=true) (z52:K.lookup z2o=some ⟨zai,za9, .seq #[.none] za1,zab⟩)
  (z9f:U7 K mainGlobals "Carriage"=some (some (.ref zb)))
  (z1e:UW K zb (.type "object")=some true) (z1i:UW K zb (.ref zb)=some true) (z1d:Js K (.ref zb)=some (.type "type"))
  (zeb:Jr K zb Str.empty=true) (zdr:Ju K zb=true) (zd8:Jz K zb=true) (zdm:US K (.ref zb) "__setattr__"=some (some (.builtin "object.__setattr__"))) (ze2:Jw K zb=true) (zdv:U5 K (.ref zb)=true) (zee:US K (.ref zb) "__class__"=some (some (.builtin "object.__class__")))
  (z89:US K (.ref zb) "marks"=some none)
  (z98:US K (.ref zb) "__init__"=some (some (.ref zt))) (z8o:Jv K (.ref zt)=true) (z90:K.lookup zt=some ⟨z86,z7p, .func (U2 "__init__" "Carriage.__init__" (kax kaH) (kav kaH) (kaf kaH) (.ref z1n) z2x z34 z2s z32 z1b z2u),z77⟩) (z8y:Jm K z1b "Carriage.__init__"=true) (z8t:U5 K (.ref zt)=true) (z3k:K.lookup z1n=some ⟨z8a,z84, .seq #[.none] z7k,z7t⟩)
  (zhm:U7 K mainGlobals "Line"=some (some (.ref zp)))
  (zh2:UW K zp (.type "object")=some true) (zha:UW K zp (.ref zp)=some true) (zhe:Js K (.ref zp)=some (.type "type"))
  (zhd:Jr K zp Str.empty=true) (zhk:Ju K zp=true) (zh1:Jz K zp=true) (zhi:US K (.ref zp) "__setattr__"=some (some (.builtin "object.__setattr__"))) (zh6:Jw K zp=true) (zh3:U5 K (.ref zp)=true) (zhg:US K (.ref zp) "__class__"=some (some (.builtin "object.__class__")))
  (zea:US K (.ref zp) "kind"=some none)
  (zbm:US K (.ref zp) "price"=some none)
  (zdn:US K (.ref zp) "many"=some none)
  (z9v:US K (.ref zp) "special"=some none)
  (zef:US K (.ref zp) "__init__"=some (some (.ref z1j))) (ze1:Jv K (.ref z1j)=true) (zdi:K.lookup z1j=some ⟨zcr,zbq, .func (U2 "__init__" "Line.__init__" (kax ka1) (kav ka1) (kaf ka1) (.ref z45) z6d z5p z64 z5v z3c z6j),zcs⟩) (zdb:Jm K z3c "Line.__init__"=true) (zeh:U5 K (.ref z1j)=true) (z7n:K.lookup z45=some ⟨zcf,zbt, .seq #[.none] zcx,zc2⟩)
  (zge:U7 K mainGlobals "Basket"=some (some (.ref zj)))
  (zfm:UW K zj (.type "object")=some true) (zfl:UW K zj (.ref zj)=some true) (zg3:Js K (.ref zj)=some (.type "type"))
  (zfp:Jr K zj Str.empty=true) (zfr:Ju K zj=true) (zft:Jz K zj=true) (zfv:US K (.ref zj) "__setattr__"=some (some (.builtin "object.__setattr__"))) (zfn:Jw K zj=true) (zfx:U5 K (.ref zj)=true) (zg2:US K (.ref zj) "__class__"=some (some (.builtin "object.__class__")))
  (zad:US K (.ref zj) "lines"=some none)
  (z6v:US K (.ref zj) "carriage"=some none)
  (z93:US K (.ref zj) "member"=some none)
  (zau:US K (.ref zj) "__init__"=some (some (.ref zy))) (zbc:Jv K (.ref zy)=true) (zb4:K.lookup zy=some ⟨za8,z9x, .func (U2 "__init__" "Basket.__init__" (kax kaP) (kav kaP) (kaf kaP) (.ref z29) z4s z49 z4f z4a z1u z4q),z9s⟩) (zbd:Jm K z1u "Basket.__init__"=true) (zb5:U5 K (.ref zy)=true) (z2a:K.lookup z29=some ⟨z9r,za7, .seq #[.int 0 z1z, .bool false] z9z,za3⟩)
  (zfd:U7 K mainGlobals "Standing"=some (some (.ref zd)))
  (zdu:UW K zd (.type "object")=some true) (zdl:UW K zd (.ref zd)=some true) (zel:Js K (.ref zd)=some (.type "type"))
  (zed:Jr K zd Str.empty=true) (ze0:Ju K zd=true) (zd6:Jz K zd=true) (zds:US K (.ref zd) "__setattr__"=some (some (.builtin "object.__setattr__"))) (zdc:Jw K zd=true) (ze9:U5 K (.ref zd)=true) (zem:US K (.ref zd) "__class__"=some (some (.builtin "object.__class__")))
  (z6l:US K (.ref zd) "owners"=some none)
  (z6x:US K (.ref zd) "prices"=some none)
  (z54:US K (.ref zd) "carriage"=some none)
  (z6u:US K (.ref zd) "marked"=some none)
  (z8j:MthT K zd "__init__" "Standing.__init__" kbA ["self","basket"] z40 z3l)
  (zia:U7 K mainGlobals "Way"=some (some (.ref zm)))
  (zi2:UW K zm (.type "object")=some true) (zhl:UW K zm (.ref zm)=some true) (zhu:Js K (.ref zm)=some (.type "type"))
  (zi7:Jr K zm Str.empty=true) (zhw:Ju K zm=true) (zhy:Jz K zm=true) (zho:US K (.ref zm) "__setattr__"=some (some (.builtin "object.__setattr__"))) (zi0:Jw K zm=true) (zi5:U5 K (.ref zm)=true) (zhv:US K (.ref zm) "__class__"=some (some (.builtin "object.__class__")))
  (zfh:US K (.ref zm) "till"=some none)
  (zcm:US K (.ref zm) "basket"=some none)
  (zf8:US K (.ref zm) "hand"=some none)
  (zfk:US K (.ref zm) "used"=some none)
  (zah:US K (.ref zm) "standing"=some none)
  (zf6:MthT K zm "__init__" "Way.__init__" kc8 ["self","till","basket","hand"] z9g z9n)
  (zaf:MthT K zm "word_for" "Way.word_for" kbV ["self","number"] z4e z4i)
  (zbr:MthT K zm "behind" "Way.behind" kck ["self","number"] z5z z5u)
  (z8z:MthT K zm "followers" "Way.followers" kbc ["self"] z3z z44)
  (z8p:MthT K zm "is_let_by" "Way.is_let_by" kbz ["self"] z3g z3w)
  (zi1:U7 K mainGlobals "Till"=some (some (.ref zo)))
  (zhf:UW K zo (.type "object")=some true) (zgv:UW K zo (.ref zo)=some true) (zh9:Js K (.ref zo)=some (.type "type"))
  (zgx:Jr K zo Str.empty=true) (zgu:Ju K zo=true) (zh8:Jz K zo=true) (zh0:US K (.ref zo) "__setattr__"=some (some (.builtin "object.__setattr__"))) (zh5:Jw K zo=true) (zhb:U5 K (.ref zo)=true) (zgw:US K (.ref zo) "__class__"=some (some (.builtin "object.__class__")))
  (za4:US K (.ref zo) "parents"=some none)
  (z97:US K (.ref zo) "vouchers"=some none)
  (zc5:US K (.ref zo) "rules"=some none)
  (zdz:US K (.ref zo) "back"=some none)
  (zdt:US K (.ref zo) "__init__"=some (some (.ref z1c))) (zd7:Jv K (.ref z1c)=true) (zdk:K.lookup z1c=some ⟨zce,zbp, .func (U2 "__init__" "Till.__init__" (kax ka0) (kav ka0) (kaf ka0) (.ref z46) z65 z66 z5w z5q z3b z5r),zc9⟩) (ze3:Jm K z3b "Till.__init__"=true) (ze8:U5 K (.ref z1c)=true) (z8b:K.lookup z46=some ⟨zct,zcv, .seq #[.str "again" z3r] zby,zcz⟩)
  (z8k:PySem.W.readsIn K zg (.type "type")=true) (z8q:Nj K (.ref zg) "__getattribute__"=some (some (.builtin "type.__getattribute__"))) (z9c:PySem.W.findCls K (.ref zg) (.type "type") "__init__"=some (.val (.ref zq)))
  (z4d:UW K zk (.ref zb)=some false)
  (z2y:UW K ze (.ref zb)=some false)
  (z1q:UW K za (.ref zb)=some false)
  (z2k:UW K zc (.ref zb)=some false)
  (z7f:UW K ze (.ref zk)=some false)
  (z4h:UW K za (.ref zk)=some false)
  (z63:UW K zc (.ref zk)=some false)
  (z4k:UW K zb (.ref zk)=some false)
  (z87:UW K zk (.ref ze)=some false)
  (z33:UW K za (.ref ze)=some false)
  (z4n:UW K zc (.ref ze)=some false)
  (z2r:UW K zb (.ref ze)=some false)
  (z4m:UW K zk (.ref za)=some false)
  (z39:UW K ze (.ref za)=some false)
  (z2l:UW K zc (.ref za)=some false)
  (z1r:UW K zb (.ref za)=some false)
  (z6h:UW K zk (.ref zc)=some false)
  (z4w:UW K ze (.ref zc)=some false)
  (z21:UW K za (.ref zc)=some false)
  (z2d:UW K zb (.ref zc)=some false)
  (z71:zv=.ref zn)
  (z6t:K.lookup zn=some ⟨z1v,z5k, .fields zf,z5j⟩)
  (z6r:z1v=.type "code")
  (z74:zf[11]?=some (.ref zh))
  (z6w:zf.getD 11 .none=.ref zh)
  (z73:zf.getD 18 .none=.str z2e z2n)
  (z6p:zf.getD 7 .none=.int z25 z23)
  (z6y:zf.getD 9 .none=.bool z24)
  (z6z:zf.getD 10 .none=.int z28 z2h)
  (z6m:zn≠zh)
  (z72:K.lookup zh=none)
  (z6n:zh∈ts)
  (zco:z1o=.ref zz)
  (zc1:K.lookup zz=some ⟨z5b,zb6, .fields zl,zaz⟩)
  (zci:z5b=.type "code")
  (zch:zl[11]?=some (.ref zs))
  (zbl:zl.getD 11 .none=.ref zs)
  (zcu:zl.getD 18 .none=.str z6k z5n)
  (zc8:zl.getD 7 .none=.int z68 z6f)
  (zcy:zl.getD 9 .none=.bool z5t)
  (zbx:zl.getD 10 .none=.int z6i z5y)
  (zbs:zz≠zs)
  (zbv:K.lookup zs=none)
  (zcg:zs∈ts)
  (z1:U7 K mainGlobals "range"=some none)
  (z2:U7 K mainGlobals "len"=some none)
  (z3:U7 K mainGlobals "min"=some none)
  (z4:U7 K mainGlobals "max"=some none)
  (z5:U7 K mainGlobals "isinstance"=some none)
  (z6:U7 K mainGlobals "bool"=some none)
  (z7:U7 K mainGlobals "int"=some none)
  (z8:U7 K mainGlobals "list"=some none)
  (z9:U7 K mainGlobals "sum"=some none)
  (z10:U7 K mainGlobals "enumerate"=some none)
  (z11:U7 K mainGlobals "any"=some none)
  (z12:U7 K mainGlobals "all"=some none)
  (z13:U7 K mainGlobals "reversed"=some none)
  (z14:U7 K mainGlobals "zip"=some none)
  (z15:U7 K mainGlobals "abs"=some none)
  (z16:U7 K mainGlobals "sorted"=some none)
  (z17:U7 K mainGlobals "tuple"=some none)
  (z18:U7 K mainGlobals "str"=some none)
  :∃(fd:FuncData)(tP c0 tR c1:Addr),tP∈ts∧CodeK K c0 tP∧K.lookup tP=none∧tR∈ts∧CodeK K c1 tR∧K.lookup tR=none∧(∀(s:Shared)(v:Value),BindsTo s fd ⟨[v],[]⟩ [("_law_script",v)])∧∀base:Heap,K.In base→base.Ns mainGlobals mg→BltM mg base→FnOk l.prog w K mg base CX0 22 fa fd ["_law_script"] (kdM K tP tR):=by
 have e:=hfa.symm.trans (Jj X G zh4)
 have hf:zbj=fa:=by
  injection e with e
  injection e with e
  exact e.symm
 subst hf
 have B:TxtB mg:=⟨Jo X G z1,Jo X G z2,Jo X G z3,Jo X G z4,Jo X G z5,Jo X G z6,Jo X G z7,Jo X G z8,Jo X G z9,Jo X G z10,Jo X G z11,Jo X G z12,Jo X G z13,Jo X G z14,Jo X G z15,Jo X G z16,Jo X G z17,Jo X G z18⟩
 have W:Wld K mg ⟨(zes),(zfi),(zf4),(zfa),(z2q),(z31),(zff),(zf9),(zg5),(zg8),(z76),(z7e),(zf5),(zey),(z37),(z38),(z1x),(z1y),(z59),(z55),(z36),(z2w),(zw),(U2 "falling_groups" "falling_groups" (kax kay) (kav kay) (kaf kay) .none z27 z2b z2g z20 zv z2m),(z3s),(z42),(z7j),(z7i),(z3x),(z3v),(zbh),(zb9),(z3t),(z3i),(z4c),(z4o),(z4b),(z4r),(z22),(z2f),(zd2),(zd3),(z81),(z79),(z1w),(U2 "first_use" "first_use" (kax kaT) (kav kaT) (kaf kaT) .none z5s z6e z5x z62 z1o z6b),(z5a),(z57),(z5m),(z5o),(z6g),(z60),(z9h),(z9i),(z82),(z7h),(z4l),(z4j),(z6a),(z69),(z4g),(z4y),(z67),(z5l),(z8f),(z85),(z8g),(z7s),(z48),(z4u),(z3h),(z3p),(z9k),(z9e),(z61),(z6c),(z8h),(z7x),(z9o),(z9m),(zbj),(U2 "law" "law" (kax s_law) (kav s_law) (kaf s_law) .none zg9 zg6 zg4 zg7 zeo zga),(zi),(z1a),(U2 "__init__" "Marks.__init__" (kax kaR) (kav kaR) (kaf kaR) (.ref z3f) z5i z53 z5e z5c z2c z5g),(z30),(zg),(zq),(U2 "__init__" "Voucher.__init__" (kax kaL) (kav kaL) (kaf kaL) (.ref z1t) z3u z41 z3q z3j z1l z43),(zk),(z1p),(U2 "__init__" "Off.__init__" (kax ka9) (kav ka9) (kaf ka9) (.ref z5f) z80 z7o z8i z7b z47 z78),(ze),(z19),(U2 "__init__" "Share.__init__" (kax kaQ) (kav kaQ) (kaf kaQ) (.ref z3e) z58 z56 z5h z51 z2i z5d),(za),(zu),(U2 "__init__" "Cheapest.__init__" (kax kaG) (kav kaG) (kaf kaG) (.ref z1m) z35 z2z z2v z2t z1k z3a),(zc),(zx),(U2 "__init__" "Bundle.__init__" (kax kaO) (kav kaO) (kaf kaO) (.ref z2o) z4x z50 z4z z4t z1s z4p),(zb),(zt),(U2 "__init__" "Carriage.__init__" (kax kaH) (kav kaH) (kaf kaH) (.ref z1n) z2x z34 z2s z32 z1b z2u),(zp),(z1j),(U2 "__init__" "Line.__init__" (kax ka1) (kav ka1) (kaf ka1) (.ref z45) z6d z5p z64 z5v z3c z6j),(zj),(zy),(U2 "__init__" "Basket.__init__" (kax kaP) (kav kaP) (kaf kaP) (.ref z29) z4s z49 z4f z4a z1u z4q),(z1z),(zd),(z40),(z3l),(zm),(z9g),(z9n),(z4e),(z4i),(z5z),(z5u),(z3z),(z44),(z3g),(z3w),(zo),(z1c),(U2 "__init__" "Till.__init__" (kax ka0) (kav ka0) (kaf ka0) (.ref z46) z65 z66 z5w z5q z3b z5r),(z3r),(zn),(zh),(zz),(zs)⟩:=⟨B,zgy,zhc,z8d,zgz,zht,zen,zhj,z7g,z6o,zbb,z7w,⟨(ka8 z7a z7q z7z),(Binds.all (nL3 fun _ _ _=>rfl)),Jj X G z8e⟩,z92,ze6,z8r,zfz,z8n,za0,za5,z75,zgb,ze7,⟨(ka8 zdp zdy zdx),(Binds.all (nL3 fun _ _ _=>rfl)),Jj X G zek⟩,zba,zbz,zcq,zfe,zdq,za2,zd0,z9t,zcc,zdh,ze5,z9q,z9d,zf2,zc3,zdw,zer,⟨(ka8 zib zi9 zi8),(Binds.all (nL1 fun _=>rfl)),Jj X G zh4⟩,⟨⟨zgd,zgc,zgg,zgp⟩,Jj X G zh7,⟨zgq,inX,itX,zgl⟩,zgj,zgf,zgh,zgk⟩,zcb,zb3,zbu,z9w,zcn,zbw,⟨zcj,zbo,(ka8 zc7 zbk zck),(bd_mk (n:=7) rfl fun _ KX=>nL7 fun _ _ _ _ _ _ _=>BindsTo.of_defaults rfl (KX _ _ zr) rfl rfl rfl)⟩,(bd_mk (n:=6) rfl fun _ KX=>nL6 fun _ _ _ _ _ _=>BindsTo.of_defaults rfl (KX _ _ zr) rfl rfl rfl),(bd_mk (n:=5) rfl fun _ KX=>nL5 fun _ _ _ _ _=>BindsTo.of_defaults rfl (KX _ _ zr) rfl rfl rfl),(bd_mk (n:=4) rfl fun _ KX=>nL4 fun _ _ _ _=>BindsTo.of_defaults rfl (KX _ _ zr) rfl rfl rfl),(bd_mk (n:=3) rfl fun _ KX=>nL3 fun _ _ _=>BindsTo.of_defaults rfl (KX _ _ zr) rfl rfl rfl),(bd_mk (n:=2) rfl fun _ KX=>nL2 fun _ _=>BindsTo.of_defaults rfl (KX _ _ zr) rfl rfl rfl),(bd_mk (n:=1) rfl fun _ KX=>nL1 fun _=>BindsTo.of_defaults rfl (KX _ _ zr) rfl rfl rfl),⟨⟨zf3,zfb,zev,zf1⟩,Jj X G zg0,⟨zet,inX,itX,zfc⟩,zez,zex,zfj,zf0⟩,⟨zaa,z9p,(ka8 zak zag za6),(bd_mk (n:=2) rfl fun _ KX=>nL2 fun _ _=>BindsTo.of_defaults rfl (KX _ _ z4v) rfl rfl rfl)⟩,(bd_mk (n:=1) rfl fun _ KX=>nL1 fun _=>BindsTo.of_defaults rfl (KX _ _ z4v) rfl rfl rfl),Jj X G zhh,⟨⟨zhr,zhp,zhx,zhs⟩,Jj X G zhh,⟨zhn,inX,itX,z88⟩,z8c,z7m,zhq,zi6⟩,zc4,zdf,⟨zeq,zew,(ka8 zep zeu zf7),(bd_mk (n:=3) rfl fun _ KX=>nL3 fun _ _ _=>BindsTo.of_defaults rfl (KX _ _ z9l) rfl rfl rfl)⟩,(bd_mk (n:=2) rfl fun _ KX=>nL2 fun _ _=>BindsTo.of_defaults rfl (KX _ _ z9l) rfl rfl rfl),Jj X G zfg,⟨⟨zgt,zgr,zgi,zgs⟩,Jj X G zfg,⟨zgm,inX,itX,z3o⟩,z3m,z3n,zgn,zgo⟩,zat,z8x,zas,⟨zbn,zcw,(ka8 zc6 zcl zca),(bd_mk (n:=4) rfl fun _ KX=>nL4 fun _ _ _ _=>BindsTo.of_defaults rfl (KX _ _ z3d) rfl rfl rfl)⟩,(bd_mk (n:=3) rfl fun _ KX=>nL3 fun _ _ _=>BindsTo.of_defaults rfl (KX _ _ z3d) rfl rfl rfl),(bd_mk (n:=2) rfl fun _ KX=>nL2 fun _ _=>BindsTo.of_defaults rfl (KX _ _ z3d) rfl rfl rfl),Jj X G z9j,⟨⟨ze4,zdj,zdd,zdo⟩,Jj X G z9j,⟨zde,inX,itX,z1h⟩,z1f,z1g,zec,zeg⟩,z8l,z7u,⟨z95,z8v,(ka8 z99 z8w z91),(bd_mk (n:=3) rfl fun _ KX=>nL3 fun _ _ _=>BindsTo.of_defaults rfl (KX _ _ z3y) rfl rfl rfl)⟩,(bd_mk (n:=2) rfl fun _ KX=>nL2 fun _ _=>BindsTo.of_defaults rfl (KX _ _ z3y) rfl rfl rfl),Jj X G zd1,⟨⟨zfu,zfw,zfo,zfq⟩,Jj X G zd1,⟨zg1,inX,itX,z2j⟩,z26,z2p,zfy,zfs⟩,zaq,z9u,z9y,⟨zbf,zaw,(ka8 zbg zam zb2),(bd_mk (n:=4) rfl fun _ KX=>nL4 fun _ _ _ _=>BindsTo.of_defaults rfl (KX _ _ z52) rfl rfl rfl)⟩,(bd_mk (n:=3) rfl fun _ KX=>nL3 fun _ _ _=>BindsTo.of_defaults rfl (KX _ _ z52) rfl rfl rfl),Jj X G z9f,⟨⟨zeb,zdr,zd8,zdm⟩,Jj X G z9f,⟨zee,inX,itX,z1e⟩,z1i,z1d,ze2,zdv⟩,z89,⟨z98,z8o,(ka8 z90 z8y z8t),(bd_mk (n:=2) rfl fun _ KX=>nL2 fun _ _=>BindsTo.of_defaults rfl (KX _ _ z3k) rfl rfl rfl)⟩,(bd_mk (n:=1) rfl fun _ KX=>nL1 fun _=>BindsTo.of_defaults rfl (KX _ _ z3k) rfl rfl rfl),⟨⟨zhd,zhk,zh1,zhi⟩,Jj X G zhm,⟨zhg,inX,itX,zh2⟩,zha,zhe,zh6,zh3⟩,zea,zbm,zdn,z9v,⟨zef,ze1,(ka8 zdi zdb zeh),(bd_mk (n:=5) rfl fun _ KX=>nL5 fun _ _ _ _ _=>BindsTo.of_defaults rfl (KX _ _ z7n) rfl rfl rfl)⟩,(bd_mk (n:=4) rfl fun _ KX=>nL4 fun _ _ _ _=>BindsTo.of_defaults rfl (KX _ _ z7n) rfl rfl rfl),⟨⟨zfp,zfr,zft,zfv⟩,Jj X G zge,⟨zg2,inX,itX,zfm⟩,zfl,zg3,zfn,zfx⟩,zad,z6v,z93,⟨zau,zbc,(ka8 zb4 zbd zb5),(bd_mk (n:=4) rfl fun _ KX=>nL4 fun _ _ _ _=>BindsTo.of_defaults rfl (KX _ _ z2a) rfl rfl rfl)⟩,(bd_mk (n:=3) rfl fun _ KX=>nL3 fun _ _ _=>BindsTo.of_defaults rfl (KX _ _ z2a) rfl rfl rfl),(bd_mk (n:=2) rfl fun _ KX=>nL2 fun _ _=>BindsTo.of_defaults rfl (KX _ _ z2a) rfl rfl rfl),⟨⟨zed,ze0,zd6,zds⟩,Jj X G zfd,⟨zem,inX,itX,zdu⟩,zdl,zel,zdc,ze9⟩,z6l,z6x,z54,z6u,z8j,⟨⟨zi7,zhw,zhy,zho⟩,Jj X G zia,⟨zhv,inX,itX,zi2⟩,zhl,zhu,zi0,zi5⟩,zfh,zcm,zf8,zfk,zah,zf6,zaf,zbr,z8z,z8p,⟨⟨zgx,zgu,zh8,zh0⟩,Jj X G zi1,⟨zgw,inX,itX,zhf⟩,zgv,zh9,zh5,zhb⟩,za4,z97,zc5,zdz,⟨zdt,zd7,(ka8 zdk ze3 ze8),(bd_mk (n:=5) rfl fun _ KX=>nL5 fun _ _ _ _ _=>BindsTo.of_defaults rfl (KX _ _ z8b) rfl rfl rfl)⟩,(bd_mk (n:=4) rfl fun _ KX=>nL4 fun _ _ _ _=>BindsTo.of_defaults rfl (KX _ _ z8b) rfl rfl rfl),⟨z8k,z8q,z9c⟩,kaJ z4d z1e z1d (kbb z4d z8c),kaJ z2y z1e z1d (kbb z2y z3m),kaJ z1q z1e z1d (kbb z1q z1f),kaJ z2k z1e z1d (kbb z2k z26),kaJ z7f z88 z7m (kbb z7f z3m),kaJ z4h z88 z7m (kbb z4h z1f),kaJ z63 z88 z7m (kbb z63 z26),kaJ z4k z88 z7m (kbb z4k z1i),kaJ z87 z3o z3n (kbb z87 z8c),kaJ z33 z3o z3n (kbb z33 z1f),kaJ z4n z3o z3n (kbb z4n z26),kaJ z2r z3o z3n (kbb z2r z1i),kaJ z4m z1h z1g (kbb z4m z8c),kaJ z39 z1h z1g (kbb z39 z3m),kaJ z2l z1h z1g (kbb z2l z26),kaJ z1r z1h z1g (kbb z1r z1i),kaJ z6h z2j z2p (kbb z6h z8c),kaJ z4w z2j z2p (kbb z4w z3m),kaJ z21 z2j z2p (kbb z21 z1f),kaJ z2d z2j z2p (kbb z2d z1i),z71,⟨_,zf,z2e,z2n,z25,z23,z24,z28,z2h,z6t,z6r,rfl,z74,z6w,z73,z6p,z6y,z6z,z6m⟩,zco,⟨_,zl,z6k,z5n,z68,z6f,z5t,z6i,z5y,zc1,zci,rfl,zch,zbl,zcu,zc8,zcy,zbx,zbs⟩⟩
 exact⟨_,zh,zn,zs,zz,z6n,W.ck_falling_groups,z72,zcg,W.ck_first_use,zbv,fun s v=>.of_eq rfl,fun base _ _ hB=>klA ⟨W,hB⟩⟩
end Vs
namespace PySem.W.Fast
def tw3181597732565430464:=0
def tw5576372966137173473:=0
def tw9192243539513455204:=0
def tw3260218810643147364:=0
def tw7405401352002472676:=0
def tw10998293157896065605:=0
def tw689581604244257701:=0
def tw3530155148584859942:=0
def tw17444987349333820774:=0
def tw13152936023093335081:=0
def tw4577473142011933161:=0
def tw9294931152007791306:=0
def tw3450986923970967019:=0
def tw16859574414690706027:=0
def tw11809699046840421612:=0
def tw4371590437550334220:=0
def tw6271722573380819404:=0
def tw16099171087923791533:=0
def tw5689182071831682063:=0
def tw14822595388270515311:=0
def tw14410282777791901106:=0
def tw17104854595411086930:=0
def tw10297147998706166195:=0
def tw13702492706399698803:=0
def tw14341188996151829748:=0
def tw4173123761597164342:=0
def tw12569644037051055415:=0
def tw14714406261140655864:=0
def tw15707165267559783192:=0
def tw1505240370217075833:=0
def tw7006148889170250905:=0
def tw11684907705718297947:=0
def tw4418757723047263325:=0
def tw11818209028467295102:=0
def tw7129049213194055520:=0
def tw4915117183105892667:=0
def tw12912115064677289175:=0
def tw9772569133232524543:=0
def tw10393652938424732787:=0
def tw12277126269810307792:=0
def tw3085084696598915647:=0
def tw1645321627698952719:=0
def tw13114867372650172377:=0
def tw18437749693632216751:=0
def tw7600341746963559342:=0
def tw131473143662992345:=0
def tw1576536522389807434:=0
def tw3959271474506922911:=0
def tw12576857623960125707:=0
def tw11690082640292682656:=0
def tw17554950885721932083:=0
def tw408379911546916653:=0
def tw9024650959496965341:=0
def tw9999164652238293502:=0
def tw10669809239175829964:=0
def tw12871863541501004285:=0
def tw12838354684390994213:=0
def tw10192239443241838676:=0
def tw5850588658619638862:=0
def tw9968579339404084159:=0
def tw8976145758474802010:=0
def tw7087612175142038884:=0
def tw14665629709916172008:=0
def tw18433217159590908257:=0
def tw9619214138579280646:=0
def tw16987376933212514927:=0
def tw17798547817815206388:=0
def tw12062261966342893212:=0
def tw3893080359538856852:=0
def tw11204584773043195337:=0
def tw7241276685676918292:=0
def tw10756835206695810806:=0
def tw10032919518563294801:=0
def tw4282017046683319052:=0
def tw14333252986920331485:=0
def tw10829294631973309094:=0
def tw10121233237950551757:=0
def tw9328702761300354622:=0
def tw4041641683460734582:=0
def tw4130852223214325581:=0
def tw16283543833950878063:=0
def tw3356292351119092785:=0
def tw4422422911040357053:=0
def tw17365694514957965783:=0
def tw14692484314340019689:=0
def tw17938293678872937712:=0
def tw12084808765672320132:=0
def tw7969926360813383400:=0
def tw14682545574709990550:=0
def tw18252385761954480320:=0
def tw8153008564396673403:=0
def tw836878127476043276:=0
def tw7857460762586784306:=0
def tw5935820751699467597:=0
def tw7466025865548147842:=0
def tw4100779177725731340:=0
def tw15247772357084287553:=0
def tw9383243872291582437:=0
def tw7298380625540094439:=0
def tw15835980543285012352:=0
def tw13335333236513556500:=0
def tw3513148169829115320:=0
def tw17508968772290198448:=0
def tw13980152907344473373:=0
def tw3797349153447061993:=0
def tw16195835317574493222:=0
def tw12534872278889468222:=0
def tw10441748634350017518:=0
def tw2689086192507091701:=0
def tw16057637910976658052:=0
def tw40124793091976171:=0
def tw16032533207651041454:=0
def tw275734453149991525:=0
def tw16394486627923810928:=0
def tw14936298179915567492:=0
def tw16462490822459056120:=0
def tw14186466066225937782:=0
def tw10346985269224849660:=0
def tw14845272025193560760:=0
def tw15765879309644404122:=0
def tw2326799796678917823:=0
def tw3945562116086519735:=0
def tw9951734478845940394:=0
def tw1567834079635570131:=0
def tw1459724303612634777:=0
def tw12376058729231976644:=0
def tw6077518029221211390:=0
def tw12016814427778025694:=0
def tw3454561823513567842:=0
def tw15777272145821428475:=0
def tw1122027059972805141:=0
def tw10288608850729133258:=0
def tw593241402793287361:=0
def tw5106179610559580046:=0
def tw1511127642884602504:=0
def tw4399150910693327571:=0
def tw18140304328380295638:=0
def tw17830041742516365075:=0
def tw9927879381310042454:=0
def tw6239658516244486555:=0
def tw11237207687741993884:=0
def tw10323697371529646168:=0
def tw5496672414907879468:=0
def tw5305166678716947522:=0
def tw7198825546340590829:=0
def tw15150807551767821195:=0
def tw17524252276446692729:=0
def tw7961784659291023396:=0
def tw4633069262593185767:=0
def tw5149591493247113076:=0
def tw2391472192268315231:=0
def tw1400288312084827711:=0
def tw18197172530884720122:=0
def tw4097574412596441984:=0
def tw115639395240338015:=0
def tw16340339355406136701:=0
def tw17576961234766113041:=0
def tw16892879983133343788:=0
def tw13719671882228154686:=0
def tw478706456168308185:=0
def tw4159104939627275888:=0
def tw18057157893744725334:=0
def tw691439898472672990:=0
def tw7618061871525941990:=0
def tw2269820770763920912:=0
def tw7485935748546646574:=0
def tw6606060605475419443:=0
def tw1213583694472194084:=0
def tw14418646078996944267:=0
def tw1716744642181875098:=0
def tw11433987330083878640:=0
def tw13362959181689046077:=0
def tw11096094416009905777:=0
def tw13150573765919487451:=0
def tw9751697802805829941:=0
def tw3107708507338123368:=0
def tw4149733940658766797:=0
def tw2619374799676199165:=0
def tw10854555480516895909:=0
def tw9146385737706447807:=0
def tw1275420698323949444:=0
def tw16778218587193173566:=0
def tw1403131929983859527:=0
def tw17025045146944433629:=0
def tw8915218124234278010:=0
def tw16438190307935387461:=0
def tw9699037007368166108:=0
def tw14289976800365416132:=0
def tw11275807614421355285:=0
def tw11767915097161373138:=0
def tw650508380294740614:=0
def tw271690552263148199:=0
def tw17390446984942210138:=0
def tw11208241718507856706:=0
def tw1490644016043065859:=0
def tw2231425386363344488:=0
def tw16657397265008140052:=0
def tw11795633303426942088:=0
def tw458238722822671984:=0
end PySem.W.Fast
open PySem PySem.W PyProof.Rows
set_option maxRecDepth 100000 in
set_option maxHeartbeats 0 in
theorem PySem.Challenge.cw_voucherstack_k38_first_use_holds : PySem.Challenge.rw_voucherstack_k38_first_use.Holds := by
 w_on;o_law;k_head;(case hw=>w_witness2)
 k_fill
 refine L2.walkT2_of (l:=PySem.Challenge.rw_voucherstack_k38_first_use) (k:=22) (x:="_law_script") rfl rfl ⟨rfl,by decide,by decide⟩ (fun w h Y=>PySem.W.km_in_of Y) (fun w h Y=>PySem.W.km_tabs_of Y) ?F
 case F=>
  intro w mg fa h KX G hmg
  refine' Vs.all_mk KX G hmg ?UL ?UK ?V8 ?UM ?UO ?Uz ?UN ?V7 ?V4 ?Uq ?V6 ?afalling_groups ?lfalling_groups ?cfalling_groups ?kfalling_groups ?Ue ?Uy ?Uc ?UI ?Ub ?Uh ?Ui ?V5 ?UJ ?UD ?afirst_use ?lfirst_use ?cfirst_use ?kfirst_use ?Uo ?Ur ?Uv ?UF ?UB ?Um ?Us ?Uk ?Uw ?UC ?UA ?Ul ?Ua ?UE ?Uu ?Ux ?UG ?alaw ?llaw ?claw ?klaw ?aMarks ?imMarks ?isMarks ?iyMarks ?inX ?itX ?pgMarks ?hdMarks ?poMarks ?saMarks ?mkMarks ?kcMarks ?iaMarks ?nMarks_kind ?nMarks_needs ?nMarks_most ?nMarks_member ?nMarks_once ?nMarks_lone ?hMarks_init ?iMarks_init ?lMarks_init ?cMarks_init ?kMarks_init ?tMarks_init ?aVoucher ?imVoucher ?isVoucher ?iyVoucher ?pgVoucher ?hdVoucher ?poVoucher ?saVoucher ?mkVoucher ?kcVoucher ?iaVoucher ?hVoucher_init ?iVoucher_init ?lVoucher_init ?cVoucher_init ?kVoucher_init ?tVoucher_init ?aOff ?imOff ?isOff ?iyOff ?pgOff ?hdOff ?poOff ?saOff ?mkOff ?kcOff ?iaOff ?nOff_amount ?nOff_marks ?hOff_init ?iOff_init ?lOff_init ?cOff_init ?kOff_init ?tOff_init ?aShare ?imShare ?isShare ?iyShare ?pgShare ?hdShare ?poShare ?saShare ?mkShare ?kcShare ?iaShare ?nShare_share ?nShare_by_line ?nShare_marks ?hShare_init ?iShare_init ?lShare_init ?cShare_init ?kShare_init ?tShare_init ?aCheapest ?imCheapest ?isCheapest ?iyCheapest ?pgCheapest ?hdCheapest ?poCheapest ?saCheapest ?mkCheapest ?kcCheapest ?iaCheapest ?nCheapest_many ?nCheapest_marks ?hCheapest_init ?iCheapest_init ?lCheapest_init ?cCheapest_init ?kCheapest_init ?tCheapest_init ?aBundle ?imBundle ?isBundle ?iyBundle ?pgBundle ?hdBundle ?poBundle ?saBundle ?mkBundle ?kcBundle ?iaBundle ?nBundle_many ?nBundle_price ?nBundle_marks ?hBundle_init ?iBundle_init ?lBundle_init ?cBundle_init ?kBundle_init ?tBundle_init ?aCarriage ?imCarriage ?isCarriage ?iyCarriage ?pgCarriage ?hdCarriage ?poCarriage ?saCarriage ?mkCarriage ?kcCarriage ?iaCarriage ?nCarriage_marks ?hCarriage_init ?iCarriage_init ?lCarriage_init ?cCarriage_init ?kCarriage_init ?tCarriage_init ?aLine ?imLine ?isLine ?iyLine ?pgLine ?hdLine ?poLine ?saLine ?mkLine ?kcLine ?iaLine ?nLine_kind ?nLine_price ?nLine_many ?nLine_special ?hLine_init ?iLine_init ?lLine_init ?cLine_init ?kLine_init ?tLine_init ?aBasket ?imBasket ?isBasket ?iyBasket ?pgBasket ?hdBasket ?poBasket ?saBasket ?mkBasket ?kcBasket ?iaBasket ?nBasket_lines ?nBasket_carriage ?nBasket_member ?hBasket_init ?iBasket_init ?lBasket_init ?cBasket_init ?kBasket_init ?tBasket_init ?aStanding ?imStanding ?isStanding ?iyStanding ?pgStanding ?hdStanding ?poStanding ?saStanding ?mkStanding ?kcStanding ?iaStanding ?nStanding_owners ?nStanding_prices ?nStanding_carriage ?nStanding_marked ?Ud ?aWay ?imWay ?isWay ?iyWay ?pgWay ?hdWay ?poWay ?saWay ?mkWay ?kcWay ?iaWay ?nWay_till ?nWay_basket ?nWay_hand ?nWay_used ?nWay_standing ?UH ?Uj ?Ut ?Ug ?V9 ?aTill ?imTill ?isTill ?iyTill ?pgTill ?hdTill ?poTill ?saTill ?mkTill ?kcTill ?iaTill ?nTill_parents ?nTill_vouchers ?nTill_rules ?nTill_back ?hTill_init ?iTill_init ?lTill_init ?cTill_init ?kTill_init ?tTill_init ?rdVoucher_init ?gaVoucher_init ?fcVoucher_init ?qOff_Carriage ?qShare_Carriage ?qCheapest_Carriage ?qBundle_Carriage ?qShare_Off ?qCheapest_Off ?qBundle_Off ?qCarriage_Off ?qOff_Share ?qCheapest_Share ?qBundle_Share ?qCarriage_Share ?qOff_Cheapest ?qShare_Cheapest ?qBundle_Cheapest ?qCarriage_Cheapest ?qOff_Bundle ?qShare_Bundle ?qCheapest_Bundle ?qCarriage_Bundle ?qafalling_groups ?qbfalling_groups ?qcfalling_groups ?qdfalling_groups ?qefalling_groups ?qffalling_groups ?qgfalling_groups ?qhfalling_groups ?qifalling_groups ?qjfalling_groups ?qkfalling_groups ?qlfalling_groups ?qafirst_use ?qbfirst_use ?qcfirst_use ?qdfirst_use ?qefirst_use ?qffirst_use ?qgfirst_use ?qhfirst_use ?qifirst_use ?qjfirst_use ?qkfirst_use ?qlfirst_use ?z1 ?z2 ?z3 ?z4 ?z5 ?z6 ?z7 ?z8 ?z9 ?z10 ?z11 ?z12 ?z13 ?z14 ?z15 ?z16 ?z17 ?z18
  any_goals k_is
  exists UL,Vs.nL2 fun _ _=>rfl,0,0,0
  exists UK,Vs.nL3 fun _ _ _=>rfl,0,0,0
  exists V8,Vs.nL2 fun _ _=>rfl,0,0,0
  exists UM,Vs.nL4 fun _ _ _ _=>rfl,0,0,0
  exists UO,Vs.nL4 fun _ _ _ _=>rfl,0,0,0
  exists Uz,Vs.nL4 fun _ _ _ _=>rfl,0,0,0
  exists UN,Vs.nL4 fun _ _ _ _=>rfl,0,0,0
  exists V7,Vs.nL4 fun _ _ _ _=>rfl,0,0,0
  exists V4,Vs.nL2 fun _ _=>rfl,0,0,0
  exists Uq,Vs.nL3 fun _ _ _=>rfl,0,0,0
  exists V6,Vs.nL2 fun _ _=>rfl,0,0,0
  exists Ue,Vs.nL3 fun _ _ _=>rfl,0,0,0
  exists Uy,Vs.nL2 fun _ _=>rfl,0,0,0
  exists Uc,Vs.nL2 fun _ _=>rfl,0,0,0
  exists UI,Vs.nL2 fun _ _=>rfl,0,0,0
  exists Ub,Vs.nL4 fun _ _ _ _=>rfl,0,0,0
  exists Uh,Vs.nL3 fun _ _ _=>rfl,0,0,0
  exists Ui,Vs.nL3 fun _ _ _=>rfl,0,0,0
  exists V5,Vs.nL2 fun _ _=>rfl,0,0,0
  exists UJ,Vs.nL3 fun _ _ _=>rfl,0,0,0
  exists UD,Vs.nL1 fun _=>rfl,0,0,0
  exists Uo,Vs.nL3 fun _ _ _=>rfl,0,0,0
  exists Ur,Vs.nL2 fun _ _=>rfl,0,0,0
  exists Uv,Vs.nL1 fun _=>rfl,0,0,0
  exists UF,Vs.nL3 fun _ _ _=>rfl,0,0,0
  exists UB,Vs.nL1 fun _=>rfl,0,0,0
  exists Um,Vs.nL1 fun _=>rfl,0,0,0
  exists Us,Vs.nL2 fun _ _=>rfl,0,0,0
  exists Uk,Vs.nL2 fun _ _=>rfl,0,0,0
  exists Uw,Vs.nL2 fun _ _=>rfl,0,0,0
  exists UC,Vs.nL2 fun _ _=>rfl,0,0,0
  exists UA,Vs.nL2 fun _ _=>rfl,0,0,0
  exists Ul,Vs.nL3 fun _ _ _=>rfl,0,0,0
  exists Ua,Vs.nL2 fun _ _=>rfl,0,0,0
  exists UE,Vs.nL2 fun _ _=>rfl,0,0,0
  exists Uu,Vs.nL2 fun _ _=>rfl,0,0,0
  exists Ux,Vs.nL2 fun _ _=>rfl,0,0,0
  exists UG,Vs.nL2 fun _ _=>rfl,0,0,0
  exists Ud,Vs.nL2 fun _ _=>rfl,0,0,0,0,0
  exists UH,Vs.nL4 fun _ _ _ _=>rfl,0,0,0,0,0
  exists Uj,Vs.nL2 fun _ _=>rfl,0,0,0,0,0
  exists Ut,Vs.nL2 fun _ _=>rfl,0,0,0,0,0
  exists Ug,Vs.nL1 fun _=>rfl,0,0,0,0,0
  exists V9,Vs.nL1 fun _=>rfl,0,0,0,0,0
  (try case qafalling_groups=>first|rfl|decide|k_is)
  (try case qbfalling_groups=>k_is)
  (try case qcfalling_groups=>first|rfl|decide|k_is)
  (try case qdfalling_groups=>first|rfl|decide|k_is)
  (try case qefalling_groups=>first|rfl|decide|k_is)
  (try case qffalling_groups=>first|rfl|decide|k_is)
  (try case qgfalling_groups=>first|rfl|decide|k_is)
  (try case qhfalling_groups=>first|rfl|decide|k_is)
  (try case qifalling_groups=>first|rfl|decide|k_is)
  (try case qjfalling_groups=>first|rfl|decide|k_is)
  (try case qkfalling_groups=>first|k_is|rfl|decide|decide +kernel)
  (try case qlfalling_groups=>decide)
  (try case qafirst_use=>first|rfl|decide|k_is)
  (try case qbfirst_use=>k_is)
  (try case qcfirst_use=>first|rfl|decide|k_is)
  (try case qdfirst_use=>first|rfl|decide|k_is)
  (try case qefirst_use=>first|rfl|decide|k_is)
  (try case qffirst_use=>first|rfl|decide|k_is)
  (try case qgfirst_use=>first|rfl|decide|k_is)
  (try case qhfirst_use=>first|rfl|decide|k_is)
  (try case qifirst_use=>first|rfl|decide|k_is)
  (try case qjfirst_use=>first|rfl|decide|k_is)
  (try case qkfirst_use=>first|k_is|rfl|decide|decide +kernel)
  (try case qlfirst_use=>decide)
