import PyProof.Rows.All
import Wide.All
import OpenK.AllK
import Wide.FinOn
import Lean
import PyProof.EqAt
import PyProof.EqKinds
import PyProof.TupleCall
import PySem.Challenge.RW_voucherstack_k21_hindrances_in_orders
set_option Elab.async false
set_option linter.all false
set_option compiler.extract_closed false
set_option maxRecDepth 100000
open Array renaming length_toList → JV, size_zip → NA, getElem?_eq_getElem → N5
open Bool renaming false_ne_true → UB, false_eq_true → Jk, false_and → JP, and_eq_true → JR, eq_iff_iff → J4, or_false → Nh, true_and → Ni, or_eq_true → Nx, and_false → N1
open List renaming length_map → Uu, replicate → Uw, range → Uz, getElem?_map → UD, mem_of_getElem? → UE, getD_eq_getElem?_getD → UF, getElem?_eq_some_iff → UG, map_append → UH, mem_cons → UJ, map_cons → UK, length_take → UP, size_toArray → UQ, map_map → UR, zipWith → US, mem_cons_of_mem → UV, mem_cons_self → UW, mem_map → UX, length_append → UY, take_length → U0, flatten_cons → U1, not_mem_nil → U3, lookup_cons → U5, mem_append_right → U9, length_cons → Jb, mem_append → Jg, nodup_cons → Ji, map_congr_left → Jj, lookup → Jl, length_replicate → Jn, any_cons → Jo, find?_cons → Jp, mem_singleton → Jq, mem_filter → Ju, take_of_length_le → Jw, mem_flatten → Jx, getElem?_eq_getElem → Jz, take_add_one → JA, range_succ → JB, ext_getElem? → JC, of_mem_zip → JE, replicate_succ → JF, append_assoc → JG, map_take → JH, pairwise_iff_getElem → JI, ext_getElem → JJ, getElem?_zipWith → JK, getElem?_eq_none → JL, replicate_succ' → JM, getElem?_set_self → JN, getElem?_set_ne → JO, getElem?_replicate → JQ, getElem?_range → JT, mem_iff_getElem? → JU, getElem?_append_right → JW, map_nil → JX, Pairwise → JY, mem_of_mem_take → JZ, map_set → J0, getElem?_append_left → J8, nodup_nil → J9, getElem_map → Na, zipIdx_cons → Nb, flatten_append → Nc, length_filter_le → Nd, length_zipWith → Nf, filter_append → Ng, getElem?_set → Nj, length → Np, length_drop → Nq, reverse_cons → Nr, foldl → Nt, length_singleton → Nu, nil_append → Nv, all_eq_true → Nw, nodup_range → ND, getElem_range → NF, pairwise_cons → NG, Perm → NH, sum_cons → NI, any_eq_true → NK, take_zero → NL, getElem?_eq_none_iff → NM, filterMap_cons → NO, mem_append_left → NP, append_nil → NU, length_set → NW, all_cons → NZ, map_drop → N2, forIn_nil → N3, forIn_cons → N4, cons_append → N6, count_cons → N7, length_nil → N8, filter_cons → N9, take_append_drop → Ma, getElem_of_mem → Mb, pairwise_lt_range → Mc, nodup_append → Md, pairwise_map → Me, getLastD_eq_getLast? → Mf, mem_replicate → Mg, getElem?_take_of_lt → Mj, take_eq_take_iff → Ml, getElem_cons_drop → Mp, sublist_append_left → Mq, getLast?_eq_some_getLast → Mr, drop_of_length_le → Ms, drop_eq_getElem_cons → Mx
open Nat renaming le_refl → Ux, le_trans → UA, le_of_lt → UI, lt_of_lt_of_le → UT, ne_of_lt → UU, zero_le → U2, ne_of_gt → Je, lt_irrefl → Jt, lt_of_le_of_lt → Jv, min_self → JS, le_succ → J7, le_of_eq → Nl, lt_trans → Nz, min_eq_left → NJ, lt_succ_self → NS
open Option renaming map_some → Ny, getD_none → NY
open PySem.F renaming plainAttrs_list → Jd, slot_list_append → Jr, type_list_append → Js, slot_dict_setdefault → Mm, plainAttrs_dict → Mn, slot_dict_values → Mo, slot_list_extend → Mt, type_list_extend → Mu, slot_list_count → Mv, type_list_count → Mw
open PySem.W renaming Frag → Uv, findIn → Uy, mroIn → UC, kitOne → UL, fnOf → UM, nsIn → UN, keepIn → UO, mg_of → UZ, mg_none_of → U4, plainGet → U6, typeIn → U7, codeIn → U8, hasDictIn → Ja, makesIn → Jc, plainOver → Jf, isFn → Jh, kia_one → Jm, emptyDict → Jy, instObj → JD, specialIn → J6, lookIn → Nk, callWith_K → Nm, kla_obj → NB, tabObj → NC, methodObj → NN, plainGet_of → NQ, takerIn → NR, takesIn → NT, methodCall_KW → NV, callWith_K0 → Mh, cellsFrom_some → Mi
set_option hygiene false
local macro_rules|`(tactic|exists $a,$b)=>`(tactic|refine FunD.ok $a $b (by intro _ _ _ _ h;cases h;subst_vars;rfl) (fun cdv A outer s H vs Q E hr h=>?_))
local macro_rules|`(tactic|ac_rfl)=>`(tactic|exact⟨rfl,rfl,rfl,by decide +kernel,rfl,by decide +kernel,by decide +kernel⟩)
local macro_rules|`(tactic|exists $a:ident,$b,$c)=>`(tactic|have $a:ident:=$b (P:=P) (w:=w) $c)
local macro_rules|`(tactic|exists $a:ident,$b,$c,$_)=>`(tactic|have $a:ident:Room $b _:=($c).mono (by decide))
local macro_rules|`(tactic|exists $a:ident)=>`(tactic|try refine sN fun _ $a=>?_)
local macro_rules|`(tactic|exists $a,$b,$c:ident,$d:ident,$e:ident,$f)=>`(tactic|(generalize hg9:upd $a $b _=$c;obtain⟨$d:ident,$e:ident⟩:=kaI hg9 $f;clear hg9))
local macro_rules|`(tactic|ac_nf)=>`(tactic|(repeat (first|rw[kac,if_pos rfl]|rw[kac,if_neg (by decide +kernel)])))
local macro_rules|`(tactic|symm)=>`(tactic|try apply Y4)
local macro_rules|`(tactic|nofun)=>`(tactic|try first|apply Y6|apply Y4)
local macro_rules|`(tactic|exists 3)=>`(tactic|try first|apply Y8|apply Y6|apply Y4)
local macro_rules|`(tactic|exists 4)=>`(tactic|try first|apply Y10|apply Y6|apply Y4)
local macro_rules|`(tactic|exists $a:ident,$b,$_,$_,$_)=>`(tactic|(case $a:ident=>refine' Vs.dn_mk KX G ?_ ?_ ?_ ?_ (fun _ _ _ _ _ _=>$b);any_goals k_is))
local macro_rules|`(tactic|exists $a:ident,$b,$_,$_,$_,$_,$_)=>`(tactic|(case $a:ident=>refine' Vs.mt_mk ?_ ?_ ?_ ?_ ?_ (fun _ _ _ _ _ _=>$b);any_goals k_is))
namespace Lake
namespace L2
open PySem PySem.Spec PyProof.Rows
noncomputable abbrev Key:=Sum Int Str
noncomputable def keyIs:Key→Value→Bool
 | .inl k,v=>Value.isInt k v
 | .inr x,v=>Value.isStrOf x v
noncomputable def keyH(w:World):Key→Int
 | .inl k=>hashInt k
 | .inr x=>hashStr w x
theorem kaZ:∀{k:Key}{v:Value},keyIs k v=true→(∃i t,k=Sum.inl i∧v=Value.int i t)∨(∃x t,k=Sum.inr x∧v=Value.str x t)
 | .inl i,v,h=>by
  obtain⟨t,e⟩:=Value.isInt_shape (k:=i) (v:=v) h
  exact .inl ⟨i,t,rfl,e⟩
 | .inr x,v,h=>by
  obtain⟨t,e⟩:=Value.isStrOf_shape (x:=x) (v:=v) h
  exact .inr ⟨x,t,rfl,e⟩
def kir(i:Int)(t:Tok):keyIs (.inl i) (.int i t)=true:=by simp[keyIs,Value.isInt]
def kiq(x:Str)(t:Tok):keyIs (.inr x) (.str x t)=true:=by simp[keyIs,Value.isStrOf]
def klj(a b:Int):decide ((Sum.inl a:Key)=Sum.inl b)=(a==b):=by
 by_cases e:a=b
 ·subst e;simp
 ·have h:¬(Sum.inl a:Key)=Sum.inl b:=fun q=>e (Sum.inl.inj q)
  rw[decide_eq_false h]
  exact(beq_eq_false_iff_ne.mpr e).symm
def klg(a b:Str):decide ((Sum.inr a:Key)=Sum.inr b)=decide (a=b):=by
 by_cases e:a=b
 ·subst e;simp
 ·have h:¬(Sum.inr a:Key)=Sum.inr b:=fun q=>e (Sum.inr.inj q)
  rw[decide_eq_false h,decide_eq_false e]
def kli(a:Int)(b:Str):decide ((Sum.inl a:Key)=Sum.inr b)=false:=decide_eq_false (fun q=>nomatch q)
def klh(a:Str)(b:Int):decide ((Sum.inr a:Key)=Sum.inl b)=false:=decide_eq_false (fun q=>nomatch q)
noncomputable def kaY(prog:Program)(w:World):PySem.KeyKind prog w Key where
 is:=keyIs
 hash:=keyH w
 inj:=fun v a b ha hb=>by
  rcases kaZ ha with⟨i,t,rfl,rfl⟩|⟨x,t,rfl,rfl⟩
  ·rcases kaZ hb with⟨j,u,rfl,e⟩|⟨y,u,rfl,e⟩
   ·injection e with e1 _;rw[e1]
   ·exact nomatch e
  ·rcases kaZ hb with⟨j,u,rfl,e⟩|⟨y,u,rfl,e⟩
   ·exact nomatch e
   ·injection e with e1 _;rw[e1]
 byValue:=fun k v h=>by
  rcases kaZ h with⟨i,t,rfl,rfl⟩|⟨x,t,rfl,rfl⟩ <;> rfl
 pyHash:=fun hv h=>by
  rcases kaZ hv with⟨i,t,rfl,rfl⟩|⟨x,t,rfl,rfl⟩
  ·exact wpAny_pyHash_int h
  ·exact wpAny_pyHash_str h
 eqBool:=fun hu hv h=>by
  rcases kaZ hu with⟨i,t,rfl,rfl⟩|⟨x,t,rfl,rfl⟩
  ·rcases kaZ hv with⟨j,u,rfl,rfl⟩|⟨y,u,rfl,rfl⟩
   ·rw[klj] at h;exact wpAny_eqBool_int h
   ·rw[kli] at h;exact SeqAt.EqAt.int_str i t y u _ _ _ _ h
  ·rcases kaZ hv with⟨j,u,rfl,rfl⟩|⟨y,u,rfl,rfl⟩
   ·rw[klh] at h;exact SeqAt.EqAt.str_int x t j u _ _ _ _ h
   ·rw[klg] at h;exact wpAny_eqBool_str h
 «strs» :=fun k x t v h=>by
  rcases kaZ h with⟨i,u,rfl,e⟩|⟨y,u,rfl,e⟩
  ·exact nomatch e
  ·injection e with e1 _
   subst e1
   cases v <;> rfl
def kd1(prog:Program)(w:World)(i:Int)(t:Tok):(kaY prog w).is (.inl i) (.int i t)=true:=kir i t
def kga(prog:Program)(w:World)(x:Str)(t:Tok):(kaY prog w).is (.inr x) (.str x t)=true:=kiq x t
end L2
namespace L2
open PySem PySem.Spec PyProof.Rows
inductive V where
 |non|bl (b:Bool)|int (i:Int)|str (x:Str)|byt (b:Array UInt8)|flt (b:UInt64)|ref (a:Addr)|ty (n:String)
 deriving DecidableEq
noncomputable def RelV:V→Value→Prop
 | .non,u=>u=Value.none
 | .bl b,u=>u=Value.bool b
 | .int i,u=>∃t,u=Value.int i t
 | .str x,u=>∃t,u=Value.str x t
 | .byt b,u=>∃t,u=Value.bytes b t
 | .flt b,u=>∃t,u=Value.float b t
 | .ref a,u=>u=Value.ref a
 | .ty n,u=>u=Value.type n
noncomputable abbrev Vals:List V→List Value→Prop:=Paired RelV
def Vals.length{xs:List V}{us:List Value}(r:Vals xs us):xs.length=us.length:=Paired.length r
theorem Vals.get:∀{xs:List V}{us:List Value}{i:Nat}{x:V},Vals xs us→xs[i]?=some x→∃u,us[i]?=some u∧RelV x u
 |_,_,_,_, .nil,e=>by simp at e
 |_,_,0,_, .cons r _,e=>by simp at e;subst e;exact⟨_,rfl,r⟩
 |_,_,i+1,x, .cons _ t,e=>by
  obtain⟨u,h1,h2⟩:=Vals.get (i:=i) (x:=x) t (by simpa using e)
  exact⟨u,by simpa using h1,h2⟩
theorem Vals.set{x:V}{u:Value}(r:RelV x u):∀{xs:List V}{us:List Value}(i:Nat),Vals xs us→Vals (xs.set i x) (us.set i u)
 |_,_,_, .nil=>.nil
 |_,_,0, .cons _ t=>.cons r t
 |_,_,i+1, .cons q t=>.cons q (Vals.set r i t)
theorem Vals.append:∀{xs ys:List V}{us ws:List Value},Vals xs us→Vals ys ws→Vals (xs++ys) (us++ws)
 |_,_,_,_, .nil,s=>s
 |_,_,_,_, .cons r t,s=>.cons r (Vals.append t s)
theorem Vals.take:∀{xs:List V}{us:List Value}(n:Nat),Vals xs us→Vals (xs.take n) (us.take n)
 |_,_,0,_=>.nil
 |_,_,_+1, .nil=>.nil
 |_,_,n+1, .cons r t=>.cons r (Vals.take n t)
theorem Vals.drop:∀{xs:List V}{us:List Value}(n:Nat),Vals xs us→Vals (xs.drop n) (us.drop n)
 |_,_,0,r=>r
 |_,_,_+1, .nil=>.nil
 |_,_,n+1, .cons _ t=>Vals.drop n t
def Vals.none_of:∀{xs:List V}{us:List Value}{i:Nat},Vals xs us→xs[i]?=none→us[i]?=none:=fun {xs us i} r e=>by
 have h1:=r.length
 have h2:xs.length≤i:=NM.mp e
 exact NM.mpr (by omega)
noncomputable def RelO:Option V→Option Value→Prop
 |some v,some u=>RelV v u
 |none,none=>True
 |_,_=>False
noncomputable def KV{κ:Type}:List (κ×V)→List (κ×Value)→Prop:=Paired fun(p: κ×V)(q: κ×Value)=>p.1=q.1∧RelV p.2 q.2
noncomputable def kV:Key→V
 | .inl i=>.int i
 | .inr x=>.str x
inductive HO where
 |lst (xs:List V)
 |tup (xs:List V)
 |dK (kvs:List (Key×V))|dT (kvs:List (List Key×V))
 |set (S:Int→Bool) (n:Nat)
 |ins (C dx:Addr) (fs:List (Str×V))
 |own (x:Addr)
 |xd (fs:List (Str×V))
 |met (f x:Addr)
 |rng (lo hi:Int)
 |frz (o:Obj) (u:HO)
 |tbl (ps:Array Value)
 |ext (φ:Heap→Prop)
noncomputable abbrev Hp:=Addr→Option HO
noncomputable def upd(H:Hp)(a:Addr)(o:HO):Hp:=fun b=>if b=a then some o else H b
def kad{H:Hp}{a:Addr}{o:HO}:upd H a o a=some o:=by unfold upd;rw[if_pos rfl]
def kaj{H:Hp}{a b:Addr}{o:HO}(h:b≠a):upd H a o b=H b:=by unfold upd;rw[if_neg h]
def kkn{H:Hp}{a:Addr}{o u:HO}:upd (upd H a o) a u=upd H a u:=by
 funext b;unfold upd;split <;> rfl
def ne_of{H:Hp}{a b:Addr}{o u:HO}(h:H a=some o)(h':H b=some u)(d:o≠u):a≠b:=by
 intro e;subst e;rw[h] at h';exact d (Option.some.inj h')
def kai{H:Hp}{a b:Addr}{o:HO}(h:H a=some o)(h':H b=none):a≠b:=by
 intro e;subst e;rw[h] at h';cases h'
section
variable (P:Program) (w:World)
noncomputable def ObjOk(H:Hp)(h:Heap)(a:Addr):HO→Prop
 | .lst xs=>xs.length≤sizeLine∧∃(its:List Value)(n:Nat),Vals xs its∧h.get? a=some {cls:=.type "list",data:=.seq its.toArray n}
 | .tup xs=>xs.length≤sizeLine∧∃its:List Value,Vals xs its∧IsTup h a its.toArray
 | .dK kvs=>kvs.length≤sizeLine∧(a==sysModules)=false∧∃vs,KV kvs vs∧h.DictOf (kaY P w) a vs
 | .dT kvs=>kvs.length≤sizeLine∧(a==sysModules)=false∧∃xs:List (List Key×Addr×Value),
   Paired (fun(p:List Key×V)(q:List Key×Addr×Value)=>p.1=q.1∧H q.2.1=some (.tup (p.1.map kV))∧RelV p.2 q.2.2) kvs xs∧
   ∃o es ep,h.get? a=some o∧o.ExactDict∧o.data=.dict es ep∧es.toList=xs.map (entryOfKey (tupleKind (kaY P w)))∧(xs.map (·.1)).Nodup
 | .set S n=>h.SetOf (intKind P w) a S n
 | .ins C dx fs=>H dx=some (.own a)∧fs.length≤1000∧dx≠a∧h.get? a=some (JD C dx)∧
   ∃mA,h.Ns1 dx mA∧(∀f,RelO (fs.lookup f) (mA f))∧PySem.Within mA (fs.map (·.1))
 | .own _=>∃o,h.get? a=some o
 | .xd fs=>∃mA,h.Ns1 a mA∧∀f,RelO (fs.lookup f) (mA f)
 | .rng lo hi=>∃t u v,h.get? a=some {cls:=.type "range",data:=.fields #[.int lo t, .int hi u, .int 1 v]}
 | .frz o u=>h.get? a=some o∧ObjOk H h a u
 | .tbl ps=>h.get? a=some {cls:=.none,data:=.fields ps}
 | .met f x=>h.get? a=some (NN (.ref f) (.ref x))
 | .ext φ=>φ h∧(∃o,h.get? a=some o)∧∀h1 h2:Heap,φ h1→(∀o,h1.get? a=some o→h2.get? a=some o)→φ h2
noncomputable def HOk(H:Hp)(h:Heap):Prop:=∀a o,H a=some o→ObjOk P w H h a o
end
section
variable {P:Program} {w:World} {H H':Hp} {h h':Heap} {a:Addr} {o:HO}
theorem ObjOk.lt(x:ObjOk P w H h a o):a<h.objs.size:=by
 cases o with
 |lst xs=>obtain⟨_,_,_,_,e⟩:=x;exact Heap.lt_size e
 |tup xs=>obtain⟨_,_,_,p⟩:=x;exact p.lt
 |dK kvs=>obtain⟨_,_,_,_,o,_,_,e,_⟩:=x;exact Heap.lt_size e
 |dT kvs=>obtain⟨_,_,_,_,o,_,_,e,_⟩:=x;exact Heap.lt_size e
 |set S n=>obtain⟨o,_,_,_,e,_⟩:=x;exact Heap.lt_size e
 |ins C dx fs=>obtain⟨_,_,_,e,_⟩:=x;exact Heap.lt_size e
 |own y=>obtain⟨_,e⟩:=x;exact Heap.lt_size e
 |xd fs=>obtain⟨_,⟨_,_,_,e,_⟩,_⟩:=x;exact Heap.lt_size e
 |rng lo hi=>obtain⟨_,_,_,e⟩:=x;exact Heap.lt_size e
 |frz ob u=>obtain⟨e,_⟩:=x;exact Heap.lt_size e
 |tbl ps=>exact Heap.lt_size (show h.get? a=some _ from x)
 |met f y=>exact Heap.lt_size (show h.get? a=some _ from x)
 |ext φ=>obtain⟨_,⟨_,e⟩,_⟩:=x;exact Heap.lt_size e
theorem Paired.mapP{α β:Type}{F G: α→β→Prop}:∀{l₁:List α}{l₂:List β},Paired F l₁ l₂→(∀a b,F a b→G a b)→Paired G l₁ l₂
 |_,_, .nil,_=>.nil
 |_,_, .cons r t,f=>.cons (f _ _ r) (Paired.mapP t f)
theorem ObjOk.stay(x:ObjOk P w H h a o)(k:∀b u,(b=a∨H b=some (.own a))→h.get? b=some u→h'.get? b=some u)
  (ho:∀b,H b=some (.own a)→H' b=some (.own a)) (ht:∀b xs,H b=some (.tup xs)→H' b=some (.tup xs)):ObjOk P w H' h' a o:=by
 induction o with
 |lst xs=>obtain⟨z,its,n,r,e⟩:=x;exact⟨z,its,n,r,k _ _ (.inl rfl) e⟩
 |tup xs=>obtain⟨z,its,r,ob,e,c⟩:=x;exact⟨z,its,r,ob,k _ _ (.inl rfl) e,c⟩
 |dK kvs=>obtain⟨z,y,vs,r,ob,es,ep,e,c⟩:=x;exact⟨z,y,vs,r,ob,es,ep,k _ _ (.inl rfl) e,c⟩
 |dT kvs=>
  obtain⟨z,y,xs,r,ob,es,ep,e,c⟩:=x
  exact⟨z,y,xs,Paired.mapP r fun p q z=>⟨z.1,ht _ _ z.2.1,z.2.2⟩,ob,es,ep,k _ _ (.inl rfl) e,c⟩
 |set S n=>obtain⟨ob,es,ep,t,e,c⟩:=x;exact⟨ob,es,ep,t,k _ _ (.inl rfl) e,c⟩
 |ins C dx fs=>
  obtain⟨d,z,ne,e,mA,⟨od,es,ep,e2,c⟩,r⟩:=x
  exact⟨ho _ d,z,ne,k _ _ (.inl rfl) e,mA,⟨od,es,ep,k _ _ (.inr d) e2,c⟩,r⟩
 |own y=>obtain⟨ob,e⟩:=x;exact⟨ob,k _ _ (.inl rfl) e⟩
 |xd fs=>obtain⟨mA,⟨od,es,ep,e,c⟩,r⟩:=x;exact⟨mA,⟨od,es,ep,k _ _ (.inl rfl) e,c⟩,r⟩
 |rng lo hi=>obtain⟨t,u,v,e⟩:=x;exact⟨t,u,v,k _ _ (.inl rfl) e⟩
 |frz ob u ih=>obtain⟨e,q⟩:=x;exact⟨k _ _ (.inl rfl) e,ih q⟩
 |tbl ps=>
  have e:h.get? a=some {cls:=.none,data:=.fields ps}:=x
  show h'.get? a=some {cls:=.none,data:=.fields ps}
  exact k a _ (.inl rfl) e
 |met f y=>
  have e:h.get? a=some (NN (.ref f) (.ref y)):=x
  show h'.get? a=some (NN (.ref f) (.ref y))
  exact k a _ (.inl rfl) e
 |ext φ=>obtain⟨p,⟨o,e⟩,st⟩:=x;exact⟨st _ _ p fun o q=>k _ _ (.inl rfl) q,⟨o,k _ _ (.inl rfl) e⟩,st⟩
theorem HOk.lt(x:HOk P w H h)(e:H a=some o):a<h.objs.size:=(x a o e).lt
theorem HOk.fresh(x:HOk P w H h)(e:h.objs.size≤a):H a=none:=by
 cases q:H a with
 |none=>rfl
 |some u=>exact absurd (UT (x.lt q) e) (Jt _)
theorem HOk.kept(x:HOk P w H h)(k:∀b u,h.get? b=some u→h'.get? b=some u):HOk P w H h':=fun a o e=>
 (x a o e).stay (fun b u _ q=>k b u q) (fun _ q=>q) fun _ _ q=>q
theorem HOk.laid(x:HOk P w H h)(k:∀b u,h.get? b=some u→h'.get? b=some u)(hp:h.objs.size≤a)(new:ObjOk P w (upd H a o) h' a o):HOk P w (upd H a o) h':=fun b u e=>by
 have hn:=x.fresh hp
 by_cases hb:b=a
 ·subst hb;rw[kad] at e;cases e;exact new
 ·rw[kaj hb] at e
  exact(x b u e).stay (fun c v _ q=>k c v q) (fun c q=>by rw[kaj (kai q hn)];exact q) fun c xs q=>by rw[kaj (kai q hn)];exact q
end
noncomputable def Rd(H:Hp)(a:Addr)(u:HO):Prop:=H a=some u∨∃o,H a=some (.frz o u)
def Rd.of{H:Hp}{a:Addr}{u:HO}(h:H a=some u):Rd H a u:=.inl h
def Rd.ok{P:Program}{w:World}{H:Hp}{h:Heap}{a:Addr}{u:HO}(r:Rd H a u)(x:HOk P w H h):ObjOk P w H h a u:=by
 rcases r with r|⟨o,r⟩
 ·exact x a u r
 ·obtain⟨_,q⟩:=x a _ r
  exact q
noncomputable def Mut:Option HO→Prop
 |some (.lst _)=>True
 |some (.dK _)=>True
 |some (.dT _)=>True
 |some (.set _ _)=>True
 |some (.ins _ _ _)=>True
 |some (.ext _)=>True
 |_=>False
section
variable {P:Program} {w:World} {H:Hp} {h h':Heap} {x e:Addr} {o':HO}
theorem HOk.write(ok:HOk P w H h)(mu:Mut (H x))(he:e=x∨H e=some (.own x))(k:∀b u,b≠e→h.get? b=some u→h'.get? b=some u)(heo:∃u,h'.get? e=some u)
  (new:ObjOk P w (upd H x o') h' x o'):HOk P w (upd H x o') h':=fun b u q=>by
 have nown:∀c y,H c=some (.own y)→c≠x:=fun c y r z=>by subst z;rw[r] at mu;exact mu
 have ntup:∀c xs,H c=some (.tup xs)→c≠x:=fun c xs r z=>by subst z;rw[r] at mu;exact mu
 by_cases hb:b=x
 ·subst hb;rw[kad] at q;cases q;exact new
 ·rw[kaj hb] at q
  by_cases hbe:b=e
  ·have q':H b=some (.own x):=by
    rcases he with z|z
    ·exact absurd (hbe.trans z) hb
    ·rw[hbe];exact z
   rw[q] at q';cases q'
   obtain⟨v,hv⟩:=heo
   exact⟨v,by rw[hbe];exact hv⟩
  ·refine(ok b u q).stay (fun c v hc r=>k c v ?_ r) (fun c r=>by rw[kaj (nown c b r)];exact r) fun c xs r=>by rw[kaj (ntup c xs r)];exact r
   rcases hc with rfl|hc
   ·exact hbe
   ·rintro rfl
    rcases he with z|z
    ·exact nown c b hc z
    ·rw[hc] at z;cases z;exact hb rfl
end
structure Un (fs ex:List Addr) (H H':Hp) (h h':Heap):Prop where
 keep:∀b o,h.get? b=some o→H b=none→b∉fs→b∉ex→h'.get? b=some o
 slot:∀b o,h.get? b=some o→H b=none→b∈fs→b∉ex→∃sl,h'.get? b=some {o with slots:=sl}
 free:∀b o,h.get? b=some o→H b=none→b∉ex→H' b=none
 there:∀b o,h.get? b=some o→b∉ex→∃o',h'.get? b=some o'
 tups:∀b xs,H b=some (.tup xs)→H' b=some (.tup xs)
 frzs:∀b o u,H b=some (.frz o u)→H' b=some (.frz o u)
 tbls:∀b ps,H b=some (.tbl ps)→∃more,H' b=some (.tbl (ps++more))
section
variable {fs fs' ex ex':List Addr} {H H1 H2:Hp} {h h1 h2 h':Heap} {a x e:Addr} {o:HO}
theorem Un.any(u:Un fs ex H H1 h h1){b:Addr}{ob:Obj}(q:h.get? b=some ob)(n:H b=none)(hx:b∉ex):∃sl,h1.get? b=some {ob with slots:=sl}:=by
 by_cases hb:b∈fs
 ·exact u.slot b ob q n hb hx
 ·exact⟨ob.slots,u.keep b ob q n hb hx⟩
theorem Un.trans(a:Un fs ex H H1 h h1)(b:Un fs ex H1 H2 h1 h2):Un fs ex H H2 h h2 where
 keep:=fun c ob q n hc hx=>b.keep c ob (a.keep c ob q n hc hx) (a.free c ob q n hx) hc hx
 slot:=fun c ob q n hc hx=>by
  obtain⟨sl,e1⟩:=a.slot c ob q n hc hx
  obtain⟨sl',e2⟩:=b.slot c _ e1 (a.free c ob q n hx) hc hx
  exact⟨sl',e2⟩
 free:=fun c ob q n hx=>by
  obtain⟨o',e1⟩:=a.there c ob q hx
  exact b.free c o' e1 (a.free c ob q n hx) hx
 there:=fun c ob q hx=>by
  obtain⟨o',e1⟩:=a.there c ob q hx
  exact b.there c o' e1 hx
 tups:=fun c xs q=>b.tups c xs (a.tups c xs q)
 frzs:=fun c ob xs q=>b.frzs c ob xs (a.frzs c ob xs q)
 tbls:=fun c ps q=>by
  obtain⟨m1,e1⟩:=a.tbls c ps q
  obtain⟨m2,e2⟩:=b.tbls c _ e1
  exact⟨m1++m2,by rw[e2,Array.append_assoc]⟩
theorem Un.kept(k:∀b u,h.get? b=some u→h'.get? b=some u):Un fs ex H H h h':=
 ⟨fun b ob q _ _ _=>k b ob q,fun b ob q _ _ _=>⟨ob.slots,k b ob q⟩,fun _ _ _ n _=>n,fun b ob q _=>⟨ob,k b ob q⟩,fun _ _ q=>q,fun _ _ _ q=>q,fun _ ps q=>⟨#[],by rw[q];simp⟩⟩
theorem Un.refl:Un fs ex H H h h:=Un.kept fun _ _ q=>q
theorem Un.laid(k:∀b u,h.get? b=some u→h'.get? b=some u)(hp:h.objs.size≤a)(hn:H a=none):Un fs ex H (upd H a o) h h' where
 keep:=fun b u q _ _ _=>k b u q
 slot:=fun b u q _ _ _=>⟨u.slots,k b u q⟩
 free:=fun b u q n _=>by rw[kaj (UU (UT (Heap.lt_size q) hp))];exact n
 there:=fun b u q _=>⟨u,k b u q⟩
 tups:=fun b xs q=>by rw[kaj (kai q hn)];exact q
 frzs:=fun b u xs q=>by rw[kaj (kai q hn)];exact q
 tbls:=fun b ps q=>⟨#[],by rw[kaj (kai q hn),q];simp⟩
theorem Un.write(mu:Mut (H x))(he:e=x∨H e=some (.own x))(k:∀b u,b≠e→h.get? b=some u→h'.get? b=some u)(heo:∃u,h'.get? e=some u):Un fs ex H (upd H x o) h h':=by
 have hx:∀b,H b=none→b≠x:=fun b n z=>by subst z;rw[n] at mu;exact mu
 have hb:∀b,H b=none→b≠e:=fun b n z=>by
  subst z
  rcases he with r|r
  ·exact hx b n r
  ·rw[n] at r;cases r
 have hm:∀b u,H b=some u→¬Mut (some u)→b≠x:=fun b u q nm z=>by subst z;rw[q] at mu;exact nm mu
 refine⟨fun b u q n _ _=>k b u (hb b n) q,fun b u q n _ _=>⟨u.slots,k b u (hb b n) q⟩,fun b u q n _=>by rw[kaj (hx b n)];exact n,fun b u q _=>?_,
  fun b xs q=>by rw[kaj (hm b _ q fun z=>z)];exact q,fun b u xs q=>by rw[kaj (hm b _ q fun z=>z)];exact q,fun b ps q=>⟨#[],by rw[kaj (hm b _ q fun z=>z),q];simp⟩⟩
 by_cases hbe:b=e
 ·subst hbe;exact heo
 ·exact⟨u,k b u hbe q⟩
theorem Un.mono(u:Un fs ex H H1 h h1)(hs:∀b∈fs,b∈fs')(hx:∀b∈ex,b∈ex'):Un fs' ex' H H1 h h1:=
 ⟨fun b ob q n hb he=>u.keep b ob q n (fun z=>hb (hs b z)) fun z=>he (hx b z),fun _ _ q n _ he=>u.any q n fun z=>he (hx _ z),fun b ob q n he=>u.free b ob q n fun z=>he (hx b z),fun b ob q he=>u.there b ob q fun z=>he (hx b z),u.tups,u.frzs,u.tbls⟩
end
noncomputable def trk(h:Heap)(H:Hp):List Addr:=(Uz h.objs.size).filter fun a=>(H a).isSome
noncomputable def hidT(h:Heap)(H:Hp):Heap:=PySem.W.hideAll h (trk h H)
def kiw(h:Heap)(H:Hp):(hidT h H).objs.size=h.objs.size:=PySem.W.hideAll_size _ _
def kju{h:Heap}{H:Hp}{b:Addr}{o:Obj}(e:h.get? b=some o)(n:H b=none):(hidT h H).get? b=some o:=
 PySem.W.hideAll_get _ e fun hm=>by
  have q:(H b).isSome=true:=(Ju.mp hm).2
  rw[n] at q;simp at q
theorem kkF{h:Heap}{H:Hp}{b:Addr}{o:Obj}(e:(hidT h H).get? b=some o):h.get? b=some o∧H b=none:=by
 have e':h.get? b=some o:=PySem.W.of_hideAll (trk h H) e
 refine⟨e',?_⟩
 cases q:H b with
 |none=>rfl
 |some x=>
  have hm:b∈trk h H:=Ju.mpr ⟨List.mem_range.mpr (Heap.lt_size e'),by simp[q]⟩
  have z:(hidT h H).get? b=none:=PySem.W.hideAll_none (trk h H) hm
  rw[z] at e;cases e
noncomputable def kkX(g h:Heap)(L:Addr):List (Addr×Obj):=(Uz h.objs.size).filterMap fun a=>if a=L∨(g.get? a).isSome=true then none else(h.get? a).map fun o=>(a,o)
noncomputable def rest(g h:Heap)(L d:Addr):List (Addr×Obj):=(kkX g h L).filter fun p=>decide (p.1≠d)
end L2
namespace L2
open PySem PySem.Spec PyProof.Rows
structure Mod (K:Uv) (mg:Str→Option Value) (base:Heap):Prop where
 kin:K.In base
 glob:base.Ns mainGlobals mg
 blt:∃mb,base.Ns builtinsNs mb∧∀x:Str,x≠"__name__"→mb x=bootBuiltins x
 nolimit:base.NoLimit
structure Cx where
 prog:Program
 w:World
 K:Uv
 mg:Str→Option Value
 base:Heap
 A:Around
 N:List Str
 s₀:Shared
 H₀:Hp
 env:Env
 outer:List Env
 stack:List Env
 ex:List Addr
 fn:Str→Bool
 calm:Bool
 pn:List (Addr×Obj)
 xe:Value→Shared→Prop
noncomputable def frs(l:List Env):List Addr:=l.filterMap (·.frame)
noncomputable abbrev Cx.fs(X:Cx):List Addr:=frs X.outer
noncomputable def Vis(sc:Scope)(x:Str):Prop:=sc.names.lookup x=some .local∨sc.names.lookup x=some .cell∨sc.names.lookup x=some .free
noncomputable def Loc(sc:Scope)(x:Str):Prop:=sc.names.lookup x=some .local∨sc.names.lookup x=some .cell
noncomputable def Look(env:Env)(h:Heap)(m:Str→Option Value)(x:Str)(u:Value):Prop:=
 (env.kindOf x=some .local∧m x=some u)∨((env.kindOf x=some .cell∨env.kindOf x=some .free)∧∃c,env.cells.lookup x=some c∧h.IsCell c (some u))
structure Cx.Ok (X:Cx):Prop where
 mod:Mod X.K X.mg X.base
 kind:X.env.scope.kind=.function
 glob:X.env.globals=mainGlobals
 blt:X.env.builtins=builtinsNs
 above:X.s₀.heap.objs.size≤X.env.locals
 inj:∀x y c,X.env.cells.lookup x=some c→X.env.cells.lookup y=some c→x=y
 has:∀x,(X.env.kindOf x=some .cell∨X.env.kindOf x=some .free)→∃c,X.env.cells.lookup x=some c
 cab:∀x c,X.fn x=true→X.env.cells.lookup x=some c→X.s₀.heap.objs.size≤c
 hd:X.calm=true→X.A.handled=none
 frames:X.A.frames=some X.stack
 stk:X.stack=X.outer∨(X.stack=X.env::X.outer∧X.env.frame=some X.env.locals)
 exf:∀b∈X.ex,b≠X.env.locals∧∀x c,X.env.cells.lookup x=some c→c≠b
 bs:∀b o,X.base.get? b=some o→X.s₀.heap.get? b=some o∧X.H₀ b=none
 bsz:X.base.objs.size≤X.s₀.heap.objs.size
 noex:∀b o,X.base.get? b=some o→b∉X.ex
 exfs:∀b∈X.ex,b∉X.fs
 funs:X.s₀.heap.FunFrames X.base X.outer
 frf:∀b∈X.fs,X.H₀ b=none
structure Inv (X:Cx) (pins:List (Addr×Obj)) (σ:List (Option V)) (H:Hp) (s:Shared):Prop where
 ok:X.Ok
 os:s.os=X.s₀.os
 bare:AllBare s.gens
 base:Un X.fs X.ex X.H₀ H X.s₀.heap s.heap
 loc:∃m,s.heap.Ns X.env.locals m∧∀(i:Nat)(x:Str)(v:V),X.N[i]?=some x→σ[i]?=some (some v)→Vis X.env.scope x→∃u,RelV v u∧Look X.env s.heap m x u
 cell:∀x c,X.env.cells.lookup x=some c→∃v,s.heap.IsCell c v
 free:H X.env.locals=none
 freeC:∀x c,X.env.cells.lookup x=some c→H c=none
 pin:∀p∈X.pn++pins,s.heap.get? p.1=some p.2∧H p.1=none∧p.1≠X.env.locals∧p.1∉X.fs∧∀v,p.2.data≠.cell v
 hok:HOk X.prog X.w H s.heap
 len: σ.length=X.N.length
section
variable {X:Cx} {pins:List (Addr×Obj)} {σ:List (Option V)} {H H':Hp} {s:Shared} {h':Heap}
theorem Cx.Ok.nofr(ok:X.Ok){b:Addr}{o:Obj}(e:X.base.get? b=some o):b∉X.fs:=fun hb=>by
 have:=(ok.funs.mem hb).1
 rw[e] at this;cases this
theorem Inv.bs(I:Inv X pins σ H s):∀b o,X.base.get? b=some o→s.heap.get? b=some o∧H b=none:=fun b o e=>
 ⟨I.base.keep b o (I.ok.bs b o e).1 (I.ok.bs b o e).2 (I.ok.nofr e) (I.ok.noex b o e),I.base.free b o (I.ok.bs b o e).1 (I.ok.bs b o e).2 (I.ok.noex b o e)⟩
theorem Inv.bk(I:Inv X pins σ H s):∀b o,X.base.get? b=some o→s.heap.get? b=some o:=fun b o e=>(I.bs b o e).1
theorem Inv.mod(I:Inv X pins σ H s):Mod X.K X.mg X.base:=I.ok.mod
theorem Inv.kIn(I:Inv X pins σ H s):X.K.In s.heap:=I.ok.mod.kin.keeps I.bk
theorem Inv.nolimit(I:Inv X pins σ H s):s.heap.NoLimit:=I.ok.mod.nolimit.keeps I.bk
theorem Inv.fr(I:Inv X pins σ H s):∃m,Fr X.base X.env.locals s.heap m:=
 let⟨m,hn,_⟩:=I.loc
 ⟨m,hn,I.bk,UA I.ok.bsz I.ok.above⟩
theorem Inv.lt(I:Inv X pins σ H s):X.env.locals<s.heap.objs.size:=let⟨_,hn,_⟩:=I.loc;hn.lt
theorem Inv.sz(I:Inv X pins σ H s):X.s₀.heap.objs.size≤s.heap.objs.size:=UA I.ok.above (UI I.lt)
theorem Inv.nofs(I:Inv X pins σ H s){a:Addr}(h:s.heap.objs.size≤a):a∉X.fs:=fun hb=>by
 obtain⟨_,o,ho,_⟩:=I.ok.funs.mem hb
 exact absurd (UT (Heap.lt_size ho) (UA I.sz h)) (Jt _)
theorem Inv.cne(I:Inv X pins σ H s):∀x c,X.env.cells.lookup x=some c→c≠X.env.locals:=fun x c e z=>by
 obtain⟨v,o,ho,hd⟩:=I.cell x c e
 obtain⟨m,⟨o',es,ep,ho',hd',_⟩,_⟩:=I.loc
 rw[z,ho'] at ho;cases ho;rw[hd'] at hd;cases hd
theorem Inv.funs(I:Inv X pins σ H s):s.heap.FunFrames X.base X.outer:=by
 have all:∀(l:List Env),(∀b∈frs l,b∈X.fs)→X.s₀.heap.FunFrames X.base l→s.heap.FunFrames X.base l:=by
  intro l
  induction l with
  |nil=>intro _ _;trivial
  |cons env r ih=>
   intro hs hl
   obtain⟨hk,⟨L,o,hf,hn,ho,hd⟩,hr⟩:=hl
   have hL:L∈X.fs:=hs L (by unfold frs;rw[NO,hf];exact UW)
   obtain⟨sl,e⟩:=I.base.slot L o ho (I.ok.frf L hL) hL fun z=>I.ok.exfs L z hL
   exact⟨hk,⟨L,_,hf,hn,e,hd⟩,ih (fun b hb=>hs b (by unfold frs;rw[NO,hf];exact UV _ hb)) hr⟩
 exact all X.outer (fun _ hb=>hb) I.ok.funs
theorem Inv.stack(I:Inv X pins σ H s):s.heap.FunFrames X.base X.stack:=by
 rcases I.ok.stk with e|⟨e,hf⟩
 ·rw[e];exact I.funs
 ·rw[e]
  obtain⟨m,hn,_⟩:=I.loc
  refine .cons (by rw[I.ok.kind];decide) hf hn ?_ I.funs
  exact Heap.get?_none_of_le (UA I.ok.bsz I.ok.above)
theorem Inv.stkSub(I:Inv X pins σ H s):∀b∈frs X.stack,b∈X.env.locals::X.fs:=fun b hb=>by
 rcases I.ok.stk with e|⟨e,hf⟩
 ·rw[e] at hb;exact UV _ hb
 ·rw[e] at hb
  unfold frs at hb
  rw[NO,hf] at hb
  exact hb
theorem Inv.stkFree(I:Inv X pins σ H s):∀b∈frs X.stack,H b=none:=fun b hb=>by
 rcases UJ.mp (I.stkSub b hb) with e|hb
 ·rw[e];exact I.free
 ·obtain⟨_,o,ho,_⟩:=I.ok.funs.mem hb
  exact I.base.free b o ho (I.ok.frf b hb) fun z=>I.ok.exfs b z hb
theorem Inv.step{g':Array GenState}{t':Nat}{d':Drawn}{ch:List Addr}(I:Inv X pins σ H s)
  (hch:∀b∈ch,(b∈X.ex∨X.s₀.heap.objs.size≤b)∧b≠X.env.locals∧(∀x c,X.env.cells.lookup x=some c→c≠b)∧∀p∈X.pn++pins,p.1≠b)
  (keep:∀b o,b≠X.env.locals→b∉X.fs→b∉ch→s.heap.get? b=some o→H b=none→h'.get? b=some o)
  (slot:∀b o,b≠X.env.locals→b∈X.fs→b∉ch→s.heap.get? b=some o→H b=none→∃sl,h'.get? b=some {o with slots:=sl}) (free:∀b o,b∉ch→s.heap.get? b=some o→H b=none→H' b=none)
  (there:∀b o,b∉ch→s.heap.get? b=some o→∃o',h'.get? b=some o')
  (tups:∀b xs,H b=some (.tup xs)→H' b=some (.tup xs)) (frzs:∀b o u,H b=some (.frz o u)→H' b=some (.frz o u)) (tbls:∀b ps,H b=some (.tbl ps)→∃more,H' b=some (.tbl (ps++more)))
  (ns:∀m,s.heap.Ns X.env.locals m→h'.Ns X.env.locals m) (hok:HOk X.prog X.w H' h') (hg:AllBare g'):
  Inv X pins σ H' {s with heap:=h',gens:=g',drawn:=d',toks:=t'}:=by
 have neL:∀b o,X.s₀.heap.get? b=some o→b≠X.env.locals:=fun b o e=>UU (UT (Heap.lt_size e) I.ok.above)
 have neC:∀b o,X.s₀.heap.get? b=some o→b∉X.ex→b∉ch:=fun b o e hx hb=>by
  rcases(hch b hb).1 with z|z
  ·exact hx z
  ·exact absurd (UT (Heap.lt_size e) z) (Jt _)
 have cellK:∀x c,X.env.cells.lookup x=some c→∀v,s.heap.IsCell c v→h'.IsCell c v:=fun x c e v ⟨o,ho,hd⟩=>by
  have nch:c∉ch:=fun z=>(hch c z).2.2.1 x c e rfl
  by_cases hc:c∈X.fs
  ·obtain⟨sl,q⟩:=slot c o (I.cne x c e) hc nch ho (I.freeC x c e)
   exact⟨_,q,hd⟩
  ·exact⟨o,keep c o (I.cne x c e) hc nch ho (I.freeC x c e),hd⟩
 refine⟨I.ok,I.os,hg,⟨fun b o e n hb hx=>?_,fun b o e n hb hx=>?_,fun b o e n hx=>?_,fun b o e hx=>?_,fun b xs e=>tups b xs (I.base.tups b xs e),fun b o xs e=>frzs b o xs (I.base.frzs b o xs e),fun b ps e=>?_⟩,?_,fun x c e=>?_,?_,fun x c e=>?_,fun p hp=>?_,hok,I.len⟩
 ·exact keep b o (neL b o e) hb (neC b o e hx) (I.base.keep b o e n hb hx) (I.base.free b o e n hx)
 ·obtain⟨sl,e1⟩:=I.base.slot b o e n hb hx
  obtain⟨sl',e2⟩:=slot b _ (neL b o e) hb (neC b o e hx) e1 (I.base.free b o e n hx)
  exact⟨sl',e2⟩
 ·obtain⟨o',e1⟩:=I.base.there b o e hx
  exact free b o' (neC b o e hx) e1 (I.base.free b o e n hx)
 ·obtain⟨o',e1⟩:=I.base.there b o e hx
  exact there b o' (neC b o e hx) e1
 ·obtain⟨m1,e1⟩:=I.base.tbls b ps e
  obtain⟨m2,e2⟩:=tbls b _ e1
  exact⟨m1++m2,by rw[e2,Array.append_assoc]⟩
 ·obtain⟨m,hn,hl⟩:=I.loc
  refine⟨m,ns m hn,fun i x v e1 e2 e3=>?_⟩
  obtain⟨u,r,l⟩:=hl i x v e1 e2 e3
  refine⟨u,r,?_⟩
  rcases l with l|⟨k,c,e,z⟩
  ·exact .inl l
  ·exact .inr ⟨k,c,e,cellK x c e _ z⟩
 ·obtain⟨v,z⟩:=I.cell x c e
  exact⟨v,cellK x c e v z⟩
 ·obtain⟨m,⟨o,_,_,ho,_⟩,_⟩:=I.loc
  exact free _ o (fun z=>(hch _ z).2.1 rfl) ho I.free
 ·obtain⟨v,o,ho,hd⟩:=I.cell x c e
  exact free c o (fun z=>(hch c z).2.2.1 x c e rfl) ho (I.freeC x c e)
 ·obtain⟨e,n,ne,nf,d⟩:=I.pin p hp
  have nch:p.1∉ch:=fun z=>(hch p.1 z).2.2.2 p hp rfl
  exact⟨keep p.1 p.2 ne nf nch e n,free p.1 p.2 nch e n,ne,nf,d⟩
theorem Inv.un{t':Nat}(I:Inv X pins σ H s)(u:Un X.fs [] H H' s.heap h')(hok:HOk X.prog X.w H' h'):Inv X pins σ H' {s with heap:=h',toks:=t'}:=by
 obtain⟨m,⟨o,es,ep,ho,r⟩,_⟩:=id I.loc
 obtain⟨sl,hL⟩:=u.any ho I.free (by simp)
 exact I.step (g':=s.gens) (d':=s.drawn) (ch:=[]) (fun _ z=>nomatch z) (fun b o _ hb _ e n=>u.keep b o e n hb (by simp)) (fun b o _ hb _ e n=>u.slot b o e n hb (by simp)) (fun b o _ e n=>u.free b o e n (by simp)) (fun b o _ e=>u.there b o e (by simp)) u.tups u.frzs u.tbls (fun m' hm=>by
  obtain⟨o',es',ep',ho',r'⟩:=hm
  rw[ho] at ho';cases ho'
  exact⟨_,es',ep',hL,r'⟩) hok I.bare
theorem Inv.call{g':Array GenState}{t':Nat}{d':Drawn}{ch:List Addr}(I:Inv X pins σ H s)(u:Un (frs X.stack) ch H H' s.heap h')(hok:HOk X.prog X.w H' h')(hg:AllBare g')
  (hch:∀b∈ch,(b∈X.ex∨X.s₀.heap.objs.size≤b)∧b≠X.env.locals∧(∀x c,X.env.cells.lookup x=some c→c≠b)∧∀p∈X.pn++pins,p.1≠b):
  Inv X pins σ H' {s with heap:=h',gens:=g',drawn:=d',toks:=t'}:=by
 obtain⟨m,⟨o,es,ep,ho,r⟩,_⟩:=id I.loc
 obtain⟨sl,hL⟩:=u.any ho I.free fun z=>(hch _ z).2.1 rfl
 exact I.step (ch:=ch) hch (fun b o hL hb hc e n=>u.keep b o e n (fun z=>(UJ.mp (I.stkSub b z)).elim hL hb) hc) (fun b o _ _ hc e n=>u.any e n hc) (fun b o hc e n=>u.free b o e n hc) (fun b o hc e=>u.there b o e hc) u.tups u.frzs u.tbls (fun m' hm=>by
  obtain⟨o',es',ep',ho',r'⟩:=hm
  rw[ho] at ho';cases ho'
  exact⟨_,es',ep',hL,r'⟩) hok hg
theorem Inv.turned{t':Nat}{it:Addr}(I:Inv X pins σ H s)(k:∀b o,b≠it→s.heap.get? b=some o→h'.get? b=some o)(hn:H it=none)(hL:it≠X.env.locals)
  (h1:it∈X.ex∨X.s₀.heap.objs.size≤it) (h2:∀x c,X.env.cells.lookup x=some c→c≠it) (h3:∀p∈X.pn++pins,p.1≠it):Inv X pins σ H {s with heap:=h',toks:=t'}:=by
 have nit:∀b u,H b=some u→b≠it:=fun b u e z=>by rw[z,hn] at e;cases e
 refine I.step (g':=s.gens) (d':=s.drawn) (ch:=[it]) (fun b hb=>?_) (fun b o _ _ hc e _=>k b o (fun z=>hc (by simp[z])) e) (fun b o _ _ hc e _=>⟨o.slots,k b o (fun z=>hc (by simp[z])) e⟩) (fun _ _ _ _ n=>n)
  (fun b o hc e=>⟨o,k b o (fun z=>hc (by simp[z])) e⟩) (fun _ _ e=>e) (fun _ _ _ e=>e) (fun b ps e=>⟨#[],by rw[e];simp⟩) (fun m hm=>?_) (fun b u e=>?_) I.bare
 ·have e:b=it:=by simpa using hb
  subst e
  exact⟨h1,hL,h2,h3⟩
 ·obtain⟨o,es,ep,ho,r⟩:=hm
  exact⟨o,es,ep,k _ o (Ne.symm hL) ho,r⟩
 ·refine(I.hok b u e).stay (fun c v hc q=>k c v ?_ q) (fun _ q=>q) fun _ _ q=>q
  rcases hc with z|z
  ·rw[z];exact nit b u e
  ·exact nit c _ z
theorem Inv.tok(I:Inv X pins σ H s)(t:Nat):Inv X pins σ H {s with toks:=t}:=I.un (h':=s.heap) (t':=t) Un.refl I.hok
theorem Inv.kept{t':Nat}(I:Inv X pins σ H s)(k:∀b u,s.heap.get? b=some u→h'.get? b=some u):Inv X pins σ H {s with heap:=h',toks:=t'}:=I.un (Un.kept k) (I.hok.kept k)
theorem Inv.laid{a:Addr}{o:HO}{t':Nat}(I:Inv X pins σ H s)(k:∀b u,s.heap.get? b=some u→h'.get? b=some u)(hp:s.heap.objs.size≤a)(new:ObjOk X.prog X.w (upd H a o) h' a o):
  Inv X pins σ (upd H a o) {s with heap:=h',toks:=t'}:=I.un (Un.laid k hp (I.hok.fresh hp)) (I.hok.laid k hp new)
theorem Inv.write{x e:Addr}{o:HO}{t':Nat}(I:Inv X pins σ H s)(mu:Mut (H x))(he:e=x∨H e=some (.own x))(k:∀b u,b≠e→s.heap.get? b=some u→h'.get? b=some u)(heo:∃u,h'.get? e=some u)
  (new:ObjOk X.prog X.w (upd H x o) h' x o):Inv X pins σ (upd H x o) {s with heap:=h',toks:=t'}:=I.un (Un.write mu he k heo) (I.hok.write mu he k heo new)
theorem Inv.pins_of{pins':List (Addr×Obj)}(I:Inv X pins σ H s)(h:∀p∈pins',s.heap.get? p.1=some p.2∧H p.1=none∧p.1≠X.env.locals∧p.1∉X.fs∧∀v,p.2.data≠.cell v):Inv X pins' σ H s:=
 ⟨I.ok,I.os,I.bare,I.base,I.loc,I.cell,I.free,I.freeC,fun p hp=>(Jg.mp hp).elim (fun z=>I.pin p (NP _ z)) (h p),I.hok,I.len⟩
theorem kgS{N:List Str}(hN:N.Nodup){i j:Nat}{x:Str}(a:N[i]?=some x)(b:N[j]?=some x):i=j:=by
 obtain⟨h1,e1⟩:=UG.mp a
 obtain⟨h2,e2⟩:=UG.mp b
 exact(List.getElem_inj hN).mp (e1.trans e2.symm)
theorem khC{M:Model}{A:Around}{E:Value→Shared→Prop}{i:Nat}{x:Str}{v:V}{u:Value}{Q:Unit→Shared→Prop}(I:Inv X pins σ H s)(hN:X.N.Nodup)(hi:X.N[i]?=some x)(hx:Loc X.env.scope x)(r:RelV v u)
  (h:∀s',Inv X pins (σ.set i (some v)) H s'→(∃a,Heap.SameBut a s.heap s'.heap∧(a=X.env.locals∨X.env.cells.lookup x=some a))→Q () s') (hf:X.fn x=true∨X.env.scope.names.lookup x=some .local:=by first|exact .inl rfl|exact .inr rfl|assumption):wpAny M A (storeName X.env x u) Q E s:=by
 obtain⟨m,hn,hl⟩:=id I.loc
 have hcls:(X.env.scope.kind== .class||(X.env.scope.kind== .module&&X.env.locals !=X.env.globals))=false:=by rw[I.ok.kind];rfl
 have hiσ:i< σ.length:=by rw[I.len];exact(UG.mp hi).1
 have cne:=I.cne
 have tracked:∀{a:Addr}{h':Heap},(∃o,s.heap.get? a=some o∧H a=none)→Heap.SameBut a s.heap h'→HOk X.prog X.w H h':=fun {a h'} ha hs b ob e=>by
  obtain⟨_,_,hfree⟩:=ha
  refine(I.hok b ob e).stay (fun c w' hc q=>(hs.2 c ?_).trans q) (fun _ q=>q) fun _ _ q=>q
  rintro rfl
  rcases hc with rfl|hc
  ·rw[hfree] at e;cases e
  ·rw[hfree] at hc;cases hc
 rcases hx with hk|hk
 ·refine wpAny_storeName_local hk hn (fun h' hn' hs=>?_) hcls
  obtain⟨oL,_,_,hoL,_⟩:=id hn
  refine h _ ⟨I.ok,I.os,I.bare,⟨fun b o e n hb hx=>?_,fun b o e n hb hx=>?_,I.base.free,fun b o e hx=>?_,I.base.tups,I.base.frzs,I.base.tbls⟩,⟨_,hn',fun j y v' e1 e2 e3=>?_⟩,fun y c e=>?_,I.free,I.freeC,fun p hp=>?_,tracked ⟨oL,hoL,I.free⟩ hs,by simpa using I.len⟩ ⟨_,hs, .inl rfl⟩
  ·exact(hs.2 b (UU (UT (Heap.lt_size e) I.ok.above))).trans (I.base.keep b o e n hb hx)
  ·obtain⟨sl,e1⟩:=I.base.slot b o e n hb hx
   exact⟨sl,(hs.2 b (UU (UT (Heap.lt_size e) I.ok.above))).trans e1⟩
  ·obtain⟨o',e1⟩:=I.base.there b o e hx
   exact⟨o',(hs.2 b (UU (UT (Heap.lt_size e) I.ok.above))).trans e1⟩
  ·by_cases hj:j=i
   ·subst hj
    rw[hi] at e1;cases e1
    rw[JN hiσ] at e2
    cases e2
    exact⟨u,r, .inl ⟨hk,by simp⟩⟩
   ·rw[JO (Ne.symm hj)] at e2
    obtain⟨u',r',q⟩:=hl j y v' e1 e2 e3
    refine⟨u',r',?_⟩
    rcases q with⟨k,e⟩|⟨k,c,e,z⟩
    ·refine .inl ⟨k,?_⟩
     have:y≠x:=fun e=>hj (kgS hN e1 (e▸hi))
     simp[this,e]
    ·exact .inr ⟨k,c,e,z.sameBut hs (cne y c e)⟩
  ·obtain⟨w',z⟩:=I.cell y c e
   exact⟨w',z.sameBut hs (cne y c e)⟩
  ·obtain⟨e,n,ne,nf,d⟩:=I.pin p hp
   exact⟨(hs.2 p.1 ne).trans e,n,ne,nf,d⟩
 ·have hfn:X.fn x=true:=by
   rcases hf with z|z
   ·exact z
   ·rw[z] at hk;cases hk
  obtain⟨c,hc⟩:=I.ok.has x (.inl hk)
  obtain⟨w',z⟩:=I.cell x c hc
  refine wpAny_storeName_cell I.ok.kind hk hc z (fun h' hc' hs=>?_)
  obtain⟨oc,hoc,hocd⟩:=id z
  refine h {s with heap:=h'} ⟨I.ok,I.os,I.bare,⟨fun b o e n hb hx=>?_,fun b o e n hb hx=>?_,I.base.free,fun b o e hx=>?_,I.base.tups,I.base.frzs,I.base.tbls⟩,⟨m,hn.sameBut hs (Ne.symm (cne x c hc)),fun j y v' e1 e2 e3=>?_⟩,fun y c' e=>?_,I.free,I.freeC,fun p hp=>?_,tracked ⟨oc,hoc,I.freeC x c hc⟩ hs,by simpa using I.len⟩ ⟨c,hs, .inr hc⟩
  ·exact(hs.2 b (UU (UT (Heap.lt_size e) (I.ok.cab x c hfn hc)))).trans (I.base.keep b o e n hb hx)
  ·obtain⟨sl,e1⟩:=I.base.slot b o e n hb hx
   exact⟨sl,(hs.2 b (UU (UT (Heap.lt_size e) (I.ok.cab x c hfn hc)))).trans e1⟩
  ·obtain⟨o',e1⟩:=I.base.there b o e hx
   exact⟨o',(hs.2 b (UU (UT (Heap.lt_size e) (I.ok.cab x c hfn hc)))).trans e1⟩
  ·by_cases hj:j=i
   ·subst hj
    rw[hi] at e1;cases e1
    rw[JN hiσ] at e2
    cases e2
    exact⟨u,r, .inr ⟨.inl hk,c,hc,hc'⟩⟩
   ·rw[JO (Ne.symm hj)] at e2
    obtain⟨u',r',q⟩:=hl j y v' e1 e2 e3
    refine⟨u',r',?_⟩
    rcases q with q|⟨k,c',e,z'⟩
    ·exact .inl q
    ·refine .inr ⟨k,c',e,z'.sameBut hs ?_⟩
     rintro rfl
     exact hj (kgS hN e1 (I.ok.inj _ _ _ e hc▸hi))
  ·by_cases hcc:c'=c
   ·subst hcc;exact⟨_,hc'⟩
   ·obtain⟨w2,z2⟩:=I.cell y c' e
    exact⟨w2,z2.sameBut hs hcc⟩
  ·obtain⟨e,n,ne,nf,d⟩:=I.pin p hp
   refine⟨(hs.2 p.1 ?_).trans e,n,ne,nf,d⟩
   intro q
   rw[q,hoc] at e
   have q':oc=p.2:=Option.some.inj e
   exact d w' (by rw[←q'];exact hocd)
theorem keF{M:Model}{A:Around}{E:Value→Shared→Prop}{i:Nat}{x:Str}{v:V}{u:Value}{Q:Unit→Shared→Prop}(I:Inv X pins σ H s)(hN:X.N.Nodup)(hi:X.N[i]?=some x)(hx:Loc X.env.scope x)(r:RelV v u)
  (h:∀s',Inv X pins (σ.set i (some v)) H s'→Q () s') (hf:X.fn x=true∨X.env.scope.names.lookup x=some .local:=by first|exact .inl rfl|exact .inr rfl|assumption):wpAny M A (storeName X.env x u) Q E s:=
 khC I hN hi hx r (fun s' I' _=>h s' I') hf
theorem Inv.call'{s':Shared}{ch:List Addr}(I:Inv X pins σ H s)(ho:s'.os=s.os)(u:Un (frs X.stack) ch H H' s.heap s'.heap)(hok:HOk X.prog X.w H' s'.heap)(hg:AllBare s'.gens)
  (hch:∀b∈ch,(b∈X.ex∨X.s₀.heap.objs.size≤b)∧b≠X.env.locals∧(∀x c,X.env.cells.lookup x=some c→c≠b)∧∀p∈X.pn++pins,p.1≠b):Inv X pins σ H' s':=by
 obtain⟨h',g',d',t',o'⟩:=s'
 have e:o'=s.os:=ho
 subst e
 exact I.call (g':=g') (t':=t') (d':=d') u hok hg hch
end
noncomputable abbrev XK:=Value→Option Addr→Hp→Prop
noncomputable abbrev St:=List (Option V)
noncomputable abbrev VK:=V→Hp→Prop
noncomputable abbrev TE:=St→Hp→VK→Prop
noncomputable abbrev TT:=St→Hp→(Bool→Hp→Prop)→Prop
noncomputable abbrev TA:=St→Hp→(List V→Hp→Prop)→Prop
structure Ends where
 nx:St→Hp→Prop
 rt:VK
 bk:St→Hp→Prop:=fun _ _=>False
 ct:St→Hp→Prop:=fun _ _=>False
noncomputable abbrev TS:=Ends→St→Hp→Prop
noncomputable def EP(X:Cx)(pins:List (Addr×Obj))(σ:St)(Q:VK)(u:Value)(s':Shared):Prop:=∃v H',Inv X pins σ H' s'∧RelV v u∧Q v H'
noncomputable def TP(X:Cx)(pins:List (Addr×Obj))(σ:St)(Q:Bool→Hp→Prop)(b:Bool)(s':Shared):Prop:=∃H',Inv X pins σ H' s'∧Q b H'
noncomputable def AP(X:Cx)(pins:List (Addr×Obj))(σ:St)(Q:List V→Hp→Prop)(us:List Value)(s':Shared):Prop:=∃vs H',Inv X pins σ H' s'∧Vals vs us∧Q vs H'
noncomputable def SP(X:Cx)(pins:List (Addr×Obj))(D:Ends)(f:Flow)(s':Shared):Prop:=
 match f with
 | .next=>∃σ' H',Inv X pins σ' H' s'∧D.nx σ' H'
 | .brk=>∃σ' H',Inv X pins σ' H' s'∧D.bk σ' H'
 | .cont=>∃σ' H',Inv X pins σ' H' s'∧D.ct σ' H'
 | .ret u=>∃v σ' H',Inv X pins σ' H' s'∧RelV v u∧D.rt v H'
noncomputable def PE(X:Cx)(e:Expr)(t:TE):Prop:=
 ∀(pins:List (Addr×Obj))(s:Shared)(σ:St)(H:Hp)(Q:VK),Inv X pins σ H s→t σ H Q→wpAny (model X.prog X.w) X.A (eval e X.env) (EP X pins σ Q) X.xe s
noncomputable def PT(X:Cx)(e:Expr)(t:TT):Prop:=
 ∀(pins:List (Addr×Obj))(s:Shared)(σ:St)(H:Hp)(Q:Bool→Hp→Prop),Inv X pins σ H s→t σ H Q→wpAny (model X.prog X.w) X.A (isTrue e X.env (eval e X.env)) (TP X pins σ Q) X.xe s
noncomputable def PW(X:Cx)(e:Expr)(t:TT):Prop:=
 ∀(whole:Sem Value)(pins:List (Addr×Obj))(s:Shared)(σ:St)(H:Hp)(Q:Bool→Hp→Prop),Inv X pins σ H s→t σ H Q→wpAny (model X.prog X.w) X.A (isTrue e X.env whole) (TP X pins σ Q) X.xe s
def PW.pt{X:Cx}{e:Expr}{t:TT}(h:PW X e t):PT X e t:=h _
noncomputable def PA(X:Cx)(es:List Expr)(t:TA):Prop:=
 ∀(pos:Pos)(pins:List (Addr×Obj))(s:Shared)(σ:St)(H:Hp)(Q:List V→Hp→Prop),Inv X pins σ H s→t σ H Q→wpAny (model X.prog X.w) X.A (spliced (backTo pos (starEach es X.env))) (AP X pins σ Q) X.xe s
noncomputable def PS(X:Cx)(st:Stmt)(t:TS):Prop:=
 ∀(pins:List (Addr×Obj))(s:Shared)(σ:St)(H:Hp)(D:Ends),Inv X pins σ H s→t D σ H→wpAny (model X.prog X.w) X.A (exec st X.env) (SP X pins D) X.xe s
noncomputable def PSs(X:Cx)(st:List Stmt)(t:TS):Prop:=
 ∀(pins:List (Addr×Obj))(s:Shared)(σ:St)(H:Hp)(D:Ends),Inv X pins σ H s→t D σ H→wpAny (model X.prog X.w) X.A (execs st X.env) (SP X pins D) X.xe s
def thn{α:Type}{t:Sem α}{Q Q': α→Shared→Prop}{M:Model}{A:Around}{E:Value→Shared→Prop}{s:Shared}(h:wpAny M A t Q E s)(hQ:∀a s,Q a s→Q' a s):wpAny M A t Q' E s:=wpAny_mono h hQ fun _ _ x=>x
end L2
namespace L2
open PySem PySem.Spec PyProof.Rows
section
variable {X:Cx}
noncomputable def tVar(i:Nat):TE:=fun σ H Q=>∃v,σ[i]?=some (some v)∧Q v H
noncomputable def tC(v:V):TE:=fun _ H Q=>Q v H
theorem kk8{i:Nat}{x:Str}{pos:Pos}(hN:X.N[i]?=some x)(hv:Vis X.env.scope x)(hd:(x==("__debug__" :Str))=false:=by decide)(hcd:(x==("__classdict__" :Str))=false:=by decide):PE X (.Name x pos) (tVar i):=by
 intro pins s σ H Q I h
 obtain⟨v,e,h⟩:=h
 obtain⟨m,hn,hl⟩:=I.loc
 obtain⟨u,r,l⟩:=hl i x v hN e hv
 have fin:EP X pins σ Q u s:=⟨v,H,I,r,h⟩
 rcases l with⟨hk,hm⟩|⟨hk,c,hc,hcell⟩
 ·exact wpAny_Name (wpAny_loadName_local I.ok.kind hk hn hm fin) hd
 ·rcases hk with hk|hk
  ·exact wpAny_Name (wpAny_loadName_cell I.ok.kind hk hc hcell fin) hd
  ·exact wpAny_Name (wpAny_loadName_free I.ok.kind hk hc hcell fin hcd) hd
theorem kaf{i j pos}:PE X (.Constant (.int i) j pos) (tC (.int i)):=fun _ _ _ H _ I h=>wpAny_Constant_int ⟨.int i,H,I.tok _,⟨_,rfl⟩,h⟩
theorem pe_bl{b j pos}:PE X (.Constant (.bool b) j pos) (tC (.bl b)):=fun _ _ _ H _ I h=>Constant_bool ⟨.bl b,H,I,rfl,h⟩
theorem kaT{j pos}:PE X (.Constant .none j pos) (tC .non):=fun _ _ _ H _ I h=>Constant_none ⟨.non,H,I,rfl,h⟩
theorem kau{x j pos}:PE X (.Constant (.str x) j pos) (tC (.str x)):=fun _ _ _ H _ I h=>Calls.Constant_str ⟨.str x,H,I.tok _,⟨_,rfl⟩,h⟩
noncomputable def Gl(X:Cx)(x:Str):Prop:=X.env.kindOf x=some .globalImplicit
theorem ke2{E:Value→Shared→Prop}{pins:List (Addr×Obj)}{s:Shared}{σ:St}{H:Hp}{x:Str}{u:Value}{pos:Pos}{Q:Value→Shared→Prop}(I:Inv X pins σ H s)(hg:Gl X x)(hm:X.mg x=some u)(h:Q u s)
  (hd:(x==("__debug__" :Str))=false:=by decide):wpAny (model X.prog X.w) X.A (eval (.Name x pos) X.env) Q E s:=
 Calls.Name_function_global I.ok.kind hg (Calls.loadGlobal_global (by rw[I.ok.glob];exact I.mod.glob.keeps I.bk) hm h) hd
theorem kcq{E:Value→Shared→Prop}{pins:List (Addr×Obj)}{s:Shared}{σ:St}{H:Hp}{x:Str}{u:Value}{pos:Pos}{Q:Value→Shared→Prop}(I:Inv X pins σ H s)(hg:Gl X x)(hm:X.mg x=none)(hv:bootBuiltins x=some u)(h:Q u s)
  (hn:x≠"__name__":=by decide) (hd:(x==("__debug__" :Str))=false:=by decide):wpAny (model X.prog X.w) X.A (eval (.Name x pos) X.env) Q E s:=by
 obtain⟨mb,h1,h2⟩:=I.mod.blt
 exact Calls.Name_function_global I.ok.kind hg (Calls.loadGlobal_builtin (by rw[I.ok.glob];exact I.mod.glob.keeps I.bk) hm (by rw[I.ok.blt];exact h1.keeps I.bk) ((h2 x hn).trans hv) h) hd
theorem kdf{x:Str}{v:V}{u:Value}{pos:Pos}(hg:Gl X x)(hm:X.mg x=some u)(r:RelV v u)(hd:(x==("__debug__" :Str))=false:=by decide):PE X (.Name x pos) (tC v):=
 fun _ _ _ H _ I h=>ke2 I hg hm ⟨v,H,I,r,h⟩ hd
theorem kbA{x:Str}{v:V}{u:Value}{pos:Pos}(hg:Gl X x)(hm:X.mg x=none)(hv:bootBuiltins x=some u)(r:RelV v u)(hn:x≠"__name__":=by decide)(hd:(x==("__debug__" :Str))=false:=by decide):PE X (.Name x pos) (tC v):=
 fun _ _ _ H _ I h=>kcq I hg hm hv ⟨v,H,I,r,h⟩ hn hd
variable {a b:Expr} {ta tb:TE} {pos:Pos}
noncomputable def PC(X:Cx)(op:CmpOp)(a b:Expr)(t:TE):Prop:=
 ∀(pins:List (Addr×Obj))(s:Shared)(σ:St)(H:Hp)(Q:VK),Inv X pins σ H s→t σ H Q→
  wpAny (model X.prog X.w) X.A (eval a X.env) (fun v s₁=>wpAny (model X.prog X.w) X.A (eval b X.env) (fun u s₂=>wpAny (model X.prog X.w) X.A (compareOp op v u) (EP X pins σ Q) X.xe s₂) X.xe s₁) X.xe s
noncomputable def tB(t:TE):TT:=fun σ H Q=>t σ H fun x H1=>∃c,x=.bl c∧Q c H1
theorem kaS{e:Expr}{t:TE}(h:PE X e t)(he:∀whole,isTrue e X.env whole=(do let v ←whole;standAt e.pos;holding [v] (truthy v)):=by intro _;rfl):PT X e (tB t):=by
 intro pins s σ H Q I hw
 refine isTrue_plain (thn (h pins s σ H _ I hw) fun v s1 ⟨x,H1,I1,r1,q1⟩=>?_) (he _)
 obtain⟨d,rfl,q⟩:=q1
 cases r1
 exact wpAny_truthy_bool ⟨H1,I1,q⟩
variable {tA tB':TT} {rest:List Expr}
noncomputable def tAnd(t u:TT):TT:=fun σ H Q=>t σ H fun c H1=>if c=true then u σ H1 Q else Q false H1
noncomputable def tOr(t u:TT):TT:=fun σ H Q=>t σ H fun c H1=>if c=true then Q true H1 else u σ H1 Q
noncomputable def tNot(t:TT):TT:=fun σ H Q=>t σ H fun c H1=>Q (!c) H1
theorem ka0(ha:PT X a tA):PW X (.BoolOp .And [a] pos) tA:=by
 intro wh pins s σ H Q I h
 refine isTrue_and (thn (ha pins s σ H Q I h) fun c s1 e=>?_)
 cases c with
 |true=>exact isTrue_and_nil e
 |false=>exact e
theorem kj0(ha:PT X a tA):PW X (.BoolOp .Or [a] pos) tA:=by
 intro wh pins s σ H Q I h
 refine isTrue_or (thn (ha pins s σ H Q I h) fun c s1 e=>?_)
 cases c with
 |false=>exact isTrue_or_nil e
 |true=>exact e
theorem ka8(ha:PT X a tA)(hb:PW X (.BoolOp .And (b::rest) pos) tB'):PW X (.BoolOp .And (a::b::rest) pos) (tAnd tA tB'):=by
 intro wh pins s σ H Q I h
 refine isTrue_and (thn (ha pins s σ H _ I h) fun c s1 ⟨H1,I1,q1⟩=>?_)
 cases c with
 |true=>exact hb wh pins s1 σ H1 Q I1 q1
 |false=>exact⟨H1,I1,q1⟩
theorem pw_or(ha:PT X a tA)(hb:PW X (.BoolOp .Or (b::rest) pos) tB'):PW X (.BoolOp .Or (a::b::rest) pos) (tOr tA tB'):=by
 intro wh pins s σ H Q I h
 refine isTrue_or (thn (ha pins s σ H _ I h) fun c s1 ⟨H1,I1,q1⟩=>?_)
 cases c with
 |true=>exact⟨H1,I1,q1⟩
 |false=>exact hb wh pins s1 σ H1 Q I1 q1
theorem kfo(ha:PT X a tA):PT X (.UnaryOp .Not a pos) (tNot tA):=by
 intro pins s σ H Q I h
 exact isTrue_not (ha pins s σ H (fun c H1=>Q (!c) H1) I h)
noncomputable def tAndV(ta tb:TE):TE:=fun σ H Q=>ta σ H fun x H1=>∃c,x=.bl c∧if c=true then tb σ H1 Q else Q (.bl false) H1
noncomputable def tOrV(ta tb:TE):TE:=fun σ H Q=>ta σ H fun x H1=>∃c,x=.bl c∧if c=true then Q (.bl true) H1 else tb σ H1 Q
noncomputable def tNotV(ta:TE):TE:=fun σ H Q=>ta σ H fun x H1=>∃c,x=.bl c∧Q (.bl (!c)) H1
theorem keo{op}{t:TE}(h:PE X a t):PE X (.BoolOp op [a] pos) t:=fun pins s σ H Q I hw=>BoolOp_one (h pins s σ H Q I hw)
theorem kfp(ha:PE X a ta)(hb:PE X (.BoolOp .And (b::rest) pos) tb):PE X (.BoolOp .And (a::b::rest) pos) (tAndV ta tb):=by
 intro pins s σ H Q I h
 refine BoolOp_and (thn (ha pins s σ H _ I h) fun v s1 ⟨x,H1,I1,r1,q1⟩=>?_)
 obtain⟨c,rfl,q1⟩:=q1
 cases r1
 refine wpAny_truthy_bool ?_
 cases c with
 |true=>exact hb pins s1 σ H1 Q I1 q1
 |false=>exact⟨.bl false,H1,I1,rfl,q1⟩
theorem pe_or(ha:PE X a ta)(hb:PE X (.BoolOp .Or (b::rest) pos) tb):PE X (.BoolOp .Or (a::b::rest) pos) (tOrV ta tb):=by
 intro pins s σ H Q I h
 refine BoolOp_or (thn (ha pins s σ H _ I h) fun v s1 ⟨x,H1,I1,r1,q1⟩=>?_)
 obtain⟨c,rfl,q1⟩:=q1
 cases r1
 refine wpAny_truthy_bool ?_
 cases c with
 |false=>exact hb pins s1 σ H1 Q I1 q1
 |true=>exact⟨.bl true,H1,I1,rfl,q1⟩
theorem kk9(ha:PE X a ta):PE X (.UnaryOp .Not a pos) (tNotV ta):=by
 intro pins s σ H Q I h
 refine UnaryOp_ (thn (ha pins s σ H _ I h) fun v s1 ⟨x,H1,I1,r1,q1⟩=>?_)
 obtain⟨c,rfl,q1⟩:=q1
 cases r1
 exact not_of (wpAny_truthy_bool ⟨.bl (!c),H1,I1,rfl,q1⟩)
noncomputable def tIf(t:TT)(ta tb:TE):TE:=fun σ H Q=>t σ H fun c H1=>if c=true then ta σ H1 Q else tb σ H1 Q
theorem kgN{c:Expr}(hc:PT X c tA)(ha:PE X a ta)(hb:PE X b tb):PE X (.IfExp c a b pos) (tIf tA ta tb):=by
 intro pins s σ H Q I h
 refine wpAny_IfExp (thn (hc pins s σ H _ I h) fun d s1 ⟨H1,I1,q1⟩=>?_)
 cases d with
 |true=>exact ha pins s1 σ H1 Q I1 q1
 |false=>exact hb pins s1 σ H1 Q I1 q1
end
end L2
namespace L2
open PySem PySem.Spec PyProof.Rows
noncomputable def SqL(K:Uv)(H:Hp)(a:Addr)(xs:List V):Prop:=
 Rd H a (.lst xs)∨
  ∃(o:Obj)(its:Array Value)(n:Nat),K.lookup a=some o∧o.cls=.type "list"∧o.dict=none∧o.data=.seq its n∧its.size≤sizeLine∧Vals xs its.toList
noncomputable def SqT(K:Uv)(H:Hp)(a:Addr)(xs:List V):Prop:=
 Rd H a (.tup xs)∨
  ∃(o:Obj)(its:Array Value)(n:Nat),K.lookup a=some o∧o.cls=.type "tuple"∧o.data=.seq its n∧its.size≤sizeLine∧Vals xs its.toList
noncomputable def absV:Value→Option V
 | .none=>some .non
 | .bool b=>some (.bl b)
 | .int i _=>some (.int i)
 | .str x _=>some (.str x)
 | .bytes b _=>some (.byt b)
 | .float b _=>some (.flt b)
 | .ref a=>some (.ref a)
 | .type n=>some (.ty n)
 |_=>none
theorem RelV.abs{x:V}{u:Value}(r:RelV x u):absV u=some x:=by
 cases x with
 |non=>cases r;rfl
 |bl _=>cases r;rfl
 |int _=>obtain⟨t,rfl⟩:=r;rfl
 |str _=>obtain⟨t,rfl⟩:=r;rfl
 |byt _=>obtain⟨t,rfl⟩:=r;rfl
 |flt _=>obtain⟨t,rfl⟩:=r;rfl
 |ref _=>cases r;rfl
 |ty _=>cases r;rfl
def RelV.inj{x y:V}{u:Value}(r:RelV x u)(q:RelV y u):x=y:=Option.some.inj (r.abs.symm.trans q.abs)
theorem Vals.inj:∀{xs ys:List V}{us:List Value},Vals xs us→Vals ys us→xs=ys
 |_,_,_, .nil, .nil=>rfl
 |_,_,_, .cons r t, .cons r' t'=>by rw[r.inj r',Vals.inj t t']
section
variable {X:Cx} {pins:List (Addr×Obj)} {σ:St} {H:Hp} {s:Shared} {a:Addr} {xs ys:List V}
theorem SqL.of{K:Uv}(h:H a=some (.lst xs)):SqL K H a xs:=.inl (.inl h)
theorem SqT.of{K:Uv}(h:H a=some (.tup xs)):SqT K H a xs:=.inl (.inl h)
theorem Inv.list(I:Inv X pins σ H s)(h:SqL X.K H a xs):∃its:List Value,Vals xs its∧PlainL s.heap a its.toArray∧xs.length≤sizeLine:=by
 rcases h with h|⟨o,its,n,hk,hc,hd,hs,hz,r⟩
 ·obtain⟨z,its,n,r,e⟩:=h.ok I.hok
  exact⟨its,r,⟨_,n,e,rfl,rfl,rfl⟩,z⟩
 ·refine⟨its.toList,r,⟨o,n,I.kIn a o hk,hc,hd,by simpa using hs⟩,?_⟩
  have e:=r.length
  simp only[JV] at e
  omega
theorem Inv.tuple(I:Inv X pins σ H s)(h:SqT X.K H a xs):∃its:List Value,Vals xs its∧IsTup s.heap a its.toArray∧xs.length≤sizeLine:=by
 rcases h with h|⟨o,its,n,hk,hc,hs,hz,r⟩
 ·obtain⟨z,its,r,p⟩:=h.ok I.hok
  exact⟨its,r,p,z⟩
 ·refine⟨its.toList,r,⟨o,I.kIn a o hk,hc,n,by simpa using hs⟩,?_⟩
  have e:=r.length
  simp only[JV] at e
  omega
theorem Inv.list_inj(I:Inv X pins σ H s)(h:SqL X.K H a xs)(h':SqL X.K H a ys):xs=ys:=by
 obtain⟨its,r,⟨o,n,e,_,_,d⟩,_⟩:=I.list h
 obtain⟨its',r',⟨o',n',e',_,_,d'⟩,_⟩:=I.list h'
 rw[e] at e';cases e'
 rw[d] at d'
 injection d' with d1 _
 have:its=its':=by simpa using congrArg Array.toList d1
 subst this
 exact r.inj r'
end
noncomputable abbrev Cx.wish(X:Cx)(E:Value→Shared→Prop):Cx:={X with xe:=E}
noncomputable abbrev Cx.nox(X:Cx):Cx:=X.wish fun _ _=>False
def Cx.Ok.wish{X:Cx}(ok:X.Ok)(E:Value→Shared→Prop):(X.wish E).Ok:=
 ⟨ok.mod,ok.kind,ok.glob,ok.blt,ok.above,ok.inj,ok.has,ok.cab,ok.hd,ok.frames,ok.stk,ok.exf,ok.bs,ok.bsz,ok.noex,ok.exfs,ok.funs,ok.frf⟩
def Cx.Ok.unwish{X:Cx}{E:Value→Shared→Prop}(ok:(X.wish E).Ok):X.Ok:=
 ⟨ok.mod,ok.kind,ok.glob,ok.blt,ok.above,ok.inj,ok.has,ok.cab,ok.hd,ok.frames,ok.stk,ok.exf,ok.bs,ok.bsz,ok.noex,ok.exfs,ok.funs,ok.frf⟩
section
variable {X:Cx} {pins:List (Addr×Obj)} {σ:St} {H:Hp} {s:Shared} {E:Value→Shared→Prop}
theorem Inv.wish(I:Inv X pins σ H s)(E:Value→Shared→Prop):Inv (X.wish E) pins σ H s:=⟨I.ok.wish E,I.os,I.bare,I.base,I.loc,I.cell,I.free,I.freeC,I.pin,I.hok,I.len⟩
theorem Inv.unwish(I:Inv (X.wish E) pins σ H s):Inv X pins σ H s:=⟨I.ok.unwish,I.os,I.bare,I.base,I.loc,I.cell,I.free,I.freeC,I.pin,I.hok,I.len⟩
theorem SP.unwish{D:Ends}{f:Flow}{s':Shared}(h:SP (X.wish E) pins D f s'):SP X pins D f s':=by
 cases f with
 |next=>obtain⟨σ',H',I,q⟩:=h;exact⟨σ',H',I.unwish,q⟩
 |brk=>obtain⟨σ',H',I,q⟩:=h;exact⟨σ',H',I.unwish,q⟩
 |cont=>obtain⟨σ',H',I,q⟩:=h;exact⟨σ',H',I.unwish,q⟩
 |ret u=>obtain⟨v,σ',H',I,r,q⟩:=h;exact⟨v,σ',H',I.unwish,r,q⟩
theorem PE.nox{e:Expr}{t:TE}(h:PE X.nox e t):PE X e t:=fun pins s σ H Q I hw=>
 wpAny_mono (h pins s σ H Q (I.wish _) hw) (fun _ _ ⟨v,H',I',r,q⟩=>⟨v,H',I'.unwish,r,q⟩) fun _ _ z=>False.elim z
theorem PT.nox{e:Expr}{t:TT}(h:PT X.nox e t):PT X e t:=fun pins s σ H Q I hw=>
 wpAny_mono (h pins s σ H Q (I.wish _) hw) (fun _ _ ⟨H',I',q⟩=>⟨H',I'.unwish,q⟩) fun _ _ z=>False.elim z
theorem PSs.nox{st:List Stmt}{t:TS}(h:PSs X.nox st t):PSs X st t:=fun pins s σ H D I hw=>
 wpAny_mono (h pins s σ H D (I.wish _) hw) (fun _ _ q=>q.unwish) fun _ _ z=>False.elim z
end
section
variable {X:Cx} {st:Stmt} {rest:List Stmt} {t u:TS} {e:Expr} {te:TE} {pos:Pos}
noncomputable def tNext:TS:=fun D σ H=>D.nx σ H
noncomputable def tSeq(t u:TS):TS:=fun D σ H=>t {D with nx:=u D} σ H
theorem kas:PSs X [] tNext:=fun _ _ σ H _ I h=>wpAny_execs_nil ⟨σ,H,I,h⟩
theorem kab(h1:PS X st t)(h2:PSs X rest u):PSs X (st::rest) (tSeq t u):=by
 intro pins s σ H D I h
 refine wpAny_execs_cons (thn (h1 pins s σ H {D with nx:=u D} I h) fun f s1 q=>?_)
 cases f with
 |next=>
  obtain⟨σ',H',I',q⟩:=q
  exact h2 pins s1 σ' H' D I' q
 |ret v=>exact q
 |brk=>exact q
 |cont=>exact q
theorem kag(h1:PS X st t):PSs X [st] t:=by
 intro pins s σ H D I h
 refine wpAny_execs_cons (thn (h1 pins s σ H D I h) fun f s1 q=>?_)
 cases f with
 |next=>exact wpAny_execs_nil q
 |ret v=>exact q
 |brk=>exact q
 |cont=>exact q
theorem Inv.quiet{pins:List (Addr×Obj)}{σ:St}{H:Hp}{s:Shared}(I:Inv X pins σ H s):interactive X.env=false:=by simp[interactive,I.ok.kind]
noncomputable def tDrop(te:TE):TS:=fun D σ H=>te σ H fun _ H1=>D.nx σ H1
theorem ka3(he:PE X e te)(hs:swapsWith e none pos.line X.env=pure false:=by rfl):PS X (.Expr e pos) (tDrop te):=by
 intro pins s σ H D I h
 exact wpAny_Expr_any (thn (he pins s σ H _ I h) fun v s1 ⟨x,H1,I1,r1,q1⟩=>⟨σ,H1,I1,q1⟩) I.quiet hs
noncomputable def tRet(te:TE):TS:=fun D σ H=>te σ H D.rt
theorem kan(he:PE X e te):PS X (.Return (some e) pos) (tRet te):=by
 intro pins s σ H D I h
 exact wpAny_Return_some (thn (he pins s σ H _ I h) fun v s1 ⟨x,H1,I1,r1,q1⟩=>⟨x,σ,H1,I1,r1,q1⟩)
noncomputable def tIfS(c:TT)(t u:TS):TS:=fun D σ H=>c σ H fun b H1=>if b=true then t D σ H1 else u D σ H1
theorem ps_if{c:Expr}{a b:List Stmt}{tc:TT}(hc:PT X c tc)(ha:PSs X a t)(hb:PSs X b u):PS X (.If c a b pos) (tIfS tc t u):=by
 intro pins s σ H D I h
 refine wpAny_If (thn (hc pins s σ H _ I h) fun d s1 ⟨H1,I1,q1⟩=>?_)
 cases d with
 |true=>exact ha pins s1 σ H1 D I1 q1
 |false=>exact hb pins s1 σ H1 D I1 q1
end
noncomputable abbrev TG:=V→St→Hp→(St→Hp→Prop)→Prop
noncomputable abbrev TGs:=List V→St→Hp→(St→Hp→Prop)→Prop
noncomputable def PG(X:Cx)(target:Expr)(t:TG):Prop:=
 ∀(pins:List (Addr×Obj))(s:Shared)(σ:St)(H:Hp)(v:V)(u:Value)(Q:St→Hp→Prop),Inv X pins σ H s→RelV v u→t v σ H Q→
  wpAny (model X.prog X.w) X.A (assign target X.env u) (fun _ s'=>∃σ' H',Inv X pins σ' H' s'∧Q σ' H') X.xe s
noncomputable def PGs(X:Cx)(ts:List Expr)(t:TGs):Prop:=
 ∀(pins:List (Addr×Obj))(s:Shared)(σ:St)(H:Hp)(vs:List V)(us:List Value)(Q:St→Hp→Prop),Inv X pins σ H s→Vals vs us→t vs σ H Q→
  wpAny (model X.prog X.w) X.A (assignInOrder ((assignEach ts X.env).map (·.2)) us) (fun _ s'=>∃σ' H',Inv X pins σ' H' s'∧Q σ' H') X.xe s
noncomputable abbrev TSet:=V→V→V→Hp→(Hp→Prop)→Prop
noncomputable def PSet(X:Cx)(t:TSet):Prop:=
 ∀(pins:List (Addr×Obj))(s:Shared)(σ:St)(H:Hp)(o i v:V)(ov iv u:Value)(Q:Hp→Prop),Inv X pins σ H s→RelV o ov→RelV i iv→RelV v u→t o i v H Q→
  wpAny (model X.prog X.w) X.A (setItem ov iv u) (fun _ s'=>∃H',Inv X pins σ H' s'∧Q H') X.xe s
noncomputable abbrev TIp:=V→V→Hp→VK→Prop
noncomputable def PIp(X:Cx)(op:Operator)(t:TIp):Prop:=
 ∀(pins:List (Addr×Obj))(s:Shared)(σ:St)(H:Hp)(x y:V)(v u:Value)(Q:VK),Inv X pins σ H s→RelV x v→RelV y u→t x y H Q→
  wpAny (model X.prog X.w) X.A (inplaceOp op v u) (EP X pins σ Q) X.xe s
section
variable {X:Cx} {pos:Pos}
noncomputable def gName(i:Nat):TG:=fun v σ H Q=>Q (σ.set i (some v)) H
theorem kkB{i:Nat}{x:Str}(hN:X.N.Nodup)(hi:X.N[i]?=some x)(hx:Loc X.env.scope x)(hf:X.fn x=true∨X.env.scope.names.lookup x=some .local:=by first|exact .inl rfl|exact .inr rfl|assumption):PG X (.Name x pos) (gName i):=by
 intro pins s σ H v u Q I r h
 exact wpAny_assign_Name (keF I hN hi hx r (fun s' I'=>⟨_,H,I',h⟩) hf)
noncomputable def gNil:TGs:=fun vs σ H Q=>vs=[]∧Q σ H
noncomputable def gCons(t:TG)(u:TGs):TGs:=fun vs σ H Q=>∃v r,vs=v::r∧t v σ H fun σ' H'=>u r σ' H' Q
theorem kba:PGs X [] gNil:=by
 intro pins s σ H vs us Q I r h
 obtain⟨e,h⟩:=h
 subst e
 cases r
 exact assignInOrder_nil ⟨σ,H,I,h⟩
theorem kaw{e:Expr}{es:List Expr}{t:TG}{u:TGs}(h1:PG X e t)(h2:PGs X es u)
  (hs:(assignEach (e::es) X.env).map (·.2)=assign e X.env::(assignEach es X.env).map (·.2):=by rfl):PGs X (e::es) (gCons t u):=by
 intro pins s σ H vs us Q I r h
 obtain⟨v,vr,e1,h⟩:=h
 subst e1
 cases r with
 |cons r rr=>
  rw[hs]
  refine assignInOrder_cons (thn (h1 pins s σ H _ _ _ I r h) fun _ s1 ⟨σ1,H1,I1,q1⟩=>?_)
  exact h2 pins s1 σ1 H1 _ _ Q I1 rr q1
noncomputable def gTup(K:Uv)(n:Nat)(t:TGs):TG:=fun v σ H Q=>∃a xs,v=.ref a∧SqT K H a xs∧xs.length=n∧t xs σ H Q
theorem kk7{es:List Expr}{k:Nat}{t:TGs}{n:Nat}(hc:X.calm=true)(h:PGs X es t)
  (hn:(assignEach es X.env).length=n:=by rfl) (hst:(assignEach es X.env).findIdx? (·.1)=none:=by rfl):PG X (.Tuple es k pos) (gTup X.K n t):=by
 intro pins s σ H v u Q I r hw
 obtain⟨a,xs,e1,hq,hl,hw⟩:=hw
 subst e1
 cases r
 obtain⟨its,rv,ht,hz⟩:=I.tuple hq
 refine assign_Tuple_tuple (I.ok.hd hc) ht (by simp[hn,←hl,rv.length]) hst fun h' hx=>?_
 have I1:Inv X pins σ H {s with heap:=h'}:=I.kept (t':=s.toks) fun b o e=>hx b o (UU (Heap.lt_size e)) e
 exact h pins _ σ H xs _ Q I1 (by simpa using rv) hw
noncomputable def gSub(to ti:TE)(t:TSet):TG:=fun v σ H Q=>to σ H fun o H1=>ti σ H1 fun i H2=>t o i v H2 fun H3=>Q σ H3
theorem ken{o i:Expr}{to ti:TE}{t:TSet}(ho:PE X o to)(hi:PE X i ti)(hs:PSet X t)
  (ha:∀v,assign (.Subscript o i pos) X.env v=(do
   let ov ←holding [v] (eval o X.env)
   let iv ←holding [v,ov] (eval i X.env)
   standAt pos
   holding [v,ov,iv] (setItem ov iv v)
   release [v,ov,iv] []):=by intro _;rfl):PG X (.Subscript o i pos) (gSub to ti t):=by
 intro pins s σ H v u Q I r h
 rw[ha]
 refine wpAny_bind (wpAny_holding (thn (ho pins s σ H _ I h) fun ov s1 ⟨x,H1,I1,r1,q1⟩=>?_))
 refine wpAny_bind (wpAny_holding (thn (hi pins s1 σ H1 _ I1 q1) fun iv s2 ⟨y,H2,I2,r2,q2⟩=>?_))
 refine wpAny_bind (wpAny_standAt (wpAny_bind (wpAny_holding (thn (hs pins s2 σ H2 x y v ov iv u _ I2 r1 r2 r q2) fun _ s3 ⟨H3,I3,q3⟩=>?_))))
 exact wpAny_release ⟨σ,H3,I3,q3⟩
noncomputable def tAsg(te:TE)(g:TG):TS:=fun D σ H=>te σ H fun x H1=>g x σ H1 D.nx
theorem kem{tg e:Expr}{te:TE}{g:TG}(he:PE X e te)(hg:PG X tg g)(hs:swapsWithSole [tg] e pos.line X.env=pure false:=by rfl)(hw:swappedStores [tg] e X.env=pure none:=by rfl)
  (h1:(assignEach [tg] X.env).map (·.2)=[assign tg X.env]:=by rfl):PS X (.Assign [tg] e pos) (tAsg te g):=by
 intro pins s σ H D I h
 refine wpAny_Assign_stores (thn (he pins s σ H _ I h) fun v s1 ⟨x,H1,I1,r1,q1⟩=>?_) hs hw
 rw[h1]
 exact thn (hg pins s1 σ H1 x v _ I1 r1 q1) fun _ s2 q=>q
theorem kk5{i:Nat}{x:Str}{e:Expr}{te:TE}{pos':Pos}(hN:X.N.Nodup)(hi:X.N[i]?=some x)(hx:Loc X.env.scope x)(he:PE X e te)(hs:swapsWith e (some (.Name x pos')) pos.line X.env=pure false:=by rfl)(hf:X.fn x=true∨X.env.scope.names.lookup x=some .local:=by first|exact .inl rfl|exact .inr rfl|assumption):
  PS X (.Assign [.Name x pos'] e pos) (tAsg te (gName i)):=by
 intro pins s σ H D I h
 refine wpAny_Assign_Name (thn (he pins s σ H _ I h) fun v s1 ⟨y,H1,I1,r1,q1⟩=>?_) hs
 exact keF I1 hN hi hx r1 (fun s2 I2=>⟨_,H1,I2,q1⟩) hf
noncomputable def tAug(i:Nat)(te:TE)(ti:TIp):TS:=fun D σ H=>∃x,σ[i]?=some (some x)∧te σ H fun y H1=>ti x y H1 fun z H2=>D.nx (σ.set i (some z)) H2
theorem kk6{i:Nat}{x:Str}{e:Expr}{te:TE}{op:Operator}{ti:TIp}{pos':Pos}(hN:X.N.Nodup)(hi:X.N[i]?=some x)(hx:Loc X.env.scope x)(he:PE X e te)(ho:PIp X op ti)(hf:X.fn x=true∨X.env.scope.names.lookup x=some .local:=by first|exact .inl rfl|exact .inr rfl|assumption):
  PS X (.AugAssign (.Name x pos') op e pos) (tAug i te ti):=by
 intro pins s σ H D I h
 obtain⟨v,e1,h⟩:=h
 obtain⟨m,hn,hl⟩:=I.loc
 have vis:Vis X.env.scope x:=by rcases hx with k|k;exact .inl k;exact .inr (.inl k)
 obtain⟨u,r,l⟩:=hl i x v hi e1 vis
 refine wpAny_AugAssign_Name ?_
 have go:wpAny (model X.prog X.w) X.A (eval e X.env) (fun w s₂=>wpAny (model X.prog X.w) X.A (inplaceOp op u w) (fun r s₃=>wpAny (model X.prog X.w) X.A (storeName X.env x r) (fun _=>SP X pins D .next) X.xe s₃) X.xe s₂) X.xe s:=by
  refine thn (he pins s σ H _ I h) fun w s1 ⟨y,H1,I1,r1,q1⟩=>?_
  refine thn (ho pins s1 σ H1 v y u w _ I1 r r1 q1) fun z s2 ⟨zv,H2,I2,r2,q2⟩=>?_
  exact keF I2 hN hi hx r2 (fun s3 I3=>⟨_,H2,I3,q2⟩) hf
 rcases l with⟨hk,hm⟩|⟨hk,c,hc,hcell⟩
 ·exact wpAny_loadName_local I.ok.kind hk hn hm go
 ·rcases hk with hk|hk
  ·exact wpAny_loadName_cell I.ok.kind hk hc hcell go
  ·rcases hx with k|k
   ·have:X.env.scope.names.lookup x=some .free:=hk
    rw[k] at this;cases this
   ·have:X.env.scope.names.lookup x=some .free:=hk
    rw[k] at this;cases this
noncomputable def ipI(f:Int→Int→Int):TIp:=fun x y H Q=>∃i j,x=.int i∧y=.int j∧Q (.int (f i j)) H
theorem klk:PIp X .Add (ipI fun i j=>i+j):=by
 intro pins s σ H x y v u Q I r1 r2 h
 obtain⟨i,j,e1,e2,q⟩:=h
 subst e1;subst e2
 obtain⟨t,rfl⟩:=r1
 obtain⟨t',rfl⟩:=r2
 exact iadd_int ⟨.int _,H,I.tok _,⟨_,rfl⟩,q⟩
end
section
variable {X:Cx} {pos:Pos}
noncomputable def kjP(c:TT)(tb:TS):TS:=fun D σ H=>∃W:Nat→St→Hp→Prop,(∃m,W m σ H)∧∀m σ H,W m σ H→
 c σ H fun b H1=>if b=true then ∃N:St→Hp→Prop,(∀σ' H',N σ' H'→∃m',m'<m∧W m' σ' H')∧tb {D with nx:=N,ct:=N,bk:=D.nx} σ H1 else D.nx σ H1
theorem kgI{c:Expr}{body:List Stmt}{tc:TT}{tb:TS}(hp:PassesOwn (model X.prog X.w) X.A X.env X.xe)(hc:PT X c tc)(hb:PSs X body tb):PS X (.While c body [] pos) (kjP tc tb):=by
 intro pins s σ H D I h
 obtain⟨W,⟨m0,w0⟩,turn⟩:=h
 refine wpAny_While (codeAny_whileLoop (fun n s'=>∃σ' H',Inv X pins σ' H' s'∧W n σ' H') ?_ m0 ⟨σ,H,I,w0⟩)
 rintro n s1 ⟨σ1,H1,I1,w1⟩
 refine wpAny_passesOwn hp (thn (hc pins s1 σ1 H1 _ I1 (turn n σ1 H1 w1)) fun b s2 ⟨H2,I2,q2⟩=>?_)
 cases b with
 | true=>
  obtain⟨N,hN,q2⟩:=q2
  rw[if_pos rfl]
  refine wpAny_passesOwn hp (thn (hb pins s2 σ1 H2 _ I2 q2) fun f s3 q3=>?_)
  cases f with
  |next=>
   obtain⟨σ3,H3,I3,n3⟩:=q3
   obtain⟨m',hm,w3⟩:=hN σ3 H3 n3
   exact⟨m',hm,σ3,H3,I3,w3⟩
  |cont=>
   obtain⟨σ3,H3,I3,n3⟩:=q3
   obtain⟨m',hm,w3⟩:=hN σ3 H3 n3
   exact⟨m',hm,σ3,H3,I3,w3⟩
  |brk=>exact q3
  |ret v=>exact q3
 |false=>
  rw[if_neg UB]
  exact wpAny_execs_nil ⟨σ1,H2,I2,q2⟩
end
structure It where
 go:Nat→Hp→Prop
 yld:Nat→Hp→V→Hp→Prop
 stop:Nat→Hp→Prop
noncomputable def FpOk(X:Cx)(pins:List (Addr×Obj))(H:Hp)(b:Addr):Prop:=
 H b=none∧b≠X.env.locals∧b∉X.fs∧(b∈X.ex∨X.s₀.heap.objs.size≤b)∧(∀x c,X.env.cells.lookup x=some c→c≠b)∧∀p∈X.pn++pins,p.1≠b
def Inv.fpOk{X:Cx}{pins:List (Addr×Obj)}{σ:St}{H H':Hp}{s:Shared}{b:Addr}(I:Inv X pins σ H s)(hb:s.heap.objs.size≤b)(hn:H' b=none):FpOk X pins H' b:=by
 refine⟨hn,Je (UT I.lt hb),I.nofs hb, .inr (UA I.sz hb),fun x c e z=>?_,fun p hp z=>?_⟩
 ·obtain⟨v,q⟩:=I.cell x c e
  exact absurd (UT q.lt (by rw[z];exact hb)) (Jt _)
 ·exact absurd (UT (Heap.lt_size (I.pin p hp).1) (by rw[z];exact hb)) (Jt _)
structure Turn (P:Program) (w:World) (K:Uv) (tg:Expr) (J:It) (fp:List Addr) (it:Addr) (tn:Nat→Heap→Prop):Prop where
 mem:it∈fp
 obj:∀i h,tn i h→∀b∈fp,∃o,h.get? b=some o∧∀v,o.data≠.cell v
 keep:∀i h h',tn i h→(∀b∈fp,∀o,h.get? b=some o→h'.get? b=some o)→tn i h'
 item:∀(X:Cx),X.prog=P→X.w=w→X.K=K→X.calm=true→∀(i:Nat)(pins:List (Addr×Obj))(s:Shared)(σ:St)(H:Hp)(E:Value→Shared→Prop),Inv X pins σ H s→(∀b∈fp,FpOk X pins H b)→tn i s.heap→J.go i H→
  wpAny (model P w) X.A (pyNext (.ref it)) (fun r s1=>∃u,r=some u∧
   wpAny (model P w) X.A (letOwnedTupleGo tg (.ref it) u) (fun _ s2=>∃x H',Inv X pins σ H' s2∧RelV x u∧J.yld i H x H'∧tn (i+1) s2.heap∧∀b∈fp,H' b=none) E s1) E s
 done:∀(X:Cx),X.prog=P→X.w=w→X.K=K→X.calm=true→∀(i:Nat)(pins:List (Addr×Obj))(s:Shared)(σ:St)(H:Hp)(E:Value→Shared→Prop),Inv X pins σ H s→(∀b∈fp,FpOk X pins H b)→tn i s.heap→J.stop i H→
  wpAny (model P w) X.A (pyNext (.ref it)) (fun r s1=>r=none∧Inv X pins σ H s1) E s
 self:∀(A:Around)(i:Nat)(s:Shared)(Q:Value→Shared→Prop)(E:Value→Shared→Prop),tn i s.heap→Q (.ref it) s→wpAny (model P w) A (pyIter (.ref it)) Q E s
noncomputable abbrev TI:=St→Hp→(It→Hp→Prop)→Prop
noncomputable def PIE(X:Cx)(pins:List (Addr×Obj))(σ:St)(tg:Expr)(R:It→Hp→Prop)(itv:Value)(s2:Shared):Prop:=
 ∃(it:Addr)(fp:List Addr)(tn:Nat→Heap→Prop)(J:It)(H':Hp),itv=.ref it∧Inv X pins σ H' s2∧Turn X.prog X.w X.K tg J fp it tn∧tn 0 s2.heap∧(∀b∈fp,FpOk X pins H' b)∧R J H'
noncomputable def PI(X:Cx)(tg iter:Expr)(wi:TI):Prop:=
 ∀(pins:List (Addr×Obj))(s:Shared)(σ:St)(H:Hp)(R:It→Hp→Prop),Inv X pins σ H s→wi σ H R→
  wpAny (model X.prog X.w) X.A (eval iter X.env) (fun v s1=>wpAny (model X.prog X.w) X.A (pyIter v) (PIE X pins σ tg R) X.xe s1) X.xe s
theorem go_of{M:Model}{A:Around}{E:Value→Shared→Prop}{s:Shared}{tg:Expr}{it:Addr}{u:Value}{o:Obj}{n:String}{vs:Array Value}{Q:Unit→Shared→Prop}(ho:s.heap.get? it=some o)(hc:o.cls=.type n)(hd:o.data=.fields vs)
    (hn:["enumerate","zip","dict_itemiterator","dict_reverseitemiterator","odict_iterator","itertools.zip_longest","itertools.pairwise"].contains n=false) (hQ:Q () s):wpAny M A (letOwnedTupleGo tg (.ref it) u) Q E s:=by
  unfold letOwnedTupleGo
  cases tg <;> first
    |exact wpAny_pure hQ
    |(cases u <;> first
        |exact wpAny_pure hQ
        | (refine wpAny_bind (wpAny_load ho ?_)
           rw[hc,hd]
           show wpAny M A (if(["enumerate","zip","dict_itemiterator","dict_reverseitemiterator","odict_iterator","itertools.zip_longest","itertools.pairwise"].contains n&&vs[0]? ==some (rawInt _))=true then _ else _) Q E s
           rw[if_neg (by intro h;rw[hn,JP] at h;cases h)]
           exact wpAny_pure hQ))
noncomputable def Itl(K:Uv)(a:Addr):It:=
 ⟨fun i H=>∃xs x,SqL K H a xs∧xs[i]?=some x,fun i H x H'=>H'=H∧∀xs,SqL K H a xs→xs[i]?=some x,fun i H=>∃xs,SqL K H a xs∧xs.length≤i⟩
noncomputable def Itr(lo:Int)(n:Nat):It:=⟨fun i _=>i<n,fun i H x H'=>H'=H∧x=.int (lo+i),fun i _=>n≤i⟩
theorem khx{P:Program}{w:World}{K:Uv}{tg:Expr}(a it:Addr):Turn P w K tg (Itl K a) [it] it (fun i h=>h.IsListIter it a i) where
 mem:=by simp
 obj:=fun i h st b hb=>by
  have e:b=it:=by simpa using hb
  subst e
  obtain⟨o,e,c,d⟩:=st
  exact⟨o,e,fun v z=>by rw[d] at z;cases z⟩
 keep:=fun i h h' st k=>st.at fun o e=>k it (by simp) o e
 item:=by
  intro X hP hw hK hc i pins s σ H E I hf st hg
  subst hP hw hK
  obtain⟨xs,x,hq,hx⟩:=hg
  obtain⟨its,rv,p,hz⟩:=I.list hq
  obtain⟨u,hu,ru⟩:=rv.get hx
  obtain⟨f0,f1,f2,f3,f4,f5⟩:=hf it (by simp)
  refine wpAny_pyNext_list_item st p.isList (x:=u) (by simpa using hu) fun h' st' sb=>?_
  have I1:Inv X pins σ H {s with heap:=h'}:=I.turned (t':=s.toks) (fun b o hb e=>(sb.2 b hb).trans e) f0 f1 f3 f4 f5
  obtain⟨o,e,c,d⟩:=id st'
  exact⟨u,rfl,go_of (s:={s with heap:=h'}) e c d (by decide) ⟨x,H,I1,ru,⟨rfl,fun ys hy=>by rw[I.list_inj hy hq];exact hx⟩,st',fun b hb=>(hf b hb).1⟩⟩
 done:=by
  intro X hP hw hK hc i pins s σ H E I hf st hg
  subst hP hw hK
  obtain⟨xs,hq,hx⟩:=hg
  obtain⟨its,rv,p,hz⟩:=I.list hq
  obtain⟨f0,f1,f2,f3,f4,f5⟩:=hf it (by simp)
  have hl:=rv.length
  exact wpAny_pyNext_list_end (I.ok.hd hc) st p.isList (by simp;omega) fun h' eb=>⟨rfl,I.turned (t':=s.toks) (fun b o hb e=>eb b o hb e) f0 f1 f3 f4 f5⟩
 self:=fun _ _ _ _ _ st h=>wpAny_pyIter_listiter st h
theorem kg8{P:Program}{w:World}{K:Uv}{tg:Expr}(it:Addr)(lo:Int)(n:Nat):Turn P w K tg (Itr lo n) [it] it (fun i h=>IsRangeIter h it (lo+(i:Nat)*1) ((n:Int)-(i:Nat)) 1) where
 mem:=by simp
 obj:=fun i h st b hb=>by
  have e:b=it:=by simpa using hb
  subst e
  exact⟨_,st,fun v z=>by
   have z':Data.fields _=Data.cell v:=z
   cases z'⟩
 keep:=fun i h h' st k=>k it (by simp) _ st
 item:=by
  intro X hP hw hK hc i pins s σ H E I hf st hg
  subst hP hw hK
  obtain⟨f0,f1,f2,f3,f4,f5⟩:=hf it (by simp)
  have W:=Walks.range (prog:=X.prog) (w:=X.w) (I.ok.hd hc) it lo 1 n
  refine W.item i s _ _ hg st fun v h' tk hv st' kk=>?_
  obtain⟨t,rfl⟩:=hv
  have I1:Inv X pins σ H {s with heap:=h',toks:=tk}:=I.turned (fun b o hb e=>kk b o (by simpa using hb) e) f0 f1 f3 f4 f5
  refine⟨_,rfl,go_of (s:={s with heap:=h',toks:=tk}) (n:="range_iterator") st' rfl rfl (by decide) ⟨.int (lo+i),H,I1,⟨t,?_⟩,⟨rfl,rfl⟩,st',fun b hb=>(hf b hb).1⟩⟩
  rw[Int.mul_one]
 done:=by
  intro X hP hw hK hc i pins s σ H E I hf st hg
  subst hP hw hK
  obtain⟨f0,f1,f2,f3,f4,f5⟩:=hf it (by simp)
  exact wpAny_pyNext_range_end (I.ok.hd hc) st (by have:n≤i:=hg;omega) fun h' eb=>⟨rfl,I.turned (t':=s.toks) (fun b o hb e=>eb b o hb e) f0 f1 f3 f4 f5⟩
 self:=fun _ _ _ _ _ st h=>wpAny_pyIter_rangeiter st h
end L2
namespace L2
open PySem PySem.Spec PyProof.Rows
section
variable {X:Cx} {tg:Expr}
noncomputable def iList(K:Uv)(tl:TE):TI:=fun σ H R=>tl σ H fun x H1=>∃a,x=.ref a∧(∃xs,SqL K H1 a xs)∧R (Itl K a) H1
theorem kkA{l:Expr}{tl:TE}(hl:PE X l tl):PI X tg l (iList X.K tl):=by
 intro pins s σ H R I h
 refine thn (hl pins s σ H _ I h) fun v s1 ⟨x,H1,I1,r1,q1⟩=>?_
 obtain⟨a,e,⟨xs,hq⟩,q⟩:=q1
 subst e
 cases r1
 obtain⟨its,rv,p,hz⟩:=I1.list hq
 refine wpAny_pyIter_list p.isList ?_
 refine⟨s1.heap.objs.size,[s1.heap.objs.size],_,_,H1,rfl,I1.kept (t':=s1.toks) fun b o e=>Heap.get?_push_of_some _ e,khx a _,⟨_,Heap.get?_push_size _ rfl,rfl,rfl⟩,fun b hb=>?_,q⟩
 have e:b=s1.heap.objs.size:=by simpa using hb
 subst e
 exact I1.fpOk (Ux _) (I1.hok.fresh (Ux _))
theorem kgG{pins:List (Addr×Obj)}{σ:St}{H:Hp}{s:Shared}{R:It→Hp→Prop}{E:Value→Shared→Prop}{lo hi:Int}{t u v:Tok}{tk:Nat}(I:Inv X pins σ H s)(h1: -(2 ^ 62)≤lo)(h2:lo<2 ^ 62)(h3: -(2 ^ 62)≤hi)(h4:hi<2 ^ 62)
  (q:R (Itr lo (hi-lo).toNat) H):wpAny (model X.prog X.w) X.A (pyIter (.ref s.heap.objs.size)) (PIE X pins σ tg R) E {s with heap:=s.heap.push {cls:=.type "range",data:=.fields #[.int lo t, .int hi u, .int 1 v]},toks:=tk}:=by
 refine wpAny_pyIter_range (IsRange.new ..) (small_one h1 h2 h3 h4) ?_
 have I1:Inv X pins σ H {s with heap:=s.heap.push {cls:=.type "range",data:=.fields #[.int lo t, .int hi u, .int 1 v]},toks:=tk}:=I.kept fun b o e=>Heap.get?_push_of_some _ e
 refine⟨(s.heap.push {cls:=.type "range",data:=.fields #[.int lo t, .int hi u, .int 1 v]}).objs.size,[(s.heap.push {cls:=.type "range",data:=.fields #[.int lo t, .int hi u, .int 1 v]}).objs.size],_,_,H,rfl,
  I1.kept (t':=tk) fun b o e=>Heap.get?_push_of_some _ e,kg8 _ lo (hi-lo).toNat,?_,fun b hb=>?_,q⟩
 ·have e1:lo+((0:Nat):Int)*1=lo:=by simp
  have e2:(((hi-lo).toNat:Nat):Int)-((0:Nat):Int)=Builtin.Range.rangeSize lo hi 1:=by rw[rangeSize_one];split <;> omega
  show IsRangeIter _ _ (lo+((0:Nat):Int)*1) ((((hi-lo).toNat:Nat):Int)-((0:Nat):Int)) 1
  rw[e1,e2]
  exact Heap.get?_push_size _ rfl
 ·have e:b=(s.heap.push {cls:=.type "range",data:=.fields #[.int lo t, .int hi u, .int 1 v]}).objs.size:=by simpa using hb
  subst e
  exact I1.fpOk (Ux _) (I1.hok.fresh (Ux _))
noncomputable def iRng1(ta:TA):TI:=fun σ H R=>ta σ H fun vs H1=>∃j:Int,vs=[.int j]∧-(2 ^ 62)≤j∧j<2 ^ 62∧R (Itr 0 j.toNat) H1
noncomputable def iRng2(ta:TA):TI:=fun σ H R=>ta σ H fun vs H1=>∃i j:Int,vs=[.int i, .int j]∧(-(2 ^ 62)≤i∧i<2 ^ 62∧-(2 ^ 62)≤j∧j<2 ^ 62)∧R (Itr i (j-i).toNat) H1
theorem kcR{a:Expr}{ta:TA}{p pos:Pos}(hg:Gl X "range")(hm:X.mg "range"=none)(ha:PA X [a] ta)(hs:starEach [a] X.env=[(false,eval a X.env)]:=by rfl):PI X tg (.Call (.Name "range" p) [a] [] pos) (iRng1 ta):=by
 intro pins s σ H R I h
 refine Call_ (kcq I hg hm boot_range (PyProof.Rows.callWith_type1 (thn (ha pos pins s σ H _ I h) fun us s1 ⟨vs,H1,I1,r1,q1⟩=>?_) hs rfl))
 obtain⟨j,e,q1,q2,q⟩:=q1
 subst e
 cases r1 with
 |cons r rr=>
  cases rr
  obtain⟨t,rfl⟩:=r
  exact call_range_1 (kgG I1 (by omega) (by omega) q1 q2 (by simpa using q))
theorem kh6{a b:Expr}{ta:TA}{p pos:Pos}(hg:Gl X "range")(hm:X.mg "range"=none)(ha:PA X [a,b] ta)(hs:starEach [a,b] X.env=[(false,eval a X.env),(false,eval b X.env)]:=by rfl)(hs2:starEach [b] X.env=[(false,eval b X.env)]:=by rfl):
  PI X tg (.Call (.Name "range" p) [a,b] [] pos) (iRng2 ta):=by
 intro pins s σ H R I h
 refine Call_ (kcq I hg hm boot_range (PyProof.Rows.callWith_type1 (thn (ha pos pins s σ H _ I h) fun us s1 ⟨vs,H1,I1,r1,q1⟩=>?_) (by rw[hs,hs2]) (by rw[hs2];rfl)))
 obtain⟨i,j,e,⟨q1,q2,q3,q4⟩,q⟩:=q1
 subst e
 cases r1 with
 | cons r rr=>
  cases rr with
  |cons r' rr=>
   cases rr
   obtain⟨t,rfl⟩:=r
   obtain⟨t',rfl⟩:=r'
   exact call_range_2 (kgG I1 q1 q2 q3 q4 q)
noncomputable def tFor(wi:TI)(g:TG)(tb:TS):TS:=fun D σ H=>wi σ H fun J H1=>∃W:Nat→Nat→St→Hp→Prop,(∃m,W 0 m σ H1)∧∀i m σ H,W i m σ H→
 (J.stop i H∧D.nx σ H)∨(J.go i H∧∃N:St→Hp→Prop,(∀σ' H',N σ' H'→∃m',m'<m∧W (i+1) m' σ' H')∧∀x H',J.yld i H x H'→g x σ H' fun σ2 H2=>tb {D with nx:=N,ct:=N,bk:=D.nx} σ2 H2)
noncomputable def kgL(fp:List Addr)(h:Heap):List (Addr×Obj):=fp.filterMap fun b=>(h.get? b).map fun o=>(b,o)
theorem kcz{fp:List Addr}{h:Heap}{b:Addr}{o:Obj}(hb:b∈fp)(e:h.get? b=some o):(b,o)∈kgL fp h:=List.mem_filterMap.mpr ⟨b,hb,by rw[e];rfl⟩
theorem kie{fp:List Addr}{h:Heap}{p:Addr×Obj}(hp:p∈kgL fp h):p.1∈fp∧h.get? p.1=some p.2:=by
 obtain⟨b,hb,e⟩:=List.mem_filterMap.mp hp
 cases q:h.get? b with
 |none=>rw[q] at e;cases e
 |some o=>
  rw[q] at e
  have e':(b,o)=p:=Option.some.inj e
  subst e'
  exact⟨hb,q⟩
theorem Inv.pinned{pins:List (Addr×Obj)}{σ:St}{H:Hp}{s:Shared}{fp:List Addr}(I:Inv X pins σ H s)(hf:∀b∈fp,FpOk X pins H b)(ho:∀b∈fp,∃o,s.heap.get? b=some o∧∀v,o.data≠.cell v):Inv X (pins++kgL fp s.heap) σ H s:=
 I.pins_of fun p hp=>(Jg.mp hp).elim (fun z=>I.pin p (U9 _ z)) fun z=>by
  obtain⟨hb,e⟩:=kie z
  obtain⟨f0,f1,f2,_⟩:=hf p.1 hb
  obtain⟨o,e',d⟩:=ho p.1 hb
  rw[e] at e';cases e'
  exact⟨e,f0,f1,f2,d⟩
theorem Inv.unpinned{pins pl:List (Addr×Obj)}{σ:St}{H:Hp}{s:Shared}(I:Inv X (pins++pl) σ H s):Inv X pins σ H s:=I.pins_of fun p hp=>I.pin p (U9 _ (NP _ hp))
theorem kbe{iter:Expr}{body:List Stmt}{wi:TI}{g:TG}{tb:TS}{pos:Pos}(hp:PassesOwn (model X.prog X.w) X.A X.env X.xe)(hc:X.calm=true)(hi:PI X tg iter wi)(hg:PG X tg g)(hb:PSs X body tb)
  (hs:∀x,foldedSetIterable iter X.env x=pure x:=by intro _;rfl):PS X (.For tg iter body [] pos) (tFor wi g tb):=by
 intro pins s σ H D I h
 refine wpAny_For (thn (hi pins s σ H _ I h) fun v s1 h1=>thn h1 fun itv s2 h2=>?_) hs
 obtain⟨it,fp,tn,J,H2,e,I2,T,st2,f2,W,⟨m0,w0⟩,turn⟩:=h2
 subst e
 have stat:∀{H':Hp},(∀b∈fp,H' b=none)→∀b∈fp,FpOk X pins H' b:=fun hn b hb=>⟨hn b hb,(f2 b hb).2⟩
 refine codeAny_forLoop_any (fun n s'=>∃i σ' H',Inv X pins σ' H' s'∧tn i s'.heap∧(∀b∈fp,H' b=none)∧W i n σ' H') ?_ m0 ⟨0,σ,H2,I2,st2,fun b hb=>(f2 b hb).1,w0⟩
 rintro n s3 ⟨i,σ3,H3,I3,st3,fr3,w3⟩
 rcases turn i n σ3 H3 w3 with⟨stop,qn⟩|⟨go,N,hN,step⟩
 ·refine wpAny_passesOwn hp (thn (T.done X rfl rfl rfl hc i pins s3 σ3 H3 X.xe I3 (stat fr3) st3 stop) fun r s4 ⟨hr,I4⟩=>?_)
  subst hr
  exact wpAny_execs_nil ⟨σ3,H3,I4,qn⟩
 ·refine wpAny_passesOwn hp (thn (T.item X rfl rfl rfl hc i pins s3 σ3 H3 X.xe I3 (stat fr3) st3 go) fun r s4 ⟨u,hr,h4⟩=>?_)
  subst hr
  refine wpAny_passesOwn hp (thn h4 fun _ s5 ⟨x,H5,I5,r5,y5,st5,fr5⟩=>?_)
  have I5':=I5.pinned (stat fr5) (T.obj _ _ st5)
  refine wpAny_passesOwn hp (thn (hg _ s5 σ3 H5 x u _ I5' r5 (step x H5 y5)) fun _ s6 ⟨σ6,H6,I6,q6⟩=>?_)
  refine wpAny_passesOwn hp (thn (hb _ s6 σ6 H6 _ I6 q6) fun f s7 q7=>?_)
  have again:∀{σ7:St}{H7:Hp},Inv X (pins++kgL fp s5.heap) σ7 H7 s7→N σ7 H7→∃m,m<n∧∃i σ' H',Inv X pins σ' H' s7∧tn i s7.heap∧(∀b∈fp,H' b=none)∧W i m σ' H':=fun {σ7 H7} I7 n7=>by
   obtain⟨m',hm,w7⟩:=hN σ7 H7 n7
   refine⟨m',hm,i+1,σ7,H7,I7.unpinned,T.keep _ _ _ st5 fun b hb o e=>(I7.pin (b,o) (U9 _ (U9 _ (kcz hb e)))).1,fun b hb=>?_,w7⟩
   obtain⟨o,e,d⟩:=T.obj _ _ st5 b hb
   exact(I7.pin (b,o) (U9 _ (U9 _ (kcz hb e)))).2.1
  cases f with
  |next=>obtain⟨σ7,H7,I7,n7⟩:=q7;exact again I7 n7
  |cont=>obtain⟨σ7,H7,I7,n7⟩:=q7;exact again I7 n7
  |brk=>obtain⟨σ7,H7,I7,q7⟩:=q7;exact⟨σ7,H7,I7.unpinned,q7⟩
  |ret v=>obtain⟨x7,σ7,H7,I7,r7,q7⟩:=q7;exact⟨x7,σ7,H7,I7.unpinned,r7,q7⟩
end
theorem kbp{K:Uv}{a:Addr}{xs:List V}{g:TG}{tb:TS}{D:Ends}{σ:St}{H:Hp}(Pv:Nat→St→Hp→Prop)(h0:Pv 0 σ H)(hl:∀i σ H,i≤xs.length→Pv i σ H→SqL K H a xs)
  (hs:∀i x σ H,xs[i]?=some x→Pv i σ H→g x σ H fun σ2 H2=>tb {D with nx:=Pv (i+1),ct:=Pv (i+1),bk:=D.nx} σ2 H2) (hd:∀σ H,Pv xs.length σ H→D.nx σ H):
  ∃W:Nat→Nat→St→Hp→Prop,(∃m,W 0 m σ H)∧∀i m σ H,W i m σ H→
   ((Itl K a).stop i H∧D.nx σ H)∨((Itl K a).go i H∧∃N:St→Hp→Prop,(∀σ' H',N σ' H'→∃m',m'<m∧W (i+1) m' σ' H')∧∀x H',(Itl K a).yld i H x H'→g x σ H' fun σ2 H2=>tb {D with nx:=N,ct:=N,bk:=D.nx} σ2 H2):=by
 refine⟨fun i m σ H=>m=xs.length-i∧i≤xs.length∧Pv i σ H,⟨xs.length,by simp,U2 _,h0⟩,?_⟩
 rintro i m σ H ⟨rfl,hi,p⟩
 have q:=hl i σ H hi p
 by_cases hlt:i<xs.length
 ·refine .inr ⟨⟨xs,xs[i],q,by simp[hlt]⟩,Pv (i+1),fun σ' H' p'=>⟨xs.length-(i+1),by omega,rfl,hlt,p'⟩,fun x H' y=>?_⟩
  obtain⟨e,y⟩:=y
  subst e
  exact hs i x σ _ (y xs q) p
 ·have e:i=xs.length:=by omega
  subst e
  exact .inl ⟨⟨xs,q,Ux _⟩,hd σ H p⟩
theorem kc4{lo:Int}{n:Nat}{g:TG}{tb:TS}{D:Ends}{σ:St}{H:Hp}(Pv:Nat→St→Hp→Prop)(h0:Pv 0 σ H)
  (hs:∀i σ H,i<n→Pv i σ H→g (.int (lo+i)) σ H fun σ2 H2=>tb {D with nx:=Pv (i+1),ct:=Pv (i+1),bk:=D.nx} σ2 H2) (hd:∀σ H,Pv n σ H→D.nx σ H):
  ∃W:Nat→Nat→St→Hp→Prop,(∃m,W 0 m σ H)∧∀i m σ H,W i m σ H→
   ((Itr lo n).stop i H∧D.nx σ H)∨((Itr lo n).go i H∧∃N:St→Hp→Prop,(∀σ' H',N σ' H'→∃m',m'<m∧W (i+1) m' σ' H')∧∀x H',(Itr lo n).yld i H x H'→g x σ H' fun σ2 H2=>tb {D with nx:=N,ct:=N,bk:=D.nx} σ2 H2):=by
 refine⟨fun i m σ H=>m=n-i∧i≤n∧Pv i σ H,⟨n,by simp,U2 _,h0⟩,?_⟩
 rintro i m σ H ⟨rfl,hi,p⟩
 by_cases hlt:i<n
 ·refine .inr ⟨hlt,Pv (i+1),fun σ' H' p'=>⟨n-(i+1),by omega,rfl,hlt,p'⟩,fun x H' y=>?_⟩
  obtain⟨e,y⟩:=y
  subst e y
  exact hs i σ _ hlt p
 ·have e:i=n:=by omega
  subst e
  exact .inl ⟨Ux _,hd σ H p⟩
theorem kgr{c:TT}{tb:TS}{D:Ends}{σ:St}{H:Hp}(Pv:St→Hp→Prop)(μ:St→Hp→Nat)(h0:Pv σ H)
  (hs:∀σ H,Pv σ H→c σ H fun b H1=>if b=true then tb {D with nx:=fun σ' H'=>Pv σ' H'∧μ σ' H'< μ σ H,ct:=fun σ' H'=>Pv σ' H'∧μ σ' H'< μ σ H,bk:=D.nx} σ H1 else D.nx σ H1)
  (mono:∀σ H Q Q',(∀b H1,Q b H1→Q' b H1)→c σ H Q→c σ H Q'):kjP c tb D σ H:=by
 refine⟨fun m σ H=>m= μ σ H∧Pv σ H,⟨_,rfl,h0⟩,?_⟩
 rintro m σ H ⟨rfl,p⟩
 refine mono σ H _ _ (fun b H1 q=>?_) (hs σ H p)
 cases b with
 |true=>exact⟨_,fun σ' H' ⟨p',l⟩=>⟨_,l,rfl,p'⟩,q⟩
 |false=>exact q
end L2
namespace L2
open PySem PySem.Spec PyProof.Rows
noncomputable abbrev R2:=V→V→Hp→VK→Prop
noncomputable def OpR(X:Cx)(f:Value→Value→Sem Value)(r:R2):Prop:=
 ∀(pins:List (Addr×Obj))(s:Shared)(σ:St)(H:Hp)(x y:V)(v u:Value)(Q:VK),Inv X pins σ H s→RelV x v→RelV y u→r x y H Q→
  wpAny (model X.prog X.w) X.A (f v u) (EP X pins σ Q) X.xe s
noncomputable def UnR(X:Cx)(f:Value→Sem Value)(r:V→Hp→VK→Prop):Prop:=
 ∀(pins:List (Addr×Obj))(s:Shared)(σ:St)(H:Hp)(x:V)(v:Value)(Q:VK),Inv X pins σ H s→RelV x v→r x H Q→
  wpAny (model X.prog X.w) X.A (f v) (EP X pins σ Q) X.xe s
noncomputable def CallR(X:Cx)(f:Value)(r:List V→Hp→VK→Prop):Prop:=
 ∀(pins:List (Addr×Obj))(s:Shared)(σ:St)(H:Hp)(xs:List V)(us:List Value)(Q:VK),Inv X pins σ H s→Vals xs us→r xs H Q→
  wpAny (model X.prog X.w) X.A (call f us) (EP X pins σ Q) X.xe s
noncomputable def tOp(r:R2)(ta tb:TE):TE:=fun σ H Q=>ta σ H fun x H1=>tb σ H1 fun y H2=>r x y H2 Q
noncomputable def tUn(r:V→Hp→VK→Prop)(ta:TE):TE:=fun σ H Q=>ta σ H fun x H1=>r x H1 Q
noncomputable def rI(C:Int→Int→Prop)(g:Int→Int→V):R2:=fun x y H Q=>∃i j,x=.int i∧y=.int j∧C i j∧Q (g i j) H
noncomputable def rI0(g:Int→Int→V):R2:=fun x y H Q=>∃i j,x=.int i∧y=.int j∧Q (g i j) H
noncomputable def rU(g:Int→V):V→Hp→VK→Prop:=fun x H Q=>∃i,x=.int i∧Q (g i) H
section
variable {X:Cx} {a b c:Expr} {ta tb tc:TE} {pos:Pos}
theorem binT(ha:PE X a ta)(hb:PE X b tb){pins:List (Addr×Obj)}{s:Shared}{σ:St}{H:Hp}{R:V→V→Hp→Prop}(I:Inv X pins σ H s)
  (h:ta σ H fun x H1=>tb σ H1 fun y H2=>R x y H2) {Q:Value→Shared→Prop} {f:Value→Value→Sem Value}
  (hf:∀v u s2 x y H2,Inv X pins σ H2 s2→RelV x v→RelV y u→R x y H2→wpAny (model X.prog X.w) X.A (f v u) Q X.xe s2):
  wpAny (model X.prog X.w) X.A (eval a X.env) (fun v s₁=>wpAny (model X.prog X.w) X.A (eval b X.env) (fun u s₂=>wpAny (model X.prog X.w) X.A (f v u) Q X.xe s₂) X.xe s₁) X.xe s:=by
 refine thn (ha pins s σ H _ I h) fun v s1 ⟨x,H1,I1,r1,q1⟩=>?_
 refine thn (hb pins s1 σ H1 _ I1 q1) fun u s2 ⟨y,H2,I2,r2,q2⟩=>?_
 exact hf v u s2 x y H2 I2 r1 r2 q2
theorem pe_op{op:Operator}{r:R2}(ho:OpR X (binaryOp op) r)(ha:PE X a ta)(hb:PE X b tb):PE X (.BinOp a op b pos) (tOp r ta tb):=by
 intro pins s σ H Q I h
 exact wpAny_BinOp (binT ha hb I h fun v u s2 x y H2 I2 rx ry q=>ho pins s2 σ H2 x y v u Q I2 rx ry q)
theorem pe_un{op:UnaryOp}{r:V→Hp→VK→Prop}(ho:UnR X (unaryOp op) r)(ha:PE X a ta):PE X (.UnaryOp op a pos) (tUn r ta):=by
 intro pins s σ H Q I h
 exact UnaryOp_ (thn (ha pins s σ H _ I h) fun v s1 ⟨x,H1,I1,r1,q1⟩=>ho pins s1 σ H1 x v Q I1 r1 q1)
theorem opI{f:Value→Value→Sem Value}{C:Int→Int→Prop}{g:Int→Int→Int}
  (rule:∀(i j:Int)(t u:Tok)(s:Shared)(Q:Value→Shared→Prop)(E:Value→Shared→Prop),C i j→Q (.int (g i j) s.toks) {s with toks:=s.toks+1}→wpAny (model X.prog X.w) X.A (f (.int i t) (.int j u)) Q E s):
  OpR X f (rI C fun i j=>.int (g i j)):=by
 intro pins s σ H x y v u Q I rx ry h
 obtain⟨i,j,rfl,rfl,hc,q⟩:=h
 obtain⟨t,rfl⟩:=rx
 obtain⟨t',rfl⟩:=ry
 exact rule i j t t' s _ _ hc ⟨.int (g i j),H,I.tok _,⟨_,rfl⟩,q⟩
theorem opI0{f:Value→Value→Sem Value}{g:Int→Int→Int}
  (rule:∀(i j:Int)(t u:Tok)(s:Shared)(Q:Value→Shared→Prop)(E:Value→Shared→Prop),Q (.int (g i j) s.toks) {s with toks:=s.toks+1}→wpAny (model X.prog X.w) X.A (f (.int i t) (.int j u)) Q E s):
  OpR X f (rI0 fun i j=>.int (g i j)):=by
 intro pins s σ H x y v u Q I rx ry h
 obtain⟨i,j,rfl,rfl,q⟩:=h
 obtain⟨t,rfl⟩:=rx
 obtain⟨t',rfl⟩:=ry
 exact rule i j t t' s _ _ ⟨.int (g i j),H,I.tok _,⟨_,rfl⟩,q⟩
theorem opB0{f:Value→Value→Sem Value}{g:Int→Int→Bool}
  (rule:∀(i j:Int)(t u:Tok)(s:Shared)(Q:Value→Shared→Prop)(E:Value→Shared→Prop),Q (.bool (g i j)) s→wpAny (model X.prog X.w) X.A (f (.int i t) (.int j u)) Q E s):
  OpR X f (rI0 fun i j=>.bl (g i j)):=by
 intro pins s σ H x y v u Q I rx ry h
 obtain⟨i,j,rfl,rfl,q⟩:=h
 obtain⟨t,rfl⟩:=rx
 obtain⟨t',rfl⟩:=ry
 exact rule i j t t' s _ _ ⟨.bl (g i j),H,I,rfl,q⟩
noncomputable def CDiv(i j:Int):Prop:=0<j∧j<1073741824
noncomputable def CPow(i j:Int):Prop:=0≤j∧j≤1000000∧i.natAbs<2 ^ 64
noncomputable def CMul(i j:Int):Prop:=(-(2 ^ 64)<i∧i<2 ^ 64)∨(-(2 ^ 64)<j∧j<2 ^ 64)
theorem CMul.ok{i j:Int}(h:CMul i j):IntMulOk i j:=by
 rcases h with⟨h1,h2⟩|⟨h1,h2⟩
 ·exact .of_left (intBits_le_64 h1 h2)
 ·exact .of_right (intBits_le_64 h1 h2)
theorem kbs:OpR X (binaryOp .Add) (rI0 fun i j=>.int (i+j)):=opI0 fun _ _ _ _ _ _ _ q=>add_int q
theorem kbJ:OpR X (binaryOp .Sub) (rI0 fun i j=>.int (i-j)):=opI0 fun _ _ _ _ _ _ _ q=>sub_int q
theorem kcT:OpR X (binaryOp .Mult) (rI CMul fun i j=>.int (i*j)):=opI fun _ _ _ _ _ _ _ hc q=>mul_int q hc.ok
theorem kaH:OpR X (binaryOp .FloorDiv) (rI CDiv fun i j=>.int (i/j)):=opI fun i j _ _ _ _ _ hc q=>by
 have h1:(0:Int)<j:=hc.1
 have h2:j<1073741824:=hc.2
 exact floordiv_int (by omega) (by rw[Int.fdiv_eq_ediv_of_nonneg i (by omega)];exact q) (.inl (PyProof.noPylong_small (by omega)))
theorem kaC:OpR X (binaryOp .Mod) (rI (fun _ j=>0<j) fun i j=>.int (i%j)):=opI fun i j _ _ _ _ _ hc q=>by
 have h1:(0:Int)<j:=hc
 exact mod_int' (by omega) (by rw[Int.fmod_eq_emod_of_nonneg i (by omega)];exact q)
theorem kj4:OpR X (binaryOp .Pow) (rI CPow fun i j=>.int (i ^ j.toNat)):=opI fun _ _ _ _ _ _ _ hc q=>pow_int_small hc.1 hc.2.1 hc.2.2 q
theorem unI{f:Value→Sem Value}{g:Int→Int}
  (rule:∀(i:Int)(t:Tok)(s:Shared)(Q:Value→Shared→Prop)(E:Value→Shared→Prop),Q (.int (g i) s.toks) {s with toks:=s.toks+1}→wpAny (model X.prog X.w) X.A (f (.int i t)) Q E s):
  UnR X f (rU fun i=>.int (g i)):=by
 intro pins s σ H x v Q I rx h
 obtain⟨i,rfl,q⟩:=h
 obtain⟨t,rfl⟩:=rx
 exact rule i t s _ _ ⟨.int (g i),H,I.tok _,⟨_,rfl⟩,q⟩
theorem kjN:UnR X (unaryOp .USub) (rU fun i=>.int (-i)):=unI fun _ _ _ _ _ q=>neg_int q
end
noncomputable def scal:V→V→Bool
 | .non, .non=>true| .non, .int _=>true| .int _, .non=>true| .non, .bl _=>true| .bl _, .non=>true| .non, .str _=>true| .str _, .non=>true
 | .int _, .int _=>true| .bl _, .bl _=>true| .str _, .str _=>true| .byt _, .byt _=>true
 | .int _, .str _=>true| .str _, .int _=>true| .bl _, .str _=>true| .str _, .bl _=>true
 |_,_=>false
noncomputable def rEq:R2:=fun x y H Q=>scal x y=true∧Q (.bl (decide (x=y))) H
noncomputable def rNe:R2:=fun x y H Q=>scal x y=true∧Q (.bl (!decide (x=y))) H
def kiI{i j:Int}:decide (V.int i=V.int j)=(i==j):=by
 rw[J4]
 simp
def kkf{i j:Bool}:decide (V.bl i=V.bl j)=(i==j):=by
 rw[J4]
 simp
def kiH{i j:Str}:decide (V.str i=V.str j)=(i==j):=by
 rw[J4]
 simp
def kiJ{i j:Array UInt8}:decide (V.byt i=V.byt j)=(i.toList==j.toList):=by
 rw[J4]
 cases i
 cases j
 simp
section
variable {X:Cx} {a b c:Expr} {ta tb tc:TE} {pos:Pos}
theorem kaP{pins:List (Addr×Obj)}{σ:St}{H:Hp}{s:Shared}{Q:VK}{k k':Bool}(I:Inv X pins σ H s)(q:Q (.bl k) H)(e:k=k'):EP X pins σ Q (.bool k') s:=by
 subst e
 exact⟨.bl k,H,I,rfl,q⟩
theorem op_eq:OpR X (compareOp .Eq) rEq:=by
 intro pins s σ H x y v u Q I rx ry h
 obtain⟨hs,q⟩:=h
 cases x with
 |non=>
  cases rx
  cases y with
  |non=>cases ry;exact PySem.EqNone.eq_none_none (kaP I q (by simp))
  |bl j=>cases ry;exact PySem.EqNone.eq_none_bool (kaP I q (by simp))
  |int j=>obtain⟨t',rfl⟩:=ry;exact PySem.EqNone.eq_none_int (kaP I q (by simp))
  |str j=>obtain⟨t',rfl⟩:=ry;exact PySem.EqNone.eq_none_str (kaP I q (by simp))
  |_=>exact absurd (show false=true from hs) UB
 |bl i=>
  cases rx
  cases y with
  |non=>cases ry;exact PySem.EqNone.eq_bool_none (kaP I q (by simp))
  |bl j=>cases ry;exact eq_bool (kaP I q kkf)
  |str j=>obtain⟨t',rfl⟩:=ry;exact PySem.EqMixed.eq_bool_str (kaP I q (by simp))
  |_=>exact absurd (show false=true from hs) UB
 |int i=>
  obtain⟨t,rfl⟩:=rx
  cases y with
  |non=>cases ry;exact PySem.EqNone.eq_int_none (kaP I q (by simp))
  |int j=>obtain⟨t',rfl⟩:=ry;exact eq_int (kaP I q kiI)
  |str j=>obtain⟨t',rfl⟩:=ry;exact PySem.EqMixed.eq_int_str (kaP I q (by simp))
  |_=>exact absurd (show false=true from hs) UB
 |str i=>
  obtain⟨t,rfl⟩:=rx
  cases y with
  |non=>cases ry;exact PySem.EqNone.eq_str_none (kaP I q (by simp))
  |bl j=>cases ry;exact PySem.EqMixed.eq_str_bool (kaP I q (by simp))
  |int j=>obtain⟨t',rfl⟩:=ry;exact PySem.EqMixed.eq_str_int (kaP I q (by simp))
  |str j=>obtain⟨t',rfl⟩:=ry;exact eq_str (kaP I q kiH)
  |_=>exact absurd (show false=true from hs) UB
 |byt i=>
  obtain⟨t,rfl⟩:=rx
  cases y with
  |byt j=>obtain⟨t',rfl⟩:=ry;exact PySem.W.eq_bytes (kaP I q kiJ)
  |_=>exact absurd (show false=true from hs) UB
 |_=>cases y <;> exact absurd (show false=true from hs) UB
theorem op_ne:OpR X (compareOp .NotEq) rNe:=by
 intro pins s σ H x y v u Q I rx ry h
 obtain⟨hs,q⟩:=h
 cases x with
 |non=>
  cases rx
  cases y with
  |non=>cases ry;exact PySem.EqNone.ne_none_none (kaP I q (by simp))
  |bl j=>cases ry;exact PySem.EqNone.ne_none_bool (kaP I q (by simp))
  |int j=>obtain⟨t',rfl⟩:=ry;exact PySem.EqNone.ne_none_int (kaP I q (by simp))
  |str j=>obtain⟨t',rfl⟩:=ry;exact PySem.EqNone.ne_none_str (kaP I q (by simp))
  |_=>exact absurd (show false=true from hs) UB
 |bl i=>
  cases rx
  cases y with
  |non=>cases ry;exact PySem.EqNone.ne_bool_none (kaP I q (by simp))
  |bl j=>cases ry;exact ne_bool (kaP I q (congrArg not kkf))
  |str j=>obtain⟨t',rfl⟩:=ry;exact PySem.EqMixed.ne_bool_str (kaP I q (by simp))
  |_=>exact absurd (show false=true from hs) UB
 |int i=>
  obtain⟨t,rfl⟩:=rx
  cases y with
  |non=>cases ry;exact PySem.EqNone.ne_int_none (kaP I q (by simp))
  |int j=>obtain⟨t',rfl⟩:=ry;exact ne_int (kaP I q (congrArg not kiI))
  |str j=>obtain⟨t',rfl⟩:=ry;exact PySem.EqMixed.ne_int_str (kaP I q (by simp))
  |_=>exact absurd (show false=true from hs) UB
 |str i=>
  obtain⟨t,rfl⟩:=rx
  cases y with
  |non=>cases ry;exact PySem.EqNone.ne_str_none (kaP I q (by simp))
  |bl j=>cases ry;exact PySem.EqMixed.ne_str_bool (kaP I q (by simp))
  |int j=>obtain⟨t',rfl⟩:=ry;exact PySem.EqMixed.ne_str_int (kaP I q (by simp))
  |str j=>obtain⟨t',rfl⟩:=ry;exact ne_str (kaP I q (congrArg not kiH))
  |_=>exact absurd (show false=true from hs) UB
 |byt i=>
  obtain⟨t,rfl⟩:=rx
  cases y with
  |byt j=>obtain⟨t',rfl⟩:=ry;exact PySem.W.ne_bytes (kaP I q (congrArg not kiJ))
  |_=>exact absurd (show false=true from hs) UB
 |_=>cases y <;> exact absurd (show false=true from hs) UB
theorem op_lt:OpR X (compareOp .Lt) (rI0 fun i j=>.bl (decide (i<j))):=opB0 fun _ _ _ _ _ _ _ q=>lt_int q
theorem op_gt:OpR X (compareOp .Gt) (rI0 fun i j=>.bl (decide (j<i))):=opB0 fun _ _ _ _ _ _ _ q=>gt_int q
theorem kdV:OpR X (compareOp .Is) (fun x y H Q=>y=.non∧Q (.bl (decide (x=.non))) H):=by
 intro pins s σ H x y v u Q I rx ry h
 obtain⟨rfl,q⟩:=h
 cases ry
 refine is_none_gen (kaP I q ?_)
 cases x <;> first
  |(cases rx;rfl)
  |(obtain⟨t,rfl⟩:=rx;rfl)
theorem kb5:OpR X (compareOp .IsNot) (fun x y H Q=>y=.non∧Q (.bl (!decide (x=.non))) H):=by
 intro pins s σ H x y v u Q I rx ry h
 obtain⟨rfl,q⟩:=h
 cases ry
 refine isnot_none_gen (kaP I q ?_)
 cases x <;> first
  |(cases rx;rfl)
  |(obtain⟨t,rfl⟩:=rx;rfl)
theorem OpR.or{f:Value→Value→Sem Value}{r r':R2}(h:OpR X f r)(h':OpR X f r'):OpR X f (fun x y H Q=>r x y H Q∨r' x y H Q):=by
 intro pins s σ H x y v u Q I rx ry q
 rcases q with q|q
 ·exact h pins s σ H x y v u Q I rx ry q
 ·exact h' pins s σ H x y v u Q I rx ry q
theorem kav(b:Expr){op:CmpOp}(h:op≠.In:=by decide)(h2:op≠.NotIn:=by decide):behindInMarks op b=false:=by
 have e1:(op==CmpOp.In)=false:=by cases op <;> first|rfl|exact absurd rfl h
 have e2:(op==CmpOp.NotIn)=false:=by cases op <;> first|rfl|exact absurd rfl h2
 cases b <;> simp[behindInMarks,e1,e2]
theorem kbc{op:CmpOp}{r:R2}(ho:OpR X (compareOp op) r)(ha:PE X a ta)(hb:PE X b tb)(hm:behindInMarks op b=false):PE X (.Compare a [op] [b] pos) (tOp r ta tb):=by
 intro pins s σ H Q I h
 exact wpAny_Compare1 (binT ha hb I h fun v u s2 x y H2 I2 rx ry q=>ho pins s2 σ H2 x y v u Q I2 rx ry q) hm
noncomputable def tTest(t:TE):TT:=fun σ H Q=>t σ H fun x H'=>∃k,x=.bl k∧Q k H'
theorem kar{op:CmpOp}{r:R2}(ho:OpR X (compareOp op) r)(ha:PE X a ta)(hb:PE X b tb)(hm:behindInMarks op b=false):PT X (.Compare a [op] [b] pos) (tTest (tOp r ta tb)):=by
 intro pins s σ H Q I h
 refine wpAny_isTrue_Compare1 (thn (ha pins s σ H _ I h) fun v s1 ⟨x,H1,I1,r1,q1⟩=>thn (hb pins s1 σ H1 _ I1 q1) fun u s2 ⟨y,H2,I2,r2,q2⟩=>
  thn (ho pins s2 σ H2 x y v u _ I2 r1 r2 q2) fun c s3 ⟨z,H3,I3,r3,k,e,q3⟩=>?_) hm
 subst e
 cases r3
 exact wpAny_truthy_bool ⟨H3,I3,q3⟩
theorem kgW:(sizeLine:Nat)<2 ^ 63:=by rw[sizeLine_eq];decide
theorem vals1{x:V}{us:List Value}(r:Vals [x] us):∃u,us=[u]∧RelV x u:=by
 cases r with
 |cons r1 r2=>cases r2;exact⟨_,rfl,r1⟩
theorem vals2{x y:V}{us:List Value}(r:Vals [x,y] us):∃u w',us=[u,w']∧RelV x u∧RelV y w':=by
 cases r with
 |cons r1 r2=>
  cases r2 with
  |cons r3 r4=>cases r4;exact⟨_,_,rfl,r1,r3⟩
theorem kiS(hc:X.calm=true):CallR X (.builtin "max") (fun xs H Q=>∃i j,xs=[.int i, .int j]∧Q (.int (if j > i then j else i)) H):=by
 intro pins s σ H xs us Q I r h
 obtain⟨i,j,rfl,q⟩:=h
 obtain⟨u,w',rfl,⟨t,rfl⟩,⟨t',rfl⟩⟩:=vals2 r
 refine max_two_ints (I.ok.hd hc) fun h' tk k=>⟨_,H,I.kept k,?_,q⟩
 by_cases hj:j > i
 ·rw[if_pos hj,if_pos hj];exact⟨_,rfl⟩
 ·rw[if_neg hj,if_neg hj];exact⟨_,rfl⟩
theorem kc6(hc:X.calm=true):CallR X (.builtin "min") (fun xs H Q=>∃i j,xs=[.int i, .int j]∧Q (.int (if j<i then j else i)) H):=by
 intro pins s σ H xs us Q I r h
 obtain⟨i,j,rfl,q⟩:=h
 obtain⟨u,w',rfl,⟨t,rfl⟩,⟨t',rfl⟩⟩:=vals2 r
 refine min_two_ints (I.ok.hd hc) fun h' tk k=>⟨_,H,I.kept k,?_,q⟩
 by_cases hj:j<i
 ·rw[if_pos hj,if_pos hj];exact⟨_,rfl⟩
 ·rw[if_neg hj,if_neg hj];exact⟨_,rfl⟩
theorem kiT:CallR X (.type "int") (fun xs H Q=>(∃i,xs=[.int i]∧Q (.int i) H)∨∃k,xs=[.bl k]∧Q (.int (if k then 1 else 0)) H):=by
 intro pins s σ H xs us Q I r h
 rcases h with⟨i,rfl,q⟩|⟨k,rfl,q⟩
 ·obtain⟨u,rfl,t,rfl⟩:=vals1 r
  exact call_int_int ⟨.int i,H,I,⟨_,rfl⟩,q⟩
 ·obtain⟨u,rfl,r1⟩:=vals1 r
  cases r1
  exact call_int_bool ⟨.int (if k then 1 else 0),H,I.tok _,⟨_,rfl⟩,q⟩
end
end L2
namespace L2
open PySem PySem.Spec PyProof.Rows
structure ObjM (h:Heap) (x dx C:Addr) (mA:Str→Option Value):Prop where
 obj:h.get? x=some (JD C dx)
 ns:h.Ns1 dx mA
 ne:dx≠x
def kii{h:Heap}{dx:Addr}{mA:Str→Option Value}(n:h.Ns1 dx mA):∃od,h.get? dx=some od∧∀name,Nk name od=some (mA name):=by
 obtain⟨o,es,ep,ho,hd,hk,_,hm⟩:=n
 refine⟨o,ho,fun name=>?_⟩
 have e:=hm name
 unfold nsFind findBy at e
 rw[←Array.find?_toList] at e
 unfold Nk
 rw[hd]
 dsimp only
 split
 ·rename_i y q
  rw[q] at e
  exact congrArg some e
 ·rename_i q
  rw[q] at e
  have a:es.toList.any (·.refKey)=false:=by
   rw[List.any_eq_false]
   intro y hy
   obtain⟨z,t,hkey⟩:=hk y (Array.mem_toList_iff.mp hy)
   simp[DictEntry.refKey,hkey]
  have a':¬es.toList.any (·.refKey)=true:=by rw[a];exact UB
  rw[if_neg a']
  exact congrArg some e
def ObjM.look{h:Heap}{x dx C:Addr}{mA:Str→Option Value}(I:ObjM h x dx C mA):∃od,PySem.W.InstAt h x (JD C dx) C (some od)∧∀name,Nk name od=some (mA name):=
 let⟨od,ho,hl⟩:=kii I.ns
 ⟨od,⟨I.obj,rfl,rfl,ho⟩,hl⟩
section
variable {prog:Program} {w:World} {A:Around} {E:Value→Shared→Prop} {s:Shared} {K:Uv} {x dx C f:Addr} {mA:Str→Option Value} {name:Str} {v:Value}
theorem get_map{expr:Bool}{Q:Value→Shared→Prop}(X:K.In s.heap)(I:ObjM s.heap x dx C mA)(hg:U6 K C name=true)(hh:Ja K C=true)
  (ha:Uy K (.ref C) name=some none) (hv:mA name=some v) (hv':PySem.W.handedIn v=true) (h:Q v {s with toks:=s.toks+1}):
  wpAny (model prog w) A (getAttr (.ref x) name expr) Q E s:=by
 obtain⟨od,J,hl⟩:=I.look
 exact PySem.W.get_value X J (NQ hg).1 (PySem.W.findObj_own hh ha rfl (by rw[hl,hv])) hv' h
theorem kjx{pl:Sem Bool}{Q:Value×List Value→Shared→Prop}(X:K.In s.heap)(I:ObjM s.heap x dx C mA)(hg:U6 K C name=true)
  (hf:Uy K (.ref C) name=some (some (.ref f))) (ht:Jh K (.ref f)=true) (hv:mA name=none) (h:Q (.ref f,[.ref x]) s):
  wpAny (model prog w) A (getMethod (.ref x) name pl) Q E s:=by
 obtain⟨od,J,hl⟩:=I.look
 exact PySem.W.method_fn X J (NQ hg).1 (NQ hg).2 hf (beq_iff_eq.mp ht) (by show(Nk name od).map (·.isSome)=some false;rw[hl,hv];rfl) h
theorem kkt{ns:List Str}{Q:Unit→Shared→Prop}(X:K.In s.heap)(I:ObjM s.heap x dx C mA)
  (hs:Uy K (.ref C) "__setattr__"=some (some (.builtin "object.__setattr__"))) (hp:Jf K C=true) (ht:NR K C name=some none) (hh:Ja K C=true)
  (hw:PySem.Within mA ns) (hsz:ns.length≤sizeLine)
  (h:∀h',ObjM h' x dx C (fun y=>if y=name then some v else mA y)→Heap.SameBut dx s.heap h'→Q () {s with heap:=h',toks:=s.toks+2}):
  wpAny (model prog w) A (setAttr (.ref x) name v) Q E s:=by
 obtain⟨od,J,hl⟩:=I.look
 refine PySem.W.set_plain X J hs (PySem.W.osa_open (s:={s with toks:=s.toks+1}) (r:=none) X J hp ht fun b=>?_)
 obtain⟨cd,hc,hd'⟩:=PySem.W.any_some hh
 have hx:s.heap.get? x=some ⟨.ref C,some dx, .plain,#[]⟩:=I.obj
 refine wpAny_bind (wpAny_pure (wpAny_bind (wpAny_bind (wpAny_loadPart hx (wpAny_bind (PySem.W.Looks.here (s:={s with toks:=s.toks+1}) (PySem.W.looks_clsIn X hc) ?_))))))
 rw[hd']
 refine wpAny_pure (a:=some dx) (wpAny_bind (wpAny_pure (wpAny_bind ?_)))
 refine wpAny_nsSet1 (s:={s with toks:=s.toks+1}) I.ns fun h' hn2 hs2=>?_
 obtain⟨oD,esD,epD,hoD,hdD,hcD⟩:=hn2.count (PySem.Within.cons name v hw)
 refine wpAny_bind (wpAny_lookBehind hoD (by rw[hdD];exact pastItsLine_dict (UA hcD (by rw[Jb];omega))) ?_)
 exact wpAny_pure (h _ ⟨(hs2.2 _ (Ne.symm I.ne)).trans I.obj,hn2,I.ne⟩ hs2)
theorem kjo{R:Result→Shared→Prop}{vs:List Value}{kw:List (Str×Value)}(X:K.In s.heap)(hm:Jc K C=true)
  (hi:Uy K (.ref C) "__init__"=some (some (.ref f))) (hf:U7 K (.ref f)=some (.type "function"))
  (h:codeAny (model prog w) (A.under (.builtin "type.__call__" ⟨.ref C::vs,kw⟩)) (.call (.ref f) ⟨.ref (s.heap.objs.size+1)::vs,kw⟩) (PySem.W.InitBack (s.heap.objs.size+1) R)
   {s with heap:=(s.heap.push Jy).push (JD C s.heap.objs.size)}):
  codeAny (model prog w) A (.call (.ref C) ⟨vs,kw⟩) R s:=by
 obtain⟨hh,g,d,t,os⟩:=s
 exact PySem.W.make_core (PySem.W.makes_of X hm) (PySem.W.looks_findIn X hi) (fun self=>PySem.W.bind_fn X self hf) (.inl rfl) h
end
noncomputable def putF(f:Str)(v:V):List (Str×V)→List (Str×V)
 |[]=>[(f,v)]
 |(g,x)::r=>if g=f then(g,v)::r else(g,x)::putF f v r
theorem kac(f g:Str)(v:V):∀fs:List (Str×V),(putF f v fs).lookup g=if g=f then some v else fs.lookup g
 | []=>by
  show Jl g [(f,v)]=_
  by_cases h:g=f
  ·have hb:(g==f)=true:=beq_iff_eq.mpr h
   simp only[Jl,hb,if_pos h]
  ·have hb:(g==f)=false:=beq_eq_false_iff_ne.mpr h
   simp only[Jl,hb,if_neg h]
 | (k,x)::r=>by
  have ih:=kac f g v r
  rw[show putF f v ((k,x)::r)=(if k=f then(k,v)::r else(k,x)::putF f v r) from rfl]
  by_cases hk:k=f
  ·rw[if_pos hk]
   by_cases h:g=k
   ·have hb:(g==k)=true:=beq_iff_eq.mpr h
    simp only[Jl,hb,if_pos (h.trans hk)]
   ·have hb:(g==k)=false:=beq_eq_false_iff_ne.mpr h
    simp only[Jl,hb,if_neg (fun e:g=f=>h (e.trans hk.symm))]
  ·rw[if_neg hk]
   by_cases h:g=k
   ·have hb:(g==k)=true:=beq_iff_eq.mpr h
    simp only[Jl,hb,if_neg (fun e:g=f=>hk (h.symm.trans e))]
   ·have hb:(g==k)=false:=beq_eq_false_iff_ne.mpr h
    simp only[Jl,hb]
    exact ih
theorem kd5(f:Str)(v:V):∀fs:List (Str×V),f∈(putF f v fs).map (·.1)∧∀g,g∈fs.map (·.1)→g∈(putF f v fs).map (·.1)
 |[]=>⟨by simp[putF],fun g h=>by simp at h⟩
 | (k,x)::r=>by
  obtain⟨i1,i2⟩:=kd5 f v r
  rw[show putF f v ((k,x)::r)=(if k=f then(k,v)::r else(k,x)::putF f v r) from rfl]
  by_cases hk:k=f
  ·rw[if_pos hk]
   subst hk
   exact⟨by simp,fun g h=>by simpa using h⟩
  ·rw[if_neg hk]
   refine⟨?_,fun g h=>?_⟩
   ·rw[UK]
    exact UV _ i1
   ·rw[UK] at h⊢
    rcases UJ.mp h with e|e
    ·exact UJ.mpr (.inl e)
    ·exact UV _ (i2 g e)
theorem kd4(f:Str)(v:V):∀fs:List (Str×V),(putF f v fs).length≤fs.length+1
 |[]=>by simp[putF]
 |(k,x)::r=>by
  have ih:=kd4 f v r
  rw[show putF f v ((k,x)::r)=(if k=f then(k,v)::r else(k,x)::putF f v r) from rfl]
  by_cases hk:k=f
  ·rw[if_pos hk,Jb,Jb];omega
  ·rw[if_neg hk,Jb,Jb];omega
theorem RelO.some_of{v:V}{o:Option Value}(r:RelO (some v) o):∃u,o=some u∧RelV v u:=by
 cases o with
 |none=>exact(show False from r).elim
 |some u=>exact⟨u,rfl,r⟩
theorem RelO.none_of{o:Option Value}(r:RelO none o):o=none:=by
 cases o with
 |none=>rfl
 |some u=>exact(show False from r).elim
theorem kix{v:V}{u:Value}(r:RelV v u):PySem.W.handedIn u=true:=by
 cases v with
 |non=>cases(show u=Value.none from r);rfl
 |bl b=>cases(show u=Value.bool b from r);rfl
 |int i=>obtain⟨t,e⟩:=(show ∃t,u=Value.int i t from r);cases e;rfl
 |str x=>obtain⟨t,e⟩:=(show ∃t,u=Value.str x t from r);cases e;rfl
 |byt b=>obtain⟨t,e⟩:=(show ∃t,u=Value.bytes b t from r);cases e;rfl
 |flt b=>obtain⟨t,e⟩:=(show ∃t,u=Value.float b t from r);cases e;rfl
 |ref a=>cases(show u=Value.ref a from r);rfl
 |ty n=>cases(show u=Value.type n from r);rfl
section
variable {P:Program} {w:World} {H H':Hp} {h h':Heap} {a C dx:Addr} {fs fs':List (Str×V)}
theorem ke3(hok:HOk P w H h)(e:H a=some (.ins C dx fs)):∃mA,ObjM h a dx C mA∧(∀f,RelO (fs.lookup f) (mA f))∧PySem.Within mA (fs.map (·.1))∧fs.length≤1000∧H dx=some (.own a):=by
 obtain⟨d,z,ne,ob,mA,n,r,q⟩:=(show ObjOk P w H h a (.ins C dx fs) from hok a _ e)
 exact⟨mA,⟨ob,n,ne⟩,r,q,z,d⟩
end
structure Cls (K:Uv) (C:Addr):Prop where
 pg:U6 K C Str.empty=true
 hd:Ja K C=true
 po:Jf K C=true
 sa:Uy K (.ref C) "__setattr__"=some (some (.builtin "object.__setattr__"))
def Cls.get{K:Uv}{C:Addr}(c:Cls K C)(f:Str):U6 K C f=true:=c.pg
noncomputable def NoAttr(K:Uv)(C:Addr)(f:Str):Prop:=Uy K (.ref C) f=some none
def NoAttr.taker{K:Uv}{C:Addr}{f:Str}(n:NoAttr K C f):NR K C f=some none:=by
 unfold NR
 rw[show Uy K (.ref C) f=some none from n]
 rfl
structure Meth (K:Uv) (C:Addr) (m:Str) (f:Addr):Prop where
 at_:Uy K (.ref C) m=some (some (.ref f))
 fn:Jh K (.ref f)=true
 kp:UO K (.ref f)=true
section
variable {X:Cx} {pins:List (Addr×Obj)} {σ:St} {H:Hp} {s:Shared} {a C dx:Addr} {fs:List (Str×V)} {f:Str} {v:V} {A:Around} {E:Value→Shared→Prop}
theorem khm{b:Bool}{Q:Value→Shared→Prop}(I:Inv X pins σ H s)(e:H a=some (.ins C dx fs))(c:Cls X.K C)(n:NoAttr X.K C f)(l:fs.lookup f=some v)
  (h:∀u s',Inv X pins σ H s'→RelV v u→Q u s'):wpAny (model X.prog X.w) A (getAttr (.ref a) f b) Q E s:=by
 obtain⟨mA,O,r,_,_,_⟩:=ke3 I.hok e
 obtain⟨u,hu,ru⟩:=RelO.some_of (v:=v) (o:=mA f) (by rw[←l];exact r f)
 exact get_map I.kIn O (c.get f) c.hd n hu (kix ru) (h u _ (I.tok _) ru)
theorem keu{m:Str}{g:Addr}{pl:Sem Bool}{Q:Value×List Value→Shared→Prop}(I:Inv X pins σ H s)(e:H a=some (.ins C dx fs))(c:Cls X.K C)(k:Meth X.K C m g)(l:fs.lookup m=none)
  (h:Q (.ref g,[.ref a]) s):wpAny (model X.prog X.w) A (getMethod (.ref a) m pl) Q E s:=by
 obtain⟨mA,O,r,_,_,_⟩:=ke3 I.hok e
 have hn:mA m=none:=RelO.none_of (by rw[←l];exact r m)
 exact kjx I.kIn O (c.get m) k.at_ k.fn hn h
theorem kha{y:V}{u:Value}{Q:Unit→Shared→Prop}(I:Inv X pins σ H s)(e:H a=some (.ins C dx fs))(c:Cls X.K C)(n:NoAttr X.K C f)(hl:fs.length<1000)(ry:RelV y u)
  (h:∀s',Inv X pins σ (upd H a (.ins C dx (putF f y fs))) s'→Q () s'):wpAny (model X.prog X.w) A (setAttr (.ref a) f u) Q E s:=by
 obtain⟨mA,O,r,wi,_,ho⟩:=ke3 I.hok e
 have hz:(fs.map (·.1)).length≤sizeLine:=by rw[Uu,sizeLine_eq];omega
 refine kkt I.kIn O c.sa c.po n.taker c.hd wi hz fun h' O' sb=>h _ ?_
 have hd:∃o,h'.get? dx=some o:=let⟨o,_,_,e',_⟩:=O'.ns;⟨o,e'⟩
 refine I.write (x:=a) (e:=dx) (by rw[e];exact True.intro) (.inr ho) (fun b q hb z=>(sb.2 b hb).trans z) hd ?_
 refine⟨by rw[kaj O.ne];exact ho,?_,O.ne,O'.obj,_,O'.ns,fun g=>?_,fun g hg=>?_⟩
 ·have:=kd4 f y fs;omega
 ·show RelO ((putF f y fs).lookup g) (if g=f then some u else mA g)
  rw[kac]
  by_cases q:g=f
  ·rw[if_pos q,if_pos q];exact ry
  ·rw[if_neg q,if_neg q];exact r g
 ·by_cases q:g=f
  ·rw[q];exact(kd5 f y fs).1
  ·refine(kd5 f y fs).2 g (wi g fun z=>hg ?_)
   show(if g=f then some u else mA g)=none
   rw[if_neg q];exact z
theorem Inv.made(I:Inv X pins σ H s):Inv X pins σ (upd (upd H s.heap.objs.size (.own (s.heap.objs.size+1))) (s.heap.objs.size+1) (.ins C s.heap.objs.size []))
  {s with heap:=(s.heap.push Jy).push (JD C s.heap.objs.size)}:=by
 have e1:(s.heap.push Jy).get? s.heap.objs.size=some Jy:=Heap.get?_push_size s.heap rfl
 have e2:((s.heap.push Jy).push (JD C s.heap.objs.size)).get? (s.heap.objs.size+1)=some (JD C s.heap.objs.size):=by
  have:=Heap.get?_push_size (s.heap.push Jy) (o:=JD C s.heap.objs.size) rfl
  rwa [Heap.size_push] at this
 have e3:(s.heap.push Jy).Ns s.heap.objs.size (fun _=>none):=⟨Jy,#[],_,e1,rfl,(fun e he=>absurd he (by simp)),fun _=>rfl⟩
 have I1:=I.laid (a:=s.heap.objs.size) (o:=.own (s.heap.objs.size+1)) (h':=s.heap.push Jy) (t':=s.toks) (fun b u q=>Heap.get?_push_of_some _ q) (Ux _) ⟨_,e1⟩
 refine I1.laid (a:=s.heap.objs.size+1) (o:=.ins C s.heap.objs.size []) (t':=s.toks) (fun b u q=>Heap.get?_push_of_some _ q) (Nl (Heap.size_push _ _)) ?_
 have ne:s.heap.objs.size≠s.heap.objs.size+1:=UU (NS _)
 refine⟨by rw[kaj ne,kad],U2 _,ne,e2,fun _=>none,(Heap.Ns1.of_empty e3).at fun o q=>Heap.get?_push_of_some _ q,fun _=>True.intro,fun y hy=>absurd rfl hy⟩
theorem kkV{prog:Program}{w:World}{env:Env}{e:Expr}{f:Str}{pos:Pos}{s:Shared}{Q:Value→Shared→Prop}(hb:attributeBase e f env (eval e env)=eval e env)
  (h:wpAny (model prog w) A (eval e env) (fun o s₁=>wpAny (model prog w) A (getAttr o f true) Q E s₁) E s):wpAny (model prog w) A (eval (.Attribute e f pos) env) Q E s:=
 Attribute_any_ h (by rw[arm_eval_Attribute,hb])
end
noncomputable def tFld(K:Uv)(ta:TE)(f:Str):TE:=fun σ H Q=>ta σ H fun x H1=>∃a C dx fs v,x=.ref a∧H1 a=some (.ins C dx fs)∧Cls K C∧NoAttr K C f∧fs.lookup f=some v∧Q v H1
noncomputable def sFld(K:Uv)(ta tv:TE)(f:Str):TS:=fun D σ H=>tv σ H fun y H1=>ta σ H1 fun x H2=>∃a C dx fs,x=.ref a∧H2 a=some (.ins C dx fs)∧Cls K C∧NoAttr K C f∧fs.length<1000∧
 D.nx σ (upd H2 a (.ins C dx (putF f y fs)))
section
variable {X:Cx} {o e value:Expr} {f:Str} {pos pos' tpos:Pos} {ta tv:TE}
theorem kla(he:PE X e ta)(hb:attributeBase e f X.env (eval e X.env)=eval e X.env):PE X (.Attribute e f pos) (tFld X.K ta f):=by
 intro pins s σ H Q I h
 refine kkV hb (thn (he pins s σ H _ I h) fun u s1 ⟨x,H1,I1,rx,a,C,dx,fs,v,ex,ea,c,n,l,q⟩=>?_)
 subst ex
 obtain rfl:u=Value.ref a:=rx
 exact khm I1 ea c n l fun u' s2 I2 ru=>⟨v,H1,I2,ru,q⟩
theorem kaK(ha:PE X o ta)(hv:PE X value tv)(hs:swapsWith value (some (.Attribute o f pos')) pos.line X.env=pure false):PS X (.Assign [.Attribute o f pos'] value pos) (sFld X.K ta tv f):=by
 intro pins s σ H D I h
 refine plainObj_wpAny_Assign_Attribute (thn (hv pins s σ H _ I h) fun u s1 ⟨y,H1,I1,ry,q⟩=>thn (ha pins s1 σ H1 _ I1 q) fun ov s2 ⟨x,H2,I2,rx,a,C,dx,fs,ex,ea,c,n,l,q2⟩=>?_) hs
 subst ex
 obtain rfl:ov=Value.ref a:=rx
 exact kha I2 ea c n l ry fun s3 I3=>⟨σ,_,I3,q2⟩
end
section
variable {X:Cx} {pins:List (Addr×Obj)} {σ:St} {H:Hp} {s:Shared} {A:Around} {E:Value→Shared→Prop} {Q:Value→Shared→Prop} {c:Value} {b:Bool}
inductive TyOf (K:Uv) (H:Hp):V→Value→Prop where
 |non:TyOf K H .non (.type "NoneType")
 |bl (x:Bool):TyOf K H (.bl x) (.type "bool")
 |int (i:Int):TyOf K H (.int i) (.type "int")
 |str (x:Str):TyOf K H (.str x) (.type "str")
 |flt (x:UInt64):TyOf K H (.flt x) (.type "float")
 |lst {a:Addr} {xs:List V} (e:H a=some (.lst xs)):TyOf K H (.ref a) (.type "list")
 |frz {a:Addr} {o:Obj} {xs:List V} (e:H a=some (.frz o (.lst xs))):TyOf K H (.ref a) (.type "list")
 |tup {a:Addr} {xs:List V} (e:H a=some (.tup xs)):TyOf K H (.ref a) (.type "tuple")
 |dK {a:Addr} {kvs:List (Key×V)} (e:H a=some (.dK kvs)):TyOf K H (.ref a) (.type "dict")
 |dT {a:Addr} {kvs:List (List Key×V)} (e:H a=some (.dT kvs)):TyOf K H (.ref a) (.type "dict")
 | ins {a C dx:Addr} {fs:List (Str×V)} (e:H a=some (.ins C dx fs)) (cl:Cls K C) (ha:Uy K (.ref C) "__class__"=some (some (.builtin "object.__class__")))
   (hn:J6 K (.builtin "object.__class__") "__get__"=some (some (.builtin "getset_descriptor.__get__"))) (htk:NT K (.builtin "object.__class__")=some true)
   (hm:UC K C (.type "object")=some true):TyOf K H (.ref a) (.ref C)
theorem kit{x:V}{u t:Value}(I:Inv X pins σ H s)(rx:RelV x u)(ty:TyOf X.K H x t)(e:UL X.K t c=some b)(h:∀tk,Q (.bool b) {s with toks:=tk}):
  wpAny (model X.prog X.w) A (call (.builtin "isinstance") [u,c]) Q E s:=by
 cases ty with
 |non=>cases(show u=Value.none from rx);exact Jm PySem.W.kitx_none I.kIn True.intro e (fun z=>nomatch z) h
 |bl y=>cases(show u=Value.bool y from rx);exact Jm PySem.W.kitx_bool I.kIn True.intro e (fun z=>nomatch z) h
 |int i=>obtain⟨t,q⟩:=(show ∃t,u=Value.int i t from rx);cases q;exact Jm PySem.W.kitx_int I.kIn True.intro e (fun z=>nomatch z) h
 |str y=>obtain⟨t,q⟩:=(show ∃t,u=Value.str y t from rx);cases q;exact Jm PySem.W.kitx_str I.kIn True.intro e (fun z=>nomatch z) h
 |flt y=>obtain⟨t,q⟩:=(show ∃t,u=Value.float y t from rx);cases q;exact Jm PySem.W.kitx_float I.kIn True.intro e (fun z=>nomatch z) h
 | @lst a xs ea=>
  cases(show u=Value.ref a from rx)
  obtain⟨_,_,n,_,h1⟩:=(show ObjOk X.prog X.w H s.heap a (.lst xs) from I.hok a _ ea)
  exact Jm PySem.W.kitx_list I.kIn ⟨_,h1,rfl⟩ e (fun z=>nomatch z) h
 | @frz a ob xs ea=>
  cases(show u=Value.ref a from rx)
  obtain⟨_,_,_,n,_,h1⟩:=(show ObjOk X.prog X.w H s.heap a (.frz ob (.lst xs)) from I.hok a _ ea)
  exact Jm PySem.W.kitx_list I.kIn ⟨_,h1,rfl⟩ e (fun z=>nomatch z) h
 | @tup a xs ea=>
  cases(show u=Value.ref a from rx)
  obtain⟨_,_,_,p⟩:=(show ObjOk X.prog X.w H s.heap a (.tup xs) from I.hok a _ ea)
  obtain⟨o,h1,h2,_⟩:=p
  exact Jm PySem.W.kitx_tuple I.kIn ⟨o,h1,h2⟩ e (fun z=>nomatch z) h
 | @dK a kvs ea=>
  cases(show u=Value.ref a from rx)
  obtain⟨_,_,vs,_,p⟩:=(show ObjOk X.prog X.w H s.heap a (.dK kvs) from I.hok a _ ea)
  obtain⟨o,es,ep,h1,h2,_⟩:=p
  exact Jm PySem.W.kitx_dict I.kIn ⟨o,h1,h2.1⟩ e (fun z=>nomatch z) h
 | @dT a kvs ea=>
  cases(show u=Value.ref a from rx)
  obtain⟨_,_,xs,_,o,es,ep,h1,h2,_⟩:=(show ObjOk X.prog X.w H s.heap a (.dT kvs) from I.hok a _ ea)
  exact Jm PySem.W.kitx_dict I.kIn ⟨o,h1,h2.1⟩ e (fun z=>nomatch z) h
 | @ins a C dx fs ea cl ha hn htk hm=>
  cases(show u=Value.ref a from rx)
  obtain⟨mA,O,_⟩:=ke3 I.hok ea
  obtain⟨od,J,_⟩:=O.look
  exact Jm (PySem.W.kitx_own (cl.get _) cl.hd ha hn htk hm) I.kIn J e (fun z=>nomatch z) h
end
end L2
namespace L2
open PySem PySem.Spec PyProof.Rows
structure Room (k:Nat) (A:Around):Prop where
 hd:A.handled=none
 dp:A.depth+3*k+5<recursionLimit
 un:A.units+16*k+200<cLine
def Room.mono{j k:Nat}{A:Around}(r:Room k A)(h:j≤k):Room j A:=⟨r.hd,by have:=r.dp;omega,by have:=r.un;omega⟩
def Room.deeper{k:Nat}{A:Around}(r:Room (k+1) A)(env:Env):Room k (A.deeper env):=
 ⟨r.hd,by have:=r.dp;show A.depth+1+3*k+5<_;omega,by have:=r.un;show A.units+3+16*k+200<_;omega⟩
def Room.in1{k:Nat}{A:Around}(r:Room (k+1) A):Room k A.in1:=
 ⟨r.hd,by have:=r.dp;show A.depth+3*k+5<_;omega,by have:=r.un;show A.units+1+16*k+200<_;omega⟩
def khk{A:Around}{C:Addr}{us:List Value}{kw:List (Str×Value)}:(A.under (.builtin "type.__call__" ⟨.ref C::us,kw⟩)).depth=A.depth+1:=by
 first|rfl|simp[Around.under,Code.weight,Code.isCreation,Code.isGuard,Code.isCaller,Code.frames,Code.isFrame,guardIds]
def khj{A:Around}{C:Addr}{us:List Value}{kw:List (Str×Value)}:(A.under (.builtin "type.__call__" ⟨.ref C::us,kw⟩)).units=A.units+1:=by
 first|rfl|simp[Around.under,Code.cUnits,Code.frames,Code.isFrame]
def Room.make{k:Nat}{A:Around}(r:Room (k+1) A)(C:Addr)(us:List Value)(kw:List (Str×Value)):Room k (A.under (.builtin "type.__call__" ⟨.ref C::us,kw⟩)):=
 ⟨r.hd,by have:=r.dp;rw[khk];omega,by have:=r.un;rw[khj];omega⟩
def Room.depth{k:Nat}{A:Around}(r:Room k A):A.depth<recursionLimit:=by have:=r.dp;omega
def Room.units{k:Nat}{A:Around}(r:Room k A):A.units+64<cLine:=by have:=r.un;omega
def Room.units0{k:Nat}{A:Around}(r:Room k A):A.units<cLine:=by have:=r.un;omega
noncomputable def tNil:TA:=fun _ H Q=>Q [] H
noncomputable def tCons(ta:TE)(tr:TA):TA:=fun σ H Q=>ta σ H fun x H1=>tr σ H1 fun xs H2=>Q (x::xs) H2
section
variable {X:Cx} {e:Expr} {es:List Expr} {te:TE} {t:TA} {pos:Pos}
theorem kae:PA X [] tNil:=fun _ _ _ _ H Q I h=>Calls.spliced_nil ⟨[],H,I, .nil,h⟩
theorem kaa(ha:PE X e te)(hr:PA X es t)(hs:starEach (e::es) X.env=(false,eval e X.env)::starEach es X.env:=by rfl):PA X (e::es) (tCons te t):=by
 intro pos pins s σ H Q I h
 rw[hs]
 show wpAny _ _ (spliced ((false,eval e X.env)::backTo pos (starEach es X.env))) _ _ s
 refine Calls.spliced_cons (thn (ha pins s σ H _ I h) fun u s1 ⟨x,H1,I1,r1,q1⟩=>?_)
 exact thn (hr pos pins s1 σ H1 _ I1 q1) fun us s2 ⟨xs,H2,I2,r2,q2⟩=>⟨x::xs,H2,I2, .cons r1 r2,q2⟩
noncomputable def tTup(t:TA):TE:=fun σ H Q=>t σ H fun xs H1=>xs.length≤sizeLine∧∀p,H1 p=none→Q (.ref p) (upd H1 p (.tup xs))
noncomputable def tLst(t:TA):TE:=fun σ H Q=>t σ H fun xs H1=>xs.length≤sizeLine∧∀p,H1 p=none→Q (.ref p) (upd H1 p (.lst xs))
theorem kbH{x1}(h:PA X es t):PE X (.Tuple es x1 pos) (tTup t):=by
 intro pins s σ H Q I hq
 refine wpAny_Tuple_spliced (thn (h pos pins s σ H _ I hq) fun us s1 ⟨xs,H1,I1,r,z,q⟩=>⟨by rw[←r.length];exact z,?_⟩)
 have hf:H1 s1.heap.objs.size=none:=I1.hok.fresh (Ux _)
 refine⟨.ref s1.heap.objs.size,upd H1 s1.heap.objs.size (.tup xs),I1.laid (t':=s1.toks) (fun b u e=>Heap.get?_push_of_some _ e) (Ux _) ?_,rfl,q _ hf⟩
 exact⟨z,us,r,⟨_,Heap.get?_push_size _ rfl,rfl,_,rfl⟩⟩
theorem kaM(h:PA X es t):PE X (.List es pos) (tLst t):=by
 intro pins s σ H Q I hq
 refine wpAny_List_spliced (thn (h pos pins s σ H _ I hq) fun us s1 ⟨xs,H1,I1,r,z,q⟩=>⟨by rw[←r.length];exact z,?_⟩)
 have hf:H1 s1.heap.objs.size=none:=I1.hok.fresh (Ux _)
 refine⟨.ref s1.heap.objs.size,upd H1 s1.heap.objs.size (.lst xs),I1.laid (t':=s1.toks) (fun b u e=>Heap.get?_push_of_some _ e) (Ux _) ?_,rfl,q _ hf⟩
 exact⟨z,us,0,r,Heap.get?_push_size _ rfl⟩
end
noncomputable abbrev Sp:=List V→Hp→VK→XK→Prop
noncomputable abbrev CXT:=List Env→Hp→Shared→XK→Value→Shared→Prop
structure Env0 (P:Program) (w:World) (K:Uv) (mg:Str→Option Value) (base:Heap) (A:Around) (outer:List Env) (s:Shared) (H:Hp):Prop where
 frames:A.frames=some outer
 mod:Mod K mg base
 bs:∀b o,base.get? b=some o→s.heap.get? b=some o∧H b=none
 bsz:base.objs.size≤s.heap.objs.size
 funs:s.heap.FunFrames base outer
 frf:∀b∈frs outer,H b=none
 hok:HOk P w H s.heap
 bare:AllBare s.gens
noncomputable def CE(outer:List Env)(P:Program)(w:World)(H:Hp)(s:Shared)(Q:VK)(u:Value)(s':Shared):Prop:=
 ∃v H',s'.os=s.os∧AllBare s'.gens∧Un (frs outer) [] H H' s.heap s'.heap∧HOk P w H' s'.heap∧RelV v u∧Q v H'
noncomputable def CR(CX:CXT)(outer:List Env)(P:Program)(w:World)(H:Hp)(s:Shared)(Q:VK)(E:XK)(r:Result)(s':Shared):Prop:=
 match r with
 | .ok (.ret u)=>CE outer P w H s Q u s'
 | .ok _=>False
 | .error e=>CX outer H s E e s'
structure FnOk (P:Program) (w:World) (K:Uv) (mg:Str→Option Value) (base:Heap) (CX:CXT) (k:Nat) (f:Addr) (fd:FuncData) (ps:List Str) (sp:Sp):Prop where
 len:∀vs H Q E,sp vs H Q E→vs.length=ps.length
 run:∀(A:Around)(outer:List Env)(s:Shared)(H:Hp)(args:Args)(us:List Value)(vs:List V)(Q:VK)(E:XK),Room k A→Env0 P w K mg base A outer s H→BindsTo s fd args (ps.zip us)→Vals vs us→sp vs H Q E→
  codeAny (model P w) A (.call (.ref f) args) (CR CX outer P w H s Q E) s
theorem FnOk.mono{P:Program}{w:World}{K:Uv}{mg:Str→Option Value}{base:Heap}{CX:CXT}{j k:Nat}{f:Addr}{fd:FuncData}{ps:List Str}{sp:Sp}(F:FnOk P w K mg base CX j f fd ps sp)(h:j≤k):
  FnOk P w K mg base CX k f fd ps sp:=⟨F.len,fun A outer s H args us vs Q E hr=>F.run A outer s H args us vs Q E (hr.mono h)⟩
theorem FnOk.imp{P:Program}{w:World}{K:Uv}{mg:Str→Option Value}{base:Heap}{CX:CXT}{k:Nat}{f:Addr}{fd:FuncData}{ps:List Str}{sp sp':Sp}(F:FnOk P w K mg base CX k f fd ps sp)
  (h:∀vs H Q E,sp' vs H Q E→sp vs H Q E):FnOk P w K mg base CX k f fd ps sp':=
 ⟨fun vs H Q E q=>F.len vs H Q E (h _ _ _ _ q),fun A outer s H args us vs Q E hr he hb hv hs=>F.run A outer s H args us vs Q E hr he hb hv (h _ _ _ _ hs)⟩
theorem Env0.make{P:Program}{w:World}{K:Uv}{mg:Str→Option Value}{base:Heap}{A:Around}{outer:List Env}{s:Shared}{H:Hp}(e:Env0 P w K mg base A outer s H)(C:Addr)(us:List Value)(kw:List (Str×Value)):
  Env0 P w K mg base (A.under (.builtin "type.__call__" ⟨.ref C::us,kw⟩)) outer s H:=⟨by first|exact e.frames|(simpa[Around.under,Code.envs,Code.isFrame,pushEnvs] using e.frames),e.mod,e.bs,e.bsz,e.funs,e.frf,e.hok,e.bare⟩
theorem Env0.in1{P:Program}{w:World}{K:Uv}{mg:Str→Option Value}{base:Heap}{A:Around}{outer:List Env}{s:Shared}{H:Hp}(e:Env0 P w K mg base A outer s H):
  Env0 P w K mg base A.in1 outer s H:=⟨e.frames,e.mod,e.bs,e.bsz,e.funs,e.frf,e.hok,e.bare⟩
section
variable {X:Cx} {pins:List (Addr×Obj)} {σ:St} {H:Hp} {s s':Shared}
theorem Inv.env0(I:Inv X pins σ H s):Env0 X.prog X.w X.K X.mg X.base X.A X.stack s H:=
 ⟨I.ok.frames,I.ok.mod,I.bs,UA I.ok.bsz I.sz,I.stack,I.stkFree,I.hok,I.bare⟩
theorem Inv.after{Q:VK}{u:Value}(I:Inv X pins σ H s)(h:CE X.stack X.prog X.w H s Q u s'):EP X pins σ Q u s':=by
 obtain⟨v,H',os,bare,un,hok,r,q⟩:=h
 obtain⟨hh,g,d,t,os'⟩:=s'
 obtain rfl:os'=s.os:=os
 exact⟨v,H',I.call (h':=hh) (g':=g) (d':=d) (t':=t) (ch:=[]) un hok bare (fun b z=>absurd z (by simp)),r,q⟩
end
noncomputable def tCall(sp:Sp)(dvs:List V)(E:XK)(t:TA):TE:=fun σ H Q=>t σ H fun vs H1=>sp (vs++dvs) H1 Q E
noncomputable def tMeth(C:Addr)(m:Str)(sp:Sp)(dvs:List V)(E:XK)(ta:TE)(t:TA):TE:=fun σ H Q=>ta σ H fun x H1=>∃a dx fs,x=.ref a∧H1 a=some (.ins C dx fs)∧fs.lookup m=none∧
 t σ H1 fun vs H2=>sp (x::(vs++dvs)) H2 Q E
noncomputable def tMake(C:Addr)(sp:Sp)(dvs:List V)(E:XK)(t:TA):TE:=fun σ H Q=>t σ H fun vs H1=>∀x dx,H1 x=none→H1 dx=none→dx≠x→
 sp (.ref x::(vs++dvs)) (upd (upd H1 dx (.own x)) x (.ins C dx [])) (fun v H2=>v=.non∧Q (.ref x) H2) E
noncomputable def Binds(K:Uv)(fd:FuncData)(ps:List Str)(ds:List Value):Prop:=
 ∀(s:Shared)(us:List Value),K.In s.heap→(us++ds).length=ps.length→BindsTo s fd ⟨us,[]⟩ (ps.zip (us++ds))
def Binds.all{K:Uv}{fd:FuncData}{ps:List Str}(h:∀us:List Value,us.length=ps.length→bindArgs fd ⟨us,[]⟩=pure (ps.zip us)):Binds K fd ps []:=fun s us _ hl=>by
 rw[NU] at hl⊢
 exact .of_eq (h us hl)
noncomputable def kc7(CX:CXT)(X:Cx)(E:XK):Prop:=∀(pins:List (Addr×Obj))(σ:St)(H:Hp)(s:Shared)(e:Value)(s':Shared),Inv X pins σ H s→CX X.stack H s E e s'→X.xe e s'
section
variable {X:Cx} {CX:CXT} {k:Nat} {f C:Addr} {fd:FuncData} {ps:List Str} {sp:Sp} {dvs:List V} {ds:List Value} {E:XK} {x m:Str} {p pos apos:Pos} {e o:Expr} {es:List Expr} {ta:TE} {t:TA}
theorem kgF{pins:List (Addr×Obj)}{σ:St}{H:Hp}{s:Shared}{Q:VK}{us:List Value}{vs:List V}(F:FnOk X.prog X.w X.K X.mg X.base CX k f fd ps sp)(hr:Room k X.A)(hb:Binds X.K fd ps ds)(hd:Vals dvs ds)(hx:kc7 CX X E)
  (I:Inv X pins σ H s) (r:Vals vs us) (h:sp (vs++dvs) H Q E):wpAny (model X.prog X.w) X.A (call (.ref f) us) (EP X pins σ Q) X.xe s:=by
 have r2:Vals (vs++dvs) (us++ds):=r.append hd
 have hl:(us++ds).length=ps.length:=by rw[←r2.length];exact F.len _ _ _ _ h
 refine wpAny_call (codeAny_mono (F.run X.A X.stack s H ⟨us,[]⟩ (us++ds) (vs++dvs) Q E hr I.env0 (hb s us I.kIn hl) r2 h) fun r s' hq=>?_)
 cases r with
 |error e=>exact hx pins σ H s e s' I hq
 |ok fl=>
  cases fl with
  |ret u=>exact I.after hq
  |next=>exact False.elim hq
  |brk=>exact False.elim hq
  |cont=>exact False.elim hq
theorem kh8(F:FnOk X.prog X.w X.K X.mg X.base CX k f fd ps sp)(hr:Room k X.A)(hg:Gl X x)(hm:X.mg x=some (.ref f))(hk:UO X.K (.ref f)=true)(hb:Binds X.K fd ps ds)(hd:Vals dvs ds)(hx:kc7 CX X E)
  (ha:PA X (e::es) t) (hdb:(x==("__debug__" :Str))=false:=by decide) (he:starEach (e::es) X.env=(false,eval e X.env)::starEach es X.env:=by rfl) (hpl:(backTo pos (starEach es X.env)).any (·.1)=false:=by rfl):
  PE X (.Call (.Name x p) (e::es) [] pos) (tCall sp dvs E t):=by
 intro pins s σ H Q I h
 refine wpAny_Call_Name_kw (ke2 I hg hm ?_ hdb)
 refine Nm (h₀:=X.base) I.ok.mod.kin hk (thn (ha pos pins s σ H _ I h) fun us s1 ⟨vs,H1,I1,r,q⟩=>⟨I1.kIn,?_⟩) he hpl
 exact kgF F hr hb hd hx I1 r q
theorem kf5{pl:Sem Bool}(he:PE X o ta)(c:Cls X.K C)(hm:Meth X.K C m f)(F:FnOk X.prog X.w X.K X.mg X.base CX k f fd ps sp)(hr:Room k X.A)(hb:Binds X.K fd ps ds)(hd:Vals dvs ds)(hx:kc7 CX X E)(ha:PA X (e::es) t)
  (hst:starEach (e::es) X.env=(false,eval e X.env)::starEach es X.env:=by rfl) (hpl:(backTo pos (starEach es X.env)).any (·.1)=false:=by rfl)
  (ht:eval (.Call (.Attribute o m apos) (e::es) [] pos) X.env=(do
   let ov ←eval o X.env
   standAt apos.atName
   let(f,first) ←holding [ov] (getMethod ov m pl)
   callWith pos f first (backTo pos (starEach (e::es) X.env)) (backToKw pos (keywordEach [] X.env))):=by rfl):
  PE X (.Call (.Attribute o m apos) (e::es) [] pos) (tMeth C m sp dvs E ta t):=by
 intro pins s σ H Q I h
 refine NV (pl:=pl) (thn (he pins s σ H _ I h) fun u s1 ⟨x,H1,I1,rx,a,dx,fs,ex,ea,l,q⟩=>?_) ht
 subst ex
 obtain rfl:u=Value.ref a:=rx
 refine keu I1 ea c hm l ?_
 refine Nm (first:=[.ref a]) (h₀:=X.base) I.ok.mod.kin hm.kp (thn (ha pos pins s1 σ H1 _ I1 q) fun us s2 ⟨vs,H2,I2,r,q2⟩=>⟨I2.kIn,?_⟩) hst hpl
 exact kgF (us:=.ref a::us) (vs:=.ref a::vs) F hr hb hd hx I2 (.cons rfl r) q2
theorem kjb{pl:Sem Bool}(he:PE X o ta)(c:Cls X.K C)(hm:Meth X.K C m f)(F:FnOk X.prog X.w X.K X.mg X.base CX k f fd ps sp)(hr:Room k X.A)(hb:Binds X.K fd ps ds)(hd:Vals dvs ds)(hx:kc7 CX X E)
  (ht:eval (.Call (.Attribute o m apos) [] [] pos) X.env=(do
   let ov ←eval o X.env
   standAt apos.atName
   let(f,first) ←holding [ov] (getMethod ov m pl)
   callWith pos f first (backTo pos (starEach [] X.env)) (backToKw pos (keywordEach [] X.env))):=by rfl):
  PE X (.Call (.Attribute o m apos) [] [] pos) (tMeth C m sp dvs E ta tNil):=by
 intro pins s σ H Q I h
 refine NV (pl:=pl) (thn (he pins s σ H _ I h) fun u s1 ⟨x,H1,I1,rx,a,dx,fs,ex,ea,l,q⟩=>?_) ht
 subst ex
 obtain rfl:u=Value.ref a:=rx
 refine keu I1 ea c hm l ?_
 exact Mh (first:=[.ref a]) I1.kIn hm.kp (kgF (us:=[.ref a]) (vs:=[.ref a]) F hr hb hd hx I1 (.cons rfl .nil) q)
structure Mk (K:Uv) (C f:Addr):Prop where
 makes:Jc K C=true
 init:Uy K (.ref C) "__init__"=some (some (.ref f))
 fn:Jh K (.ref f)=true
 kp:UO K (.ref C)=true
theorem kgE{pins:List (Addr×Obj)}{σ:St}{H:Hp}{s:Shared}{Q:VK}{us:List Value}{vs:List V}(M:Mk X.K C f)(F:FnOk X.prog X.w X.K X.mg X.base CX k f fd ps sp)(hr:Room (k+1) X.A)(hb:Binds X.K fd ps ds)(hd:Vals dvs ds)
  (hx:kc7 CX X E) (I:Inv X pins σ H s) (r:Vals vs us)
  (h:∀x dx,H x=none→H dx=none→dx≠x→sp (.ref x::(vs++dvs)) (upd (upd H dx (.own x)) x (.ins C dx [])) (fun v H2=>v=.non∧Q (.ref x) H2) E):
  wpAny (model X.prog X.w) X.A (call (.ref C) us) (EP X pins σ Q) X.xe s:=by
 have hq:=h (s.heap.objs.size+1) s.heap.objs.size (I.hok.fresh (J7 _)) (I.hok.fresh (Ux _)) (UU (NS _))
 have I2:=Inv.made (C:=C) I
 have r2:Vals (V.ref (s.heap.objs.size+1)::(vs++dvs)) (Value.ref (s.heap.objs.size+1)::(us++ds)):=.cons rfl (r.append hd)
 have hl:(Value.ref (s.heap.objs.size+1)::us++ds).length=ps.length:=by
  have e:=r2.length
  rw[F.len _ _ _ _ hq] at e
  exact e.symm
 refine wpAny_call (kjo (f:=f) I.kIn M.makes M.init (beq_iff_eq.mp M.fn) (codeAny_mono (F.run _ X.stack _ _ ⟨Value.ref (s.heap.objs.size+1)::us,[]⟩ (Value.ref (s.heap.objs.size+1)::(us++ds)) _ _ E (hr.make C us [])
  (I2.env0.make C us []) (hb _ (Value.ref (s.heap.objs.size+1)::us) I2.kIn hl) r2 hq) fun r s' hq'=>?_))
 cases r with
 |error e=>exact hx pins σ _ _ e s' I2 hq'
 | ok fl=>
  cases fl with
  |ret u=>
   obtain⟨v,H',I3,rv,ev,q3⟩:=I2.after hq'
   subst ev
   exact⟨rv,⟨V.ref (s.heap.objs.size+1),H',I3,rfl,q3⟩⟩
  |next=>exact False.elim hq'
  |brk=>exact False.elim hq'
  |cont=>exact False.elim hq'
theorem kbI(M:Mk X.K C f)(F:FnOk X.prog X.w X.K X.mg X.base CX k f fd ps sp)(hr:Room (k+1) X.A)(hg:Gl X x)(hm:X.mg x=some (.ref C))(hb:Binds X.K fd ps ds)(hd:Vals dvs ds)(hx:kc7 CX X E)
  (ha:PA X (e::es) t) (hdb:(x==("__debug__" :Str))=false:=by decide) (he:starEach (e::es) X.env=(false,eval e X.env)::starEach es X.env:=by rfl) (hpl:(backTo pos (starEach es X.env)).any (·.1)=false:=by rfl):
  PE X (.Call (.Name x p) (e::es) [] pos) (tMake C sp dvs E t):=by
 intro pins s σ H Q I h
 refine wpAny_Call_Name_kw (ke2 I hg hm ?_ hdb)
 refine Nm (h₀:=X.base) I.ok.mod.kin M.kp (thn (ha pos pins s σ H _ I h) fun us s1 ⟨vs,H1,I1,r,q⟩=>⟨I1.kIn,?_⟩) he hpl
 exact kgE M F hr hb hd hx I1 r q
theorem kjc(M:Mk X.K C f)(F:FnOk X.prog X.w X.K X.mg X.base CX k f fd ps sp)(hr:Room (k+1) X.A)(hg:Gl X x)(hm:X.mg x=some (.ref C))(hb:Binds X.K fd ps ds)(hd:Vals dvs ds)(hx:kc7 CX X E)
  (hdb:(x==("__debug__" :Str))=false:=by decide):PE X (.Call (.Name x p) [] [] pos) (tMake C sp dvs E tNil):=by
 intro pins s σ H Q I h
 refine wpAny_Call_Name_kw (ke2 I hg hm ?_ hdb)
 exact Mh I.kIn M.kp (kgE (us:=[]) M F hr hb hd hx I .nil h)
end
section
variable {X:Cx} {CX:CXT} {k:Nat} {f C:Addr} {fd:FuncData} {ps ks:List Str} {sp:Sp} {E:XK} {x m:Str} {p pos apos kpos:Pos} {e o:Expr} {es:List Expr} {kws:List Keyword} {te ta:TE} {t tk:TA} {nm:Option Str}
variable {g:List Value→List Value→List Value} {gV:List V→List V→List V}
end
structure kao (N P:List Str) (sc:Scope):Prop where
 kind:sc.kind=.function
 co:sc.isCoroutine=false
 gen:sc.isGenerator=false
 nd:N.Nodup
 pre:N.take P.length=P
 par:∀x∈P,sc.names.lookup x=some .local∨sc.names.lookup x=some .cell
 nofree:∀y∈sc.names,y.2≠.free
theorem kfJ{kindOf:Str→Option NameKind}{x:Str}:∀{binds:List (Str×Value)}{m:Str→Option Value},(∀v,(x,v)∉binds)→bindL kindOf binds m x=m x
 |[],_,_=>rfl
 | (n,v)::r,m,h=>by
  unfold bindL
  rw[kfJ fun w hw=>h w (UV _ hw)]
  split
  ·have:x≠n:=by rintro rfl;exact h v UW
   simp[this]
  ·rfl
theorem kfL{kindOf:Str→Option NameKind}{x:Str}:∀{binds:List (Str×Value)}{m:Str→Option Value},(∀v,(x,v)∉binds)→bindC kindOf binds m x=m x
 |[],_,_=>rfl
 | (n,v)::r,m,h=>by
  unfold bindC
  rw[kfL fun w hw=>h w (UV _ hw)]
  split
  ·rfl
  ·have:x≠n:=by rintro rfl;exact h v UW
   simp[this]
theorem kfK{kindOf:Str→Option NameKind}{x:Str}{v:Value}:∀{P:List Str}{vs:List Value}{i:Nat}{m:Str→Option Value},P.Nodup→P[i]?=some x→vs[i]?=some v→kindOf x=some .local→
  bindL kindOf (P.zip vs) m x=some v
 |[],_,_,_,_,h,_,_=>by simp at h
 |_::_,[],_,_,_,_,h,_=>by simp at h
 |p::P,w::vs,0,m,nd,h1,h2,hk=>by
  simp at h1 h2;subst h1;subst h2
  show bindL kindOf ((p,w)::P.zip vs) m p=_
  unfold bindL
  rw[kfJ fun v hv=>(Ji.mp nd).1 (JE hv).1,if_pos hk]
  simp
 |p::P,w::vs,i+1,m,nd,h1,h2,hk=>by
  show bindL kindOf ((p,w)::P.zip vs) m x=_
  unfold bindL
  exact kfK (i:=i) (Ji.mp nd).2 (by simpa using h1) (by simpa using h2) hk
theorem kfM{kindOf:Str→Option NameKind}{x:Str}{v:Value}:∀{P:List Str}{vs:List Value}{i:Nat}{m:Str→Option Value},P.Nodup→P[i]?=some x→vs[i]?=some v→kindOf x≠some .local→
  bindC kindOf (P.zip vs) m x=some v
 |[],_,_,_,_,h,_,_=>by simp at h
 |_::_,[],_,_,_,_,h,_=>by simp at h
 |p::P,w::vs,0,m,nd,h1,h2,hk=>by
  simp at h1 h2;subst h1;subst h2
  show bindC kindOf ((p,w)::P.zip vs) m p=_
  unfold bindC
  rw[kfL fun v hv=>(Ji.mp nd).1 (JE hv).1,if_neg hk]
  simp
 |p::P,w::vs,i+1,m,nd,h1,h2,hk=>by
  show bindC kindOf ((p,w)::P.zip vs) m x=_
  unfold bindC
  exact kfM (i:=i) (Ji.mp nd).2 (by simpa using h1) (by simpa using h2) hk
noncomputable def start(N:List Str)(vs:List V):St:=vs.map some++Uw (N.length-vs.length) none
noncomputable def cxOf(CX:CXT)(P:Program)(w:World)(K:Uv)(mg:Str→Option Value)(base:Heap)(N:List Str)(qual:Str)(scope:Scope)(f:Addr)(cd:Value)(A:Around)(outer:List Env)(s:Shared)(H:Hp)(E:XK):Cx where
 prog:=P
 w:=w
 K:=K
 mg:=mg
 base:=base
 A:=A.deeper (envOfC qual scope s.heap.objs.size f cd)
 N:=N
 s₀:=s
 H₀:=H
 env:=envOfC qual scope s.heap.objs.size f cd
 outer:=outer
 stack:=envOfC qual scope s.heap.objs.size f cd::outer
 ex:=[]
 calm:=true
 fn:=fun _=>true
 pn:=[]
 xe:=fun e s'=>wpAny (model P w) (A.deeper (envOfC qual scope s.heap.objs.size f cd)) (leaving (envOfC qual scope s.heap.objs.size f cd) e) (fun _ s''=>CX outer H s E e s'') (fun e' s''=>CX outer H s E e' s'') s'
def kdI{sc:Scope}{n:Nat}{x:Str}(h:sc.names.lookup x=some .cell):∃c,(cellsFrom n sc.names []).lookup x=some c:=by
 have q:=Mi sc.names n [] (.inl h)
 exact Option.isSome_iff_exists.mp q
theorem kiu{CX:CXT}{P:Program}{w:World}{K:Uv}{mg:Str→Option Value}{base:Heap}{N ps:List Str}{qual:Str}{scope:Scope}{f:Addr}{cd:Value}{A:Around}{outer:List Env}{s s1:Shared}{H:Hp}{E:XK}{us:List Value}{vs:List V}
  (S:kao N ps scope) (hd:A.handled=none) (e0:Env0 P w K mg base A outer s H) (hl:vs.length=ps.length) (r:Vals vs us)
  (x:InCallC s s.heap.objs.size (bindL (envOfC qual scope s.heap.objs.size f cd).kindOf (ps.zip us) fun _=>none) (cellsFrom (s.heap.objs.size+1) scope.names []) (bindC (envOfC qual scope s.heap.objs.size f cd).kindOf (ps.zip us) fun _=>none) s1):
  Inv (cxOf CX P w K mg base N qual scope f cd A outer s H E) [] (start N vs) H s1:=by
 have hpl:ps.length≤N.length:=by have:=congrArg Np S.pre;rw[UP] at this;omega
 obtain⟨h1,tk,rfl,hk⟩:=x.done
 have noA:∀b:Addr,b∉(cxOf CX P w K mg base N qual scope f cd A outer s H E).ex:=fun b z=>absurd (show b∈([]:List Addr) from z) (by simp)
 refine⟨⟨e0.mod,S.kind,rfl,rfl,Ux _,fun y z c h1 h2=>?_,fun y hy=>?_,fun y c _ h=>?_,fun _=>hd,Around.frames_deeper e0.frames, .inr ⟨rfl,rfl⟩,fun b z=>absurd z (noA b),e0.bs,e0.bsz,fun b _ _=>noA b,fun b z=>absurd z (noA b),e0.funs,e0.frf⟩,
  rfl,e0.bare,Un.kept hk,⟨_,x.toInCall.ns,fun i y v h1 h2 h3=>?_⟩,fun y c h=>⟨_,x.cell y c h⟩,e0.hok.fresh (Ux _),fun y c h=>?_,fun p hp=>absurd (show p∈([]:List (Addr×Obj)) from hp) (by simp),e0.hok.kept hk,?_⟩
 ·exact name_of_addr x.apart (PySem.mem_of_lookup h1) (PySem.mem_of_lookup h2)
 ·have hy:scope.names.lookup y=some .cell∨scope.names.lookup y=some .free:=hy
  rcases hy with hy|hy
  ·exact kdI hy
  ·exact absurd rfl (S.nofree _ (PySem.mem_of_lookup hy))
 ·exact UI (x.above y c (PySem.mem_of_lookup h))
 ·have hi:i<vs.length:=by
   unfold start at h2
   by_cases hi:i<vs.length
   ·exact hi
   ·rw[JW (by simpa using hi)] at h2
    rw[JQ] at h2
    split at h2 <;> cases h2
  have ha:vs[i]?=some v:=by
   unfold start at h2
   rw[J8 (by simpa using hi),UD] at h2
   cases e:vs[i]? with
   |none=>rw[e] at h2;cases h2
   |some a=>rw[e] at h2;cases h2;rfl
  obtain⟨u,hu,rv⟩:=r.get ha
  have hp:ps[i]?=some y:=by
   rw[←S.pre,Mj (by omega)];exact h1
  have ndP:ps.Nodup:=by rw[←S.pre];exact S.nd.sublist (List.take_sublist _ _)
  refine⟨u,rv,?_⟩
  rcases S.par y (UE hp) with k|k
  ·exact .inl ⟨k,kfK ndP hp hu k⟩
  ·obtain⟨c,e⟩:=kdI (n:=s.heap.objs.size+1) k
   refine .inr ⟨.inl k,c,e,?_⟩
   have q:=x.cell y c e
   rw[kfM ndP hp hu (by show scope.names.lookup y≠_;rw[k];decide)] at q
   exact q
 ·exact e0.hok.fresh (UI (x.above y c (PySem.mem_of_lookup h)))
 ·unfold start
  show _=N.length
  rw[UY,Uu,Jn]
  omega
theorem fn_of{CX:CXT}{P:Program}{w:World}{K:Uv}{mg:Str→Option Value}{base:Heap}{k:Nat}{f:Addr}{name qual:Str}{params:Arguments}{body:List Stmt}{scope:Scope}{dV kV doc pm cdv ct oc:Value}{an od:Option Addr}
  {osl:Array (Option Value)} {N ps:List Str} {sp:Sp} (lk:K.lookup f=some ⟨oc,od, .func (UM name qual params body scope dV kV doc pm an cdv ct),osl⟩) (hcd:U8 K cdv qual=true) (S:kao N ps scope)
  (len:∀vs H Q E,sp vs H Q E→vs.length=ps.length)
  (hbody:∀(A:Around)(outer:List Env)(s:Shared)(H:Hp)(vs:List V)(Q:VK)(E:XK),Room k (A.deeper (envOfC qual scope s.heap.objs.size f cdv))→sp vs H Q E→
   ∃t,PSs (cxOf CX P w K mg base N qual scope f cdv A outer s H E) body t∧t {nx:=fun _ H'=>Q .non H',rt:=Q} (start N vs) H):
  FnOk P w K mg base CX (k+1) f (UM name qual params body scope dV kV doc pm an cdv ct) ps sp:=by
 refine⟨len,fun A outer s H args us vs Q E hr e0 hb r hsp=>?_⟩
 have hl:=len _ _ _ _ hsp
 have KX:K.In s.heap:=e0.mod.kin.keeps fun b o e=>(e0.bs b o e).1
 have lim:s.heap.NoLimit:=e0.mod.nolimit.keeps fun b o e=>(e0.bs b o e).1
 have hkind:∀y∈ps.zip us,scope.names.lookup y.1=some .local∨(scope.names.lookup y.1=some .cell∧((cellsFrom (s.heap.objs.size+1) scope.names []).lookup y.1).isSome=true):=fun⟨n,v⟩ hy=>by
  rcases S.par n (JE hy).1 with q|q
  ·exact .inl q
  ·exact .inr ⟨q,Mi _ _ _ (.inl q)⟩
 refine codeAny_call_function hr.depth (KX _ _ lk) rfl S.co S.gen rfl (PySem.W.codeRec_of KX hcd) (hb _ _ _ _ ?_)
 refine wpAny_newFunctionEnv_cells S.kind hkind fun env he s1 x=>?_
 subst he
 refine⟨lim.keeps x.toInCall.keep,codeAny_func ?_⟩
 obtain⟨t,ht,hq⟩:=hbody A outer s H vs Q E (hr.deeper _) hsp
 have I:Inv (cxOf CX P w K mg base N qual scope f cdv A outer s H E) [] (start N vs) H s1:=kiu S hr.hd e0 hl r x
 refine wpAny_mono (ht [] s1 (start N vs) H _ I hq) (fun fl s' hs=>?_) fun e s' hs=>hs
 have fin:∀{σ':St}{H':Hp}{v:V}{u:Value},Inv (cxOf CX P w K mg base N qual scope f cdv A outer s H E) [] σ' H' s'→RelV v u→Q v H'→CE outer P w H s Q u s':=
  fun {σ' H' v u} J rv q=>⟨v,H',J.os,J.bare,J.base,J.hok,rv,q⟩
 cases fl with
 |ret u=>
  obtain⟨v,σ',H',J,rv,q⟩:=hs
  exact fin J rv q
 |next=>
  obtain⟨σ',H',J,q⟩:=hs
  exact fin (v:=V.non) (u:=Value.none) J rfl q
 |brk=>
  obtain⟨_,_,_,q⟩:=hs
  exact False.elim q
 |cont=>
  obtain⟨_,_,_,q⟩:=hs
  exact False.elim q
end L2
namespace L2
open PySem PySem.Spec PyProof.Rows
section
variable {X:Cx} {x:Str} {p pos:Pos} {e:Expr} {es:List Expr} {t:TA} {id T:String} {r:List V→Hp→VK→Prop}
noncomputable def tCB(r:List V→Hp→VK→Prop)(t:TA):TE:=fun σ H Q=>t σ H fun vs H1=>r vs H1 Q
theorem kat(hc:CallR X (.builtin id) r)(hg:Gl X x)(hm:X.mg x=none)(hv:bootBuiltins x=some (.builtin id))(ha:PA X (e::es) t)(hn:x≠"__name__":=by decide)(hdb:(x==("__debug__" :Str))=false:=by decide)
  (he:starEach (e::es) X.env=(false,eval e X.env)::starEach es X.env:=by rfl) (hpl:(backTo pos (starEach es X.env)).any (·.1)=false:=by rfl):PE X (.Call (.Name x p) (e::es) [] pos) (tCB r t):=by
 intro pins s σ H Q I h
 refine wpAny_Call_Name_kw (kcq I hg hm hv ?_ hn hdb)
 exact PyProof.Rows.callWith_builtin1 (thn (ha pos pins s σ H _ I h) fun us s1 ⟨vs,H1,I1,r1,q1⟩=>hc pins s1 σ H1 vs us Q I1 r1 q1) he hpl
theorem kbr(hc:CallR X (.type T) r)(hg:Gl X x)(hm:X.mg x=none)(hv:bootBuiltins x=some (.type T))(ha:PA X (e::es) t)(hn:x≠"__name__":=by decide)(hdb:(x==("__debug__" :Str))=false:=by decide)
  (he:starEach (e::es) X.env=(false,eval e X.env)::starEach es X.env:=by rfl) (hpl:(backTo pos (starEach es X.env)).any (·.1)=false:=by rfl):PE X (.Call (.Name x p) (e::es) [] pos) (tCB r t):=by
 intro pins s σ H Q I h
 refine wpAny_Call_Name_kw (kcq I hg hm hv ?_ hn hdb)
 exact PyProof.Rows.callWith_type1 (thn (ha pos pins s σ H _ I h) fun us s1 ⟨vs,H1,I1,r1,q1⟩=>hc pins s1 σ H1 vs us Q I1 r1 q1) he hpl
end
end L2
namespace HT
open PySem PyProof.Rows
section
open PySem.SeqAt
open PySem.AutoSeq1 (wpAny_loadPart')
open PySem.MeetsSeq PySem.MeetsSeq2 PySem.MeetsSeq3
end
section
variable {prog:Program} {w:World} {A:Around} {E:Value→Shared→Prop} {s:Shared}
noncomputable def sIx(n d:Nat):Option Int→Nat
 |none=>d
 |some v=>if v<0 then(v+(n:Int)).toNat else min v.toNat n
theorem sIx_none(n d:Nat):sIx n d none=d:=rfl
theorem sIx_nat(n d k:Nat):sIx n d (some (k:Int))=min k n:=by
 show(if(k:Int)<0 then((k:Int)+(n:Int)).toNat else min (k:Int).toNat n)=min k n
 rw[if_neg (by omega),Int.toNat_natCast]
end
end HT
namespace L2
open PySem PySem.Spec PyProof.Rows
noncomputable abbrev TO:=St→Hp→(Option Int→Hp→Prop)→Prop
noncomputable def PO(X:Cx)(e:Option Expr)(t:TO):Prop:=
 ∀(pins:List (Addr×Obj))(s:Shared)(σ:St)(H:Hp)(Q:Option Int→Hp→Prop),Inv X pins σ H s→t σ H Q→
  wpAny (model X.prog X.w) X.A (evalPart e X.env) (fun u s'=>∃o H',Inv X pins σ H' s'∧IsPart u o∧Q o H') X.xe s
noncomputable def kkq:TO:=fun _ H Q=>Q none H
noncomputable def tPart(t:TE):TO:=fun σ H Q=>t σ H fun x H1=>∃i,x=.int i∧Q (some i) H1
theorem intsAre_of{ns:List Int}:∀{us:List Value},Vals (ns.map V.int) us→IntsAre us ns:=by
 induction ns with
 |nil=>intro us r;rw[JX] at r;cases r;exact .nil
 | cons n ns ih=>
  intro us r
  rw[UK] at r
  cases r with
  |cons r1 r2=>
   obtain⟨t,e⟩:=r1
   subst e
   exact .cons n t (ih r2)
section
variable {X:Cx} {e:Expr} {te:TE} {lo hi:Option Expr} {tl th:TO} {pos p2:Pos}
theorem keR:PO X none kkq:=by
 intro pins s σ H Q I h
 rw[evalPart_none]
 exact wpAny_pure ⟨none,H,I, .none,h⟩
theorem kcn(h:PE X e te):PO X (some e) (tPart te):=by
 intro pins s σ H Q I hw
 rw[evalPart_some]
 refine thn (h pins s σ H _ I hw) fun u s1 ⟨x,H1,I1,r1,q1⟩=>?_
 obtain⟨i,rfl,q⟩:=q1
 obtain⟨t,rfl⟩:=r1
 exact⟨some i,H1,I1, .int i t,q⟩
noncomputable def SlR(X:Cx)(r:V→Option Int→Option Int→Hp→VK→Prop):Prop:=
 ∀(pins:List (Addr×Obj))(s:Shared)(σ:St)(H:Hp)(x:V)(v vl vu:Value)(lo hi:Option Int)(sl:Addr)(Q:VK),Inv X pins σ H s→RelV x v→s.heap.IsSliceOf sl vl vu .none→IsPart vl lo→IsPart vu hi→r x lo hi H Q→
  ∃T id,typeLookup (.type T) "__getitem__"=pure (some (.builtin id))∧s.TypeIs v T∧wpAny (model X.prog X.w) X.A (getItem v (.ref sl)) (EP X pins σ Q) X.xe s
theorem SlR.or{r r':V→Option Int→Option Int→Hp→VK→Prop}(h:SlR X r)(h':SlR X r'):SlR X (fun x lo hi H Q=>r x lo hi H Q∨r' x lo hi H Q):=by
 intro pins s σ H x v vl vu lo hi sl Q I rx hs pl pu q
 rcases q with q|q
 ·exact h pins s σ H x v vl vu lo hi sl Q I rx hs pl pu q
 ·exact h' pins s σ H x v vl vu lo hi sl Q I rx hs pl pu q
noncomputable def tSl(r:V→Option Int→Option Int→Hp→VK→Prop)(te:TE)(tl th:TO):TE:=fun σ H Q=>te σ H fun x H1=>tl σ H1 fun l H2=>th σ H2 fun u H3=>r x l u H3 Q
theorem kcy{r:V→Option Int→Option Int→Hp→VK→Prop}(hr:SlR X r)(he:PE X e te)(hl:PO X lo tl)(hu:PO X hi th):PE X (.Subscript e (.Slice lo hi none p2) pos) (tSl r te tl th):=by
 intro pins s σ H Q I h
 refine Subscript_ (thn (he pins s σ H _ I h) fun v s1 ⟨x,H1,I1,r1,q1⟩=>?_)
 refine wpAny_Slice (thn (hl pins s1 σ H1 _ I1 q1) fun vl s2 ⟨l,H2,I2,pl,q2⟩=>thn (hu pins s2 σ H2 _ I2 q2) fun vu s3 ⟨u,H3,I3,pu,q3⟩=>?_)
 rw[evalPart_none]
 refine wpAny_pure ?_
 have I4:Inv X pins σ H3 {s3 with heap:=s3.heap.push {cls:=.type "slice",data:=.fields #[vl,vu, .none]}}:=I3.kept (t':=s3.toks) fun b ob q=>Heap.get?_push_of_some _ q
 obtain⟨T,id,hT,ht,hg⟩:=hr pins {s3 with heap:=s3.heap.push {cls:=.type "slice",data:=.fields #[vl,vu, .none]}} σ H3 x v vl vu l u s3.heap.objs.size Q I4 r1 (Heap.IsSliceOf.new ..) pl pu q3
 show wpAny (model X.prog X.w) X.A (subscriptTail e (.Slice lo hi none p2) v (.ref s3.heap.objs.size)) (EP X pins σ Q) X.xe {s3 with heap:=s3.heap.push {cls:=.type "slice",data:=.fields #[vl,vu, .none]}}
 exact tail_any (ops:=[.ref s3.heap.objs.size,v]) ht hT hg (by with_unfolding_all rfl)
noncomputable def cutV(xs:List V)(lo hi:Option Int):List V:=(xs.drop (HT.sIx xs.length 0 lo)).take (HT.sIx xs.length xs.length hi-HT.sIx xs.length 0 lo)
theorem kgm(xs:List V)(lo hi:Option Int):(cutV xs lo hi).length≤xs.length:=by
 unfold cutV
 rw[UP,Nq]
 omega
end
end L2
namespace L2
open PySem PySem.Spec PyProof.Rows
noncomputable def ixN(n:Nat)(i:Int):Option Nat:=if 0≤i then(if i<n then some i.toNat else none) else if -(n:Int)≤i then some (i+n).toNat else none
noncomputable def atI{α:Type}(xs:List α)(i:Int):Option α:=(ixN xs.length i).bind fun j=>xs[j]?
def kis{n:Nat}{i:Int}{j:Nat}(h:ixN n i=some j):seqIndex? i n=some j∧j<n∧-(n:Int)≤i∧i<n:=by
 unfold ixN at h
 by_cases h0:0≤i
 ·rw[if_pos h0] at h
  by_cases h1:i<n
  ·rw[if_pos h1] at h
   have e:i.toNat=j:=Option.some.inj h
   exact⟨by rw[seqIndex_of h0 h1,e],by omega,by omega,h1⟩
  ·rw[if_neg h1] at h;cases h
 ·rw[if_neg h0] at h
  by_cases h1: -(n:Int)≤i
  ·rw[if_pos h1] at h
   have e:(i+n).toNat=j:=Option.some.inj h
   exact⟨by rw[seqIndex_neg (by omega) h1,e],by omega,h1,by omega⟩
  ·rw[if_neg h1] at h;cases h
theorem kiX{α:Type}{xs:List α}{i:Int}{v: α}(h:atI xs i=some v):∃j,seqIndex? i xs.length=some j∧xs[j]?=some v∧j<xs.length∧-(xs.length:Int)≤i∧i<xs.length:=by
 unfold atI at h
 cases e:ixN xs.length i with
 |none=>rw[e] at h;cases h
 |some j=>
  rw[e] at h
  obtain⟨h1,h2,h3,h4⟩:=kis e
  exact⟨j,h1,h,h2,h3,h4⟩
def kaQ{α:Type}{xs:List α}{j:Nat}{v: α}(h:xs[j]?=some v):atI xs (j:Int)=some v:=by
 have hj:j<xs.length:=(UG.mp h).1
 have e:ixN xs.length (j:Int)=some j:=by
  unfold ixN
  rw[if_pos (by omega),if_pos (by omega)];simp
 unfold atI;rw[e];exact h
noncomputable def kkY(b:Expr):Prop:=∀o i,subscripted b false o i=operate [o,i] (getItem o i)
noncomputable def IxR(X:Cx)(r:R2):Prop:=
 ∀(value slice:Expr)(pins:List (Addr×Obj))(s:Shared)(σ:St)(H:Hp)(x y:V)(v u:Value)(Q:VK),Inv X pins σ H s→RelV x v→RelV y u→r x y H Q→
  subscripted slice false v u=operate [v,u] (getItem v u)→wpAny (model X.prog X.w) X.A (subscriptTail value slice v u) (EP X pins σ Q) X.xe s
noncomputable def MtR(X:Cx)(id:String)(r:V→List V→Hp→VK→Prop):Prop:=
 ∀(pins:List (Addr×Obj))(s:Shared)(σ:St)(H:Hp)(x:V)(xs:List V)(v:Value)(us:List Value)(Q:VK),Inv X pins σ H s→RelV x v→Vals xs us→r x xs H Q→
  wpAny (model X.prog X.w) X.A (call (.builtin id) (v::us)) (EP X pins σ Q) X.xe s
section
variable {X:Cx} {a b:Expr} {ta tb:TE} {pos:Pos}
theorem IxR.or{r r':R2}(h:IxR X r)(h':IxR X r'):IxR X (fun x y H Q=>r x y H Q∨r' x y H Q):=by
 intro value slice pins s σ H x y v u Q I rx ry q hs
 rcases q with q|q
 ·exact h value slice pins s σ H x y v u Q I rx ry q hs
 ·exact h' value slice pins s σ H x y v u Q I rx ry q hs
theorem MtR.or{id:String}{r r':V→List V→Hp→VK→Prop}(h:MtR X id r)(h':MtR X id r'):MtR X id (fun x xs H Q=>r x xs H Q∨r' x xs H Q):=by
 intro pins s σ H x xs v us Q I rx rs q
 rcases q with q|q
 ·exact h pins s σ H x xs v us Q I rx rs q
 ·exact h' pins s σ H x xs v us Q I rx rs q
theorem pe_ix{r:R2}(hr:IxR X r)(ha:PE X a ta)(hb:PE X b tb)(hs:kkY b):PE X (.Subscript a b pos) (tOp r ta tb):=by
 intro pins s σ H Q I h
 exact Subscript_ (binT ha hb I h fun v u s2 x y H2 I2 rx ry q=>hr a b pins s2 σ H2 x y v u Q I2 rx ry q (hs _ _))
noncomputable def rIxL(K:Uv):R2:=fun x y H Q=>∃p xs i v,x=.ref p∧y=.int i∧SqL K H p xs∧atI xs i=some v∧Q v H
noncomputable def rIxT(K:Uv):R2:=fun x y H Q=>∃p xs i v,x=.ref p∧y=.int i∧SqT K H p xs∧atI xs i=some v∧Q v H
theorem kay:IxR X (rIxL X.K):=by
 intro value slice pins s σ H x y v u Q I rx ry h hs
 obtain⟨p,xs,i,z,rfl,rfl,hq,he,q⟩:=h
 cases rx
 obtain⟨t,rfl⟩:=ry
 obtain⟨its,r,pl,hz⟩:=I.list hq
 obtain⟨j,h1,h2,h3,h4,h5⟩:=kiX he
 obtain⟨w,ew,rw'⟩:=r.get h2
 have hl:=r.length
 have hn:=kgW
 have fin:EP X pins σ Q w s:=⟨z,H,I,rw',q⟩
 by_cases h0:0≤i
 ·have hj:i.toNat=j:=by
   rw[seqIndex_of h0 h5] at h1
   exact Option.some.inj h1
  exact item_listR pl.isList h0 (by omega) (by rw[hj];simpa using ew) fin hs
 ·have hj:(i+(its.toArray.size:Int)).toNat=j:=by
   rw[seqIndex_neg (by omega) h4] at h1
   rw[UQ,←hl]
   exact Option.some.inj h1
  exact subscriptTail_builtinR (x:=w) pl.isList.typeIs slot_list_getitem.lookup
   (wpAny_getItem_list_neg (Q:=fun r s'=>r=w∧EP X pins σ Q r s') pl.isList (by omega) (by rw[UQ] <;> omega) (by omega) (by rw[hj];simpa using ew) ⟨rfl,fin⟩) hs
theorem kaB:IxR X (rIxT X.K):=by
 intro value slice pins s σ H x y v u Q I rx ry h hs
 obtain⟨p,xs,i,z,rfl,rfl,hq,he,q⟩:=h
 cases rx
 obtain⟨t,rfl⟩:=ry
 obtain⟨its,r,pl,hz⟩:=I.tuple hq
 obtain⟨j,h1,h2,h3,h4,h5⟩:=kiX he
 obtain⟨w,ew,rw'⟩:=r.get h2
 have hl:=r.length
 have hn:=kgW
 have fin:EP X pins σ Q w s:=⟨z,H,I,rw',q⟩
 exact subscriptTail_builtinR (x:=w) pl.typeIs slot_tuple_getitem.lookup
  (getItem_tuple (j:=j) (Q:=fun r s'=>r=w∧EP X pins σ Q r s') pl (by omega) (by omega) (by rw[UQ,←hl];exact h1) (by simpa using ew) ⟨rfl,fin⟩) hs
theorem khi(its:List Value)(n j:Nat)(u:Value):Obj.mapSeq (·.setIfInBounds j u) {cls:=.type "list",data:=.seq its.toArray n}= {cls:=.type "list",data:=.seq (its.set j u).toArray n}:=by
 simp[Obj.mapSeq]
theorem Inv.lst{pins:List (Addr×Obj)}{σ:St}{H:Hp}{s:Shared}{p:Addr}{xs:List V}(I:Inv X pins σ H s)(h:H p=some (.lst xs)):
  ∃(its:List Value)(n:Nat),Vals xs its∧s.heap.get? p=some {cls:=.type "list",data:=.seq its.toArray n}∧xs.length≤sizeLine:=by
 obtain⟨z,its,n,r,e⟩:=I.hok p _ h
 exact⟨its,n,r,e,z⟩
theorem Inv.lstUpd{pins:List (Addr×Obj)}{σ:St}{H:Hp}{s:Shared}{p:Addr}{xs ys:List V}{its its':List Value}{n n':Nat}{f:Obj→Obj}(I:Inv X pins σ H s)(h:H p=some (.lst xs))
  (ho:s.heap.get? p=some {cls:=.type "list",data:=.seq its.toArray n}) (hf:f {cls:=.type "list",data:=.seq its.toArray n}= {cls:=.type "list",data:=.seq its'.toArray n'}) (r:Vals ys its') (hz:ys.length≤sizeLine) (t:Nat):
  Inv X pins σ (upd H p (.lst ys)) {s with heap:=s.heap.update p f,toks:=t}:=by
 have e:(s.heap.update p f).get? p=some {cls:=.type "list",data:=.seq its'.toArray n'}:=by
  rw[Heap.get?_update_self f ho (by rw[hf] <;> rfl),hf]
 refine I.write (x:=p) (e:=p) (by rw[h];trivial) (.inl rfl) (fun b u hb q=>(Heap.get?_update_other _ _ (Ne.symm hb)).trans q) ⟨_,e⟩ ?_
 exact⟨hz,its',n',r,e⟩
noncomputable def rSetL:V→V→V→Hp→(Hp→Prop)→Prop:=fun o i v H Q=>∃p xs k j,o=.ref p∧i=.int k∧H p=some (.lst xs)∧ixN xs.length k=some j∧Q (upd H p (.lst (xs.set j v)))
theorem set_list:PSet X rSetL:=by
 intro pins s σ H o i v ov iv u Q I ro ri rv h
 obtain⟨p,xs,k,j,rfl,rfl,hp,hj,q⟩:=h
 cases ro
 obtain⟨t,rfl⟩:=ri
 obtain⟨its,n,r,ho,hz⟩:=I.lst hp
 obtain⟨h1,h2,h3,h4⟩:=kis hj
 have hl:=r.length
 have hn:=kgW
 have I':Inv X pins σ (upd H p (.lst (xs.set j v))) {s with heap:=s.heap.update p (Obj.mapSeq (·.setIfInBounds j u))}:=
  I.lstUpd hp ho (khi its n j u) (r.set rv j) (by rw[NW];exact hz) s.toks
 by_cases h0:0≤k
 ·have hk:k.toNat=j:=by
   rw[seqIndex_of h0 h4] at h1
   exact Option.some.inj h1
  exact PySem.W.ki_setAt ho h0 (by omega) (by rw[UQ,←hl];exact h4) (by rw[hk];exact⟨_,I',q⟩)
 ·have hk:(k+(its.toArray.size:Int)).toNat=j:=by
   rw[seqIndex_neg (by omega) h3] at h1
   rw[UQ,←hl]
   exact Option.some.inj h1
  exact PySem.W.ki_setBack ho (by omega) (by rw[UQ,←hl];exact h3) (by omega) (by rw[hk];exact⟨_,I',q⟩)
theorem kfi(lo hi:Option Int)(n:Nat):(sliceBounds lo hi none n).1=((HT.sIx n 0 lo:Nat):Int)∧(sliceBounds lo hi none n).2.1=((HT.sIx n n hi:Nat):Int)∧(sliceBounds lo hi none n).2.2=1:=by
 refine⟨?_,?_,rfl⟩
 ·cases lo with
  |none=>simp[sliceBounds,HT.sIx]
  |some i=>
   simp only[sliceBounds,HT.sIx,NY,show(1:Int) > 0 by decide,if_true]
   by_cases h:i<0
   ·simp only[h,if_true] <;> omega
   ·simp only[h,if_false] <;> omega
 ·cases hi with
  |none=>simp[sliceBounds,HT.sIx]
  |some i=>
   simp only[sliceBounds,HT.sIx,NY,show(1:Int) > 0 by decide,if_true]
   by_cases h:i<0
   ·simp only[h,if_true] <;> omega
   ·simp only[h,if_false] <;> omega
theorem keH(its:List Value)(lo hi:Option Int):slicePick its.toArray lo hi none=((its.drop (HT.sIx its.length 0 lo)).take (HT.sIx its.length its.length hi-HT.sIx its.length 0 lo)).toArray:=by
 obtain⟨h1,h2,h3⟩:=kfi lo hi its.toArray.size
 unfold slicePick
 rw[h1,h2,h3]
 simp only[sliceRange_one,pick_run,UQ] <;> rfl
noncomputable def rSlL(K:Uv):V→Option Int→Option Int→Hp→VK→Prop:=fun x lo hi H Q=>∃a xs,x=.ref a∧SqL K H a xs∧∀p,H p=none→Q (.ref p) (upd H p (.lst (cutV xs lo hi)))
theorem kdb:SlR X (rSlL X.K):=by
 intro pins s σ H x v vl vu lo hi sl Q I rx hs pl pu h
 obtain⟨a,xs,rfl,hx,q⟩:=h
 cases rx
 obtain⟨its,r,ht,hz⟩:=I.list hx
 have hlen:=r.length
 refine⟨"list",_,slot_list_getitem.lookup,ht.isList.typeIs,?_⟩
 refine wpAny_getItem_list_slice ht.isList hs pl pu .none (by simp) ?_ (by rw[UQ] <;> omega)
 rw[keH,←hlen]
 refine⟨.ref s.heap.objs.size,_,I.laid (t':=s.toks) (o:=.lst (cutV xs lo hi)) (fun b ob q=>Heap.get?_push_of_some _ q) (Ux _) ?_,rfl,q _ (I.hok.fresh (Ux _))⟩
 exact⟨UA (kgm xs lo hi) hz,_,0,(r.drop (HT.sIx xs.length 0 lo)).take (HT.sIx xs.length xs.length hi-HT.sIx xs.length 0 lo),Heap.get?_push_size _ rfl⟩
noncomputable def flatV:V→Bool
 | .non=>true
 | .bl _=>true
 | .int _=>true
 | .str _=>true
 |_=>false
noncomputable def eqV:V→V→Bool
 | .non, .non=>true
 | .bl a, .bl b=>a==b
 | .bl a, .int b=>(if a then 1 else 0)==b
 | .int a, .bl b=>a==(if b then 1 else 0)
 | .int a, .int b=>a==b
 | .str a, .str b=>a==b
 |_,_=>false
theorem kkd{A:Around}{s:Shared}{y x:V}{u v:Value}(ry:RelV y u)(rx:RelV x v)(fy:flatV y=true)(fx:flatV x=true):SeqAt.EqAt A s u v (eqV y x):=by
 cases y with
 |non=>
  cases ry
  cases x with
  |non=>cases rx;exact SeqAt.EqAt.same _
  |bl b=>cases rx;exact SeqAt.EqAt.none_bool b
  |int b=>obtain⟨t,rfl⟩:=rx;exact SeqAt.EqAt.none_int b t
  |str b=>obtain⟨t,rfl⟩:=rx;exact SeqAt.EqAt.none_str b t
  |_=>exact absurd (show false=true from fx) UB
 |bl a=>
  cases ry
  cases x with
  |non=>cases rx;exact SeqAt.EqAt.bool_none a
  |bl b=>cases rx;exact SeqAt.EqAt.bool_bool a b
  |int b=>obtain⟨t,rfl⟩:=rx;exact SeqAt.EqAt.bool_int a b t
  |str b=>obtain⟨t,rfl⟩:=rx;exact SeqAt.EqAt.bool_str a b t
  |_=>exact absurd (show false=true from fx) UB
 |int a=>
  obtain⟨t',rfl⟩:=ry
  cases x with
  |non=>cases rx;exact SeqAt.EqAt.int_none a t'
  |bl b=>cases rx;exact SeqAt.EqAt.int_bool a t' b
  |int b=>obtain⟨t,rfl⟩:=rx;exact SeqAt.EqAt.int_int a t' b t
  |str b=>obtain⟨t,rfl⟩:=rx;exact SeqAt.EqAt.int_str a t' b t
  |_=>exact absurd (show false=true from fx) UB
 |str a=>
  obtain⟨t',rfl⟩:=ry
  cases x with
  |non=>cases rx;exact SeqAt.EqAt.str_none a t'
  |bl b=>cases rx;exact SeqAt.EqAt.str_bool a t' b
  |int b=>obtain⟨t,rfl⟩:=rx;exact SeqAt.EqAt.str_int a t' b t
  |str b=>obtain⟨t,rfl⟩:=rx;exact SeqAt.EqAt.str_str a t' b t
  |_=>exact absurd (show false=true from fx) UB
 |_=>exact absurd (show false=true from fy) UB
noncomputable def eqU(x:V)(u:Value):Bool:=match u with
 | .none=>eqV .non x
 | .bool b=>eqV (.bl b) x
 | .int i _=>eqV (.int i) x
 | .str z _=>eqV (.str z) x
 |_=>false
theorem kkc{x y:V}{u:Value}(r:RelV y u)(f:flatV y=true):eqU x u=eqV y x:=by
 cases y with
 |non=>cases r;rfl
 |bl b=>cases r;rfl
 |int i=>obtain⟨t,rfl⟩:=r;rfl
 |str z=>obtain⟨t,rfl⟩:=r;rfl
 |_=>exact absurd (show false=true from f) UB
theorem kec{x:V}:∀{xs:List V}{us:List Value},Vals xs us→xs.all flatV=true→us.any (eqU x)=xs.any fun y=>eqV y x
 |_,_, .nil,_=>rfl
 |y::xs,u::us, .cons r t,f=>by
  rw[NZ,JR] at f
  rw[Jo,Jo,kkc r f.1,kec t f.2]
theorem kcZ{A:Around}{s:Shared}{x:V}{v:Value}(rx:RelV x v)(fx:flatV x=true):∀{xs:List V}{us:List Value},Vals xs us→xs.all flatV=true→∀u∈us,SeqAt.EqAt A s u v (eqU x u)
 |_,_, .nil,_=>fun u hu=>by cases hu
 |y::xs,u::us, .cons r t,f=>fun u' hu=>by
  rw[NZ,JR] at f
  rcases UJ.mp hu with rfl|hu
  ·rw[kkc r f.1];exact kkd r rx f.1 fx
  ·exact kcZ rx fx t f.2 u' hu
noncomputable def inV(x:V)(xs:List V):Bool:=xs.any fun y=>eqV y x
noncomputable def rIn(K:Uv)(neg:Bool):R2:=fun x y H Q=>∃p xs,y=.ref p∧(SqL K H p xs∨SqT K H p xs)∧flatV x=true∧xs.all flatV=true∧Q (.bl (if neg then !inV x xs else inV x xs)) H
theorem kbK:OpR X (compareOp .In) (rIn X.K false):=by
 intro pins s σ H x y v u Q I rx ry h
 obtain⟨p,xs,rfl,hq,fx,fs,q⟩:=h
 cases ry
 rcases hq with hq|hq
 ·obtain⟨its,r,pl,hz⟩:=I.list hq
  refine SeqAt.in_listAt (eqU x) pl.isList (fun w hw=>kcZ rx fx r fs w (by simpa using hw)) ⟨.bl _,H,I,rfl,?_⟩
  rw[show its.toArray.any (eqU x)=its.any (eqU x) by simp,kec r fs]
  exact q
 ·obtain⟨its,r,pl,hz⟩:=I.tuple hq
  refine SeqAt.in_tupleAt (eqU x) pl (fun w hw=>kcZ rx fx r fs w (by simpa using hw)) ⟨.bl _,H,I,rfl,?_⟩
  rw[show its.toArray.any (eqU x)=its.any (eqU x) by simp,kec r fs]
  exact q
theorem kfr:OpR X (compareOp .NotIn) (rIn X.K true):=by
 intro pins s σ H x y v u Q I rx ry h
 obtain⟨p,xs,rfl,hq,fx,fs,q⟩:=h
 cases ry
 rcases hq with hq|hq
 ·obtain⟨its,r,pl,hz⟩:=I.list hq
  refine SeqAt.notIn_listAt (eqU x) pl.isList (fun w hw=>kcZ rx fx r fs w (by simpa using hw)) ⟨.bl _,H,I,rfl,?_⟩
  rw[show its.toArray.any (eqU x)=its.any (eqU x) by simp,kec r fs]
  exact q
 ·obtain⟨its,r,pl,hz⟩:=I.tuple hq
  refine SeqAt.notIn_tupleAt (eqU x) pl (fun w hw=>kcZ rx fx r fs w (by simpa using hw)) ⟨.bl _,H,I,rfl,?_⟩
  rw[show its.toArray.any (eqU x)=its.any (eqU x) by simp,kec r fs]
  exact q
theorem kaJ:CallR X (.builtin "len") (fun xs H Q=>∃p ys,xs=[.ref p]∧(SqL X.K H p ys∨SqT X.K H p ys)∧Q (.int ys.length) H):=by
 intro pins s σ H xs us Q I r h
 obtain⟨p,ys,rfl,hq,q⟩:=h
 obtain⟨u,rfl,rx⟩:=vals1 r
 cases rx
 have hn:=kgW
 rcases hq with hq|hq
 ·obtain⟨its,r',pl,hz⟩:=I.list hq
  have hlen:=r'.length
  exact Calls.call_len_list pl.isList (by simp only[UQ] <;> omega) ⟨.int ys.length,H,I.tok _,⟨s.toks+1,by rw[UQ,hlen]⟩,q⟩
 ·obtain⟨its,r',pl,hz⟩:=I.tuple hq
  have hlen:=r'.length
  exact len_tuple pl (by simp only[UQ] <;> omega) ⟨.int ys.length,H,I.tok _,⟨s.toks+1,by rw[UQ,hlen]⟩,q⟩
theorem CallR.or{f:Value}{r r':List V→Hp→VK→Prop}(h:CallR X f r)(h':CallR X f r'):CallR X f (fun xs H Q=>r xs H Q∨r' xs H Q):=by
 intro pins s σ H xs us Q I rs q
 rcases q with q|q
 ·exact h pins s σ H xs us Q I rs q
 ·exact h' pins s σ H xs us Q I rs q
theorem ka5:CallR X (.type "list") (fun xs H Q=>∃p ys,xs=[.ref p]∧(SqL X.K H p ys∨SqT X.K H p ys)∧∀l,H l=none→Q (.ref l) (upd H l (.lst ys))):=by
 intro pins s σ H xs us Q I r h
 obtain⟨p,ys,rfl,hq,q⟩:=h
 obtain⟨u,rfl,rx⟩:=vals1 r
 cases rx
 have fin:∀(its:List Value),Vals ys its→ys.length≤sizeLine→∀(h':Heap)(c':Nat),(∀b o',s.heap.get? b=some o'→h'.get? b=some o')→
   h'.get? s.heap.objs.size=some {cls:=.type "list",dict:=none,data:=.seq its.toArray c',slots:=#[]}→EP X pins σ Q (.ref s.heap.objs.size) {s with heap:=h'}:=fun its r' hz h' c' kp e=>
  ⟨.ref s.heap.objs.size,_,I.laid (t':=s.toks) kp (Ux _) (show ObjOk X.prog X.w _ h' _ (.lst ys) from⟨hz,its,c',r',e⟩),rfl,q _ (I.hok.fresh (Ux _))⟩
 rcases hq with hq|hq
 ·obtain⟨its,r',pl,hz⟩:=I.list hq
  have hlen:=r'.length
  obtain⟨o,ho,hc,n,hd⟩:=pl.isList
  exact call_list_seq p (.inl rfl) ho hc hd (fun h' c' kp e=>fin its r' hz h' c' kp e) (by simp only[UQ] <;> omega)
 ·obtain⟨its,r',pl,hz⟩:=I.tuple hq
  have hlen:=r'.length
  obtain⟨o,ho,hc,n,hd⟩:=pl
  exact call_list_seq p (.inr rfl) ho hc hd (fun h' c' kp e=>fin its r' hz h' c' kp e) (by simp only[UQ] <;> omega)
noncomputable def tyV(K:Uv)(T:String)(x:V)(H:Hp):Prop:=match x with
 | .str _=>T="str"
 | .int _=>T="int"
 | .ref p=>(T="list"∧∃xs,SqL K H p xs)∨(T="tuple"∧∃o,K.lookup p=some o∧o.cls=.type "tuple"∧o.dict=none)∨
   (T="dict"∧((∃kvs,H p=some (.dK kvs))∨∃kvs,H p=some (.dT kvs)))∨(T="set"∧∃S n,H p=some (.set S n))
 |_=>False
theorem kjO{pins:List (Addr×Obj)}{σ:St}{H:Hp}{s:Shared}{T:String}{x:V}{v:Value}(I:Inv X pins σ H s)(r:RelV x v)(ty:tyV X.K T x H):
  s.TypeIs v T∧∀a,v=.ref a→∃ob,s.heap.get? a=some ob∧ob.dict=none:=by
 cases x with
 |str z=>
  obtain⟨t,rfl⟩:=r
  cases(show T="str" from ty)
  exact⟨typeIs_str s z t,fun _ e=>nomatch e⟩
 |int i=>
  obtain⟨t,rfl⟩:=r
  cases(show T="int" from ty)
  exact⟨typeIs_int s i t,fun _ e=>nomatch e⟩
 | ref p=>
  cases r
  rcases ty with⟨rfl,xs,hq⟩|⟨rfl,o,hk,hc,hd⟩|⟨rfl,hk⟩|⟨rfl,S,n,hk⟩
  ·obtain⟨its,_,pl,_⟩:=I.list hq
   refine⟨pl.isList.typeIs,fun a e=>?_⟩
   cases e
   obtain⟨o,n,e,c,hd,_⟩:=pl
   exact⟨o,e,hd⟩
  ·refine⟨⟨o,I.kIn p o hk,hc⟩,fun a e=>?_⟩
   cases e
   exact⟨o,I.kIn _ o hk,hd⟩
  ·have z:∃o,s.heap.get? p=some o∧o.ExactDict:=by
    rcases hk with⟨kvs,hk⟩|⟨kvs,hk⟩
    ·obtain⟨_,_,_,_,o,_,_,e,ex,_⟩:=I.hok p _ hk
     exact⟨o,e,ex⟩
    ·obtain⟨_,_,_,_,o,_,_,e,ex,_⟩:=I.hok p _ hk
     exact⟨o,e,ex⟩
   obtain⟨o,e,ex⟩:=z
   refine⟨⟨o,e,ex.1⟩,fun a e2=>?_⟩
   cases e2
   exact⟨o,e,ex.2.1⟩
  ·obtain⟨o,_,_,_,e,ex,_⟩:=I.hok p _ hk
   refine⟨⟨o,e,ex.1⟩,fun a e2=>?_⟩
   cases e2
   exact⟨o,e,ex.2.1⟩
 |_=>exact False.elim ty
noncomputable def tBM(K:Uv)(T:String)(r:V→List V→Hp→VK→Prop)(to:TE)(t:TA):TE:=fun σ H Q=>to σ H fun x H1=>tyV K T x H1∧t σ H1 fun xs H2=>r x xs H2 Q
variable {o e:Expr} {es:List Expr} {to:TE} {t:TA} {name:Str} {apos cpos:Pos} {T id:String} {r:V→List V→Hp→VK→Prop}
theorem pe_bm(pa:PlainAttrs T)(slot:Slot T name id)(hty:typeOf (.builtin id)=pure (.type "method_descriptor"))(hm:MtR X id r)(ho:PE X o to)(ha:PA X (e::es) t)
  (hbase:attributeBase o name X.env (eval o X.env)=eval o X.env:=by rfl)
  (hfew:((backTo cpos (starEach (e::es) X.env)).all (fun x=>!x.1)&&(backToKw cpos (keywordEach [] X.env)).all (fun x=>x.1.isSome)
   &&decide ((e::es).length+([]:List Keyword).length+(if([]:List Keyword).isEmpty then 0 else 1)<30))=true:=by rfl)
  (hline:(apos.endLine==cpos.line)=true:=by rfl) (hs:starEach (e::es) X.env=(false,eval e X.env)::starEach es X.env:=by rfl) (hplain:(backTo cpos (starEach es X.env)).any (·.1)=false:=by rfl):
  PE X (.Call (.Attribute o name apos) (e::es) [] cpos) (tBM X.K T r to t):=by
 intro pins s σ H Q I h
 refine wpAny_Call_method_late hbase hfew hline rfl (thn (ho pins s σ H _ I h) fun v s1 ⟨x,H1,I1,r1,ty,q1⟩=>?_)
 obtain⟨h1,h2⟩:=kjO I1 r1 ty
 refine⟨T,id,pa,slot,hty,h1,h2,?_⟩
 have hA:=ha cpos pins s1 σ H1 _ I1 q1
 rw[hs] at hA⊢
 refine Calls.callWith_builtin (by show(false||(backTo cpos (starEach es X.env)).any (·.1))=false;rw[hplain] <;> rfl) (Calls.evalArgs_plain ?_)
 exact thn hA fun us s2 ⟨vs,H2,I2,r2,q2⟩=>hm pins s2 σ H2 x vs v us Q I2 r1 r2 q2
end
end L2
namespace L2
open PySem PySem.Spec PyProof.Rows
noncomputable def MtM(X:Cx)(id:String)(r:V→List V→Hp→VK→Prop):Prop:=
 ∀(pins:List (Addr×Obj))(s:Shared)(σ:St)(H:Hp)(x:V)(xs:List V)(v:Value)(us:List Value)(Q:VK),Inv X pins σ H s→RelV x v→Vals xs us→r x xs H Q→
  wpAny (model X.prog X.w) X.A (call (.builtin id) (v::us)) (EP X pins σ Q) X.xe s
theorem Vals.one:∀{x:V}{us:List Value},Vals [x] us→∃u,us=[u]∧RelV x u
 |_,_, .cons r .nil=>⟨_,rfl,r⟩
theorem Vals.two:∀{x y:V}{us:List Value},Vals [x,y] us→∃u v,us=[u,v]∧RelV x u∧RelV y v
 |_,_,_, .cons r (.cons q .nil)=>⟨_,_,rfl,r,q⟩
theorem Vals.zero:∀{us:List Value},Vals [] us→us=[]
 |_, .nil=>rfl
theorem Vals.dropLast{xs:List V}{us:List Value}(h:Vals xs us):Vals xs.dropLast us.dropLast:=by
 induction h with
 |nil=>exact .nil
 |cons r t ih=>
  cases t with
  |nil=>exact .nil
  |cons q t'=>exact .cons r ih
theorem Vals.reverse{xs:List V}{us:List Value}(h:Vals xs us):Vals xs.reverse us.reverse:=by
 induction h with
 |nil=>exact .nil
 |cons r t ih=>rw[Nr,Nr];exact Vals.append ih (.cons r .nil)
theorem Vals.rep{xs:List V}{us:List Value}(h:Vals xs us):∀k:Nat,Vals (Uw k xs).flatten (Uw k us).flatten
 |0=>.nil
 |k+1=>by
  rw[JF,JF,U1,U1]
  exact Vals.append h (Vals.rep h k)
theorem foldl_rep(its:List Value):∀(k:Nat)(acc:List Value),
  Nt (fun x1 x2=>x1++x2) acc.toArray (Uw k its.toArray)=(acc++(Uw k its).flatten).toArray
 |0,acc=>by simp
 | k+1,acc=>by
  have e:acc.toArray++its.toArray=(acc++its).toArray:=by simp
  have e2:(acc++its)++(Uw k its).flatten=acc++(Uw (k+1) its).flatten:=by
   rw[JF,U1,JG]
  rw[←e2,←foldl_rep its k (acc++its),←e,JF,List.foldl_cons]
section
variable {X:Cx} {pins:List (Addr×Obj)} {σ:St} {H:Hp} {s:Shared} {l b:Addr} {xs ys zs:List V}
theorem Inv.lset{its its':List Value}{n:Nat}{f:Array Value→Array Value}{t':Nat}(I:Inv X pins σ H s)(hH:H l=some (.lst xs))
  (e:s.heap.get? l=some {cls:=.type "list",data:=.seq its.toArray n}) (hf:f its.toArray=its'.toArray) (hv:Vals ys its') (hz:ys.length≤sizeLine):
  Inv X pins σ (upd H l (.lst ys)) {s with heap:=s.heap.update l (Obj.mapSeq f),toks:=t'}:=by
 have q:=PySem.IsL.update e f
 rw[hf] at q
 refine I.write (x:=l) (e:=l) (by rw[hH];exact trivial) (.inl rfl) (fun b' u hb hu=>(Heap.get?_update_other s.heap (Obj.mapSeq f) (Ne.symm hb)).trans hu) ⟨_,q⟩ ?_
 exact⟨hz,its',_,hv,q⟩
theorem Inv.lnew{its:List Value}{t':Nat}(I:Inv X pins σ H s)(hv:Vals ys its)(hz:ys.length≤sizeLine):
  Inv X pins σ (upd H s.heap.objs.size (.lst ys)) {s with heap:=s.heap.push {cls:=.type "list",data:=.seq its.toArray},toks:=t'}:=
 I.laid (fun _ _ q=>Heap.get?_push_of_some _ q) (Ux _) ⟨hz,its,0,hv,Heap.get?_push_size _ rfl⟩
theorem Inv.fresh(I:Inv X pins σ H s):H s.heap.objs.size=none:=I.hok.fresh (Ux _)
theorem Inv.lstM(I:Inv X pins σ H s)(hH:H l=some (.lst xs)):xs.length≤sizeLine∧∃(its:List Value)(n:Nat),Vals xs its∧xs.length=its.length∧s.heap.get? l=some {cls:=.type "list",data:=.seq its.toArray n}:=by
 obtain⟨z,its,n,r,e⟩:=I.hok l _ hH
 exact⟨z,its,n,r,r.length,e⟩
theorem kgR{n:Nat}(h:n≤sizeLine):Builtin.List.listTooLong n=false:=by
 unfold Builtin.List.listTooLong
 exact decide_eq_false (by omega)
end
section
variable {X:Cx}
noncomputable def kkx:V→List V→Hp→VK→Prop:=fun x vs H Q=>∃l xs y,x=.ref l∧vs=[y]∧H l=some (.lst xs)∧xs.length<sizeLine∧Q .non (upd H l (.lst (xs++[y])))
theorem ka4:MtM X "list.append" kkx:=by
 intro pins s σ H x vs v us Q I rx rv h
 obtain⟨l,xs,y,rfl,rfl,hH,hz,q⟩:=h
 cases rx
 obtain⟨u,rfl,ru⟩:=rv.one
 obtain⟨z,its,n,r,hl,e⟩:=I.lstM hH
 refine call_meets F.slot_list_append ⟨_,e,rfl⟩ F.entry_list_append (F.args_list_append_2 _ _) (PySem.list_append l its.toArray n u (by rw[UQ];omega)) ⟨e,?_⟩
 refine⟨.non,_,I.lset (its':=its++[u]) hH e (by simp) (r.append (.cons ru .nil)) ?_,rfl,q⟩
 rw[UY,Nu]
 omega
noncomputable def kkw:V→List V→Hp→VK→Prop:=fun x vs H Q=>∃l b xs zs,x=.ref l∧vs=[.ref b]∧H l=some (.lst xs)∧H b=some (.lst zs)∧xs.length+zs.length≤sizeLine∧Q .non (upd H l (.lst (xs++zs)))
theorem kfA:MtM X "list.extend" kkw:=by
 intro pins s σ H x vs v us Q I rx rv h
 obtain⟨l,b,xs,zs,rfl,rfl,hH,hB,hz,q⟩:=h
 cases rx
 obtain⟨u,rfl,ru⟩:=rv.one
 cases ru
 obtain⟨z,its,n,r,hl,e⟩:=I.lstM hH
 obtain⟨z2,its2,n2,r2,hl2,e2⟩:=I.lstM hB
 have hsz:its.toArray.size+its2.toArray.size≤sizeLine:=by rw[UQ,UQ];omega
 have hlong:¬(!its.toArray.isEmpty&&Builtin.List.listTooLong (its.toArray.size+its2.toArray.size))=true:=by
  rw[kgR hsz,N1]
  exact UB
 refine call_meets F.slot_list_extend ⟨_,e,rfl⟩ F.entry_list_extend (F.args_list_extend_2 _ _)
  (AutoSeq1.list_extend_list_list_0 l its.toArray n b its2.toArray n2 hlong (by rw[UQ];omega) (by omega)) ⟨e,e2,?_⟩
 refine⟨.non,_,I.lset (its':=its++its2) hH e (by simp) (r.append r2) ?_,rfl,q⟩
 rw[UY]
 omega
noncomputable def rCat:R2:=fun x y H Q=>∃l b xs zs,x=.ref l∧y=.ref b∧H l=some (.lst xs)∧H b=some (.lst zs)∧xs.length+zs.length≤sizeLine∧∀p,H p=none→Q (.ref p) (upd H p (.lst (xs++zs)))
theorem kj5:OpR X (binaryOp .Add) rCat:=by
 intro pins s σ H x y v u Q I rx ry h
 obtain⟨l,b,xs,zs,rfl,rfl,hH,hB,hz,q⟩:=h
 cases rx
 cases ry
 obtain⟨z,its,n,r,hl,e⟩:=I.lstM hH
 obtain⟨z2,its2,n2,r2,hl2,e2⟩:=I.lstM hB
 refine PySem.P.add_list e e2 ?_ (by rw[UQ,UQ];omega)
 have ea:its.toArray++its2.toArray=(its++its2).toArray:=by simp
 rw[ea]
 exact⟨.ref _,_,I.lnew (t':=s.toks) (r.append r2) (by rw[UY];omega),rfl,q _ I.fresh⟩
noncomputable def rRep:R2:=fun x y H Q=>∃l k xs,x=.ref l∧y=.int k∧H l=some (.lst xs)∧-(2 ^ 63)≤k∧k<2 ^ 63∧xs.length*k.toNat≤sizeLine∧
 ∀p,H p=none→Q (.ref p) (upd H p (.lst (Uw k.toNat xs).flatten))
theorem len_rep{α:Type}(xs:List α)(k:Nat):(Uw k xs).flatten.length=k*xs.length:=by
 induction k with
 |zero=>simp
 |succ k ih=>rw[JF,U1,UY,ih,Nat.succ_mul,Nat.add_comm]
theorem kic:OpR X (binaryOp .Mult) rRep:=by
 intro pins s σ H x y v u Q I rx ry h
 obtain⟨l,k,xs,rfl,rfl,hH,h1,h2,hz,q⟩:=h
 cases rx
 obtain⟨t,rfl⟩:=ry
 obtain⟨z,its,n,r,hl,e⟩:=I.lstM hH
 have hlen:its.toArray.size*k.toNat≤sizeLine:=by rw[UQ,←hl];exact hz
 have hcap:¬its.toArray.size*k.toNat > (2 ^ 63-1)/8:=by
  have:(sizeLine:Nat)≤(2 ^ 63-1)/8:=by decide
  omega
 have hfit:¬(!Builtin.List.listFitsIndex k)=true:=by
  rw[fitsIndex_both h1 h2]
  exact UB
 have hlong:¬Builtin.List.listTooLong (its.toArray.size*k.toNat)=true:=by
  rw[kgR hlen]
  exact UB
 have hnew:Nt (fun x1 x2=>x1++x2) #[] (Uw (if its.toArray.isEmpty=true then 0 else k.toNat) its.toArray)=(Uw k.toNat its).flatten.toArray:=by
  have f0:∀m:Nat,Nt (fun x1 x2=>x1++x2) #[] (Uw m its.toArray)=(Uw m its).flatten.toArray:=fun m=>by
   have:=foldl_rep its m []
   rw[Nv] at this
   exact this
  rw[f0]
  cases its with
  |nil=>simp
  |cons a r'=>rw[if_neg (by simp)]
 refine wpAny_binaryOp_repeat_ref (T:="list") (U:="int") (by decide) ⟨_,e,rfl⟩ (fun s'=>typeIs_int s' k t) noFill_list_mul F.fills_int_mul F.slot_int_rmul repeat_list F.slot_int_index.lookup
  (call_meets F.slot_int_rmul (typeIs_int s k t) F.entry_int_rmul (F.args_int_rmul_2 _ _) (int___rmul___int_list k t l its.toArray n)
   ⟨e,rfl,⟨_,e,rfl⟩,call_meets F.slot_list_mul ⟨_,e,rfl⟩ F.entry_list_mul (F.args_list_mul_2 _ _) (AutoListH.list___mul___list_int_3 l its.toArray n k t hfit hcap hlong) ⟨e,?_⟩⟩)
 rw[hnew]
 exact⟨.ref _,_,I.lnew (t':=s.toks) (r.rep k.toNat) (by rw[len_rep,Nat.mul_comm];exact hz),rfl,q _ I.fresh⟩
end
section
variable {prog:Program} {w:World} {A:Around} {E:Value→Shared→Prop} {s:Shared}
set_option maxRecDepth 100000 in
end
section
variable {X:Cx}
end
end L2
namespace Att
open PySem PySem.W PySem.Calls PyProof.Rows
theorem kd6{P:Params}{h:Heap}:∀(ns:List Int)(vs:List Value),WellAll P h vs (ns.map WData.int)→IntsAre vs ns:=by
 intro ns
 induction ns with
 |nil=>
  intro vs w
  rw[JX] at w
  cases w
  exact .nil
 | cons n ns ih=>
  intro vs w
  rw[UK] at w
  cases w with
  |cons a b=>
   cases a
   exact .cons _ _ (ih _ b)
theorem khX{l:OpenLaw}{n:Nat}(hn:l.most=some n){P:Params}{h:Heap}{args:List WData}{vals:List Value}
  (hpre:l.row.toRowW.claim.pre args=true) (hwl:WellAll P h vals args):
  ∃a vs ns,vals=[Value.ref a]∧args=[WData.list (ns.map WData.int)]∧h.get? a=some {cls:=.type "list",data:=.seq vs.toArray}∧IntsAre vs ns∧ns.length≤n:=by
 have hsh:WShape.hasAll [] args [.list .int]=true:=(pre_splitW hpre).1
 have hc:l.pre.holds [] {args:=args}=true:=(pre_splitW hpre).2
 obtain⟨d,r,rfl,h1,h2⟩:=hasAllW_cons hsh
 obtain rfl:=hasAllW_nil h2
 obtain⟨xs,rfl,h3⟩:=hasW_list h1
 obtain⟨ns,rfl⟩:=items_int h3
 have hlen:ns.length≤n:=by
  unfold OpenLaw.pre at hc
  have h4:(WTm.not (.lt (.lit (.int (n:Int))) (.len (.arg 0)))).holds [] {args:=[.list (ns.map .int)]}=true:=by
   have h4:=(holds_andW hc).1
   rw[hn] at h4
   exact h4
  have h5:=condW_of h4 (w_not (w_lt w_lit (w_len_list (w_arg rfl))))
  rw[Uu] at h5
  refine Nat.le_of_not_lt fun q=>?_
  have q':(n:Int)<((ns.length:Nat):Int):=by omega
  first
   |(rw[decide_eq_true q'] at h5;exact absurd h5 (by decide))
   |(simp at h5;omega)
 cases hwl with
 |cons w1 w2=>
  cases w2
  cases w1 with
  |list ho hall=>exact⟨_,_,ns,rfl,rfl,ho,kd6 ns _ hall,hlen⟩
def kh4(l:OpenLaw)(args:List WData):l.row.toRowW.claim.post args (.bool true) args=true:=
 postW_of (r:=l.row.toRowW) (X:=(true==true))
  (show WShape.has [] (.bool true) .bool=true by first|rfl|decide|simp[WShape.has,WShape.arms,WShape.armsAll])
  (show(WTm.eq .res (.lit (.bool true))).value [] {args:=args,res:=some (.bool true),after:=args}=some (.bool (true==true)) from w_eq_bool (w_res rfl) w_lit) rfl
theorem attach_call{l:OpenLaw}{n:Nat}{q:Program}{loose:List Str}{XP:(Str→Option Value)→Heap→Prop}{YP:World→Heap→Prop}{d:DefRec}
  (hn:l.most=some n) (hdf:d.params.defaults=[])
  (call:∀(w:World)(s₀ s₁:Shared)(mg mb:Str→Option Value)(fa:Addr)(o:Obj)(pm cd doc:Value)(a:Addr)(vs:List Value)(ns:List Int),
   Ground q loose [] XP w s₀ mg mb s₁.heap→YP w s₁.heap→
   s₁.heap.get? fa=some o→o.data=.func (docDef d.name d.params d.body d.scope pm cd doc)→s₁.heap.CodeRec cd d.name→mg d.name=some (.ref fa)→
   s₁.heap.get? a=some {cls:=.type "list",data:=.seq vs.toArray}→IntsAre vs ns→ns.length≤n→s₁.gens= #[]→
   codeAny (model l.prog w) callerA (.call (.ref fa) ⟨[.ref a],[]⟩) (fun r s'=>r=.ok (.ret (.bool true))∧OldK s₁.heap s'.heap∧s'.os=s₁.os∧AllBare s'.gens) s₁):
  WalkO q loose XP YP l.row.toRowW d [] (fun f vs=>PySem.call f vs):=by
 intro w s₀ s₁ mg mb G Y fa o pm cd doc dV kV ho hd hcd hD hmg hg args vals as hpre hlay hrd hwl hlo
 obtain rfl:dV=.none:=Dflts.none hD hdf
 obtain rfl:kV=.none:=Dflts.noKw hD
 obtain⟨a,vs,ns,rfl,rfl,hobj,hints,hlen⟩:=khX hn hpre hwl
 refine enter_call (codeAny_mono (call w s₀ s₁ mg mb fa o pm cd doc a vs ns G Y ho (fd_plain hd) hcd hmg hobj hints hlen hg) fun r s' hq=>?_)
 obtain⟨rfl,h2,h3,h4⟩:=hq
 exact⟨.inl ⟨.bool true, .bool true,[],rfl,fun _=>rfl, .bool true,kh4 l _,fun _=>⟨JY.nil,fun _ hm=>(nomatch hm)⟩⟩,h2,h3,h4⟩
section
variable {prog:Program} {w:World} {A:Around} {E:Value→Shared→Prop} {s:Shared} {K:Frag}
end
end Att
namespace L2
open PySem PySem.Spec PyProof.Rows
theorem kfa:∀{vs:List Value}{ns:List Int},IntsAre vs ns→Vals (ns.map V.int) vs
 |_,_, .nil=>.nil
 |_,_, .cons n t h=>.cons ⟨t,rfl⟩ (kfa h)
end L2
namespace L2
open PySem PySem.Spec PyProof.Rows
end L2
namespace L2
open PySem PySem.Spec PyProof.Rows
noncomputable def inClass(s:Stmt)(j:Nat):Stmt:=match s with
 | .ClassDef _ _ _ body _ _ _ _ _ _ _=>body.getD j (.Pass ⟨0,0,0,0⟩)
 |_=>.Pass ⟨0,0,0,0⟩
noncomputable def kaD(s:Stmt):Arguments:=match s with
 | .FunctionDef _ a _ _ _ _ _ _ _ _=>a
 |_=>{posonlyargs:=[],args:=[],vararg:=none,kwonlyargs:=[],kw_defaults:=[],kwarg:=none,defaults:=[]}
noncomputable def kaA(s:Stmt):List Stmt:=match s with
 | .FunctionDef _ _ b _ _ _ _ _ _ _=>b
 |_=>[]
noncomputable def kah(s:Stmt):Scope:=match s with
 | .FunctionDef _ _ _ _ _ _ sc _ _ _=>sc
 |_=>{kind:=.function,names:=[],isGenerator:=false,isCoroutine:=false}
noncomputable abbrev CX0:CXT:=fun _ _ _ _ _ _=>False
noncomputable abbrev E0:XK:=fun _ _ _=>False
def pass0{X:Cx}:kc7 CX0 X E0:=fun _ _ _ _ _ _ _ h=>h.elim
structure Fun (K:Uv) (x qual:Str) (st:Stmt) (f:Addr) (fd:FuncData):Prop where
 ex:∃(oc:Value)(od:Option Addr)(kV doc pm:Value)(an:Option Addr)(cdv ct:Value)(osl:Array (Option Value)),
  fd=UM x qual (kaD st) (kaA st) (kah st) .none kV doc pm an cdv ct∧K.lookup f=some ⟨oc,od, .func fd,osl⟩∧U8 K cdv qual=true
 kp:UO K (.ref f)=true
section
variable {P:Program} {w:World} {K:Uv} {mg:Str→Option Value} {base:Heap}
theorem Fun.ok{x qual:Str}{st:Stmt}{f:Addr}{fd:FuncData}{N ps:List Str}{k:Nat}{sp:Sp}(F:Fun K x qual st f fd)(S:kao N ps (kah st))(len:∀vs H Q E,sp vs H Q E→vs.length=ps.length)
  (hbody:∀(cdv:Value)(A:Around)(outer:List Env)(s:Shared)(H:Hp)(vs:List V)(Q:VK)(E:XK),Room k (A.deeper (envOfC qual (kah st) s.heap.objs.size f cdv))→sp vs H Q E→
   ∃t,PSs (cxOf CX0 P w K mg base N qual (kah st) f cdv A outer s H E).nox (kaA st) t∧t {nx:=fun _ H'=>Q .non H',rt:=Q} (start N vs) H):FnOk P w K mg base CX0 (k+1) f fd ps sp:=by
 obtain⟨oc,od,kV,doc,pm,an,cdv,ct,osl,rfl,lk,hcd⟩:=F.ex
 refine fn_of lk hcd S len fun A outer s H vs Q E hr hsp=>?_
 obtain⟨t,h,q⟩:=hbody cdv A outer s H vs Q E hr hsp
 exact⟨t,h.nox,q⟩
theorem Fun.binds{x qual:Str}{st:Stmt}{f:Addr}{fd:FuncData}{ps:List Str}(F:Fun K x qual st f fd)
  (h:∀(kV doc pm:Value)(an:Option Addr)(cdv ct:Value)(us:List Value),us.length=ps.length→bindArgs (UM x qual (kaD st) (kaA st) (kah st) .none kV doc pm an cdv ct) ⟨us,[]⟩=pure (ps.zip us)):Binds K fd ps []:=by
 obtain⟨oc,od,kV,doc,pm,an,cdv,ct,osl,rfl,lk,hcd⟩:=F.ex
 exact .all (h kV doc pm an cdv ct)
end
def hu_of{A:Around}{k:Nat}(hr:Room k A):A.units+1<cLine:=Jv (Nat.add_le_add_left (by decide:1≤64) _) hr.units
def kap{n:Nat}(h:n≤1000):n<sizeLine:=Jv h (by decide)
section
variable {X:Cx}
theorem pv(i:Nat){x:Str}{pos:Pos}(hN:X.N[i]?=some x:=by rfl)(hv:Vis X.env.scope x:=by first|exact Or.inl rfl|exact Or.inr (Or.inl rfl)|exact Or.inr (Or.inr rfl))(hd:(x==("__debug__" :Str))=false:=by decide)
  (hcd:(x==("__classdict__" :Str))=false:=by decide):PE X (.Name x pos) (tVar i):=kk8 hN hv hd hcd
end
def iteF{A B:Prop}(h:B):if false=true then A else B:=by
 rw[if_neg UB]
 exact h
def iteT{A B:Prop}(h:A):if true=true then A else B:=by
 rw[if_pos rfl]
 exact h
def ite2{c A B:Prop} [Decidable c] (h1:c→A) (h2:¬c→B):if c then A else B:=by
 by_cases h:c
 ·rw[if_pos h]
  exact h1 h
 ·rw[if_neg h]
  exact h2 h
end L2
set_option maxHeartbeats 4000000
namespace L3
end L3
namespace L2
open PySem PySem.Spec PyProof.Rows
section
variable {X:Cx}
theorem log2_small{n:Nat}(h:n<2 ^ 200):n.log2<9000:=by
 by_cases h0:n=0
 ·subst h0
  decide
 ·have h1:n.log2<200:=(Nat.log2_lt h0).mpr h
  omega
noncomputable def CDivB(_ j:Int):Prop:=0<j∧j<2 ^ 199
theorem kgP:OpR X (binaryOp .FloorDiv) (rI CDivB fun i j=>.int (i/j)):=opI fun i j _ _ _ _ _ hc q=>by
 have h1:(0:Int)<j:=hc.1
 have h2:j<2 ^ 199:=hc.2
 have h3:j.natAbs<2 ^ 200:=by omega
 exact floordiv_int (by omega) (by rw[Int.fdiv_eq_ediv_of_nonneg i (by omega)];exact q) (.inl (PyProof.noPylong_of_log2 (log2_small h3)))
theorem kb8(hc:X.calm=true):CallR X (.builtin "sum") (fun xs H Q=>∃(p:Addr)(ns:List Int),xs=[.ref p]∧SqL X.K H p (ns.map V.int)∧Q (.int ns.sum) H):=by
 intro pins s σ H xs us Q I r h
 obtain⟨p,ns,rfl,hq,q⟩:=h
 obtain⟨u,rfl,rx⟩:=vals1 r
 cases rx
 obtain⟨its,r',pl,hz⟩:=I.list hq
 have hi:IntsAre its ns:=intsAre_of r'
 have ha:=hi.allInts
 obtain⟨zs,hx⟩:=ha.items
 have hl:=pl.isList
 rw[hx] at hl
 refine sum_intListG (I.ok.hd hc) hl fun h' tk t' hk=>⟨.int ns.sum,H,I.kept hk,⟨t',?_⟩,q⟩
 have e2:preSum (numAt zs) zs.size=(numsOf (intItems zs).toList).sum:=by
  rw[nums_intItems,preSum_eq,Jw (by simp)]
 have e3:numsOf its.toArray.toList=ns:=hi.numsOf
 rw[e2,←hx,e3]
noncomputable def eqVs:List V→List V→Bool
 |[],[]=>true
 |x::xs,y::ys=>eqV x y&&eqVs xs ys
 |_,_=>false
theorem kg2:∀{xs ys:List V},xs.length≠ys.length→eqVs xs ys=false
 |[],[],h=>absurd rfl h
 |[],_::_,_=>rfl
 |_::_,[],_=>rfl
 |x::xs,y::ys,h=>by
  show(eqV x y&&eqVs xs ys)=false
  rw[kg2 (fun e=>h (by simp[e])),N1]
theorem kel:∀(xs ys:List V),xs.length=ys.length→(Uz xs.length).all (fun j=>eqV (xs.getD j .non) (ys.getD j .non))=eqVs xs ys
 |[],[],_=>rfl
 |[],_::_,h=>by simp at h
 |_::_,[],h=>by simp at h
 |x::xs,y::ys,h=>by
  have ih:=kel xs ys (by simpa using h)
  show(Uz (xs.length+1)).all _=(eqV x y&&eqVs xs ys)
  rw[List.range_succ_eq_map,NZ,List.all_map]
  show(eqV x y&&_)=_
  rw[←ih]
  rfl
theorem kjA:∀{x:V},flatV x=true→eqV x x=true
 | .non,_=>rfl
 | .bl b,_=>by simp[eqV]
 | .int i,_=>by simp[eqV]
 | .str z,_=>by simp[eqV]
noncomputable def rEqL(K:Uv)(neg:Bool):R2:=fun x y H Q=>∃a b xs ys,x=.ref a∧y=.ref b∧SqL K H a xs∧SqL K H b ys∧xs.all flatV=true∧ys.all flatV=true∧Q (.bl (if neg then !eqVs xs ys else eqVs xs ys)) H
theorem kiG{xs:List V}(h:xs.all flatV=true){j:Nat}(hj:j<xs.length):flatV xs[j]=true:=by
 rw[Nw] at h
 exact h _ (List.getElem_mem hj)
theorem kkS{A:Around}{s:Shared}{xs ys:List V}{us ws:List Value}(r:Vals xs us)(q:Vals ys ws)(fx:xs.all flatV=true)(fy:ys.all flatV=true):
  ∀j (h1:j<us.toArray.size) (h2:j<ws.toArray.size),SeqAt.EqAt A s us.toArray[j] ws.toArray[j] (eqV (xs.getD j .non) (ys.getD j .non)):=by
 intro j h1 h2
 have l1:=r.length
 have l2:=q.length
 have h1':j<us.length:=by simpa using h1
 have h2':j<ws.length:=by simpa using h2
 have k1:j<xs.length:=by omega
 have k2:j<ys.length:=by omega
 obtain⟨u,e1,r1⟩:=r.get (i:=j) (x:=xs[j]) (by simp[k1])
 obtain⟨w,e2,r2⟩:=q.get (i:=j) (x:=ys[j]) (by simp[k2])
 have g1:us.toArray[j]=u:=by
  have:=UG.mp e1
  obtain⟨_,e⟩:=this
  simpa using e
 have g2:ws.toArray[j]=w:=by
  have:=UG.mp e2
  obtain⟨_,e⟩:=this
  simpa using e
 have d1:xs.getD j .non=xs[j]:=by simp[k1]
 have d2:ys.getD j .non=ys[j]:=by simp[k2]
 rw[g1,g2,d1,d2]
 exact kkd r1 r2 (kiG fx k1) (kiG fy k2)
theorem klc(hu:X.A.units<cLine):OpR X (compareOp .Eq) (rEqL X.K false):=by
 intro pins s σ H x y v u Q I rx ry h
 obtain⟨a,b,xs,ys,rfl,rfl,hx,hy,fx,fy,q⟩:=h
 cases rx
 cases ry
 obtain⟨us,r1,p1,z1⟩:=I.list hx
 obtain⟨ws,r2,p2,z2⟩:=I.list hy
 have l1:=r1.length
 have l2:=r2.length
 by_cases hl:xs.length=ys.length
 ·refine SeqAt.eq_listAt p1.isList p2.isList (by simp;omega) hu (kkS r1 r2 fx fy) ⟨.bl (eqVs xs ys),H,I,?_,q⟩
  have e:us.toArray.size=xs.length:=by simp[l1]
  rw[e,kel xs ys hl]
  rfl
 ·refine SeqAt.eq_list_lengthsAt p1.isList p2.isList (by simp;omega) hu ⟨.bl (eqVs xs ys),H,I,?_,q⟩
  rw[kg2 hl]
  rfl
noncomputable def cV:V→Value
 | .ty n=>.type n
 | .ref a=>.ref a
 |_=>.none
theorem kaE:CallR X (.builtin "isinstance") (fun xs H Q=>∃x c t b,xs=[x,c]∧((∃n,c=.ty n)∨∃a,c=.ref a)∧TyOf X.K H x t∧UL X.K t (cV c)=some b∧Q (.bl b) H):=by
 intro pins s σ H xs us Q I r h
 obtain⟨x,c,t,b,rfl,hc,ty,e,q⟩:=h
 obtain⟨u,w',rfl,r1,r2⟩:=vals2 r
 have ew:w'=cV c:=by
  rcases hc with⟨n,rfl⟩|⟨a,rfl⟩
  ·exact r2
  ·exact r2
 subst ew
 exact kit I r1 ty e fun tk=>⟨.bl b,H,I.tok tk,rfl,q⟩
theorem b_isi:bootBuiltins "isinstance"=some (.builtin "isinstance"):=by decide +kernel
theorem b_int:bootBuiltins "int"=some (.type "int"):=by decide +kernel
theorem kiV:bootBuiltins "bool"=some (.type "bool"):=by decide +kernel
theorem kcw:bootBuiltins "list"=some (.type "list"):=by decide +kernel
theorem b_sum:bootBuiltins "sum"=some (.builtin "sum"):=by decide +kernel
theorem b_min:bootBuiltins "min"=some (.builtin "min"):=by decide +kernel
theorem b_max:bootBuiltins "max"=some (.builtin "max"):=by decide +kernel
theorem b_len:bootBuiltins "len"=some (.builtin "len"):=by decide +kernel
theorem kaU(K:Uv)(t:Value):UL K t t=some true:=by
 unfold UL
 rw[if_pos (by simp)]
theorem kdr(K:Uv):UL K (.type "int") (.type "bool")=some false:=by
 have e:(Value.type "int" ==Value.type "bool")=false:=by decide +kernel
 unfold UL PySem.W.kitCls PySem.W.subIn
 rw[e,if_neg UB]
 show(if PySem.W.kitMeta "bool"=true then _ else _)=_
 rw[if_pos (by decide +kernel)]
 show(fastBuiltinMro "int").map (·.contains (Value.type "bool"))=some false
 decide +kernel
noncomputable def tCut(t:TS):TS:=fun D σ H=>∃P:St→Hp→Prop,t {D with nx:=P} σ H∧∀σ' H',P σ' H'→D.nx σ' H'
theorem kcm{st:Stmt}{t:TS}(h:PS X st t):PS X st (tCut t):=by
 intro pins s σ H D I hw
 obtain⟨P,h1,h2⟩:=hw
 refine thn (h pins s σ H {D with nx:=P} I h1) fun f s' q=>?_
 cases f with
 |next=>
  obtain⟨σ',H',I',q'⟩:=q
  exact⟨σ',H',I',h2 σ' H' q'⟩
 |brk=>exact q
 |cont=>exact q
 |ret u=>exact q
noncomputable def tCutE(t:TE):TE:=fun σ H Q=>∃P:V→Hp→Prop,t σ H P∧∀v H',P v H'→Q v H'
theorem klb{e:Expr}{t:TE}(h:PE X e t):PE X e (tCutE t):=by
 intro pins s σ H Q I hw
 obtain⟨P,h1,h2⟩:=hw
 exact thn (h pins s σ H P I h1) fun u s' ⟨v,H',I',r,q⟩=>⟨v,H',I',r,h2 v H' q⟩
noncomputable def Its(lo st:Int)(n:Nat):It:=⟨fun i _=>i<n,fun i H x H'=>H'=H∧x=.int (lo+i*st),fun i _=>n≤i⟩
theorem khw{P:Program}{w:World}{K:Uv}{tg:Expr}(it:Addr)(lo st:Int)(n:Nat):Turn P w K tg (Its lo st n) [it] it (fun i h=>IsRangeIter h it (lo+(i:Nat)*st) ((n:Int)-(i:Nat)) st) where
 mem:=by simp
 obj:=fun i h st b hb=>by
  have e:b=it:=by simpa using hb
  subst e
  exact⟨_,st,fun v z=>by
   have z':Data.fields _=Data.cell v:=z
   cases z'⟩
 keep:=fun i h h' st k=>k it (by simp) _ st
 item:=by
  intro X hP hw hK hc i pins s σ H E I hf st' hg
  subst hP hw hK
  obtain⟨f0,f1,f2,f3,f4,f5⟩:=hf it (by simp)
  have W:=Walks.range (prog:=X.prog) (w:=X.w) (I.ok.hd hc) it lo st n
  refine W.item i s _ _ hg st' fun v h' tk hv st'' kk=>?_
  obtain⟨t,rfl⟩:=hv
  have I1:Inv X pins σ H {s with heap:=h',toks:=tk}:=I.turned (fun b o hb e=>kk b o (by simpa using hb) e) f0 f1 f3 f4 f5
  exact⟨_,rfl,go_of (s:={s with heap:=h',toks:=tk}) (n:="range_iterator") st'' rfl rfl (by decide) ⟨.int (lo+i*st),H,I1,⟨t,rfl⟩,⟨rfl,rfl⟩,st'',fun b hb=>(hf b hb).1⟩⟩
 done:=by
  intro X hP hw hK hc i pins s σ H E I hf st hg
  subst hP hw hK
  obtain⟨f0,f1,f2,f3,f4,f5⟩:=hf it (by simp)
  exact wpAny_pyNext_range_end (I.ok.hd hc) st (by have:n≤i:=hg;omega) fun h' eb=>⟨rfl,I.turned (t':=s.toks) (fun b o hb e=>eb b o hb e) f0 f1 f3 f4 f5⟩
 self:=fun _ _ _ _ _ st h=>wpAny_pyIter_rangeiter st h
theorem kfj{a b c:Int}(hc:0<c)(ha: -(2 ^ 31)≤a∧a<2 ^ 31)(hb: -(2 ^ 31)≤b∧b<2 ^ 31):0≤Builtin.Range.rangeSize a b c∧Builtin.Range.rangeSize a b c<2 ^ 33:=by
 unfold Builtin.Range.rangeSize
 rw[if_pos hc]
 split
 ·have h1:0≤(b-a-1)/c:=Int.ediv_nonneg (by omega) (by omega)
  have h2:(b-a-1)/c≤b-a-1:=Int.ediv_le_self _ (by omega)
  omega
 ·omega
theorem kg9{a b c:Int}(hc:0<c)(hc2:c<2 ^ 30)(ha: -(2 ^ 31)≤a∧a<2 ^ 31)(hb: -(2 ^ 31)≤b∧b<2 ^ 31):Builtin.Range.small a b c=true:=by
 have h:=kfj hc ha hb
 unfold Builtin.Range.small
 generalize Builtin.Range.rangeSize a b c=n at h
 simp only[Builtin.Range.rangeFitsLong,JR,Nx,decide_eq_true_eq,beq_iff_eq,show c > 0 from hc,if_true]
 omega
end
def kg3(xs:List V)(k:Nat):cutV xs none (some (k:Int))=xs.take k:=by
 unfold cutV
 rw[HT.sIx_none,HT.sIx_nat,List.drop_zero,Nat.sub_zero,Ml]
 omega
def kjE(ns:List Int)(lo hi:Option Int):∃ms:List Int,cutV (ns.map V.int) lo hi=ms.map V.int∧ms.length≤ns.length:=by
 refine⟨(ns.drop (HT.sIx ns.length 0 lo)).take (HT.sIx ns.length ns.length hi-HT.sIx ns.length 0 lo),?_,?_⟩
 ·unfold cutV
  rw[Uu,←N2,←JH]
 ·rw[UP,Nq]
  omega
end L2
namespace L2
open PySem PySem.Spec PyProof.Rows
def Inv.adopt{X:Cx}{pins:List (Addr×Obj)}{σ:St}{H:Hp}{s:Shared}{a:Addr}{o:HO}(I:Inv X pins σ H s)(f:FpOk X pins H a)(h0:X.s₀.heap.objs.size≤a)(new:ObjOk X.prog X.w (upd H a o) s.heap a o):Inv X pins σ (upd H a o) s:=by
 obtain⟨hn,hL,_,_,hC,hp⟩:=f
 have nt:∀b u,H b=some u→b≠a:=fun b u e=>kai e hn
 refine⟨I.ok,I.os,I.bare,⟨I.base.keep,I.base.slot,fun b ob e n hx=>?_,I.base.there,fun b xs e=>?_,fun b ob u e=>?_,fun b ps e=>?_⟩,I.loc,I.cell,?_,fun x c e=>?_,fun p hp'=>?_,fun b u e=>?_,I.len⟩
 ·rw[kaj (UU (UT (Heap.lt_size e) h0))]
  exact I.base.free b ob e n hx
 ·have q:=I.base.tups b xs e
  rw[kaj (nt _ _ q)]
  exact q
 ·have q:=I.base.frzs b ob u e
  rw[kaj (nt _ _ q)]
  exact q
 ·obtain⟨m,q⟩:=I.base.tbls b ps e
  exact⟨m,by rw[kaj (nt _ _ q)];exact q⟩
 ·rw[kaj (Ne.symm hL)]
  exact I.free
 ·rw[kaj (hC x c e)]
  exact I.freeC x c e
 ·obtain⟨e,n,r⟩:=I.pin p hp'
  exact⟨e,by rw[kaj (hp p hp')];exact n,r⟩
 ·by_cases hb:b=a
  ·subst hb
   rw[kad] at e
   cases e
   exact new
  ·rw[kaj hb] at e
   exact(I.hok b u e).stay (fun c v _ q=>q) (fun c q=>by rw[kaj (nt _ _ q)];exact q) fun c xs q=>by rw[kaj (nt _ _ q)];exact q
noncomputable def capσ(cap:List (Option Nat))(σ:St):St:=cap.map fun o=>match o with
 |some i=>(σ[i]?).getD none
 |none=>none
noncomputable def closL(cells:List (Str×Addr))(names:List (Str×NameKind)):List (Str×Addr)→List (Str×Addr):=fun acc=>names.foldl (fun acc p=>if p.2== .free then(p.1,(cells.lookup p.1).getD 0)::acc else acc) acc
theorem kd7{α β:Type}{f: α→β→Sem (ForInStep β)}{g: β→α→β}:∀(l:List α)(b: β),(∀x∈l,∀b,f x b=pure (.yield (g b x)))→forIn l b f=pure (l.foldl g b)
 |[],b,_=>by rw[N3];rfl
 |x::l,b,h=>by
  rw[N4,h x UW]
  show forIn l (g b x) f=_
  rw[kd7 l (g b x) fun y hy=>h y (UV _ hy)]
  rfl
def ke6{scope:Scope}{env:Env}(h:∀x∈scope.names,x.2=.free→∃c,env.cells.lookup x.1=some c):closureFor scope env=pure (closL env.cells scope.names []):=by
 unfold closureFor
 dsimp only
 rw[kd7 (g:=fun acc p=>if p.2== .free then(p.1,(env.cells.lookup p.1).getD 0)::acc else acc) scope.names [] fun x hx b=>?_]
 ·rfl
 ·obtain⟨n,k⟩:=x
  by_cases hk:k=.free
  ·subst hk
   obtain⟨c,ec⟩:=h _ hx rfl
   have ec':env.cells.lookup n=some c:=ec
   have e1:cellOf env n=pure c:=by unfold cellOf;rw[ec']
   simp only[beq_self_eq_true,if_true,e1,ec',Option.getD_some]
   rfl
  ·have:(k==NameKind.free)=false:=by simpa using hk
   simp only[this,Jk,if_false]
def kex(cells:List (Str×Addr))(p:Str×NameKind)(r:List (Str×NameKind))(acc:List (Str×Addr)):closL cells (p::r) acc=closL cells r (if p.2== .free then(p.1,(cells.lookup p.1).getD 0)::acc else acc):=rfl
theorem kdH{cells:List (Str×Addr)}{x:Str}{c:Addr}:∀(names:List (Str×NameKind))(acc:List (Str×Addr)),(closL cells names acc).lookup x=some c→(((x,NameKind.free)∈names∧c=(cells.lookup x).getD 0)∨acc.lookup x=some c)
 |[],acc,h=>.inr h
 | (n,k)::r,acc,h=>by
  rw[kex] at h
  rcases kdH r _ h with⟨h1,h2⟩|h1
  ·exact .inl ⟨UV _ h1,h2⟩
  ·by_cases hk:k=.free
   ·subst hk
    simp only[beq_self_eq_true,if_true] at h1
    rw[U5] at h1
    by_cases hx:x=n
    ·subst hx
     simp only[beq_self_eq_true] at h1
     exact .inl ⟨UW,(Option.some.inj h1).symm⟩
    ·have hb:(x==n)=false:=beq_eq_false_iff_ne.mpr hx
     rw[hb] at h1
     exact .inr h1
   ·have:(k==NameKind.free)=false:=by simpa using hk
    simp only[this,Jk,if_false] at h1
    exact .inr h1
theorem kcv{cells:List (Str×Addr)}{x:Str}:∀(names:List (Str×NameKind))(acc:List (Str×Addr)),((x,NameKind.free)∈names∨∃c,acc.lookup x=some c)→∃c,(closL cells names acc).lookup x=some c
 |[],acc,h=>by
  rcases h with h|h
  ·cases h
  ·exact h
 | (n,k)::r,acc,h=>by
  rw[kex]
  refine kcv r _ ?_
  by_cases hm:(x,NameKind.free)∈r
  ·exact .inl hm
  ·refine .inr ?_
   rcases h with h|⟨c,h⟩
   ·rcases UJ.mp h with e|h
    ·cases e
     simp[U5]
    ·exact absurd h hm
   ·split
    ·rw[U5]
     by_cases hx:x=n
     ·subst hx
      simp
     ·have hb:(x==n)=false:=beq_eq_false_iff_ne.mpr hx
      rw[hb]
      exact⟨c,h⟩
    ·exact⟨c,h⟩
theorem kb7:∀(names:List (Str×NameKind))(n:Nat)(acc acc':List (Str×Addr)),cellsFrom n names (acc++acc')=cellsFrom n names acc++acc'
 |[],_,_,_=>rfl
 |(m,k)::r,n,acc,acc'=>by
  unfold cellsFrom
  split
  ·exact kb7 r (n+1) ((m,n)::acc) acc'
  ·exact kb7 r n acc acc'
def kbO(names:List (Str×NameKind))(n:Nat)(acc:List (Str×Addr))(x:Str):(cellsFrom n names acc).lookup x=((cellsFrom n names []).lookup x).or (acc.lookup x):=by
 rw[←List.lookup_append,←kb7,Nv]
theorem kb6{x:Str}:∀(names:List (Str×NameKind))(n:Nat)(acc:List (Str×Addr)),(x,NameKind.cell)∉names→(cellsFrom n names acc).lookup x=acc.lookup x
 |[],_,_,_=>rfl
 | (m,k)::r,n,acc,h=>by
  unfold cellsFrom
  by_cases hk:k=.cell
  ·subst hk
   simp only[beq_self_eq_true,if_true]
   rw[kb6 r _ _ fun z=>h (UV _ z),U5]
   have hx:x≠m:=fun e=>h (by rw[e];exact UW)
   have hb:(x==m)=false:=beq_eq_false_iff_ne.mpr hx
   rw[hb]
  ·have:(k==NameKind.cell)=false:=by simpa using hk
   simp only[this,Jk,if_false]
   exact kb6 r _ _ fun z=>h (UV _ z)
noncomputable def relN(names ns:List (Str×NameKind)):List (Str×NameKind):=names.map fun(n,k)=>if(k== .free&&ns.lookup n==some .cell) then(n, .cell) else(n,k)
def kcP{scope:Scope}{env:Env}(hk:env.scope.kind=.function):(relabel scope env).names=relN scope.names env.scope.names:=by
 unfold relabel relN
 have e:(ScopeKind.function==ScopeKind.function)=true:=by decide
 simp only[hk,e,Bool.and_true]
 rfl
theorem kcI{ns:List (Str×NameKind)}{x:Str}:∀(names:List (Str×NameKind)),(relN names ns).lookup x=(names.lookup x).map fun k=>if(k== .free&&ns.lookup x==some .cell) then .cell else k
 |[]=>rfl
 | (n,k)::r=>by
  have ih:=kcI (ns:=ns) (x:=x) r
  show Jl x ((if(k== .free&&ns.lookup n==some .cell)=true then(n,NameKind.cell) else(n,k))::relN r ns)=_
  by_cases hx:x=n
  ·subst hx
   by_cases hc:(k== .free&&ns.lookup x==some .cell)=true
   ·rw[if_pos hc]
    simp only[U5,beq_self_eq_true,Ny]
    rw[if_pos hc]
   ·rw[if_neg hc]
    simp only[U5,beq_self_eq_true,Ny]
    rw[if_neg hc]
  ·have hb:(x==n)=false:=beq_eq_false_iff_ne.mpr hx
   by_cases hc:(k== .free&&ns.lookup n==some .cell)=true
   ·rw[if_pos hc]
    simp only[U5,hb]
    exact ih
   ·rw[if_neg hc]
    simp only[U5,hb]
    exact ih
theorem kkv{names ns:List (Str×NameKind)}{x:Str}(h:(relN names ns).lookup x=some .cell∨(relN names ns).lookup x=some .free):names.lookup x=some .cell∨names.lookup x=some .free:=by
 rw[kcI] at h
 cases e:names.lookup x with
 |none=>rw[e] at h;simp at h
 |some k=>
  rw[e] at h
  cases k <;> simp_all
def khZ{names ns:List (Str×NameKind)}{x:Str}(h:names.lookup x=some .free):(relN names ns).lookup x=some .cell∨(relN names ns).lookup x=some .free:=by
 rw[kcI,h]
 by_cases hc:ns.lookup x==some .cell
 ·left;simp[hc]
 ·right;simp[hc]
structure CompScope (X:Cx) (scope:Scope) (N:List Str) (cap:List (Option Nat)):Prop where
 kind:scope.kind=.function
 names:∀x∈scope.names,x.2=.local→scope.names.lookup x.1=some .local
 free:∀x∈scope.names,x.2=.free→X.env.scope.names.lookup x.1=some .cell∨X.env.scope.names.lookup x.1=some .free
 nd:N.Nodup
 len:cap.length=N.length
 cap:∀(j i:Nat)(x:Str),cap[j]?=some (some i)→N[j]?=some x→X.N[i]?=some x∧scope.names.lookup x=some .free∧(x,NameKind.cell)∉scope.names
noncomputable def kdu(X:Cx)(scope:Scope)(C:Addr):List (Str×Addr):=cellsFrom (C+1) scope.names (closL X.env.cells scope.names [])
noncomputable def cxC(X:Cx)(scope:Scope)(N:List Str)(fp:List Addr)(s:Shared)(H:Hp)(C:Addr):Cx:=
 {X with N:=N,s₀:=s,H₀:=H,env:=compEnvC scope (kdu X scope C) C X.env,outer:=X.stack,ex:=fp,fn:=fun x=>scope.names.lookup x==some .cell,pn:=[],xe:=fun _ _=>False}
theorem ke0{M:Model}{A:Around}{E:Value→Shared→Prop}{s:Shared}{scope:Scope}{globals:Addr}{cl:List (Str×Addr)}{qual:Str}{func:Option Addr}{code:Value}{outer:Env}{builtins:Addr}{Q:Env→Shared→Prop}
  (hQ:Q (newEnv scope s.heap.objs.size globals (cellsFrom (s.heap.objs.size+1) scope.names cl) qual func code (some outer) builtins) {s with heap:=pushCells (s.heap.push {cls:=.type "dict",data:=.dict #[]}) scope.names}):
  wpAny M A (newFunctionEnv scope globals cl [] qual func code (some outer) builtins) Q E s:=by
 simp only[newFunctionEnv,Option.isSome_some,if_true]
 refine wpAny_bind (wpAny_alloc ?_)
 refine wpAny_bind (wpAny_layCells _ (fun name kind cells=>by cases hkc:kind==NameKind.cell <;> simp[hkc]) _ _ _ _ ?_)
 rw[show({s with heap:=s.heap.push {cls:=.type "dict",data:=.dict #[]}}:Shared).heap.objs.size=s.heap.objs.size+1 from Heap.size_push ..]
 exact wpAny_bind (wpAny_pure (wpAny_pure hQ))
section
variable {X:Cx} {scope:Scope} {N:List Str} {cap:List (Option Nat)} {pins:List (Addr×Obj)} {σ:St} {H:Hp} {s:Shared}
theorem khD(I:Inv X pins σ H s){b:Addr}(hb:b∈frs X.stack):b<s.heap.objs.size:=by
 obtain⟨_,o,ho,_⟩:=I.stack.mem hb
 exact Heap.lt_size ho
theorem kcu(S:CompScope X scope N cap)(I:Inv X pins σ H s):closureFor scope X.env=pure (closL X.env.cells scope.names []):=
 ke6 fun x hx hf=>I.ok.has x.1 (S.free x hx hf)
theorem kbP{C:Addr}{x:Str}{c:Addr}(S:CompScope X scope N cap)(I:Inv X pins σ H s)(h:(kdu X scope C).lookup x=some c):(cellsFrom (C+1) scope.names []).lookup x=some c∨X.env.cells.lookup x=some c:=by
 unfold kdu at h
 rw[kbO] at h
 cases e:(cellsFrom (C+1) scope.names []).lookup x with
 |some c'=>
  rw[e] at h
  exact .inl h
 | none=>
  rw[e] at h
  have h':(closL X.env.cells scope.names []).lookup x=some c:=h
  rcases kdH _ _ h' with⟨h1,h2⟩|h1
  ·obtain⟨c',ec⟩:=I.ok.has x (S.free _ h1 rfl)
   rw[ec] at h2
   rw[h2]
   exact .inr ec
  ·cases h1
theorem kjt{fp:List Addr}{C D:Addr}{o:Obj}{s4:Shared}{m:Str→Option Value}(S:CompScope X scope N cap)(I:Inv X pins σ H s)(f:∀b∈fp,FpOk X pins H b)(hfp:∀b∈fp,b<s.heap.objs.size)
  (hk:∀b u,s.heap.get? b=some u→s4.heap.get? b=some u) (hns:s4.heap.Ns C m) (hC:s.heap.objs.size≤C) (hD:s.heap.objs.size≤D) (hDC:D≠C) (eD:s4.heap.get? D=some o) (hcell:∀v,o.data≠.cell v)
  (hnew:CellsOk s4.heap (C+1) (cellsFrom (C+1) scope.names [])) (hos:s4.os=s.os) (hg:s4.gens=s.gens):Inv (cxC X scope N fp s H C) [(D,o)] (capσ cap σ) H s4:=by
 have stkne:∀b∈fp,b∉frs X.stack:=fun b hb hz=>by
  obtain⟨_,h1,h2,_⟩:=f b hb
  rcases UJ.mp (I.stkSub b hz) with e|e
  ·exact h1 e
  ·exact h2 e
 have nw:∀{x:Str}{c:Addr},(cellsFrom (C+1) scope.names []).lookup x=some c→s4.heap.IsCell c none∧Nat.lt C c:=fun {x c} h=>hnew.empty x c (PySem.mem_of_lookup h)
 have od:∀{x:Str}{c:Addr},X.env.cells.lookup x=some c→c<s.heap.objs.size:=fun {x c} h=>let⟨_,q⟩:=I.cell x c h;q.lt
 refine⟨⟨I.ok.mod,S.kind,I.ok.glob,I.ok.blt,hC,fun x y c h1 h2=>?_,fun x h=>?_,fun x c h1 h2=>?_,I.ok.hd,I.ok.frames, .inl rfl,fun b hb=>⟨?_,fun x c e=>?_⟩,I.bs,UA I.ok.bsz I.sz,fun b ob e hb=>?_,stkne,I.stack,I.stkFree⟩,
  hos,by rw[hg];exact I.bare,Un.kept hk,⟨m,hns,fun j x v e1 e2 e3=>?_⟩,fun x c e=>?_,I.hok.fresh hC,fun x c e=>?_,fun p hp=>?_,I.hok.kept hk,?_⟩
 ·rcases kbP S I h1 with q1|q1 <;> rcases kbP S I h2 with q2|q2
  ·exact name_of_addr hnew.apart (PySem.mem_of_lookup q1) (PySem.mem_of_lookup q2)
  ·exact absurd (Jv hC (nw q1).2) (Nat.not_lt_of_lt (od q2))
  ·exact absurd (Jv hC (nw q2).2) (Nat.not_lt_of_lt (od q1))
  ·exact I.ok.inj x y c q1 q2
 ·have h':(relabel scope X.env).names.lookup x=some .cell∨(relabel scope X.env).names.lookup x=some .free:=h
  rw[kcP I.ok.kind] at h'
  show ∃c,(cellsFrom (C+1) scope.names (closL X.env.cells scope.names [])).lookup x=some c
  rw[kbO]
  rcases kkv h' with q|q
  ·obtain⟨c,e⟩:=kdI (n:=C+1) q
   exact⟨c,by rw[e];rfl⟩
  ·obtain⟨c,e⟩:=kcv (cells:=X.env.cells) scope.names [] (.inl (PySem.mem_of_lookup q))
   cases e2:(cellsFrom (C+1) scope.names []).lookup x with
   |some c'=>exact⟨c',rfl⟩
   |none=>exact⟨c,e⟩
 ·have h1':(scope.names.lookup x==some .cell)=true:=h1
  have q:scope.names.lookup x=some .cell:=by simpa using h1'
  obtain⟨c',e⟩:=kdI (n:=C+1) q
  have h2':(cellsFrom (C+1) scope.names (closL X.env.cells scope.names [])).lookup x=some c:=h2
  rw[kbO,e] at h2'
  have h3:c'=c:=Option.some.inj h2'
  rw[←h3]
  exact UI (Jv hC (nw e).2)
 ·exact UU (UT (hfp b hb) hC)
 ·rcases kbP S I e with q|q
  ·exact Je (Nz (UT (hfp b hb) hC) (nw q).2)
  ·exact(f b hb).2.2.2.2.1 x c q
 ·obtain⟨_,_,_,h4,_⟩:=f b hb
  rcases h4 with h4|h4
  ·exact I.ok.noex b ob e h4
  ·exact absurd (UT (Heap.lt_size e) (UA I.ok.bsz h4)) (Jt _)
 ·
  have e2':(cap.map fun o=>match o with|some i=>(σ[i]?).getD none|none=>none)[j]?=some (some v):=e2
  rw[UD] at e2'
  cases ec:cap[j]? with
  |none=>rw[ec] at e2';cases e2'
  | some oi=>
   rw[ec] at e2'
   cases oi with
   |none=>cases e2'
   | some i=>
    have e4:(σ[i]?).getD none=some v:=Option.some.inj e2'
    have e5: σ[i]?=some (some v):=by
     cases q: σ[i]? with
     |none=>rw[q] at e4;cases e4
     |some w=>rw[q] at e4;exact congrArg some e4
    obtain⟨h1,hf,hnc⟩:=S.cap j i x ec e1
    have hm:=PySem.mem_of_lookup hf
    have h2:=S.free _ hm rfl
    obtain⟨mo,_,hl⟩:=I.loc
    obtain⟨u,ru,lk⟩:=hl i x v h1 e5 (.inr h2)
    have h3:(relabel scope X.env).names.lookup x=some .cell∨(relabel scope X.env).names.lookup x=some .free:=by
     rw[kcP I.ok.kind]
     exact khZ hf
    refine⟨u,ru, .inr ⟨h3,?_⟩⟩
    rcases lk with⟨k1,_⟩|⟨_,c,ec',z⟩
    ·have k1':X.env.scope.names.lookup x=some .local:=k1
     rcases h2 with h2|h2 <;> rw[h2] at k1' <;> cases k1'
    ·obtain⟨c',ec2⟩:=kcv (cells:=X.env.cells) scope.names [] (.inl hm)
     have ec3:(kdu X scope C).lookup x=some c':=by
      unfold kdu
      rw[kb6 _ _ _ hnc]
      exact ec2
     rcases kdH _ _ ec2 with⟨_,q2⟩|q2
     ·rw[ec'] at q2
      have q3:c'=c:=q2
      subst q3
      obtain⟨oc,ho,hd⟩:=z
      exact⟨c',ec3,oc,hk _ _ ho,hd⟩
     ·cases q2
 ·rcases kbP S I e with q|q
  ·exact⟨none,(nw q).1⟩
  ·obtain⟨v,oc,ho,hd⟩:=I.cell x c q
   exact⟨v,oc,hk _ _ ho,hd⟩
 ·rcases kbP S I e with q|q
  ·exact I.hok.fresh (UA hC (UI (nw q).2))
  ·exact I.freeC x c q
 ·have e:p=(D,o):=by simpa[cxC] using hp
  subst e
  exact⟨eD,I.hok.fresh hD,hDC,fun hz=>absurd (khD I hz) (Nat.not_lt.mpr hD),hcell⟩
 ·show(cap.map _).length=N.length
  rw[Uu,S.len]
theorem comp_back{fp:List Addr}{C:Addr}{σ':St}{H':Hp}{s':Shared}(I:Inv X pins σ H s)(f:∀b∈fp,FpOk X pins H b)(J:Inv (cxC X scope N fp s H C) [] σ' H' s'):Inv X pins σ H' s':=
 I.call' (ch:=fp) J.os J.base J.hok J.bare fun b hb=>let⟨_,h1,_,h3,h4,h5⟩:=f b hb;⟨h3,h1,h4,h5⟩
end
noncomputable def PIf(X:Cx)(ifs:List Expr)(t:TT):Prop:=∀(pins:List (Addr×Obj))(s:Shared)(σ:St)(H:Hp)(Q:Bool→Hp→Prop),Inv X pins σ H s→t σ H Q→
 wpAny (model X.prog X.w) X.A (forIn ifs true fun c r=>if r=true then do let ok ←isTrue c X.env (eval c X.env);pure (ForInStep.yield ok) else pure (ForInStep.yield r)) (TP X pins σ Q) X.xe s
noncomputable def tYes:TT:=fun _ H Q=>Q true H
def kh5{X:Cx}:PIf X [] tYes:=fun _ _ _ H _ I h=>wpAny_tests_nil ⟨H,I,h⟩
def kkz{X:Cx}{c:Expr}{t:TT}(h:PT X c t):PIf X [c] t:=fun pins s σ H Q I hw=>wpAny_tests_one (h pins s σ H Q I hw)
theorem kfH{prog:Program}{w:World}{A:Around}{R:Result→Shared→Prop}{s:Shared}{elt target iter:Expr}{ifs:List Expr}{scope:Scope}{pos:Pos}{it acc:Value}{env:Env}(I:Nat→Shared→Prop)
  (turn:∀n s,I n s→wpAny (model prog w) A (pyNext it) (fun r s₁=>match r with
   |none=>R (.ok .next) s₁
   | some v=>wpAny (model prog w) A (letOwnedTupleGo target it v) (fun _ s₁'=>wpAny (model prog w) A (assign target env v) (fun _ s₂=>
     wpAny (model prog w) A (forIn ifs true fun c r=>if r=true then do let ok ←isTrue c env (eval c env);pure (ForInStep.yield ok) else pure (ForInStep.yield r)) (fun ok s₂'=>
      if ok=true then wpAny (model prog w) A (eval elt env) (fun x s₃=>
       wpAny (model prog w) A (call (.builtin "list.append") [acc,x]) (fun _ s₄=>∃m,m<n∧I m s₄) (fun _ _=>False) s₃) (fun _ _=>False) s₂'
      else ∃m,m<n∧I m s₂') (fun _ _=>False) s₂) (fun _ _=>False) s₁') (fun _ _=>False) s₁) (fun _ _=>False) s)
  (n:Nat) (h:I n s):codeAny (model prog w) A (.compLoop (.ListComp elt [⟨target,iter,ifs,0⟩] scope pos) 0 it acc env) R s:=by
 refine codeAny_loop rfl I (fun n s hI=>?_) n h
 show wpAny _ _ ((compTurn (.ListComp elt [⟨target,iter,ifs,0⟩] scope pos) 0 it acc env).onRaise (fun x=>do noteFrame x env;theTreesLotGoes x)) _ _ s
 refine wpAny_noted ?_
 rw[compTurn_list]
 refine wpAny_bind (wpAny_standAt (wpAny_bind (wpAny_mono (turn n s hI) (fun r s₁ h₁=>?_) fun _ _ h'=>h'.elim)))
 cases r with
 |none=>exact wpAny_pure h₁
 | some v=>
  refine wpAny_bind (wpAny_mono h₁ (fun _ s₁' h₁'=>?_) fun _ _ h'=>h'.elim)
  refine wpAny_bind (wpAny_mono h₁' (fun _ s₂ h₂=>wpAny_bind (wpAny_mono h₂ (fun ok s₂' h₂'=>?_) fun _ _ h'=>h'.elim)) fun _ _ h'=>h'.elim)
  cases ok with
  |false=>exact wpAny_pure ⟨rfl,h₂'⟩
  |true=>
   exact wpAny_bind (wpAny_bind (wpAny_mono h₂' (fun x s₃ h₃=>wpAny_bind (wpAny_mono h₃ (fun _ s₄ h₄=>wpAny_pure (wpAny_pure ⟨rfl,h₄⟩)) fun _ _ h'=>h'.elim)) fun _ _ h'=>h'.elim))
noncomputable def kk1(wi:TI)(cap:List (Option Nat))(g:TG)(tt:TT)(te:TE):TE:=fun σ H Q=>wi σ H fun J H1=>∃W:Nat→Nat→St→List V→Hp→Prop,(∃m,W 0 m (capσ cap σ) [] H1)∧∀i m σ' ys H',W i m σ' ys H'→
 (J.stop i H'∧∀D,H' D=none→Q (.ref D) (upd H' D (.lst ys)))∨(J.go i H'∧ys.length<sizeLine∧∃(N:St→V→Hp→Prop)(N0:St→Hp→Prop),(∀σ2 y H4,N σ2 y H4→∃m',m'<m∧W (i+1) m' σ2 (ys++[y]) H4)∧(∀σ2 H4,N0 σ2 H4→∃m',m'<m∧W (i+1) m' σ2 ys H4)∧
  ∀x H2,J.yld i H' x H2→g x σ' H2 fun σ2 H3=>tt σ2 H3 fun b H4=>if b=true then te σ2 H4 (N σ2) else N0 σ2 H4)
noncomputable def tComp(wi:TI)(cap:List (Option Nat))(g:TG)(te:TE):TE:=fun σ H Q=>wi σ H fun J H1=>∃W:Nat→Nat→St→List V→Hp→Prop,(∃m,W 0 m (capσ cap σ) [] H1)∧∀i m σ' ys H',W i m σ' ys H'→
 (J.stop i H'∧∀D,H' D=none→Q (.ref D) (upd H' D (.lst ys)))∨(J.go i H'∧ys.length<sizeLine∧∃N:St→V→Hp→Prop,(∀σ2 y H4,N σ2 y H4→∃m',m'<m∧W (i+1) m' σ2 (ys++[y]) H4)∧
  ∀x H2,J.yld i H' x H2→g x σ' H2 fun σ2 H3=>te σ2 H3 (N σ2))
section
variable {X:Cx} {scope:Scope} {N:List Str} {cap:List (Option Nat)} {pins:List (Addr×Obj)} {σ:St} {H2:Hp} {s2:Shared} {tg elt iter:Expr} {ifs:List Expr} {pos:Pos} {g:TG} {tt:TT} {te:TE}
theorem kdm{fp:List Addr}{it:Addr}{tn:Nat→Heap→Prop}{J:It}{Q:VK}{RR:Value→Addr→Result→Shared→Prop}{E:Value→Shared→Prop}(S:CompScope X scope N cap)(hc:X.calm=true)
  (hg:∀fp s H C,PG (cxC X scope N fp s H C) tg g) (ht:∀fp s H C,PIf (cxC X scope N fp s H C) ifs tt) (he:∀fp s H C,PE (cxC X scope N fp s H C) elt te)
  (I2:Inv X pins σ H2 s2) (T:Turn X.prog X.w X.K tg J fp it tn) (st2:tn 0 s2.heap) (f2:∀b∈fp,FpOk X pins H2 b)
  (W:Nat→Nat→St→List V→Hp→Prop) {m0:Nat} (w0:W 0 m0 (capσ cap σ) [] H2)
  (turn:∀i m σ' ys H',W i m σ' ys H'→(J.stop i H'∧∀D,H' D=none→Q (.ref D) (upd H' D (.lst ys)))∨(J.go i H'∧ys.length<sizeLine∧∃(N:St→V→Hp→Prop)(N0:St→Hp→Prop),(∀σ2 y H4,N σ2 y H4→∃m',m'<m∧W (i+1) m' σ2 (ys++[y]) H4)∧(∀σ2 H4,N0 σ2 H4→∃m',m'<m∧W (i+1) m' σ2 ys H4)∧
   ∀x H2,J.yld i H' x H2→g x σ' H2 fun σ2 H3=>tt σ2 H3 fun b H4=>if b=true then te σ2 H4 (N σ2) else N0 σ2 H4))
  (hRR:∀(D C:Addr)(H':Hp)(s':Shared)(m:Str→Option Value),Inv X pins σ H' s'→FpOk X pins H' C→C≠D→s'.heap.Ns C m→Q (.ref D) H'→RR (.ref D) C (.ok .next) s'):
  wpAny (model X.prog X.w) X.A (newList []) (fun acc s₃=>wpAny (model X.prog X.w) X.A (newFunctionEnv scope X.env.globals (closL X.env.cells scope.names []) [] X.env.qual none .none (some X.env)) (fun cenv s₄=>
   codeAny (model X.prog X.w) X.A (.compStart (.ListComp elt [⟨tg,iter,ifs,0⟩] scope pos) 0 (.ref it) acc {cenv with scope:=relabel scope X.env}) (RR acc cenv.locals) s₄) E s₃) E s2:=by
 refine wpAny_newObj_type (ke0 ?_)
 dsimp only
 generalize hP:s2.heap.push {cls:=.type "list",dict:=none,data:=.seq ([]:List Value).toArray}=P
 have hnew:CellsOk (pushCells (P.push {cls:=.type "dict",data:=.dict #[]}) scope.names) (P.objs.size+1) (cellsFrom (P.objs.size+1) scope.names []):=by
  have q:=cellsFrom_ok scope.names (P.push {cls:=.type "dict",data:=.dict #[]}) (P.objs.size+1) [] ⟨fun _ _ hm=>(nomatch hm),JY.nil⟩ (by rw[Heap.size_push];exact Ux _)
  rwa [Heap.size_push] at q
 have hns₁:(pushCells (P.push {cls:=.type "dict",data:=.dict #[]}) scope.names).Ns P.objs.size (fun _=>none):=(Heap.Ns.new P (.type "dict")).keeps (pushCells_keeps _ _)
 have keep₁:∀b o,P.get? b=some o→(pushCells (P.push {cls:=.type "dict",data:=.dict #[]}) scope.names).get? b=some o:=fun b o e=>pushCells_keeps _ _ b o (Heap.get?_push_of_some _ e)
 generalize pushCells (P.push {cls:=.type "dict",data:=.dict #[]}) scope.names=h₁ at hnew hns₁ keep₁⊢
 have hC:P.objs.size=s2.heap.objs.size+1:=by rw[←hP,Heap.size_push]
 have hDC:s2.heap.objs.size≠P.objs.size:=by rw[hC];exact UU (NS _)
 have hCle:s2.heap.objs.size≤P.objs.size:=by rw[hC];exact J7 _
 have hDle:s2.heap.objs.size≤s2.heap.objs.size:=Ux _
 have old:∀b o,s2.heap.get? b=some o→h₁.get? b=some o:=fun b o e=>keep₁ b o (hP▸Heap.get?_push_of_some _ e)
 have hacc:h₁.get? s2.heap.objs.size=some {cls:=.type "list",data:=.seq ([]:List Value).toArray}:=keep₁ _ _ (hP▸Heap.get?_push_size _ rfl)
 have hfp:∀b∈fp,b<s2.heap.objs.size:=fun b hb=>let⟨_,e,_⟩:=T.obj 0 _ st2 b hb;Heap.lt_size e
 generalize hDd:s2.heap.objs.size=D at hacc hDC hDle⊢
 rw[hDd] at hCle hC
 generalize P.objs.size=C at hnew hns₁ hC hDC hCle⊢
 have dne:∀b∈fp,D≠b:=fun b hb=>Je (hDd▸hfp b hb)
 have cne:∀b∈fp,b≠C:=fun b hb=>UU (UT (hDd▸hfp b hb) hCle)
 have stkne:∀b∈fp,b∉frs X.stack:=fun b hb hz=>by
  obtain⟨_,h1,h2,_⟩:=f2 b hb
  rcases UJ.mp (I2.stkSub b hz) with e|e
  ·exact h1 e
  ·exact h2 e
 have dfs:D∉frs X.stack:=fun hz=>absurd (khD I2 hz) (by rw[hDd];exact Jt _)
 have dcell:∀x c,(kdu X scope C).lookup x=some c→c≠D:=fun x c e z=>by
  rcases kbP S I2 e with e|e
  ·have q:Nat.lt C c:=(hnew.empty x c (PySem.mem_of_lookup e)).2
   rw[z] at q
   exact absurd (Jv hCle q) (Jt _)
  ·obtain⟨v,q⟩:=I2.cell x c e
   have:=q.lt
   rw[z,hDd] at this
   exact absurd this (Jt _)
 have bcell:∀b∈fp,∀x c,(kdu X scope C).lookup x=some c→c≠b:=fun b hb x c e=>by
  rcases kbP S I2 e with e|e
  ·have q:Nat.lt C c:=(hnew.empty x c (PySem.mem_of_lookup e)).2
   exact Je (Nz (UT (hDd▸hfp b hb) hCle) q)
  ·exact(f2 b hb).2.2.2.2.1 x c e
 have stat:∀{o:Obj}{H':Hp},(∀b∈fp,H' b=none)→∀b∈fp,FpOk (cxC X scope N fp s2 H2 C) [(D,o)] H' b:=fun {o H'} hn b hb=>
  ⟨hn b hb,cne b hb,stkne b hb, .inl hb,bcell b hb,fun p hp=>by
   have e:p=(D,o):=by simpa[cxC] using hp
   subst e
   exact dne b hb⟩
 have loop:∀s₃:Shared,s₃= {s2 with heap:=h₁}→
   codeAny (model X.prog X.w) X.A (.compLoop (.ListComp elt [⟨tg,iter,ifs,0⟩] scope pos) 0 (.ref it) (.ref D) (compEnvC scope (kdu X scope C) C X.env)) (RR (.ref D) C) s₃:=by
  rintro s₃ rfl
  have I3:Inv (cxC X scope N fp s2 H2 C) [(D,_)] (capσ cap σ) H2 {s2 with heap:=h₁}:=
   kjt S I2 f2 hfp old hns₁ (by rw[hDd];exact hCle) (by rw[hDd];exact Ux _) hDC hacc (fun v z=>by cases z) hnew rfl rfl
  refine kfH (fun n s'=>∃i σ' ys H' its k,Inv (cxC X scope N fp s2 H2 C) [] σ' H' s'∧tn i s'.heap∧(∀b∈fp,H' b=none)∧H' D=none∧s'.heap.get? D=some {cls:=.type "list",data:=.seq (its:List Value).toArray k}∧Vals ys its∧ys.length≤sizeLine∧W i n σ' ys H') ?_ m0
   ⟨0,_,[],H2,[],_,I3.pins_of (fun p hp=>nomatch hp),T.keep _ _ _ st2 (fun b hb o e=>old b o e),fun b hb=>(f2 b hb).1,I2.hok.fresh (by rw[hDd];exact Ux _),hacc, .nil,U2 _,w0⟩
  rintro n s3 ⟨i,σ3,ys,H3,its,k,J3,st3,fr3,hD3,e3,r3,z3,w3⟩
  have J3':Inv (cxC X scope N fp s2 H2 C) [(D,{cls:=.type "list",data:=.seq its.toArray k})] σ3 H3 s3:=J3.pins_of fun p hp=>by
   have e:p=(D,{cls:=.type "list",data:=.seq its.toArray k}):=by simpa using hp
   subst e
   exact⟨e3,hD3,hDC,dfs,fun v z=>by cases z⟩
  rcases turn i n σ3 ys H3 w3 with⟨stop,qn⟩|⟨go,hlt,N',N0',hN,hN0,step⟩
  ·refine thn (T.done (cxC X scope N fp s2 H2 C) rfl rfl rfl hc i _ s3 σ3 H3 (fun _ _=>False) J3' (stat fr3) st3 stop) fun r s4 ⟨hr,I4⟩=>?_
   subst hr
   have e4:=(I4.pin (D,{cls:=.type "list",data:=.seq its.toArray k}) (by simp[cxC])).1
   have B:Inv X pins σ H3 s4:=comp_back I2 f2 (I4.pins_of fun p hp=>nomatch hp)
   obtain⟨m,hm,_⟩:=I4.loc
   have fD:FpOk X pins H3 D:=I2.fpOk (by rw[hDd];exact Ux _) hD3
   have B':Inv X pins σ (upd H3 D (.lst ys)) s4:=B.adopt fD (by rw[←hDd];exact I2.sz) ⟨z3,its,k,r3,e4⟩
   refine hRR D C _ s4 m B' (I2.fpOk (by rw[hDd];exact hCle) ?_) hDC.symm hm (qn D hD3)
   rw[kaj hDC.symm]
   exact I4.free
  ·refine thn (T.item (cxC X scope N fp s2 H2 C) rfl rfl rfl hc i _ s3 σ3 H3 (fun _ _=>False) J3' (stat fr3) st3 go) fun r s4 ⟨u,hr,h4⟩=>?_
   subst hr
   refine thn h4 fun _ s5 ⟨x,H5,I5,r5,y5,st5,fr5⟩=>?_
   have I5':=I5.pinned (stat fr5) (T.obj _ _ st5)
   refine thn (hg fp s2 H2 C _ s5 σ3 H5 x u _ I5' r5 (step x H5 y5)) fun _ s6 ⟨σ6,H6,I6,q6⟩=>?_
   refine thn (ht fp s2 H2 C _ s6 σ6 H6 _ I6 q6) fun ok s6' ⟨H6',I6',q6'⟩=>?_
   cases ok with
   | false=>
    have q6':N0' σ6 H6':=by simpa using q6'
    obtain⟨m',hm',w7⟩:=hN0 σ6 H6' q6'
    have p7:=I6'.pin (D,{cls:=.type "list",data:=.seq its.toArray k}) (by simp[cxC])
    have e7:s6'.heap.get? D=some {cls:=.type "list",data:=.seq its.toArray k}:=p7.1
    have pf:∀b∈fp,∀o,s5.heap.get? b=some o→s6'.heap.get? b=some o∧H6' b=none:=fun b hb o e=>
     let z:=I6'.pin (b,o) (U9 _ (U9 _ (kcz hb e)))
     ⟨z.1,z.2.1⟩
    refine⟨m',hm',i+1,σ6,ys,H6',its,_,I6'.pins_of (fun p hp=>nomatch hp),T.keep _ _ _ st5 (fun b hb o e=>(pf b hb o e).1),fun b hb=>?_,p7.2.1,e7,r3,z3,w7⟩
    obtain⟨o,e,_⟩:=T.obj _ _ st5 b hb
    exact(pf b hb o e).2
   |true=>
   have q6':te σ6 H6' (N' σ6):=by simpa using q6'
   refine thn (he fp s2 H2 C _ s6' σ6 H6' _ I6' q6') fun v s7 ⟨y,H7,I7,r7,q7⟩=>?_
   obtain⟨m',hm',w7⟩:=hN σ6 y H7 q7
   have p7:=I7.pin (D,{cls:=.type "list",data:=.seq its.toArray k}) (by simp[cxC])
   have e7:s7.heap.get? D=some {cls:=.type "list",data:=.seq its.toArray k}:=p7.1
   have hl7:=r3.length
   refine call_meets F.slot_list_append ⟨_,e7,rfl⟩ F.entry_list_append (F.args_list_append_2 _ _) (PySem.list_append D its.toArray k v (by rw[UQ];omega)) ⟨e7,?_⟩
   have q8:=PySem.IsL.update e7 (·.push v)
   have ex8:its.toArray.push v=(its++[v]).toArray:=by simp
   rw[ex8] at q8
   have pf:∀b∈fp,∀o,s5.heap.get? b=some o→s7.heap.get? b=some o∧H7 b=none:=fun b hb o e=>
    let z:=I7.pin (b,o) (U9 _ (U9 _ (kcz hb e)))
    ⟨z.1,z.2.1⟩
   have I7':Inv (cxC X scope N fp s2 H2 C) [] σ6 H7 s7:=I7.pins_of fun p hp=>nomatch hp
   refine⟨m',hm',i+1,σ6,ys++[y],H7,its++[v],_,I7'.turned (it:=D) (fun b o hb e=>(Heap.get?_update_other _ _ (Ne.symm hb)).trans e) p7.2.1 hDC (.inr (by show s2.heap.objs.size≤D;rw[hDd];exact Ux _)) dcell (fun p hp=>nomatch hp),
    T.keep _ _ _ st5 (fun b hb o e=>(Heap.get?_update_other _ _ (dne b hb)).trans (pf b hb o e).1),fun b hb=>?_,p7.2.1,q8,r3.append (.cons r7 .nil),by rw[UY,Nu];omega,w7⟩
   obtain⟨o,e,_⟩:=T.obj _ _ st5 b hb
   exact(pf b hb o e).2
 have st1:tn 0 h₁:=T.keep _ _ _ st2 (fun b hb o e=>old b o e)
 exact codeAny_compStart_list (loop _ rfl) (T.self X.A 0 _ _ _ st1 (loop _ rfl))
theorem kje{wi:TI}(S:CompScope X scope N cap)(hc:X.calm=true)(hi:PI X tg iter wi)(hg:∀fp s H C,PG (cxC X scope N fp s H C) tg g)(ht:∀fp s H C,PIf (cxC X scope N fp s H C) ifs tt)(he:∀fp s H C,PE (cxC X scope N fp s H C) elt te)
  (hs:∀x,foldedSetIterable iter X.env x=pure x:=by intro _;rfl):PE X (.ListComp elt [⟨tg,iter,ifs,0⟩] scope pos) (kk1 wi cap g tt te):=by
 intro pins s σ H Q I h
 rw[eval_ListComp]
 refine wpAny_comprehension_free (use:=none) rfl hs (kcu S I) S.kind S.names (thn (hi pins s σ H _ I h) fun v s1 h1=>thn h1 fun itv s2 h2=>?_)
 obtain⟨it,fp,tn,J,H2,e,I2,T,st2,f2,W,⟨m0,w0⟩,turn⟩:=h2
 subst e
 refine kdm (RR:=fun acc C=>compPost (model X.prog X.w) X.A X.xe none (EP X pins σ Q) acc C) S hc hg ht he I2 T st2 f2 W w0 turn fun D C H' s' m B fC hCD hm q=>?_
 obtain⟨c0,c1,c2,c3,c4,c5⟩:=fC
 exact⟨m,hm,fun h' hs'=>⟨.ref D,H',B.turned (t':=s'.toks) (fun b o hb e=>(hs'.2 b hb).trans e) c0 c1 c3 c4 c5,rfl,q⟩⟩
theorem kfG{J:It}{Q:VK}{W:Nat→Nat→St→List V→Hp→Prop}(h:∀i m σ' ys H',W i m σ' ys H'→(J.stop i H'∧∀D,H' D=none→Q (.ref D) (upd H' D (.lst ys)))∨(J.go i H'∧ys.length<sizeLine∧∃N:St→V→Hp→Prop,(∀σ2 y H4,N σ2 y H4→∃m',m'<m∧W (i+1) m' σ2 (ys++[y]) H4)∧
   ∀x H2,J.yld i H' x H2→g x σ' H2 fun σ2 H3=>te σ2 H3 (N σ2))):∀i m σ' ys H',W i m σ' ys H'→(J.stop i H'∧∀D,H' D=none→Q (.ref D) (upd H' D (.lst ys)))∨(J.go i H'∧ys.length<sizeLine∧∃(N:St→V→Hp→Prop)(N0:St→Hp→Prop),(∀σ2 y H4,N σ2 y H4→∃m',m'<m∧W (i+1) m' σ2 (ys++[y]) H4)∧(∀σ2 H4,N0 σ2 H4→∃m',m'<m∧W (i+1) m' σ2 ys H4)∧
   ∀x H2,J.yld i H' x H2→g x σ' H2 fun σ2 H3=>tYes σ2 H3 fun b H4=>if b=true then te σ2 H4 (N σ2) else N0 σ2 H4):=by
 intro i m σ' ys H' w
 rcases h i m σ' ys H' w with h|⟨go,hl,N,hN,st⟩
 ·exact .inl h
 ·refine .inr ⟨go,hl,N,fun _ _=>False,hN,(fun _ _ z=>z.elim),fun x H2 y=>?_⟩
  have e:(fun(σ2:St)(H3:Hp)=>tYes σ2 H3 fun b H4=>if b=true then te σ2 H4 (N σ2) else False)=fun σ2 H3=>te σ2 H3 (N σ2):=by
   funext σ2 H3
   show(if true=true then te σ2 H3 (N σ2) else False)=te σ2 H3 (N σ2)
   rw[if_pos rfl]
  rw[e]
  exact st x H2 y
theorem kbi{wi:TI}(S:CompScope X scope N cap)(hc:X.calm=true)(hi:PI X tg iter wi)(hg:∀fp s H C,PG (cxC X scope N fp s H C) tg g)(he:∀fp s H C,PE (cxC X scope N fp s H C) elt te)
  (hs:∀x,foldedSetIterable iter X.env x=pure x:=by intro _;rfl):PE X (.ListComp elt [⟨tg,iter,[],0⟩] scope pos) (tComp wi cap g te):=by
 intro pins s σ H Q I h
 rw[eval_ListComp]
 refine wpAny_comprehension_free (use:=none) rfl hs (kcu S I) S.kind S.names (thn (hi pins s σ H _ I h) fun v s1 h1=>thn h1 fun itv s2 h2=>?_)
 obtain⟨it,fp,tn,J,H2,e,I2,T,st2,f2,W,⟨m0,w0⟩,turn⟩:=h2
 subst e
 refine kdm (RR:=fun acc C=>compPost (model X.prog X.w) X.A X.xe none (EP X pins σ Q) acc C) S hc hg (fun _ _ _ _=>kh5) he I2 T st2 f2 W w0 (kfG turn) fun D C H' s' m B fC hCD hm q=>?_
 obtain⟨c0,c1,c2,c3,c4,c5⟩:=fC
 exact⟨m,hm,fun h' hs'=>⟨.ref D,H',B.turned (t':=s'.toks) (fun b o hb e=>(hs'.2 b hb).trans e) c0 c1 c3 c4 c5,rfl,q⟩⟩
theorem keO{wi:TI}{i:Nat}{y:Str}{py spos:Pos}(S:CompScope X scope N cap)(hc:X.calm=true)(hi:PI X tg iter wi)(hg:∀fp s H C,PG (cxC X scope N fp s H C) tg g)(he:∀fp s H C,PE (cxC X scope N fp s H C) elt te)
  (hA:PG X (.Name y py) (gName i)) (hsw:swapsWith (.ListComp elt [⟨tg,iter,[],0⟩] scope pos) (some (.Name y py)) spos.line X.env=pure true:=by rfl)
  (hs:∀x,foldedSetIterable iter X.env x=pure x:=by intro _;rfl):PS X (.Assign [.Name y py] (.ListComp elt [⟨tg,iter,[],0⟩] scope pos) spos) (tAsg (tComp wi cap g te) (gName i)):=by
 intro pins s σ H D I h
 rw[exec_Assign_Name_used _ _ _ _ hsw]
 refine wpAny_bind (wpAny_standAt (wpAny_bind ?_))
 show wpAny _ X.A (do let _ ←comprehension (.ListComp elt [⟨tg,iter,[],0⟩] scope pos) scope X.env _ (newList []) false (eval iter X.env) (some (assign (.Name y py) X.env))) _ _ s
 refine wpAny_bind (wpAny_mono (wpAny_comprehension_free (use:=some (assign (.Name y py) X.env)) (Q:=fun _ s'=>SP X pins D .next s') rfl hs (kcu S I) S.kind S.names
  (thn (hi pins s σ H _ I h) fun v s1 h1=>thn h1 fun itv s2 h2=>?_)) (fun _ s' hq=>wpAny_pure (wpAny_pure hq)) fun _ _ e=>e)
 obtain⟨it,fp,tn,J,H2,e,I2,T,st2,f2,W,⟨m0,w0⟩,turn⟩:=h2
 subst e
 refine kdm (Q:=fun v H'=>gName i v σ H' D.nx) (RR:=fun acc C=>compPost (model X.prog X.w) X.A X.xe (some (assign (.Name y py) X.env)) (fun _ s'=>SP X pins D .next s') acc C) S hc hg (fun _ _ _ _=>kh5) he I2 T st2 f2 W w0 (kfG (Q:=fun v H'=>gName i v σ H' D.nx) turn) fun D' C H' s' m B fC hCD hm q=>?_
 obtain⟨c0,c1,c2,c3,c4,c5⟩:=fC
 obtain⟨oC,es,ep,eC,dC,kC⟩:=hm
 have B':Inv X (pins++[(C,oC)]) σ H' s':=B.pins_of fun p hp=>by
  rcases Jg.mp hp with hp|hp
  ·exact B.pin p (U9 _ hp)
  ·have e:p=(C,oC):=by simpa using hp
   subst e
   exact⟨eC,c0,c1,c2,fun v z=>by rw[dC] at z;cases z⟩
 refine thn (hA _ s' σ H' (.ref D') (.ref D') _ B' rfl q) fun _ s'' ⟨σ2,H3,I3,q3⟩=>?_
 obtain⟨e3,n3,_⟩:=I3.pin (C,oC) (U9 _ (U9 _ (by simp)))
 exact⟨m,⟨oC,es,ep,e3,dC,kC⟩,fun h' hs'=>⟨σ2,H3,I3.unpinned.turned (t':=s''.toks) (fun b o hb e=>(hs'.2 b hb).trans e) n3 c1 c3 c4 c5,q3⟩⟩
end
section
variable {g:TG} {te:TE} {σ:St} {H:Hp} {R:List V→Hp→Addr→Prop}
theorem kaV{K:Uv}{a:Addr}{xs:List V}(Pv:Nat→St→List V→Hp→Prop)(h0:Pv 0 σ [] H)(hz:xs.length≤sizeLine)(hl:∀i σ ys H,i≤xs.length→Pv i σ ys H→SqL K H a xs∧ys.length=i)
  (hs:∀i x σ ys H,xs[i]?=some x→Pv i σ ys H→g x σ H fun σ2 H2=>te σ2 H2 fun y H3=>Pv (i+1) σ2 (ys++[y]) H3) (hd:∀σ ys H,Pv xs.length σ ys H→∀D,H D=none→R ys H D):
  ∃ W:Nat→Nat→St→List V→Hp→Prop,(∃m,W 0 m σ [] H)∧∀i m σ' ys H',W i m σ' ys H'→
   ((Itl K a).stop i H'∧∀D,H' D=none→R ys H' D)∨((Itl K a).go i H'∧ys.length<sizeLine∧∃N:St→V→Hp→Prop,(∀σ2 y H4,N σ2 y H4→∃m',m'<m∧W (i+1) m' σ2 (ys++[y]) H4)∧
    ∀x H2,(Itl K a).yld i H' x H2→g x σ' H2 fun σ2 H3=>te σ2 H3 (N σ2)):=by
 refine⟨fun i m σ ys H=>m=xs.length-i∧i≤xs.length∧Pv i σ ys H,⟨xs.length,by simp,U2 _,h0⟩,?_⟩
 rintro i m σ ys H ⟨rfl,hi,p⟩
 obtain⟨q,el⟩:=hl i σ ys H hi p
 by_cases hlt:i<xs.length
 ·refine .inr ⟨⟨xs,xs[i],q,by simp[hlt]⟩,by omega,fun σ2 y H3=>Pv (i+1) σ2 (ys++[y]) H3,fun σ' y H' p'=>⟨xs.length-(i+1),by omega,rfl,hlt,p'⟩,fun x H' yl=>?_⟩
  obtain⟨e,yl⟩:=yl
  subst e
  exact hs i x σ ys _ (yl xs q) p
 ·have e:i=xs.length:=by omega
  subst e
  exact .inl ⟨⟨xs,q,Ux _⟩,hd σ ys H p⟩
theorem khp{lo:Int}{n:Nat}(Pv:Nat→St→List V→Hp→Prop)(h0:Pv 0 σ [] H)(hz:n≤sizeLine)(hl:∀i σ ys H,i≤n→Pv i σ ys H→ys.length=i)
  (hs:∀i σ ys H,i<n→Pv i σ ys H→g (.int (lo+i)) σ H fun σ2 H2=>te σ2 H2 fun y H3=>Pv (i+1) σ2 (ys++[y]) H3) (hd:∀σ ys H,Pv n σ ys H→∀D,H D=none→R ys H D):
  ∃ W:Nat→Nat→St→List V→Hp→Prop,(∃m,W 0 m σ [] H)∧∀i m σ' ys H',W i m σ' ys H'→
   ((Itr lo n).stop i H'∧∀D,H' D=none→R ys H' D)∨((Itr lo n).go i H'∧ys.length<sizeLine∧∃N:St→V→Hp→Prop,(∀σ2 y H4,N σ2 y H4→∃m',m'<m∧W (i+1) m' σ2 (ys++[y]) H4)∧
    ∀x H2,(Itr lo n).yld i H' x H2→g x σ' H2 fun σ2 H3=>te σ2 H3 (N σ2)):=by
 refine⟨fun i m σ ys H=>m=n-i∧i≤n∧Pv i σ ys H,⟨n,by simp,U2 _,h0⟩,?_⟩
 rintro i m σ ys H ⟨rfl,hi,p⟩
 have el:=hl i σ ys H hi p
 by_cases hlt:i<n
 ·refine .inr ⟨hlt,by omega,fun σ2 y H3=>Pv (i+1) σ2 (ys++[y]) H3,fun σ' y H' p'=>⟨n-(i+1),by omega,rfl,hlt,p'⟩,fun x H' yl=>?_⟩
  obtain⟨e,yl⟩:=yl
  subst e yl
  exact hs i σ ys _ hlt p
 ·have e:i=n:=by omega
  subst e
  exact .inl ⟨Ux _,hd σ ys H p⟩
end
theorem CompScope.plain{X:Cx}{scope:Scope}{N:List Str}(kind:scope.kind=.function)(names:∀x∈scope.names,x.2=.local→scope.names.lookup x.1=some .local)(_:∀x∈scope.names,x.2≠.cell)(nf:∀x∈scope.names,x.2≠.free)(nd:N.Nodup):
  CompScope X scope N (Uw N.length none):=by
 refine⟨kind,names,fun x hx hf=>absurd hf (nf x hx),nd,by simp,fun j i x e _=>?_⟩
 rw[JQ] at e
 split at e
 ·cases e
 ·cases e
noncomputable def kkh(scope:Scope)(ns:List (Str×NameKind))(XN N:List Str)(cap:List (Option Nat)):Bool:=
 scope.kind== .function&&scope.names.all (fun x=>!(x.2== .local)||scope.names.lookup x.1==some .local)&&scope.names.all (fun x=>!(x.2== .free)||(ns.lookup x.1==some .cell||ns.lookup x.1==some .free))&&decide N.Nodup&&decide (cap.length=N.length) &&
  (cap.zip N).all fun p=>match p.1 with
   |none=>true
   |some i=>XN[i]? ==some p.2&&scope.names.lookup p.2==some .free&&scope.names.all fun y=>!(y.1==p.2&&y.2== .cell)
def CompScope.of{X:Cx}{scope:Scope}{N:List Str}{cap:List (Option Nat)}(ns:List (Str×NameKind))(XN:List Str)(hn:X.env.scope.names=ns)(hN:X.N=XN)(h:kkh scope ns XN N cap=true):CompScope X scope N cap:=by
 unfold kkh at h
 simp only[JR,decide_eq_true_eq,Nw,Nx,Bool.not_eq_true',beq_iff_eq,beq_eq_false_iff_ne] at h
 obtain⟨⟨⟨⟨⟨h1,h2⟩,h3⟩,h4⟩,h5⟩,h6⟩:=h
 refine⟨h1,fun x hx hl=>?_,fun x hx hf=>?_,h4,h5,fun j i x e1 e2=>?_⟩
 ·rcases h2 x hx with q|q
  ·exact absurd hl q
  ·exact q
 ·rw[hn]
  rcases h3 x hx with q|q
  ·exact absurd hf q
  ·exact q
 ·have hz:(cap.zip N)[j]?=some (some i,x):=by
   rw[List.getElem?_zip_eq_some]
   exact⟨e1,e2⟩
  have q:=h6 _ (UE hz)
  simp only[JR,beq_iff_eq,Nw,Bool.not_eq_true',Bool.and_eq_false_iff,beq_eq_false_iff_ne] at q
  obtain⟨⟨q1,q2⟩,q3⟩:=q
  refine⟨by rw[hN];exact q1,q2,fun z=>?_⟩
  rcases q3 _ z with q|q
  ·exact q rfl
  ·exact q rfl
end L2
namespace L2
open PySem PySem.Spec PyProof.Rows
theorem Inv.turnedL{X:Cx}{pins:List (Addr×Obj)}{σ:St}{H:Hp}{s:Shared}{h':Heap}{t':Nat}{ch:List Addr}(I:Inv X pins σ H s)(k:∀b o,b∉ch→s.heap.get? b=some o→h'.get? b=some o)(hf:∀b∈ch,FpOk X pins H b):
  Inv X pins σ H {s with heap:=h',toks:=t'}:=by
 have nch:∀b u,H b=some u→b∉ch:=fun b u e z=>by
  have:=(hf b z).1
  rw[this] at e
  cases e
 refine I.step (g':=s.gens) (d':=s.drawn) (ch:=ch) (fun b hb=>let⟨_,h1,_,h3,h4,h5⟩:=hf b hb;⟨h3,h1,h4,h5⟩) (fun b o _ _ hc e _=>k b o hc e) (fun b o _ _ hc e _=>⟨o.slots,k b o hc e⟩) (fun _ _ _ _ n=>n)
  (fun b o hc e=>⟨o,k b o hc e⟩) (fun _ _ e=>e) (fun _ _ _ e=>e) (fun b ps e=>⟨#[],by rw[e];simp⟩) (fun m hm=>?_) (fun b u e=>?_) I.bare
 ·obtain⟨o,es,ep,ho,r⟩:=hm
  exact⟨o,es,ep,k _ o (fun z=>(hf _ z).2.1 rfl) ho,r⟩
 ·refine(I.hok b u e).stay (fun c v hc q=>k c v ?_ q) (fun _ q=>q) fun _ _ q=>q
  rcases hc with z|z
  ·rw[z];exact nch b u e
  ·exact nch c _ z
noncomputable def Ite(a:Addr):It:=⟨fun i H=>∃xs x,H a=some (.lst xs)∧xs[i]?=some x,fun i H x H'=>∃t y,H t=none∧x=.ref t∧H'=upd H t (.tup [.int i,y])∧∀xs,H a=some (.lst xs)→xs[i]?=some y,fun i H=>∃xs,H a=some (.lst xs)∧xs.length≤i⟩
theorem khy{P:Program}{w:World}{K:Uv}{es:List Expr}{k:Nat}{pos:Pos}(a e it:Addr)(hne:e≠it):Turn P w K (.Tuple es k pos) (Ite a) [e,it] e (fun i h=>(∃old,IsEnum h e it ((i:Nat):Int) old)∧h.IsListIter it a i) where
 mem:=by simp
 obj:=fun i h st b hb=>by
  obtain⟨⟨old,he⟩,o,eo,c,d⟩:=st
  have hb':b=e∨b=it:=by simpa using hb
  rcases hb' with rfl|rfl
  ·exact⟨_,he,fun v z=>by
    have z':Data.fields _=Data.cell v:=z
    cases z'⟩
  ·exact⟨o,eo,fun v z=>by rw[d] at z;cases z⟩
 keep:=fun i h h' st k=>⟨let⟨old,he⟩:=st.1;⟨old,k e (by simp) _ he⟩,st.2.at fun o eo=>k it (by simp) o eo⟩
 item:=by
  intro X hP hw hK hc i pins s σ H E I hf st hg
  subst hP hw hK
  obtain⟨⟨old,he⟩,hit⟩:=st
  obtain⟨xs,x,hq,hx⟩:=hg
  obtain⟨its,n,r,ho,hz⟩:=I.lst hq
  obtain⟨u,hu,ru⟩:=r.get hx
  have hl:s.heap.IsList a its.toArray:=⟨_,ho,rfl,n,rfl⟩
  refine wpAny_pyNext_enum_item he hit hl (x:=u) (by simpa using hu) hne fun h1 heo hit1 ht1 hz1 hk1=>?_
  refine⟨.ref s.heap.objs.size,rfl,wpAny_letOwnedTupleGo_enum heo fun h2 he2 hs2=>?_⟩
  have hs2':Heap.SameBut e h1 h2:=hs2
  have el:e<s.heap.objs.size:=Heap.lt_size he
  have kk:∀b o,b∉[e,it]→s.heap.get? b=some o→h2.get? b=some o:=fun b o hb eo=>by
   have hb':b≠e∧b≠it:=by simpa using hb
   exact(hs2'.2 b hb'.1).trans (hk1 b o hb'.1 hb'.2 eo)
  have I1:Inv X pins σ H {s with heap:=h2,toks:=s.toks+1}:=I.turnedL (ch:=[e,it]) kk hf
  have fr:H s.heap.objs.size=none:=I.hok.fresh (Ux _)
  have ft:FpOk X pins H s.heap.objs.size:=I.fpOk (Ux _) fr
  have ht2:h2.get? s.heap.objs.size=some {cls:=.type "tuple",data:=.seq #[.int i s.toks,u]}:=(hs2'.2 _ (Je el)).trans ht1
  have I2:Inv X pins σ (upd H s.heap.objs.size (.tup [.int i,x])) {s with heap:=h2,toks:=s.toks+1}:=
   I1.adopt ft I.sz ⟨by show 2≤sizeLine;decide,[.int i s.toks,u], .cons ⟨_,rfl⟩ (.cons ru .nil),_,ht2,rfl,_,rfl⟩
  have hit2:h2.IsListIter it a (i+1):=hit1.extBut hs2'.extBut (Ne.symm hne)
  refine⟨.ref s.heap.objs.size,_,I2,rfl,⟨s.heap.objs.size,x,fr,rfl,rfl,fun ys hy=>by rw[hq] at hy;cases hy;exact hx⟩,⟨⟨u,?_⟩,hit2⟩,fun b hb=>?_⟩
  ·have e1:((i+1:Nat):Int)=(i:Int)+1:=rfl
   rw[e1]
   exact he2
  ·have hbl:b<s.heap.objs.size:=by
    have hb':b=e∨b=it:=by simpa using hb
    rcases hb' with rfl|rfl
    ·exact el
    ·obtain⟨o,eo,_⟩:=hit
     exact Heap.lt_size eo
   rw[kaj (UU hbl)]
   exact(hf b hb).1
 done:=by
  intro X hP hw hK hc i pins s σ H E I hf st hg
  subst hP hw hK
  obtain⟨⟨old,he⟩,hit⟩:=st
  obtain⟨xs,hq,hx⟩:=hg
  obtain⟨its,n,r,ho,hz⟩:=I.lst hq
  have hl:s.heap.IsList a its.toArray:=⟨_,ho,rfl,n,rfl⟩
  have hlen:=r.length
  obtain⟨f0,f1,f2,f3,f4,f5⟩:=hf it (by simp)
  exact wpAny_pyNext_enum_end (I.ok.hd hc) he hit hl (by simp;omega) fun h' eb=>⟨rfl,I.turned (t':=s.toks) (fun b o hb e=>eb b o hb e) f0 f1 f3 f4 f5⟩
 self:=fun _ _ _ _ _ st h=>let⟨_,he⟩:=st.1;wpAny_pyIter_enum he h
section
variable {X:Cx}
noncomputable def iEnum(ta:TA):TI:=fun σ H R=>ta σ H fun vs H1=>∃a xs,vs=[.ref a]∧H1 a=some (.lst xs)∧R (Ite a) H1
theorem kdR{es:List Expr}{k:Nat}{tpos:Pos}{e:Expr}{ta:TA}{p pos:Pos}(hg:Gl X "enumerate")(hm:X.mg "enumerate"=none)(ha:PA X [e] ta)(he:starEach [e] X.env=(false,eval e X.env)::starEach [] X.env:=by rfl)
  (hpl:(backTo pos (starEach [] X.env)).any (·.1)=false:=by rfl):PI X (.Tuple es k tpos) (.Call (.Name "enumerate" p) [e] [] pos) (iEnum ta):=by
 intro pins s σ H R I h
 refine Call_ (kcq I hg hm boot_enumerate (PyProof.Rows.callWith_type1 (thn (ha pos pins s σ H _ I h) fun us s1 ⟨vs,H1,I1,r1,q1⟩=>?_) he hpl))
 obtain⟨a,xs,rfl,hq,q⟩:=q1
 obtain⟨u,rfl,rx⟩:=vals1 r1
 cases rx
 obtain⟨its,n,r,ho,hz⟩:=I1.lst hq
 refine call_enumerate_1 ho fun h' he' hit' hsz hk=>wpAny_pyIter_enum he' ?_
 have I2:Inv X pins σ H1 {s1 with heap:=h'}:=I1.kept (t':=s1.toks) hk
 refine⟨s1.heap.objs.size+1,[s1.heap.objs.size+1,s1.heap.objs.size],_,_,H1,rfl,I2,khy a (s1.heap.objs.size+1) s1.heap.objs.size (Nat.succ_ne_self _),⟨⟨_,he'⟩,hit'⟩,fun b hb=>?_,q⟩
 have hb':b=s1.heap.objs.size+1∨b=s1.heap.objs.size:=by simpa using hb
 have hle:s1.heap.objs.size≤b:=by rcases hb' with rfl|rfl <;> omega
 exact I1.fpOk hle (I1.hok.fresh hle)
end
theorem kdG{a:Addr}{xs:List V}{g:TG}{tb:TS}{D:Ends}{σ:St}{H:Hp}(Pv:Nat→St→Hp→Prop)(h0:Pv 0 σ H)(hl:∀i σ H,i≤xs.length→Pv i σ H→H a=some (.lst xs))
  (hs:∀i y t σ H,xs[i]?=some y→Pv i σ H→H t=none→g (.ref t) σ (upd H t (.tup [.int (i:Nat),y])) fun σ2 H2=>tb {D with nx:=Pv (i+1),ct:=Pv (i+1),bk:=D.nx} σ2 H2) (hd:∀σ H,Pv xs.length σ H→D.nx σ H):
  ∃W:Nat→Nat→St→Hp→Prop,(∃m,W 0 m σ H)∧∀i m σ H,W i m σ H→
   ((Ite a).stop i H∧D.nx σ H)∨((Ite a).go i H∧∃N:St→Hp→Prop,(∀σ' H',N σ' H'→∃m',m'<m∧W (i+1) m' σ' H')∧∀x H',(Ite a).yld i H x H'→g x σ H' fun σ2 H2=>tb {D with nx:=N,ct:=N,bk:=D.nx} σ2 H2):=by
 refine⟨fun i m σ H=>m=xs.length-i∧i≤xs.length∧Pv i σ H,⟨xs.length,by simp,U2 _,h0⟩,?_⟩
 rintro i m σ H ⟨rfl,hi,p⟩
 have q:=hl i σ H hi p
 by_cases hlt:i<xs.length
 ·refine .inr ⟨⟨xs,xs[i],q,by simp[hlt]⟩,Pv (i+1),fun σ' H' p'=>⟨xs.length-(i+1),by omega,rfl,hlt,p'⟩,fun x H' y=>?_⟩
  obtain⟨t,y,hn,rfl,rfl,hy⟩:=y
  exact hs i y t σ _ (hy xs q) p hn
 ·have e:i=xs.length:=by omega
  subst e
  exact .inl ⟨⟨xs,q,Ux _⟩,hd σ H p⟩
section
variable {X:Cx}
theorem kg6:∀{bs:List Bool}{us:List Value}{i:Nat}{v:Value},Vals (bs.map V.bl) us→us[i]?=some v→∃b,bs[i]?=some b∧v=.bool b
 |[],_,_,_, .nil,e=>by simp at e
 |b::bs,u::us,0,v, .cons r _,e=>by
  have e':u=v:=by simpa using e
  subst e'
  exact⟨b,rfl,r⟩
 |b::bs,u::us,i+1,v, .cons _ t,e=>by
  obtain⟨b',h1,h2⟩:=kg6 (i:=i) (v:=v) t (by simpa using e)
  exact⟨b',by simpa using h1,h2⟩
theorem kjH(hc:X.calm=true):CallR X (.builtin "all") (fun xs H Q=>∃(p:Addr)(bs:List Bool),xs=[.ref p]∧SqL X.K H p (bs.map V.bl)∧Q (.bl (bs.all id)) H):=by
 intro pins s σ H xs us Q I r h
 obtain⟨p,bs,rfl,hq,q⟩:=h
 obtain⟨u,rfl,rx⟩:=vals1 r
 cases rx
 obtain⟨its,r',pl,hz⟩:=I.list hq
 have hl:=pl.isList
 have hlt:p<s.heap.objs.size:=by obtain⟨_,e,_⟩:=hl;exact Heap.lt_size e
 have hlen:=r'.length
 refine call_all_walk (wpAny_pyIter_list hl ?_)
 refine⟨s.heap.objs.size,[s.heap.objs.size,p],[s.heap.objs.size],its.toArray.size,_,_,fun i=>(bs[i]?).getD true,rfl,Walks.list (A:=X.A.in1) (I.ok.hd hc) _ p (UU hlt) its.toArray,
  ⟨⟨_,Heap.get?_push_size _ rfl,rfl,rfl⟩,hl.push _⟩,fun i v s' Q' E' hP hQ=>?_,fun h' tk hk=>?_⟩
 ·obtain⟨b,e,rfl⟩:=kg6 (i:=i) (v:=v) r' (by simpa using hP)
  simp only[e,Option.getD_some] at hQ
  exact wpAny_truthy_bool hQ
 ·have e:((Uz its.toArray.size).all fun i=>(bs[i]?).getD true)=bs.all id:=by
   rw[UQ,←hlen,Uu]
   exact LSm.range_all bs
  rw[e]
  exact⟨.bl _,H,I.kept (LSm.kept_iter hk),rfl,q⟩
theorem b_all:bootBuiltins "all"=some (.builtin "all"):=by decide +kernel
end
section
variable {X:Cx}
end
end L2
namespace L2
open PySem PySem.Spec PyProof.Rows
section
variable {prog:Program} {w:World} {A:Around} {E:Value→Shared→Prop} {s:Shared}
end
section
variable {X:Cx}
end
section
variable {X:Cx} {CX:CXT} {k:Nat} {f C:Addr} {fd:FuncData} {ps ks:List Str} {sp:Sp} {E:XK} {x:Str} {p pos:Pos} {e:Expr} {es:List Expr} {kws:List Keyword} {t tk:TA} {g:List Value→List Value→List Value} {gV:List V→List V→List V}
end
end L2
namespace L2
open PySem PySem.Spec PyProof.Rows
noncomputable def kcJ(K:Uv):List V→Hp→VK→Prop:=fun xs H Q=>∃p ys,xs=[.ref p]∧(SqL K H p ys∨SqT K H p ys)∧∀l,H l=none→Q (.ref l) (upd H l (.lst ys))
noncomputable def kbz(K:Uv):List V→Hp→VK→Prop:=fun xs H Q=>∃p ys,xs=[.ref p]∧(SqL K H p ys∨SqT K H p ys)∧Q (.int ys.length) H
noncomputable def rSum(K:Uv):List V→Hp→VK→Prop:=fun xs H Q=>∃(p:Addr)(ns:List Int),xs=[.ref p]∧SqL K H p (ns.map V.int)∧Q (.int ns.sum) H
noncomputable def rIsi(K:Uv):List V→Hp→VK→Prop:=fun xs H Q=>∃x c t b,xs=[x,c]∧((∃n,c=.ty n)∨∃a,c=.ref a)∧TyOf K H x t∧UL K t (cV c)=some b∧Q (.bl b) H
section
variable {X:Cx} {K:Uv} {pos:Pos}
theorem kam{e:Expr}{ta:TE}{f:Str}(he:PE X e ta)(hb:attributeBase e f X.env (eval e X.env)=eval e X.env)(hK:X.K=K:=by rfl):PE X (.Attribute e f pos) (tFld K ta f):=by
 subst hK
 exact kla he hb
theorem kaF{tg l:Expr}{tl:TE}(hl:PE X l tl)(hK:X.K=K:=by rfl):PI X tg l (iList K tl):=by
 subst hK
 exact kkA hl
theorem kbb{es:List Expr}{k:Nat}{t:TGs}{n:Nat}(hc:X.calm=true)(h:PGs X es t)(hK:X.K=K:=by rfl)
  (hn:(assignEach es X.env).length=n:=by rfl) (hst:(assignEach es X.env).findIdx? (·.1)=none:=by rfl):PG X (.Tuple es k pos) (gTup K n t):=by
 subst hK
 exact kk7 hc h hn hst
end
end L2
namespace L2
open PySem PySem.Spec PyProof.Rows
inductive DEq (K:Uv) (H:Hp):Nat→V→V→Prop
 |flat {n:Nat} {x y:V} (fx:flatV x=true) (fy:flatV y=true) (e:eqV x y=true):DEq K H n x y
 |same {n:Nat} (a:Addr):DEq K H n (.ref a) (.ref a)
 |lst {n:Nat} {a b:Addr} {xs ys:List V} (ha:SqL K H a xs) (hb:SqL K H b ys) (hl:xs.length=ys.length) (h:∀(i:Nat)(x y:V),xs[i]?=some x→ys[i]?=some y→DEq K H n x y):DEq K H (n+1) (.ref a) (.ref b)
 |tup {n:Nat} {a b:Addr} {xs ys:List V} (ha:SqT K H a xs) (hb:SqT K H b ys) (hl:xs.length=ys.length) (h:∀(i:Nat)(x y:V),xs[i]?=some x→ys[i]?=some y→DEq K H n x y):DEq K H (n+1) (.ref a) (.ref b)
def DEq.self{K:Uv}{H:Hp}{n:Nat}{x:V}(h:flatV x=true):DEq K H n x x:=.flat h h (kjA h)
def DEq.int{K:Uv}{H:Hp}{n:Nat}(i:Int):DEq K H n (.int i) (.int i):=.self rfl
def DEq.bl{K:Uv}{H:Hp}{n:Nat}(i:Bool):DEq K H n (.bl i) (.bl i):=.self rfl
def DEq.non{K:Uv}{H:Hp}{n:Nat}:DEq K H n .non .non:=.self rfl
def DEq.str{K:Uv}{H:Hp}{n:Nat}(i:Str):DEq K H n (.str i) (.str i):=.self rfl
section
variable {X:Cx}
end
noncomputable def Itz(a b:Addr):It:=⟨fun i H=>∃xs ys x y,H a=some (.lst xs)∧H b=some (.lst ys)∧xs[i]?=some x∧ys[i]?=some y,
 fun i H v H'=>∃t x y,H t=none∧v=.ref t∧H'=upd H t (.tup [x,y])∧(∀xs,H a=some (.lst xs)→xs[i]?=some x)∧∀ys,H b=some (.lst ys)→ys[i]?=some y,
 fun i H=>∃xs ys,H a=some (.lst xs)∧H b=some (.lst ys)∧(xs.length≤i∨ys.length≤i)⟩
theorem kgu{P:Program}{w:World}{K:Uv}{es:List Expr}{k:Nat}{pos:Pos}(a b z TI TO i1 i2:Addr)(nd:[z,TI,TO,i1,i2].Nodup):
  Turn P w K (.Tuple es k pos) (Itz a b) [z,TI,TO,i1,i2] z (fun i h=>IsZip h z TI TO .none∧IsPair h TI (.ref i1) (.ref i2)∧(∃u v,IsPair h TO u v)∧h.IsListIter i1 a i∧h.IsListIter i2 b i) where
 mem:=by simp
 obj:=fun i h st b hb=>by
  obtain⟨hz,hI,⟨_,_,hO⟩,⟨o1,e1,_,d1⟩,⟨o2,e2,_,d2⟩⟩:=st
  simp only[UJ,U3,or_false] at hb
  rcases hb with rfl|rfl|rfl|rfl|rfl
  ·exact⟨_,hz,fun v q=>by cases(show Data.fields _=Data.cell v from q)⟩
  ·exact⟨_,hI,fun v q=>by cases(show Data.seq _ _=Data.cell v from q)⟩
  ·exact⟨_,hO,fun v q=>by cases(show Data.seq _ _=Data.cell v from q)⟩
  ·exact⟨o1,e1,fun v q=>by rw[d1] at q;cases q⟩
  ·exact⟨o2,e2,fun v q=>by rw[d2] at q;cases q⟩
 keep:=fun i h h' st kk=>by
  obtain⟨hz,hI,⟨u,v,hO⟩,h1,h2⟩:=st
  exact⟨kk z (by simp) _ hz,kk TI (by simp) _ hI,⟨u,v,kk TO (by simp) _ hO⟩,h1.at fun o e=>kk i1 (by simp) o e,h2.at fun o e=>kk i2 (by simp) o e⟩
 item:=by
  intro X hP hw hK hc i pins s σ H E I hf st hg
  subst hP hw hK
  obtain⟨hz,hI,⟨u,v,hO⟩,h1,h2⟩:=st
  obtain⟨xs,ys,x,y,ha,hb,hx,hy⟩:=hg
  obtain⟨its1,n1,r1,ho1,_⟩:=I.lst ha
  obtain⟨its2,n2,r2,ho2,_⟩:=I.lst hb
  obtain⟨u1,g1,ru1⟩:=r1.get hx
  obtain⟨u2,g2,ru2⟩:=r2.get hy
  have L1:s.heap.IsList a its1.toArray:=⟨_,ho1,rfl,n1,rfl⟩
  have L2':s.heap.IsList b its2.toArray:=⟨_,ho2,rfl,n2,rfl⟩
  have off:∀{l:Addr}{zs:List V},H l=some (.lst zs)→l∉[z,TI,TO,i1,i2]:=fun {l zs} e m=>by
   have:=(hf l m).1
   rw[this] at e
   cases e
  have oa:=off ha
  have ob:=off hb
  have nd':=nd
  simp only[Ji,UJ,U3,or_false,not_or,J9,and_true,not_false_eq_true] at nd' oa ob
  obtain⟨⟨nzI,nzO,nz1,nz2⟩,⟨nIO,nI1,nI2⟩,⟨nO1,nO2⟩,n12⟩:=nd'
  have D:ZipApart z TI TO i1 i2 a b:=⟨Ne.symm nzI,Ne.symm nzO,Ne.symm nz1,Ne.symm nz2,nIO,nI1,nI2,nO1,nO2,n12,oa.1,oa.2.2.1,oa.2.2.2.1,oa.2.2.2.2,ob.1,ob.2.2.1,ob.2.2.2.1,ob.2.2.2.2⟩
  refine wpAny_pyNext_zip_item D hz hI hO h1 h2 L1 L2' (x:=u1) (y:=u2) (by simpa using g1) (by simpa using g2) fun h' a1 a2 a3 a4 a5 a6 a7=>?_
  refine⟨.ref s.heap.objs.size,rfl,wpAny_letOwnedTupleGo_zip a1 fun h2' z2 s2=>?_⟩
  have s2':Heap.SameBut z h' h2':=s2
  have zl:z<s.heap.objs.size:=Heap.lt_size hz
  have kk:∀b o,b∉[z,TI,TO,i1,i2]→s.heap.get? b=some o→h2'.get? b=some o:=fun b o hb eo=>by
   simp only[UJ,U3,or_false,not_or] at hb
   exact(s2'.2 b hb.1).trans (a7 b o hb.1 hb.2.2.1 hb.2.2.2.1 hb.2.2.2.2 eo)
  have I1:Inv X pins σ H {s with heap:=h2',toks:=s.toks}:=I.turnedL (ch:=[z,TI,TO,i1,i2]) kk hf
  have fr:H s.heap.objs.size=none:=I.hok.fresh (Ux _)
  have ft:FpOk X pins H s.heap.objs.size:=I.fpOk (Ux _) fr
  have t2:h2'.get? s.heap.objs.size=some {cls:=.type "tuple",data:=.seq #[u1,u2]}:=(s2'.2 _ (Je zl)).trans a5
  have I2:Inv X pins σ (upd H s.heap.objs.size (.tup [x,y])) {s with heap:=h2',toks:=s.toks}:=
   I1.adopt ft I.sz ⟨by show 2≤sizeLine;decide,[u1,u2], .cons ru1 (.cons ru2 .nil),_,t2,rfl,_,rfl⟩
  have hI2:IsPair h2' TI (.ref i1) (.ref i2):=(s2'.2 _ (Ne.symm nzI)).trans (a7 TI _ (Ne.symm nzI) nIO nI1 nI2 hI)
  refine⟨.ref s.heap.objs.size,_,I2,rfl,⟨s.heap.objs.size,x,y,fr,rfl,rfl,fun ws e=>by rw[ha] at e;cases e;exact hx,fun ws e=>by rw[hb] at e;cases e;exact hy⟩,
   ⟨z2,hI2,⟨_,_,(s2'.2 _ (Ne.symm nzO)).trans a2⟩,a3.extBut s2'.extBut (Ne.symm nz1),a4.extBut s2'.extBut (Ne.symm nz2)⟩,fun b hb=>?_⟩
  have hbl:b<s.heap.objs.size:=by
   simp only[UJ,U3,or_false] at hb
   rcases hb with rfl|rfl|rfl|rfl|rfl
   ·exact zl
   ·exact Heap.lt_size hI
   ·exact Heap.lt_size hO
   ·obtain⟨o,e,_⟩:=h1;exact Heap.lt_size e
   ·obtain⟨o,e,_⟩:=h2;exact Heap.lt_size e
  rw[kaj (UU hbl)]
  exact(hf b hb).1
 done:=by
  intro X hP hw hK hc i pins s σ H E I hf st hg
  subst hP hw hK
  obtain⟨hz,hI,⟨u,v,hO⟩,h1,h2⟩:=st
  obtain⟨xs,ys,ha,hb,hx⟩:=hg
  obtain⟨its1,n1,r1,ho1,_⟩:=I.lst ha
  obtain⟨its2,n2,r2,ho2,_⟩:=I.lst hb
  have L1:s.heap.IsList a its1.toArray:=⟨_,ho1,rfl,n1,rfl⟩
  have L2':s.heap.IsList b its2.toArray:=⟨_,ho2,rfl,n2,rfl⟩
  have hlen1:=r1.length
  have hlen2:=r2.length
  have off:∀{l:Addr}{zs:List V},H l=some (.lst zs)→l∉[z,TI,TO,i1,i2]:=fun {l zs} e m=>by
   have:=(hf l m).1
   rw[this] at e
   cases e
  have oa:=off ha
  have ob:=off hb
  have nd':=nd
  simp only[Ji,UJ,U3,or_false,not_or,J9,and_true,not_false_eq_true] at nd' oa ob
  obtain⟨⟨nzI,nzO,nz1,nz2⟩,⟨nIO,nI1,nI2⟩,⟨nO1,nO2⟩,n12⟩:=nd'
  have D:ZipApart z TI TO i1 i2 a b:=⟨Ne.symm nzI,Ne.symm nzO,Ne.symm nz1,Ne.symm nz2,nIO,nI1,nI2,nO1,nO2,n12,oa.1,oa.2.2.1,oa.2.2.2.1,oa.2.2.2.2,ob.1,ob.2.2.1,ob.2.2.2.1,ob.2.2.2.2⟩
  refine wpAny_pyNext_zip_end (I.ok.hd hc) D hz hI hO h1 h2 L1 L2' ?_ fun h' hk=>⟨rfl,?_⟩
  ·rcases hx with hx|hx
   ·exact .inl (by simp;omega)
   ·exact .inr (by simp;omega)
  ·refine I.turnedL (t':=s.toks) (ch:=[z,TI,TO,i1,i2]) (fun b o hb e=>?_) hf
   simp only[UJ,U3,or_false,not_or] at hb
   exact hk b o hb.1 hb.2.2.1 hb.2.2.2.1 hb.2.2.2.2 e
 self:=fun _ _ _ _ _ st h=>wpAny_pyIter_zip st.1 h
def kgh(n:Nat):([n+4,n+2,n+3,n,n+1]:List Nat).Nodup:=by
 simp only[Ji,UJ,U3,or_false,not_or,J9,and_true,not_false_eq_true]
 omega
def kgi{n x:Nat}(h:x∈([n+4,n+2,n+3,n,n+1]:List Nat)):n≤x:=by
 simp only[UJ,U3,or_false] at h
 omega
section
variable {X:Cx}
noncomputable def iZip(ta:TA):TI:=fun σ H R=>ta σ H fun vs H1=>∃a b xs ys,vs=[.ref a, .ref b]∧H1 a=some (.lst xs)∧H1 b=some (.lst ys)∧R (Itz a b) H1
theorem kkj:bootBuiltins "zip"=some (.type "zip"):=by decide +kernel
theorem keS{es:List Expr}{k:Nat}{tpos:Pos}{e1 e2:Expr}{ta:TA}{p pos:Pos}(hg:Gl X "zip")(hm:X.mg "zip"=none)(ha:PA X [e1,e2] ta)(he:starEach [e1,e2] X.env=(false,eval e1 X.env)::starEach [e2] X.env:=by rfl)
  (hpl:(backTo pos (starEach [e2] X.env)).any (·.1)=false:=by rfl):PI X (.Tuple es k tpos) (.Call (.Name "zip" p) [e1,e2] [] pos) (iZip ta):=by
 intro pins s σ H R I h
 refine Call_ (kcq I hg hm kkj (PyProof.Rows.callWith_type1 (thn (ha pos pins s σ H _ I h) fun us s1 ⟨vs,H1,I1,r1,q1⟩=>?_) he hpl))
 obtain⟨a,b,xs,ys,rfl,qa,qb,q⟩:=q1
 cases r1 with
 | cons ra rr=>
  cases rr with
  |cons rb rr=>
   cases rr
   cases ra
   cases rb
   obtain⟨its1,n1,_,ho1,_⟩:=I1.lst qa
   obtain⟨its2,n2,_,ho2,_⟩:=I1.lst qb
   refine call_zip_2 (xs:=its1.toArray) (ys:=its2.toArray) ⟨_,ho1,rfl,n1,rfl⟩ ⟨_,ho2,rfl,n2,rfl⟩ fun h' b1 b2 b3 b4 b5 _ hk=>wpAny_pyIter_zip b1 ?_
   have I2:Inv X pins σ H1 {s1 with heap:=h'}:=I1.kept (t':=s1.toks) hk
   refine⟨s1.heap.objs.size+4,[s1.heap.objs.size+4,s1.heap.objs.size+2,s1.heap.objs.size+3,s1.heap.objs.size,s1.heap.objs.size+1],_,_,H1,rfl,I2,kgu a b _ _ _ _ _ (kgh _),⟨b1,b2,⟨_,_,b3⟩,b4,b5⟩,fun x hx=>?_,q⟩
   have hle:s1.heap.objs.size≤x:=kgi hx
   exact I1.fpOk hle (I1.hok.fresh hle)
end
theorem kiE{a b:Addr}{xs ys:List V}{g:TG}{tb:TS}{D:Ends}{σ:St}{H:Hp}(Pv:Nat→St→Hp→Prop)(h0:Pv 0 σ H)(hl:∀i σ H,i≤min xs.length ys.length→Pv i σ H→H a=some (.lst xs)∧H b=some (.lst ys))
  (hs:∀i x y t σ H,xs[i]?=some x→ys[i]?=some y→Pv i σ H→H t=none→g (.ref t) σ (upd H t (.tup [x,y])) fun σ2 H2=>tb {D with nx:=Pv (i+1),ct:=Pv (i+1),bk:=D.nx} σ2 H2) (hd:∀σ H,Pv (min xs.length ys.length) σ H→D.nx σ H):
  ∃W:Nat→Nat→St→Hp→Prop,(∃m,W 0 m σ H)∧∀i m σ H,W i m σ H→
   ((Itz a b).stop i H∧D.nx σ H)∨((Itz a b).go i H∧∃N:St→Hp→Prop,(∀σ' H',N σ' H'→∃m',m'<m∧W (i+1) m' σ' H')∧∀x H',(Itz a b).yld i H x H'→g x σ H' fun σ2 H2=>tb {D with nx:=N,ct:=N,bk:=D.nx} σ2 H2):=by
 refine⟨fun i m σ H=>m=min xs.length ys.length-i∧i≤min xs.length ys.length∧Pv i σ H,⟨min xs.length ys.length,by simp,U2 _,h0⟩,?_⟩
 rintro i m σ H ⟨rfl,hi,p⟩
 obtain⟨q1,q2⟩:=hl i σ H hi p
 by_cases hlt:i<min xs.length ys.length
 ·refine .inr ⟨⟨xs,ys,xs[i]'(by omega),ys[i]'(by omega),q1,q2,by simp[show i<xs.length by omega],by simp[show i<ys.length by omega]⟩,Pv (i+1),fun σ' H' p'=>⟨min xs.length ys.length-(i+1),by omega,rfl,hlt,p'⟩,fun x H' y=>?_⟩
  obtain⟨t,x,y,hn,rfl,rfl,h1,h2⟩:=y
  exact hs i x y t σ _ (h1 _ q1) (h2 _ q2) p hn
 ·have e:i=min xs.length ys.length:=by omega
  refine .inl ⟨⟨xs,ys,q1,q2,by omega⟩,?_⟩
  rw[e] at p
  exact hd σ H p
theorem ke5{a b:Addr}{xs ys:List V}{g:TG}{te:TE}{σ:St}{H:Hp}{R:List V→Hp→Addr→Prop}(Pv:Nat→St→List V→Hp→Prop)(h0:Pv 0 σ [] H)(hz:min xs.length ys.length≤sizeLine)(hl:∀i σ zs H,i≤min xs.length ys.length→Pv i σ zs H→H a=some (.lst xs)∧H b=some (.lst ys)∧zs.length=i)
  (hs:∀i x y t σ zs H,xs[i]?=some x→ys[i]?=some y→Pv i σ zs H→H t=none→g (.ref t) σ (upd H t (.tup [x,y])) fun σ2 H2=>te σ2 H2 fun z H3=>Pv (i+1) σ2 (zs++[z]) H3) (hd:∀σ zs H,Pv (min xs.length ys.length) σ zs H→∀D,H D=none→R zs H D):
  ∃ W:Nat→Nat→St→List V→Hp→Prop,(∃m,W 0 m σ [] H)∧∀i m σ' zs H',W i m σ' zs H'→
   ((Itz a b).stop i H'∧∀D,H' D=none→R zs H' D)∨((Itz a b).go i H'∧zs.length<sizeLine∧∃N:St→V→Hp→Prop,(∀σ2 y H4,N σ2 y H4→∃m',m'<m∧W (i+1) m' σ2 (zs++[y]) H4)∧
    ∀x H2,(Itz a b).yld i H' x H2→g x σ' H2 fun σ2 H3=>te σ2 H3 (N σ2)):=by
 refine⟨fun i m σ zs H=>m=min xs.length ys.length-i∧i≤min xs.length ys.length∧Pv i σ zs H,⟨min xs.length ys.length,by simp,U2 _,h0⟩,?_⟩
 rintro i m σ zs H ⟨rfl,hi,p⟩
 obtain⟨q1,q2,el⟩:=hl i σ zs H hi p
 by_cases hlt:i<min xs.length ys.length
 ·refine .inr ⟨⟨xs,ys,xs[i]'(by omega),ys[i]'(by omega),q1,q2,by simp[show i<xs.length by omega],by simp[show i<ys.length by omega]⟩,by omega,fun σ2 y H3=>Pv (i+1) σ2 (zs++[y]) H3,fun σ' y H' p'=>⟨min xs.length ys.length-(i+1),by omega,rfl,hlt,p'⟩,fun x H' yl=>?_⟩
  obtain⟨t,x,y,hn,rfl,rfl,h1,h2⟩:=yl
  exact hs i x y t σ zs _ (h1 _ q1) (h2 _ q2) p hn
 ·have e:i=min xs.length ys.length:=by omega
  refine .inl ⟨⟨xs,ys,q1,q2,by omega⟩,?_⟩
  rw[e] at p
  exact hd σ zs H p
end L2
namespace L2
open PySem PySem.Spec PyProof.Rows
section
variable {g:TG} {tt:TT} {te:TE} {σ:St} {H:Hp} {R:List V→Hp→Addr→Prop}
theorem kjG{J:It}{n:Nat}(Pv:Nat→St→List V→Hp→Prop)(h0:Pv 0 σ [] H)(hz:n≤sizeLine)(hl:∀i σ ys H,i≤n→Pv i σ ys H→ys.length≤i)(hgo:∀i σ ys H,i<n→Pv i σ ys H→J.go i H)(hst:∀σ ys H,Pv n σ ys H→J.stop n H)
  (hs:∀i σ ys H x H',i<n→Pv i σ ys H→J.yld i H x H'→g x σ H' fun σ2 H2=>tt σ2 H2 fun b H3=>if b=true then te σ2 H3 (fun y H4=>Pv (i+1) σ2 (ys++[y]) H4) else Pv (i+1) σ2 ys H3) (hd:∀σ ys H,Pv n σ ys H→∀D,H D=none→R ys H D):
  ∃ W:Nat→Nat→St→List V→Hp→Prop,(∃m,W 0 m σ [] H)∧∀i m σ' ys H',W i m σ' ys H'→
   (J.stop i H'∧∀D,H' D=none→R ys H' D)∨(J.go i H'∧ys.length<sizeLine∧∃(N:St→V→Hp→Prop)(N0:St→Hp→Prop),(∀σ2 y H4,N σ2 y H4→∃m',m'<m∧W (i+1) m' σ2 (ys++[y]) H4)∧(∀σ2 H4,N0 σ2 H4→∃m',m'<m∧W (i+1) m' σ2 ys H4)∧
    ∀x H2,J.yld i H' x H2→g x σ' H2 fun σ2 H3=>tt σ2 H3 fun b H4=>if b=true then te σ2 H4 (N σ2) else N0 σ2 H4):=by
 refine⟨fun i m σ ys H=>m=n-i∧i≤n∧Pv i σ ys H,⟨n,by simp,U2 _,h0⟩,?_⟩
 rintro i m σ ys H ⟨rfl,hi,p⟩
 have el:=hl i σ ys H hi p
 by_cases hlt:i<n
 ·refine .inr ⟨hgo i σ ys H hlt p,by omega,fun σ2 y H3=>Pv (i+1) σ2 (ys++[y]) H3,fun σ2 H3=>Pv (i+1) σ2 ys H3,fun σ' y H' p'=>⟨n-(i+1),by omega,rfl,hlt,p'⟩,fun σ' H' p'=>⟨n-(i+1),by omega,rfl,hlt,p'⟩,fun x H' yl=>?_⟩
  exact hs i σ ys H x H' hlt p yl
 ·have e:i=n:=by omega
  subst e
  exact .inl ⟨hst σ ys H p,hd σ ys H p⟩
theorem khq{a:Addr}{xs:List V}(Pv:Nat→St→List V→Hp→Prop)(h0:Pv 0 σ [] H)(hz:xs.length≤sizeLine)(hl:∀i σ ys H,i≤xs.length→Pv i σ ys H→H a=some (.lst xs)∧ys.length≤i)
  (hs:∀i y t σ ys H,xs[i]?=some y→Pv i σ ys H→H t=none→g (.ref t) σ (upd H t (.tup [.int (i:Nat),y])) fun σ2 H2=>tt σ2 H2 fun b H3=>if b=true then te σ2 H3 (fun y H4=>Pv (i+1) σ2 (ys++[y]) H4) else Pv (i+1) σ2 ys H3) (hd:∀σ ys H,Pv xs.length σ ys H→∀D,H D=none→R ys H D):
  ∃ W:Nat→Nat→St→List V→Hp→Prop,(∃m,W 0 m σ [] H)∧∀i m σ' ys H',W i m σ' ys H'→
   ((Ite a).stop i H'∧∀D,H' D=none→R ys H' D)∨((Ite a).go i H'∧ys.length<sizeLine∧∃(N:St→V→Hp→Prop)(N0:St→Hp→Prop),(∀σ2 y H4,N σ2 y H4→∃m',m'<m∧W (i+1) m' σ2 (ys++[y]) H4)∧(∀σ2 H4,N0 σ2 H4→∃m',m'<m∧W (i+1) m' σ2 ys H4)∧
    ∀x H2,(Ite a).yld i H' x H2→g x σ' H2 fun σ2 H3=>tt σ2 H3 fun b H4=>if b=true then te σ2 H4 (N σ2) else N0 σ2 H4):=
 kjG Pv h0 hz (fun i σ ys H hi p=>(hl i σ ys H hi p).2) (fun i σ ys H hi p=>⟨xs,xs[i],(hl i σ ys H (UI hi) p).1,by simp[hi]⟩) (fun σ ys H p=>⟨xs,(hl _ σ ys H (Ux _) p).1,Ux _⟩)
  (fun i σ ys H x H' hi p yl=>by
   obtain⟨t,y,hn,rfl,rfl,hy⟩:=yl
   exact hs i y t σ ys _ (hy xs (hl i σ ys _ (UI hi) p).1) p hn) hd
end
section
variable {X:Cx}
noncomputable def isI(k:Int):Value→Bool
 | .int a _=>a==k
 |_=>false
theorem kfE:∀{ns:List Int}{us:List Value},Vals (ns.map V.int) us→∀(j:Nat)(n:Int),ns[j]?=some n→∃t,us[j]?=some (.int n t)
 |[],_,_,j,n,e=>by simp at e
 | m::ns,u::us, .cons r t,j,n,e=>by
  cases j with
  |zero=>
   have e':m=n:=by simpa using e
   subst e'
   obtain⟨t,rfl⟩:=r
   exact⟨t,rfl⟩
  |succ j=>
   obtain⟨q,h⟩:=kfE t j n (by simpa using e)
   exact⟨q,by simpa using h⟩
end
end L2
namespace L2
open PySem PySem.Spec PyProof.Rows
structure BaseT (K:Uv) (C:Addr) (m:Str) (f:Addr):Prop where
 rd:PySem.W.readsIn K C (.type "type")=true
 ga:J6 K (.ref C) "__getattribute__"=some (some (.builtin "type.__getattribute__"))
 fc:PySem.W.findCls K (.ref C) (.type "type") m=some (.val (.ref f))
section
variable {X:Cx} {CX:CXT} {k:Nat} {f C:Addr} {fd:FuncData} {ps:List Str} {sp:Sp} {dvs:List V} {ds:List Value} {E:XK} {x m:Str} {p pos apos:Pos} {e o:Expr} {es:List Expr} {ta:TE} {t:TA}
theorem kf7{pl:Sem Bool}(B:BaseT X.K C m f)(F:FnOk X.prog X.w X.K X.mg X.base CX k f fd ps sp)(hr:Room k X.A)(hg:Gl X x)(hm:X.mg x=some (.ref C))(hk:UO X.K (.ref f)=true)(hb:Binds X.K fd ps ds)(hd:Vals dvs ds)(hx:kc7 CX X E)
  (ha:PA X (e::es) t) (hdb:(x==("__debug__" :Str))=false:=by decide)
  (hst:starEach (e::es) X.env=(false,eval e X.env)::starEach es X.env:=by rfl) (hpl:(backTo pos (starEach es X.env)).any (·.1)=false:=by rfl)
  (ht:eval (.Call (.Attribute (.Name x p) m apos) (e::es) [] pos) X.env=(do
   let ov ←eval (.Name x p) X.env
   standAt apos.atName
   let(f,first) ←holding [ov] (getMethod ov m pl)
   callWith pos f first (backTo pos (starEach (e::es) X.env)) (backToKw pos (keywordEach [] X.env))):=by rfl):
  PE X (.Call (.Attribute (.Name x p) m apos) (e::es) [] pos) (tCall sp dvs E t):=by
 intro pins s σ H Q I h
 refine NV (pl:=pl) (thn (kdf (v:=.ref C) hg hm rfl hdb pins s σ H (fun y H1=>y=.ref C∧H1=H) I ⟨rfl,rfl⟩) fun u s1 ⟨y,H1,I1,ry,ey,eH⟩=>?_) ht
 subst ey eH
 obtain rfl:u=Value.ref C:=ry
 refine PySem.W.method_cls I1.kIn B.ga (PySem.W.cls_value I1.kIn B.rd B.fc rfl ?_)
 have I2:=I1.tok (s1.toks+1)
 refine Nm (h₀:=X.base) I.ok.mod.kin hk (thn (ha pos pins _ σ H1 _ I2 h) fun us s2 ⟨vs,H2,I3,r,q2⟩=>⟨I3.kIn,?_⟩) hst hpl
 exact kgF F hr hb hd hx I3 r q2
end
def kgp:bootBuiltins "tuple"=some (.type "tuple"):=by decide +kernel
def kdl{n j:Nat}(h:j<n):ixN n (j:Int)=some j:=by
 unfold ixN
 rw[if_pos (by omega),if_pos (by omega)]
 simp
section
variable {X:Cx}
end
section
variable {X:Cx}
noncomputable def kll(ta:TA):TI:=fun σ H R=>ta σ H fun vs H1=>∃i j k:Int,vs=[.int i, .int j, .int k]∧(-(2 ^ 31)≤i∧i<2 ^ 31)∧(-(2 ^ 31)≤j∧j<2 ^ 31)∧0<k∧k<2 ^ 30∧R (Its i k (Builtin.Range.rangeSize i j k).toNat) H1
theorem khc{tg a b c:Expr}{ta:TA}{p pos:Pos}(hg:Gl X "range")(hm:X.mg "range"=none)(ha:PA X [a,b,c] ta)(he:starEach [a,b,c] X.env=(false,eval a X.env)::starEach [b,c] X.env:=by rfl)
  (hpl:(backTo pos (starEach [b,c] X.env)).any (·.1)=false:=by rfl):PI X tg (.Call (.Name "range" p) [a,b,c] [] pos) (kll ta):=by
 intro pins s σ H R I h
 refine Call_ (kcq I hg hm boot_range (PyProof.Rows.callWith_type1 (thn (ha pos pins s σ H _ I h) fun us s1 ⟨vs,H1,I1,r1,q1⟩=>?_) he hpl))
 obtain⟨i,j,k,e,hi,hj,hk,hk2,q⟩:=q1
 subst e
 cases r1 with
 | cons r rr=>
  cases rr with
  | cons r' rr=>
   cases rr with
   | cons r'' rr=>
    cases rr
    obtain⟨t,rfl⟩:=r
    obtain⟨t',rfl⟩:=r'
    obtain⟨t'',rfl⟩:=r''
    refine call_range_3 (by omega) ?_ (.inl (PyProof.noPylong_small (by omega)))
    refine wpAny_pyIter_range (IsRange.new ..) (kg9 hk hk2 hi hj) ?_
    have I2:Inv X pins σ H1 {s1 with heap:=s1.heap.push {cls:=.type "range",data:=.fields #[.int i t, .int j t', .int k t'']},toks:=s1.toks}:=I1.kept fun b o e=>Heap.get?_push_of_some _ e
    have hn:=kfj hk hi hj
    refine⟨(s1.heap.push {cls:=.type "range",data:=.fields #[.int i t, .int j t', .int k t'']}).objs.size,[(s1.heap.push {cls:=.type "range",data:=.fields #[.int i t, .int j t', .int k t'']}).objs.size],_,_,H1,rfl,
     I2.kept (t':=s1.toks) fun b o e=>Heap.get?_push_of_some _ e,khw _ i k (Builtin.Range.rangeSize i j k).toNat,?_,fun b hb=>?_,q⟩
    ·have e1:i+((0:Nat):Int)*k=i:=by simp
     have e2:(((Builtin.Range.rangeSize i j k).toNat:Nat):Int)-((0:Nat):Int)=Builtin.Range.rangeSize i j k:=by omega
     show IsRangeIter _ _ (i+((0:Nat):Int)*k) ((((Builtin.Range.rangeSize i j k).toNat:Nat):Int)-((0:Nat):Int)) k
     rw[e1,e2]
     exact Heap.get?_push_size _ rfl
    ·have e:b=(s1.heap.push {cls:=.type "range",data:=.fields #[.int i t, .int j t', .int k t'']}).objs.size:=by simpa using hb
     subst e
     exact I2.fpOk (Ux _) (I2.hok.fresh (Ux _))
end
section
variable {g:TG} {te:TE} {σ:St} {H:Hp} {R:List V→Hp→Addr→Prop}
theorem kiN{lo st:Int}{n:Nat}(Pv:Nat→St→List V→Hp→Prop)(h0:Pv 0 σ [] H)(hz:n≤sizeLine)(hl:∀i σ ys H,i≤n→Pv i σ ys H→ys.length=i)
  (hs:∀i σ ys H,i<n→Pv i σ ys H→g (.int (lo+i*st)) σ H fun σ2 H2=>te σ2 H2 fun y H3=>Pv (i+1) σ2 (ys++[y]) H3) (hd:∀σ ys H,Pv n σ ys H→∀D,H D=none→R ys H D):
  ∃ W:Nat→Nat→St→List V→Hp→Prop,(∃m,W 0 m σ [] H)∧∀i m σ' ys H',W i m σ' ys H'→
   ((Its lo st n).stop i H'∧∀D,H' D=none→R ys H' D)∨((Its lo st n).go i H'∧ys.length<sizeLine∧∃N:St→V→Hp→Prop,(∀σ2 y H4,N σ2 y H4→∃m',m'<m∧W (i+1) m' σ2 (ys++[y]) H4)∧
    ∀x H2,(Its lo st n).yld i H' x H2→g x σ' H2 fun σ2 H3=>te σ2 H3 (N σ2)):=by
 refine⟨fun i m σ ys H=>m=n-i∧i≤n∧Pv i σ ys H,⟨n,by simp,U2 _,h0⟩,?_⟩
 rintro i m σ ys H ⟨rfl,hi,p⟩
 have el:=hl i σ ys H hi p
 by_cases hlt:i<n
 ·refine .inr ⟨hlt,by omega,fun σ2 y H3=>Pv (i+1) σ2 (ys++[y]) H3,fun σ' y H' p'=>⟨n-(i+1),by omega,rfl,hlt,p'⟩,fun x H' yl=>?_⟩
  obtain⟨e,yl⟩:=yl
  subst e yl
  exact hs i σ ys _ hlt p
 ·have e:i=n:=by omega
  subst e
  exact .inl ⟨Ux _,hd σ ys H p⟩
end
def kfV{L m:Nat}(hm:0<m):(Builtin.Range.rangeSize 0 ((L:Int)-(m:Int)+1) (m:Int)).toNat=L/m:=by
 unfold Builtin.Range.rangeSize
 rw[if_pos (by omega)]
 by_cases h:m≤L
 ·rw[if_pos (by omega),show(L:Int)-(m:Int)+1-0-1=((L-m:Nat):Int) by omega,←Int.natCast_ediv,Nat.div_eq_sub_div hm h]
  generalize (L-m)/m=q
  omega
 ·rw[if_neg (by omega),Nat.div_eq_of_lt (by omega)]
  rfl
def b_str:bootBuiltins "str"=some (.type "str"):=by decide +kernel
end L2
namespace L2
open PySem PySem.Spec PyProof.Rows
inductive Src where
 |p (i:Nat)
 |k (j:Nat)
 |d (v:Value) (x:V)
noncomputable def Src.val(us ws:List Value):Src→Value
 | .p i=>us.getD i .none
 | .k j=>ws.getD j .none
 | .d v _=>v
noncomputable def Src.abs(vs zs:List V):Src→V
 | .p i=>vs.getD i .non
 | .k j=>zs.getD j .non
 | .d _ x=>x
noncomputable def Src.Ok:Src→Prop
 | .d v x=>RelV x v
 |_=>True
section
variable {X:Cx} {CX:CXT} {k:Nat} {f C:Addr} {fd:FuncData} {ps ks:List Str} {sp:Sp} {E:XK} {x:Str} {p pos:Pos} {kws:List Keyword} {tk:TA} {g:List Value→List Value→List Value} {gV:List V→List V→List V}
end
end L2
namespace L2
open PySem PySem.Spec PyProof.Rows
noncomputable def atK(kvs:List (Key×V))(k:Key):Option V:=(kvs.find? fun p=>decide (p.1=k)).map Prod.snd
theorem kgq:∀{kvs:List (Key×V)}{vs:List (Key×Value)},KV kvs vs→∀k,RelO (atK kvs k) (valueAt vs k)
 |_,_, .nil,_=>True.intro
 | p::ps,q::qs, .cons h t,k=>by
  obtain⟨h1,h2⟩:=h
  have ih:=kgq t k
  unfold atK valueAt at *
  by_cases e:p.1=k
  ·have e':q.1=k:=h1.symm.trans e
   simp only[Jp,e,e',decide_true,Ny]
   exact h2
  ·have e':¬q.1=k:=fun z=>e (h1.trans z)
   simp only[Jp,e,e',decide_false]
   exact ih
theorem kvAny:∀{kvs:List (Key×V)}{vs:List (Key×Value)},KV kvs vs→∀k:Key,atK kvs k=none→(vs.any fun p=>decide (p.1=k))=false
 |_,_, .nil,_,_=>rfl
 | p::ps,q::qs, .cons h t,k,hn=>by
  obtain⟨h1,h2⟩:=h
  unfold atK at hn
  by_cases e:p.1=k
  ·simp[Jp,e] at hn
  ·have e':¬q.1=k:=fun z=>e (h1.trans z)
   rw[Jo,decide_eq_false e',Bool.false_or]
   refine kvAny t k ?_
   unfold atK
   simpa[Jp,e] using hn
theorem kj8:∀{kvs:List (Key×V)}{vs:List (Key×Value)},KV kvs vs→∀{k:Key}{y:V}{u:Value},RelV y u→KV (kvs++[(k,y)]) (vs++[(k,u)])
 |_,_, .nil,_,_,_,r=>.cons ⟨rfl,r⟩ .nil
 |_,_, .cons h t,_,_,_,r=>.cons h (kj8 t r)
theorem kvLen:∀{kvs:List (Key×V)}{vs:List (Key×Value)},KV kvs vs→kvs.length=vs.length
 |_,_, .nil=>rfl
 |_,_, .cons _ t=>by rw[Jb,Jb,kvLen t]
theorem kj7:∀{kvs:List (Key×V)}{vs:List (Key×Value)},KV kvs vs→Vals (kvs.map Prod.snd) (vs.map Prod.snd)
 |_,_, .nil=>.nil
 |_,_, .cons h t=>.cons h.2 (kj7 t)
section
variable {X:Cx}
noncomputable def kk0:TE:=fun _ H Q=>∀p,H p=none→Q (.ref p) (upd H p (.dK []))
theorem kjd{pos:Pos}:PE X (.Dict [] [] pos) kk0:=fun pins s σ H Q I h=>
 have big:sysModules<s.heap.objs.size:=Nz (by decide) (show mainGlobals<s.heap.objs.size from(I.mod.glob.keeps I.bk).lt)
 wpAny_Dict_empty ⟨.ref s.heap.objs.size,_,I.laid (a:=s.heap.objs.size) (o:=.dK []) (t':=s.toks) (fun _ _ q=>Heap.get?_push_of_some _ q) (Ux _)
  (show ObjOk X.prog X.w _ _ _ (.dK []) from⟨U2 _,beq_eq_false_iff_ne.mpr (Ne.symm (UU big)),[], .nil,Heap.DictOf.new _⟩),rfl,h _ (I.hok.fresh (Ux _))⟩
noncomputable def rSetd:V→List V→Hp→VK→Prop:=fun x vs H Q=>∃(a:Addr)(kvs:List (Key×V))(i:Int)(y:V),x=.ref a∧vs=[.int i,y]∧H a=some (.dK kvs)∧kvs.length<sizeLine∧(∀v,atK kvs (.inl i)=some v→Q v H)∧(atK kvs (.inl i)=none→Q y (upd H a (.dK (kvs++[(.inl i,y)]))))
theorem ke1:MtM X "dict.setdefault" rSetd:=by
 intro pins s σ H x vs v us Q I rx rv h
 obtain⟨a,kvs,i,y,rfl,rfl,e,hz,h1,h2⟩:=h
 cases rx
 obtain⟨u1,u2,rfl,⟨t,rfl⟩,ru2⟩:=vals2 rv
 obtain⟨z,hd,ws,rel,dd⟩:=(show ObjOk X.prog X.w H s.heap a (.dK kvs) from I.hok a _ e)
 have key:(kaY X.prog X.w).is (Sum.inl i:Key) (.int i t)=true:=kd1 _ _ i t
 refine call_meetsIn Mm dd.typeIs PySem.F.entry_dict_setdefault (PySem.F.args_dict_setdefault_3 _ _ _) (kt_meets_setdefault (kaY X.prog X.w) a key hd u2)
  ⟨ws,dd,by rw[←kvLen rel];exact z,fun v hv=>?_,fun hn h' dd' hs=>?_⟩
 ·have r:=kgq rel (Sum.inl i)
  rw[hv] at r
  cases ea:atK kvs (Sum.inl i) with
  |none=>rw[ea] at r;exact(show False from r).elim
  |some w'=>
   rw[ea] at r
   exact⟨w',H,I.tok _,r,h1 w' ea⟩
 ·have r:=kgq rel (Sum.inl i)
  rw[hn] at r
  have ea:atK kvs (Sum.inl i)=none:=by
   cases ea:atK kvs (Sum.inl i) with
   |none=>rfl
   |some w'=>rw[ea] at r;exact(show False from r).elim
  have est:stored ws (Sum.inl i:Key) u2=ws++[(Sum.inl i,u2)]:=by
   unfold stored
   rw[kvAny rel _ ea,if_neg UB]
  rw[est] at dd'
  have he:∃q,h'.get? a=some q:=let⟨q,_,_,hq,_⟩:=dd';⟨q,hq⟩
  refine⟨y,_,I.write (x:=a) (e:=a) (by rw[e];exact True.intro) (.inl rfl) (fun b q hb w'=>(hs.2 b hb).trans w') he ?_,ru2,h2 ea⟩
  exact(show ObjOk X.prog X.w _ h' a (.dK (kvs++[(.inl i,y)])) from⟨by rw[UY,Nu];omega,hd,_,kj8 rel ru2,dd'⟩)
noncomputable def khA(te:TE):TE:=fun σ H Q=>te σ H fun v H1=>∃(a:Addr)(kvs:List (Key×V)),v=.ref a∧H1 a=some (.dK kvs)∧∀l,H1 l=none→Q (.ref l) (upd H1 l (.lst (kvs.map Prod.snd)))
theorem kf6{e:Expr}{te:TE}{p1 pos1 apos cpos:Pos}(hc:X.calm=true)(h1:Gl X "list")(m1:X.mg "list"=none)(he:PE X e te)
  (hbase:attributeBase e "values" X.env (eval e X.env)=eval e X.env:=by rfl) (hline:(apos.endLine==cpos.line)=true:=by rfl)
  (s2:starEach [.Call (.Attribute e "values" apos) [] [] cpos] X.env=[(false,eval (.Call (.Attribute e "values" apos) [] [] cpos) X.env)]:=by rfl):PE X (.Call (.Name "list" p1) [.Call (.Attribute e "values" apos) [] [] cpos] [] pos1) (khA te):=by
 intro pins s σ H Q I h
 refine wpAny_Call_Name_kw (kcq I h1 m1 kcw ?_ (by decide) (by decide))
 refine PyProof.Rows.callWith_type1 ?_ s2 rfl
 rw[s2]
 refine Calls.spliced_cons (wpAny_Call_method0_late hbase hline (thn (he pins s σ H _ I h) fun u s3 ⟨v,H1,I1,r1,a,kvs,ev,ea,q⟩=>?_))
 subst ev
 cases r1
 obtain⟨t1,t2⟩:=kjO (T:="dict") (x:=.ref a) (v:=.ref a) I1 rfl (.inr (.inr (.inl ⟨rfl, .inl ⟨kvs,ea⟩⟩)))
 obtain⟨z,hd,ws,rel,dd⟩:=(show ObjOk X.prog X.w H1 s3.heap a (.dK kvs) from I1.hok a _ ea)
 obtain⟨ep,hat⟩:=dd.dictAt
 refine⟨"dict","dict.values",Mn,Mo,PySem.F.type_dict_values,t1,t2,Calls.callWith_builtin rfl (PySem.evalArgs_none ?_)⟩
 refine call_meetsIn Mo dd.typeIs PySem.F.entry_dict_values (PySem.F.args_dict_values_1 _) (meets_dict_values (kaY X.prog X.w) a hd) ⟨⟨ws,dd⟩,Calls.spliced_nil ?_⟩
 refine PySem.W.kdl_call (PySem.W.kdl_values (knd:=kaY X.prog X.w) (kvs:=ws) (ep:=ep)) (I1.ok.hd hc) ⟨⟨_,Heap.get?_push_size _ rfl,rfl,rfl⟩,hat.push _⟩ (by rw[←kvLen rel];exact z) fun h' tk acc' c' hk hS hacc=>?_
 have hv:acc'.toList=ws.map (·.2):=PySem.W.kdl_vals_eq acc'.toList (by rw[JV];exact hacc.1) fun j v' ej=>hacc.2 j v' (by rw[←Array.getElem?_toList];exact ej)
 generalize ho:({cls:=.type "dict_values",data:=.fields #[.ref a]}:Obj)=ob at *
 have hsz:(s3.heap.push ob).objs.size=s3.heap.objs.size+1:=Heap.size_push ..
 have rv:Vals (kvs.map Prod.snd) acc'.toList:=by rw[hv];exact kj7 rel
 have I2:Inv X pins σ (upd H1 (s3.heap.push ob).objs.size (.lst (kvs.map Prod.snd))) {s3 with heap:=h',toks:=tk}:=
  I1.laid (fun b o e=>hk b o (Heap.get?_push_of_some _ e)) (by rw[hsz];exact J7 _) (show ObjOk X.prog X.w _ h' _ (.lst (kvs.map Prod.snd)) from⟨by rw[Uu];exact z,acc'.toList,c',rv,by simpa using hS⟩)
 exact⟨.ref _,_,I2,rfl,q _ (I1.hok.fresh (by rw[hsz];exact J7 _))⟩
end
end L2
namespace L2
open PySem PySem.Spec PyProof.Rows
section
variable {X:Cx}
end
end L2
namespace Stb
open PySem PyProof.Rows
noncomputable def T(xs:Array Keyed)(i:Nat):Int:=match xs[i]? with
 |some p=>numOf p.2
 |none=>0
def T_at{xs ys:Array Keyed}{i j:Nat}(h:xs[i]?=ys[j]?):T xs i=T ys j:=by unfold T;rw[h]
noncomputable def Lx(xs:Array Keyed)(i j:Nat):Prop:=K xs i<K xs j∨(K xs i=K xs j∧T xs i<T xs j)
def Lx.trans{xs:Array Keyed}{i j k:Nat}(h:Lx xs i j)(h':Lx xs j k):Lx xs i k:=by unfold Lx at *;omega
def Lx.le{xs:Array Keyed}{i j:Nat}(h:Lx xs i j):K xs i≤K xs j:=by unfold Lx at *;omega
noncomputable def Up(xs:Array Keyed)(k:Nat):Prop:=∀i j,i<j→j<k→Lx xs i j
noncomputable def Dn(xs:Array Keyed)(k:Nat):Prop:=∀i j,i<j→j<k→Lx xs j i
noncomputable def Lat(a₀ xs:Array Keyed)(k:Nat):Prop:=∀i j,i<j→k≤j→j<a₀.size→T xs i<T xs j
def Lat.mono{a₀ xs:Array Keyed}{k k':Nat}(h:Lat a₀ xs k)(hk:k≤k'):Lat a₀ xs k':=fun i j h1 h2 h3=>h i j h1 (by omega) h3
theorem kg5{xs:Array Keyed}{src d:Nat}(hs:src<xs.size)(hd:d≤src)(k:Nat):
  ∃k',(K (bubble xs src d) k=K xs k'∧T (bubble xs src d) k=T xs k')∧k'=if k=src-d then src else if src-d<k∧k≤src then k-1 else k:=by
 refine⟨_,?_,rfl⟩
 have e:=getElem?_bubble hs d hd k
 have e':(bubble xs src d)[k]?=xs[if k=src-d then src else if src-d<k∧k≤src then k-1 else k]?:=by
  rw[e]
  split
  ·rfl
  ·split <;> rfl
 exact⟨K_congr e',T_at e'⟩
theorem kcb{xs:Array Keyed}{i j:Nat}(hj:j≤xs.size)(k:Nat):
  ∃k',(K (mirror xs i j ((j-i)/2)) k=K xs k'∧T (mirror xs i j ((j-i)/2)) k=T xs k')∧k'=if i≤k∧k<j then i+j-1-k else k:=by
 refine⟨_,?_,rfl⟩
 have e:=getElem?_mirror_all (i:=i) hj k
 have e':(mirror xs i j ((j-i)/2))[k]?=xs[if i≤k∧k<j then i+j-1-k else k]?:=by
  rw[e]
  split <;> rfl
 exact⟨K_congr e',T_at e'⟩
def kgc{a₀ xs:Array Keyed}{i j k:Nat}(hj:j≤xs.size)(hk:j≤k)(h:Lat a₀ xs k):Lat a₀ (mirror xs i j ((j-i)/2)) k:=by
 intro a b hab hkb hb
 obtain⟨a',⟨_,ea⟩,ha⟩:=kcb (i:=i) hj a
 obtain⟨b',⟨_,eb⟩,hb'⟩:=kcb (i:=i) hj b
 rw[ea,eb]
 rw[if_neg (by omega)] at hb'
 subst hb'
 refine h _ _ ?_ hkb hb
 rw[ha]
 split <;> omega
section
variable {prog:Program} {w:World} {A:Around} {E:Value→Shared→Prop} {s:Shared} {a₀:Array Keyed}
theorem asc{st:SortSt}{a nrem:Nat}{Q:AscSt→SortSt→Prop}(h0:IntKeys a₀)(hn:nrem≤a₀.size)(ha:1≤a)(han:a≤nrem)(hB:SBase a₀ st)(hs:Up (arrOf st) a)(hl:Lat a₀ (arrOf st) a)
  (h:∀n,a≤n→n≤nrem→Up (arrOf st) n→(n=nrem∨K (arrOf st) n<K (arrOf st) (n-1))→Q (none,n) st):wpS (model prog w) A E s (ascLoop a nrem) Q st:=by
 unfold ascLoop
 refine wpS_forRange (I:=fun x c st'=>st'=st∧c=(none,x)∧Up (arrOf st) x) ?turn ?over ⟨rfl,rfl,hs⟩
 case over=>
  rintro c st' ⟨rfl,rfl,u⟩
  rw[show max a nrem=nrem by omega] at u⊢
  exact h nrem han (Ux _) u (.inl rfl)
 case turn=>
  rintro x c st' hax hxn ⟨rfl,rfl,u⟩
  dsimp only
  refine wpS_bind (wpS_ltK hB h0 (by omega) (by omega) ?_)
  by_cases c1:K (arrOf st') x<K (arrOf st') (x-1)
  ·simp only[c1,decide_true,if_true]
   exact wpS_pure (h x hax (by omega) u (.inr c1))
  ·simp only[c1,decide_false,Jk,if_false]
   refine wpS_pure ⟨rfl,rfl,fun i j hij hj=>?_⟩
   by_cases hjx:j<x
   ·exact u i j hij hjx
   ·have e:j=x:=by omega
    subst e
    have t1:=hl (j-1) j (by omega) hax (by omega)
    have l1:Lx (arrOf st') (j-1) j:=by unfold Lx;omega
    by_cases e2:i=j-1
    ·rw[e2];exact l1
    ·exact(u i (j-1) (by omega) (by omega)).trans l1
theorem tail{st:SortSt}{n nrem:Nat}{Q:Option Nat→SortSt→Prop}(h0:IntKeys a₀)(hn:nrem≤a₀.size)(h1:1≤n)(hnn:n≤nrem)(hB:SBase a₀ st)(hs:Dn (arrOf st) n)(hl:Lat a₀ (arrOf st) n)
  (h:∀m st',SBase a₀ st'→1≤m→m≤nrem→Up (arrOf st') m→Lat a₀ (arrOf st') m→Q (some m) st'):wpS (model prog w) A E s (tail3 n nrem) Q st:=by
 unfold tail3
 have sz:n≤(arrOf st).size:=by rw[hB.size];omega
 refine wpS_bind (wpS_reverse ?_)
 have hB2:SBase a₀ (setArr st (mirror (arrOf st) 0 n ((n-0)/2))):=hB.setArr (mirror_perm _ _ _ _)
 have hl2:Lat a₀ (mirror (arrOf st) 0 n ((n-0)/2)) n:=kgc sz (Ux _) hl
 refine wpS_bind (asc h0 hn h1 hnn hB2 ?_ hl2 fun m hm1 hm2 hu _=>wpS_pure (h m _ hB2 (by omega) hm2 hu (hl2.mono hm1)))
 intro i j hij hj
 show Lx (mirror (arrOf st) 0 n ((n-0)/2)) i j
 obtain⟨i',⟨k1,t1⟩,e1⟩:=kcb (i:=0) sz i
 obtain⟨j',⟨k2,t2⟩,e2⟩:=kcb (i:=0) sz j
 rw[if_pos (by omega)] at e1 e2
 have:=hs j' i' (by omega) (by omega)
 unfold Lx at this⊢
 rw[k1,k2,t1,t2]
 exact this
structure Fl (a₀ xs:Array Keyed) (x neq:Nat):Prop where
 few:neq+1≤x
 hd:Dn xs (x-(neq+1))
 cr:∀i j,i<x-(neq+1)→x-(neq+1)≤j→j<x→K xs j<K xs i
 tl:∀i j,x-(neq+1)≤i→i<j→j<x→K xs i=K xs j∧T xs i<T xs j
 lat:Lat a₀ xs x
theorem Fl.turned{xs:Array Keyed}{x neq:Nat}(h:Fl a₀ xs x neq)(hx:x≤xs.size):Dn (mirror xs (x-(neq+1)) x ((x-(x-(neq+1)))/2)) x∧(∀i,i<x→K xs (x-1)≤K (mirror xs (x-(neq+1)) x ((x-(x-(neq+1)))/2)) i)∧Lat a₀ (mirror xs (x-(neq+1)) x ((x-(x-(neq+1)))/2)) x∧
  ∀k,x≤k→K (mirror xs (x-(neq+1)) x ((x-(x-(neq+1)))/2)) k=K xs k:=by
 have hf:=h.few
 refine⟨fun i j hij hj=>?_,fun i hi=>?_,kgc hx (Ux _) h.lat,fun k hk=>?_⟩
 ·obtain⟨i',⟨k1,t1⟩,e1⟩:=kcb (i:=x-(neq+1)) hx i
  obtain⟨j',⟨k2,t2⟩,e2⟩:=kcb (i:=x-(neq+1)) hx j
  unfold Lx
  rw[k1,k2,t1,t2]
  by_cases c1:j<x-(neq+1)
  ·rw[if_neg (by omega)] at e1 e2
   subst e1 e2
   exact h.hd i' j' hij c1
  ·rw[if_pos (by omega)] at e2
   by_cases c2:i<x-(neq+1)
   ·rw[if_neg (by omega)] at e1
    subst e1
    exact .inl (h.cr i' j' c2 (by omega) (by omega))
   ·rw[if_pos (by omega)] at e1
    have:=h.tl j' i' (by omega) (by omega) (by omega)
    omega
 ·obtain⟨i',⟨k1,_⟩,e1⟩:=kcb (i:=x-(neq+1)) hx i
  rw[k1]
  by_cases c2:i<x-(neq+1)
  ·rw[if_neg (by omega)] at e1
   subst e1
   have:=h.cr i' (x-1) c2 (by omega) (by omega)
   omega
  ·rw[if_pos (by omega)] at e1
   by_cases c3:i'=x-1
   ·rw[c3];exact Int.le_refl _
   ·have:=h.tl i' (x-1) (by omega) (by omega) (by omega)
    omega
 ·obtain⟨k',⟨k1,_⟩,e1⟩:=kcb (i:=x-(neq+1)) hx k
  rw[if_neg (by omega)] at e1
  rw[k1,e1]
theorem Fl.plain{xs:Array Keyed}{x:Nat}(h:Fl a₀ xs x 0):Dn xs x∧(∀i,i<x→K xs (x-1)≤K xs i):=by
 have hf:=h.few
 refine⟨fun i j hij hj=>?_,fun i hi=>?_⟩
 ·by_cases c1:j<x-(0+1)
  ·exact h.hd i j hij c1
  ·exact .inl (h.cr i j (by omega) (by omega) hj)
 ·by_cases c3:i=x-1
  ·rw[c3];exact Int.le_refl _
  ·have:=h.cr i (x-1) (by omega) (by omega) (by omega)
   omega
theorem Fl.next{xs:Array Keyed}{x:Nat}(hd:Dn xs x)(hk:∀i,i<x→K xs x<K xs i)(hl:Lat a₀ xs x):Fl a₀ xs (x+1) 0:=
 ⟨by omega,fun i j h1 h2=>hd i j h1 (by omega),fun i j h1 h2 h3=>by
  have e:j=x:=by omega
  subst e
  exact hk i (by omega),fun i j h1 h2 h3=>by omega,hl.mono (by omega)⟩
theorem desc{st:SortSt}{n nrem:Nat}{Q:DescSt→SortSt→Prop}(h0:IntKeys a₀)(hn:nrem≤a₀.size)(hnn:n≤nrem)(hB:SBase a₀ st)(hs:Fl a₀ (arrOf st) n 0)
  (h:∀m neq st',SBase a₀ st'→n≤m→m≤nrem→Fl a₀ (arrOf st') m neq→Q (none,m,neq) st'):wpS (model prog w) A E s (descLoop n nrem) Q st:=by
 unfold descLoop
 refine wpS_forRange (I:=fun x c st'=>∃neq,c=(none,x,neq)∧SBase a₀ st'∧Fl a₀ (arrOf st') x neq) ?turn ?over ⟨0,rfl,hB,hs⟩
 case over=>
  rintro c st' ⟨neq,rfl,hB',f⟩
  rw[show max n nrem=nrem by omega] at f⊢
  exact h nrem neq st' hB' hnn (Ux _) f
 case turn=>
  rintro x c st' hax hxn ⟨neq,rfl,hB',f⟩
  dsimp only
  have few:=f.few
  have sz:x≤(arrOf st').size:=by rw[hB'.size];omega
  refine wpS_bind (wpS_ltK hB' h0 (by omega) (by omega) ?_)
  by_cases c1:K (arrOf st') x<K (arrOf st') (x-1)
  ·simp only[c1,decide_true,if_true]
   by_cases c2:neq > 0
   ·rw[if_pos c2]
    obtain⟨d1,d2,d3,d4⟩:=f.turned sz
    refine wpS_bind (wpS_reverse (wpS_pure ⟨0,rfl,hB'.setArr (mirror_perm _ _ _ _),Fl.next d1 (fun i hi=>?_) d3⟩))
    have:=d2 i hi
    have e:=d4 x (Ux _)
    show K (mirror (arrOf st') _ _ _) x<K (mirror (arrOf st') _ _ _) i
    omega
   ·rw[if_neg c2]
    have e:neq=0:=by omega
    subst e
    obtain⟨d1,d2⟩:=f.plain
    exact wpS_pure ⟨0,rfl,hB',Fl.next d1 (fun i hi=>by have:=d2 i hi;omega) f.lat⟩
  ·simp only[c1,decide_false,Jk,if_false]
   refine wpS_bind (wpS_ltK hB' h0 (by omega) (by omega) ?_)
   by_cases c2:K (arrOf st') (x-1)<K (arrOf st') x
   ·simp only[c2,decide_true,if_true]
    exact wpS_pure (h x neq st' hB' hax (by omega) f)
   ·simp only[c2,decide_false,Jk,if_false]
    have ek:K (arrOf st') x=K (arrOf st') (x-1):=by omega
    refine wpS_pure ⟨neq+1,rfl,hB',⟨by omega,?_,?_,?_,f.lat.mono (by omega)⟩⟩
    ·rw[show x+1-(neq+1+1)=x-(neq+1) by omega]
     exact f.hd
    ·rw[show x+1-(neq+1+1)=x-(neq+1) by omega]
     intro i j h1 h2 h3
     by_cases c3:j<x
     ·exact f.cr i j h1 h2 c3
     ·have e:j=x:=by omega
      subst e
      rw[ek]
      exact f.cr i (j-1) h1 (by omega) (by omega)
    ·rw[show x+1-(neq+1+1)=x-(neq+1) by omega]
     intro i j h1 h2 h3
     by_cases c3:j<x
     ·exact f.tl i j h1 h2 c3
     ·have e:j=x:=by omega
      subst e
      refine⟨?_,f.lat i j h2 (Ux _) (by omega)⟩
      rw[ek]
      by_cases c4:i=j-1
      ·rw[c4]
      ·exact(f.tl i (j-1) h1 (by omega) (by omega)).1
theorem falls{st:SortSt}{n nrem:Nat}{Q:Option Nat→SortSt→Prop}(h0:IntKeys a₀)(hn:nrem≤a₀.size)(hnn:n+1≤nrem)(hB:SBase a₀ st)(hs:Fl a₀ (arrOf st) (n+1) 0)
  (h:∀m st',SBase a₀ st'→1≤m→m≤nrem→Up (arrOf st') m→Lat a₀ (arrOf st') m→Q (some m) st'):wpS (model prog w) A E s (descPart n nrem) Q st:=by
 unfold descPart
 refine wpS_bind (wpS_lift (wpAny_rule ⟨rfl,?_⟩))
 refine wpS_bind (desc h0 hn hnn hB hs fun m neq st' hB' hm1 hm2 f=>?_)
 dsimp only
 have sz:m≤(arrOf st').size:=by rw[hB'.size];omega
 by_cases c2:neq > 0
 ·rw[if_pos c2]
  obtain⟨d1,_,d3,_⟩:=f.turned sz
  exact wpS_bind (wpS_reverse (tail h0 hn (by omega) hm2 (hB'.setArr (mirror_perm _ _ _ _)) d1 d3 h))
 ·rw[if_neg c2]
  have e:neq=0:=by omega
  subst e
  exact tail h0 hn (by omega) hm2 hB' f.plain.1 f.lat h
theorem count{st:SortSt}{nrem:Nat}{Q:Option Nat→SortSt→Prop}(h0:IntKeys a₀)(hn:nrem≤a₀.size)(h1:1≤nrem)(hB:SBase a₀ st)(hl:Lat a₀ (arrOf st) 1)
  (h:∀m st',SBase a₀ st'→1≤m→m≤nrem→Up (arrOf st') m→Lat a₀ (arrOf st') m→Q (some m) st'):wpS (model prog w) A E s (countRun' 0 nrem) Q st:=by
 rw[countRun0_eq]
 refine wpS_bind (asc h0 hn (Ux 1) h1 hB (fun i j hij hj=>by omega) hl fun n hn1 hn2 hu hor=>?_)
 dsimp only
 by_cases c1:n=nrem
 ·rw[if_pos (by simpa using c1)]
  exact wpS_pure (h n st hB hn1 hn2 hu (hl.mono hn1))
 ·rw [if_neg (by simpa using c1)]
  have lt:K (arrOf st) n<K (arrOf st) (n-1):=hor.resolve_left c1
  by_cases c2:n > 1
  ·rw [if_pos c2]
   refine wpS_bind (wpS_ltK hB h0 (by omega) (by omega) ?_)
   by_cases c3:K (arrOf st) 0<K (arrOf st) (n-1)
   ·simp only[c3,decide_true,if_true]
    exact wpS_pure (h n st hB hn1 hn2 hu (hl.mono hn1))
   ·simp only[c3,decide_false,Jk,if_false]
    have sz:n≤(arrOf st).size:=by rw[hB.size];omega
    have same:∀i,i<n→K (arrOf st) i=K (arrOf st) (n-1):=fun i hi=>by
     by_cases z:i=0
     ·subst z
      have:=(hu 0 (n-1) (by omega) (by omega)).le
      omega
     ·have a1:=(hu 0 i (by omega) hi).le
      by_cases z2:i=n-1
      ·rw[z2]
      ·have a2:=(hu i (n-1) (by omega) (by omega)).le
       omega
    refine wpS_bind (wpS_reverse (falls h0 hn (by omega) (hB.setArr (mirror_perm _ _ _ _)) (Fl.next (fun i j hij hj=>?_) (fun i hi=>?_) (kgc sz (Ux _) (hl.mono hn1))) h))
    ·show Lx (mirror (arrOf st) 0 n ((n-0)/2)) j i
     obtain⟨i',⟨k1,t1⟩,e1⟩:=kcb (i:=0) sz i
     obtain⟨j',⟨k2,t2⟩,e2⟩:=kcb (i:=0) sz j
     rw[if_pos (by omega)] at e1 e2
     have:=hu j' i' (by omega) (by omega)
     unfold Lx at this⊢
     rw[k1,k2,t1,t2]
     exact this
    ·show K (mirror (arrOf st) 0 n ((n-0)/2)) n<K (mirror (arrOf st) 0 n ((n-0)/2)) i
     obtain⟨i',⟨k1,_⟩,e1⟩:=kcb (i:=0) sz i
     obtain⟨n',⟨k2,_⟩,e2⟩:=kcb (i:=0) sz n
     rw[if_pos (by omega)] at e1
     rw[if_neg (by omega)] at e2
     subst e2
     rw[k1,k2,same i' (by omega)]
     exact lt
  ·rw[if_neg c2]
   have e:n=1:=by omega
   subst e
   refine falls h0 hn (by omega) hB (Fl.next (fun i j hij hj=>by omega) (fun i hi=>?_) hl) h
   have z:i=0:=by omega
   subst z
   exact lt
theorem insert{st:SortSt}{n ok:Nat}{Q:Bool→SortSt→Prop}(h0:IntKeys a₀)(hn:n≤a₀.size)(h1:1≤ok)(hok:ok≤n)(hB:SBase a₀ st)(hs:Up (arrOf st) ok)(hl:Lat a₀ (arrOf st) ok)
  (h:∀st',SBase a₀ st'→Up (arrOf st') n→Q true st'):wpS (model prog w) A E s (binarySort' 0 n ok) Q st:=by
 rw[binarySort'_eq]
 simp only[Nat.zero_add]
 refine wpS_bind (wpS_mono (wpS_forRange (I:=fun k c st'=>c=(none,())∧SBase a₀ st'∧Up (arrOf st') (min k n)∧Lat a₀ (arrOf st') (min k n)) (Q:=fun c st'=>c=(none,())∧SBase a₀ st'∧Up (arrOf st') n) ?turn ?over ?begin) ?behind)
 case behind=>
  rintro c st' ⟨rfl,hB',hu⟩
  exact wpS_pure (h st' hB' hu)
 case begin=>
  rw[show max ok 1=ok by omega,show min ok n=ok by omega]
  exact⟨rfl,hB,hs,hl⟩
 case over=>
  rintro c st' ⟨hc,hB',hu,_⟩
  refine⟨hc,hB',?_⟩
  rwa [show min (max (max ok 1) n) n=n by omega] at hu
 case turn=>
  rintro k c st' hak hkn ⟨rfl,hB',hu,hla⟩
  rw[show min k n=k by omega] at hu hla
  have hk:k<a₀.size:=by omega
  refine wpS_bind (wpS_mono (wpS_forRange (I:=fun x c st''=>st''=st'∧∃l r,c=(none,l,r)∧l≤r∧r≤k∧r-l≤k-x∧(∀i,i<l→K (arrOf st') i≤K (arrOf st') k)∧(∀i,r≤i→i<k→K (arrOf st') k<K (arrOf st') i))
   (Q:=fun c st''=>st''=st'∧∃l r,c=(none,l,r)∧l≤k∧(∀i,i<l→K (arrOf st') i≤K (arrOf st') k)∧(∀i,l≤i→i<k→K (arrOf st') k<K (arrOf st') i)) ?turn2 ?over2 ?begin2) ?behind2)
  case begin2=>exact⟨rfl,0,k,rfl,by omega,by omega,by omega,fun i hi=>by omega,fun i a b=>by omega⟩
  case over2=>
   rintro c st'' ⟨rfl,l,r,rfl,hlr,hrk,hm,lo,hi⟩
   have e:l=r:=by omega
   subst e
   exact⟨rfl,l,l,rfl,hrk,lo,hi⟩
  case turn2=>
   rintro x c st'' _ hxk ⟨rfl,l,r,rfl,hlr,hrk,hm,lo,hi⟩
   dsimp only
   by_cases c1:l≥r
   ·rw[if_pos c1]
    have e:l=r:=by omega
    subst e
    exact wpS_pure ⟨rfl,l,l,rfl,hrk,lo,hi⟩
   ·rw[if_neg c1]
    refine wpS_bind (wpS_ltK hB' h0 hk (by omega) ?_)
    by_cases c2:K (arrOf st'') k<K (arrOf st'') ((l+r)/2)
    ·simp only[c2,decide_true,if_true]
     refine wpS_pure ⟨rfl,l,(l+r)/2,rfl,by omega,by omega,by omega,lo,fun i a b=>?_⟩
     by_cases z:i=(l+r)/2
     ·rw[z];exact c2
     ·exact Int.lt_of_lt_of_le c2 (hu _ _ (by omega) b).le
    ·simp only[c2,decide_false,Jk,if_false]
     refine wpS_pure ⟨rfl,(l+r)/2+1,r,rfl,by omega,by omega,by omega,fun i a=>?_,hi⟩
     by_cases z:i=(l+r)/2
     ·rw[z];omega
     ·exact Int.le_trans (hu i ((l+r)/2) (by omega) (by omega)).le (Int.not_lt.mp c2)
  case behind2=>
   rintro c st'' ⟨rfl,l,r,rfl,hlk,lo,hi⟩
   show wpS _ _ _ _ (do moveDown' k l;pure (ForInStep.yield (none,()))) _ _
   rw[moveDown'_eq]
   have hks:k<(arrOf st'').size:=by rw[hB'.size];exact hk
   refine wpS_bind (wpS_modify (wpS_pure ⟨rfl,hB'.setArr (bubble_perm _ _ _),?_,?_⟩))
   ·rw [show min (k+1) n=k+1 by omega]
    intro i j hij hj
    show Lx (bubble (arrOf st'') k (k-l)) i j
    obtain⟨i',⟨k1,t1⟩,e1⟩:=kg5 hks (show k-l≤k by omega) i
    obtain⟨j',⟨k2,t2⟩,e2⟩:=kg5 hks (show k-l≤k by omega) j
    rw[show k-(k-l)=l by omega] at e1 e2
    unfold Lx
    rw[k1,k2,t1,t2]
    by_cases z1:i=l
    ·rw[if_pos z1] at e1
     rw[if_neg (by omega),if_pos (by omega)] at e2
     subst e1
     exact .inl (hi j' (by omega) (by omega))
    ·rw[if_neg z1] at e1
     by_cases z2:j=l
     ·rw[if_pos z2] at e2
      rw[if_neg (by omega)] at e1
      subst e2
      have a1:=lo i' (by omega)
      have a2:=hla i' j' (by omega) (Ux _) hk
      omega
     ·rw[if_neg z2] at e2
      refine hu i' j' ?_ ?_
      ·rw[e1,e2]
       repeat' split
       all_goals omega
      ·rw[e2]
       split <;> omega
   ·rw[show min (k+1) n=k+1 by omega]
    intro a b hab hkb hb
    show T (bubble (arrOf st'') k (k-l)) a<T (bubble (arrOf st'') k (k-l)) b
    obtain⟨a',⟨_,t1⟩,e1⟩:=kg5 hks (show k-l≤k by omega) a
    obtain⟨b',⟨_,t2⟩,e2⟩:=kg5 hks (show k-l≤k by omega) b
    rw[show k-(k-l)=l by omega] at e1 e2
    rw[if_neg (by omega),if_neg (by omega)] at e2
    subst e2
    rw[t1,t2]
    refine hla a' b' ?_ (by omega) hb
    rw[e1]
    repeat' split
    all_goals omega
noncomputable def Done(a₀:Array Keyed)(st:SortSt):Prop:=(arrOf st).Perm a₀∧failedOf st=none∧pendingOf st= #[(0,a₀.size,0)]∧Up (arrOf st) a₀.size
theorem done{st:SortSt}(hB:SBase a₀ st)(hu:Up (arrOf st) a₀.size):Done a₀ (setPending st ((pendingOf st).push (0,a₀.size,0))):=⟨hB.perm,hB.failed,by show(pendingOf st).push _=_;rw[hB.pend];rfl,hu⟩
theorem runs{st:SortSt}{Q:Unit→SortSt→Prop}(h0:IntKeys a₀)(hB:SBase a₀ st)(h2:2≤a₀.size)(h64:a₀.size<64)(hl:Lat a₀ (arrOf st) 1)
  (h:∀st',(arrOf st').Perm a₀→failedOf st'=none→Up (arrOf st') a₀.size→Q () st'):wpS (model prog w) A E s sortRuns' Q st:=by
 rw[sortRuns'_eq]
 refine wpS_bind (wpS_get ?_)
 dsimp only
 have mr:minRun' a₀.size a₀.size 0=a₀.size:=by
  obtain⟨f,hf⟩:∃f,a₀.size=f+1:=⟨a₀.size-1,by omega⟩
  have z:minRun' (f+1) a₀.size 0=a₀.size:=by rw[minRun'_succ,if_pos h64];rfl
  rwa [←hf] at z
 simp only[hB.size,mr]
 refine wpS_bind (wpS_mono (wpS_forRange (I:=fun x c st'=>(x=0∧c=(none,0)∧st'=st)∨(1≤x∧c=(none,a₀.size)∧Done a₀ st')) (Q:=fun c st'=>c=(none,a₀.size)∧Done a₀ st') ?turn ?over (.inl ⟨rfl,rfl,rfl⟩)) ?behind)
 case over=>
  rintro c st' (⟨hx,_,_⟩|⟨_,hc,hD⟩)
  ·omega
  ·exact⟨hc,hD⟩
 case turn=>
  rintro x c st' _ hx (⟨rfl,rfl,rfl⟩|⟨hx1,rfl,hD⟩)
  ·dsimp only
   rw[if_neg (by omega)]
   simp only[Nat.sub_zero,JS,Nat.zero_add]
   refine wpS_bind (count h0 (Ux _) (by omega) hB hl fun m st2 hB2 hm1 hm2 hu2 hl2=>?_)
   dsimp only
   by_cases c1:m<a₀.size
   ·rw[if_pos c1]
    refine wpS_bind (wpS_lift (wpAny_rule ⟨rfl,?_⟩))
    refine wpS_bind (insert h0 (Ux _) hm1 hm2 hB2 hu2 hl2 fun st3 hB3 hu3=>?_)
    simp only[Bool.not_true,Jk,if_false]
    refine wpS_bind (wpS_get ?_)
    have hb:(pendingOf st3).back?=none:=by rw[hB3.pend];rfl
    rw[hb]
    dsimp only
    exact wpS_bind (wpS_modify (wpS_pure (.inr ⟨by omega,rfl,done hB3 hu3⟩)))
   ·rw[if_neg c1]
    have e:m=a₀.size:=by omega
    subst e
    refine wpS_bind (wpS_get ?_)
    have hb:(pendingOf st2).back?=none:=by rw[hB2.pend];rfl
    rw[hb]
    dsimp only
    exact wpS_bind (wpS_modify (wpS_pure (.inr ⟨by omega,rfl,done hB2 hu2⟩)))
  ·dsimp only
   rw[if_pos (Ux _)]
   exact wpS_pure ⟨rfl,hD⟩
 case behind=>
  rintro c st' ⟨rfl,hD⟩
  dsimp only
  refine wpS_bind (wpS_mono (wpS_forRange (I:=fun _ c st''=>st''=st'∧c=(none,())) (Q:=fun c st''=>st''=st'∧c=(none,())) ?_ (fun _ _ z=>z) ⟨rfl,rfl⟩) ?_)
  ·rintro x c st'' _ _ ⟨rfl,rfl⟩
   refine wpS_bind (wpS_get ?_)
   rw[if_pos (by rw[hD.2.2.1];exact Ux 1)]
   exact wpS_pure ⟨rfl,rfl⟩
  ·rintro c st'' ⟨rfl,rfl⟩
   exact wpS_pure (h _ hD.1 hD.2.1 hD.2.2.2)
end
end Stb
namespace Stb
open PySem PyProof.Rows
structure SJ (J:Shared→Prop) (n0:Nat):Prop where
 sz:∀s,J s→n0≤s.heap.objs.size
 push:∀s c xs n,J s→J {s with heap:=s.heap.push (seqObj c xs n)}
 upd:∀s b g,J s→n0≤b→J {s with heap:=s.heap.update b (Obj.mapSeq g)}
noncomputable def Tells(J:Shared→Prop)(n0:Nat)(k:Int)(s:Shared)(v:Value)(s':Shared):Prop:=(∃t,v=.int k t)∧J s'∧∀b o,n0≤b→s.heap.get? b=some o→s'.heap.get? b=some o
noncomputable def Rows(keys:Array Value)(vs:List Value)(out:Array Value):Prop:=∃xs:Array Keyed,xs.Perm (keys.zip vs.toArray)∧Up xs xs.size∧out=xs.map (·.2)
section
variable {prog:Program} {w:World} {A:Around} {E:Value→Shared→Prop} {s:Shared} {J:Shared→Prop} {n0:Nat} {a kS:Addr} {vs:List Value} {kz:List Int} {keys:Array Value} {e e1:Nat} {P:PySem.Fin→Shared→Prop}
theorem tailK(S:SJ J n0)(hJ:J s)(hk:s.heap.get? kS=some (seqObj "list" keys e))(ha:s.heap.get? a=some (seqObj "list" #[] e1))(ne:kS≠a)(nk:n0≤kS)(na:n0≤a){st:SortSt}(hz:keys.size≤64)(hp:(arrOf st).Perm (keys.zip vs.toArray))(hu:Up (arrOf st) (arrOf st).size)
  (hf:failedOf st=none) (hv:vs.length≤64) (h:∀h' out c,J {s with heap:=h'}→h'.get? a=some (seqObj "list" out c)→Rows keys vs out→P (.done (.ret .none)) {s with heap:=h'}):wpAny (model prog w) A (ksk_tail a false e1 (.ref kS) st) P E s:=by
 have sz2:(arrOf st).size≤64:=by
  have hvs:vs.toArray.size=vs.length:=by simp
  rw[hp.size_eq,NA]
  omega
 have q1:=Heap.SameBut.update s.heap kS (Obj.mapSeq fun _=>(#[]:Array Value))
 have g1:(s.heap.update kS (Obj.mapSeq fun _=>(#[]:Array Value))).get? a=some (seqObj "list" #[] e1):=(q1.2 a ne.symm).trans ha
 have J1:=S.upd s kS (fun _=>#[]) hJ nk
 have J2:=S.upd _ a (fun _=>(arrOf st).map (·.2)) J1 na
 unfold ksk_tail
 try dsimp only
 refine wpAny_bind (listUpdate_at hk rfl ?_ (by rw[sizeLine_eq];omega) (U2 _))
 refine wpAny_bind (wpAny_letGo ?_)
 refine wpAny_bind (seqEpoch_at g1 rfl ?_)
 refine wpAny_bind (listUpdate_at g1 rfl ?_ (U2 _) (by simp only[Jk,if_false,Array.size_map];rw[sizeLine_eq];omega))
 rw[hf]
 simp only[bne_self_eq_false,Jk,if_false]
 exact wpAny_pure (h _ _ _ J2 (get?_update_seq g1 fun _=>(arrOf st).map (·.2)) ⟨arrOf st,hp,hu,rfl⟩)
theorem zip_T{keys:Array Value}{vs:List Value}{i:Nat}(hl:keys.size=vs.length):T (keys.zip vs.toArray) i=match vs[i]? with|some v=>numOf v|none=>0:=by
 unfold T
 have hvs:vs.toArray.size=vs.length:=by simp
 cases ev:vs[i]? with
 |none=>
  have hi:vs.length≤i:=NM.mp ev
  have e:(keys.zip vs.toArray)[i]?=none:=Array.getElem?_eq_none (by rw[NA];omega)
  rw[e]
 | some v=>
  have hi:i<vs.length:=(UG.mp ev).1
  have hz:i<(keys.zip vs.toArray).size:=by rw[NA];omega
  have ev':vs[i]=v:=by
   rw[Jz hi] at ev
   exact Option.some.inj ev
  have e:(keys.zip vs.toArray)[i]?=some (keys[i]'(by omega),vs[i]):=by
   rw[N5 hz]
   simp
  rw[e,ev']
theorem endK(S:SJ J n0)(hJ:J s)(hk:s.heap.get? kS=some (seqObj "list" keys e))(ha:s.heap.get? a=some (seqObj "list" #[] e1))(ne:kS≠a)(nk:n0≤kS)(na:n0≤a)(hi:IntsAre keys.toList kz)(hl:keys.size=vs.length)(h64:vs.length<64)
  (up:∀(i j:Nat)(x y:Value),i<j→vs[i]?=some x→vs[j]?=some y→numOf x<numOf y)
  (h:∀h' out c,J {s with heap:=h'}→h'.get? a=some (seqObj "list" out c)→Rows keys vs out→P (.done (.ret .none)) {s with heap:=h'}):wpAny (model prog w) A (ksk_end a false vs.toArray e1 (.ref kS) keys) P E s:=by
 have hvs:vs.toArray.size=vs.length:=by simp
 have zs:(keys.zip vs.toArray).size=vs.length:=by rw[NA];omega
 unfold ksk_end
 try dsimp only
 simp only[Jk,if_false]
 by_cases h2:vs.toArray.size<2
 ·rw[if_pos h2,if_pos h2]
  refine wpAny_bind (wpAny_pure ?_)
  rw[StateT.run_pure]
  refine wpAny_bind (wpAny_pure ?_)
  try dsimp only
  refine tailK (st:=SortSt.mk' general' (keys.zip vs.toArray) #[] 7 none) S hJ hk ha ne nk na (by omega) (Array.Perm.refl _) ?_ rfl (by omega) h
  intro i j hij hj
  have hj2:j<(keys.zip vs.toArray).size:=hj
  rw[zs] at hj2
  rw[UQ] at h2
  omega
 ·rw[if_neg h2,if_neg h2]
  rw[UQ] at h2
  rw[ksk_kind hi (by rw[hl];omega)]
  refine wpAny_bind (wpAny_pure ?_)
  have lat:Lat (keys.zip vs.toArray) (keys.zip vs.toArray) 1:=fun i j hij _ hj=>by
   rw[zs] at hj
   rw[zip_T hl,zip_T hl,Jz (show i<vs.length by omega),Jz hj]
   exact up i j _ _ hij (Jz (show i<vs.length by omega)) (Jz hj)
  refine wpAny_bind (wpAny_mono (runs (a₀:=keys.zip vs.toArray) (st:=SortSt.mk' oneType' (keys.zip vs.toArray) #[] 7 none) (Q:=fun _ st'=>(arrOf st').Perm (keys.zip vs.toArray)∧failedOf st'=none∧Up (arrOf st') (keys.zip vs.toArray).size)
   (ksk_intKeys hi) ⟨Array.Perm.refl _,rfl,rfl,rfl⟩ (by rw[zs];omega) (by rw[zs];exact h64) lat fun st' b1 b2 b3=>⟨b1,b2,b3⟩) ?_ fun _ _ z=>z)
  rintro⟨⟨⟩,st'⟩ s' ⟨rfl,b1,b2,b3⟩
  try dsimp only
  exact tailK S hJ hk ha ne nk na (by omega) b1 (by rw[b1.size_eq];exact b3) b2 (by omega) h
theorem restK{f:Value}(S:SJ J n0)(hJ:J s)(hk:s.heap.get? kS=some (seqObj "list" #[] 0))(ha:s.heap.get? a=some (seqObj "list" #[] e1))(ne:kS≠a)(nk:n0≤kS)(na:n0≤a)(hl:kz.length=vs.length)(h64:vs.length<64)
  (up:∀(i j:Nat)(x y:Value),i<j→vs[i]?=some x→vs[j]?=some y→numOf x<numOf y)
  (turn:∀(i:Nat)(v:Value)(k:Int),vs[i]?=some v→kz[i]?=some k→∀s',J s'→wpAny (model prog w) A (call f [v]) (Tells J n0 k s') (fun _ _=>False) s')
  (h:∀s' keys out c,J s'→s'.heap.get? a=some (seqObj "list" out c)→IntsAre keys.toList kz→keys.size=vs.length→Rows keys vs out→P (.done (.ret .none)) s'):wpAny (model prog w) A (ksk_rest a f false vs.toArray e1 (.ref kS)) P E s:=by
 unfold ksk_rest
 refine wpAny_bind (wpAny_rule ?_)
 first
  |rw[List.forIn_toArray]
  |rw[←Array.forIn_toList]
 refine wpAny_bind (ksk_fold (fun i s'=>J s'∧∃kA e,s'.heap.get? kS=some (seqObj "list" kA e)∧s'.heap.get? a=some (seqObj "list" #[] e1)∧IntsAre kA.toList (kz.take i)) vs 0 s ⟨hJ,#[],0,hk,ha,by simpa using IntsAre.nil⟩ ?turnP ?doneP)
 case turnP=>
  rintro j x s' hx ⟨J',kA,e,g1,g2,hi⟩
  simp only[Nat.zero_add] at hi⊢
  have hj:j<vs.length:=(UG.mp hx).1
  obtain⟨k,ek⟩:∃k,kz[j]?=some k:=⟨_,Jz (by omega)⟩
  have lz:kA.size≤vs.length:=by
   have h1:=hi.length
   rw[JV,UP] at h1
   omega
  refine wpAny_bind (wpAny_attempt (wpAny_mono (turn j x k hx ek s' J') (fun v s'' hT=>?_) fun _ _ z=>z.elim))
  obtain⟨⟨t,rfl⟩,J2,kp⟩:=hT
  try dsimp only
  have g1':=kp _ _ nk g1
  have g2':=kp _ _ na g2
  have q1:=Heap.SameBut.update s''.heap kS (Obj.mapSeq (·.push (.int k t)))
  refine wpAny_bind (listUpdate_at g1' rfl ?_ (by rw[sizeLine_eq];omega) (UA (Nl (Array.size_push ..)) (by rw[sizeLine_eq];omega)))
  have et:kz.take (j+1)=kz.take j++[k]:=by rw[JA,ek];simp
  have ep:(kA.push (Value.int k t)).toList=kA.toList++[Value.int k t]:=by simp
  exact wpAny_pure ⟨rfl,S.upd _ kS _ J2 nk,kA.push (.int k t),_,get?_update_seq g1' (·.push (.int k t)),(q1.2 a ne.symm).trans g2',by rw[ep,et];exact ksk_snoc hi⟩
 case doneP=>
  rintro s' ⟨J',kA,e,g1,g2,hi⟩
  have e3:kz.take (0+vs.length)=kz:=Jw (by omega)
  rw[e3] at hi
  have lk:kA.size=vs.length:=by
   have:=hi.length
   rw[JV] at this
   omega
  try dsimp only
  refine wpAny_bind (listItems_at g1 rfl ?_)
  exact endK S J' g1 g2 ne nk na hi lk h64 up fun h' out c z1 z2 z3=>h _ kA out c z1 z2 hi lk z3
theorem sortK{f:Value}{n:Nat}(S:SJ J n0)(hJ:J s)(ho:s.heap.get? a=some (seqObj "list" vs.toArray n))(na:n0≤a)(hl:kz.length=vs.length)(h64:vs.length<64)
  (up:∀(i j:Nat)(x y:Value),i<j→vs[i]?=some x→vs[j]?=some y→numOf x<numOf y)
  (turn:∀(i:Nat)(v:Value)(k:Int),vs[i]?=some v→kz[i]?=some k→∀s',J s'→wpAny (model prog w) A (call f [v]) (Tells J n0 k s') (fun _ _=>False) s')
  (h:∀s' keys out c,J s'→s'.heap.get? a=some (seqObj "list" out c)→IntsAre keys.toList kz→keys.size=vs.length→Rows keys vs out→P (.done (.ret .none)) s'):wpAny (model prog w) A (ksk_tree a f false) P E s:=by
 have la:a<s.heap.objs.size:=Heap.lt_size ho
 have J1:=S.upd s a (fun _=>#[]) hJ na
 have J2:=S.push _ "tuple" vs.toArray 0 J1
 have J3:=S.push _ "list" #[] 0 J2
 obtain⟨e1,g1⟩:∃e1,(s.heap.update a (Obj.mapSeq fun _=>(#[]:Array Value))).get? a=some (seqObj "list" #[] e1):=⟨_,get?_update_seq ho fun _=>#[]⟩
 have sz:((s.heap.update a (Obj.mapSeq fun _=>(#[]:Array Value))).push (seqObj "tuple" vs.toArray 0)).objs.size=s.heap.objs.size+1:=by rw[size_push',Heap.size_update]
 have n0s:=S.sz s hJ
 unfold ksk_tree
 refine wpAny_bind (listItems_at ho rfl ?_)
 refine wpAny_bind (listUpdate_at ho rfl ?_ (by rw[UQ,sizeLine_eq];omega) (U2 _))
 refine wpAny_bind (seqEpoch_at g1 rfl ?_)
 refine wpAny_bind (wpAny_newTuple ?_ (by show vs.length≤_;rw[sizeLine_eq];omega))
 refine wpAny_bind (wpAny_newList ?_ (U2 _))
 refine wpAny_holding ?_
 refine restK (s:={s with heap:=((s.heap.update a (Obj.mapSeq fun _=>(#[]:Array Value))).push (seqObj "tuple" vs.toArray 0)).push (seqObj "list" #[] 0)}) (kS:=((s.heap.update a (Obj.mapSeq fun _=>(#[]:Array Value))).push (seqObj "tuple" vs.toArray 0)).objs.size)
  S J3 (Heap.get?_push_size _ rfl) (Heap.get?_push_of_some _ (Heap.get?_push_of_some _ g1)) (by rw[sz];exact Je (Nat.lt_succ_of_lt la)) (by rw[sz];omega) na hl h64 up turn h
end
section
variable {prog:Program} {w:World} {A:Around} {E:Value→Shared→Prop} {s:Shared} {J:Shared→Prop} {n0:Nat} {vs:List Value} {kz:List Int} {Q:Value→Shared→Prop}
theorem sortedK{l f:Addr}(S:SJ J n0)(hJ:J s)(hL:s.heap.IsList l vs.toArray)(hl:kz.length=vs.length)(h64:vs.length<64)
  (up:∀(i j:Nat)(x y:Value),i<j→vs[i]?=some x→vs[j]?=some y→numOf x<numOf y)
  (turn:∀(i:Nat)(v:Value)(k:Int),vs[i]?=some v→kz[i]?=some k→∀s',J s'→wpAny (model prog w) A.in1.in1 (call (.ref f) [v]) (Tells J n0 k s') (fun _ _=>False) s')
  (h:∀s' D keys out c,n0≤D→J s'→s'.heap.get? D=some (seqObj "list" out c)→IntsAre keys.toList kz→keys.size=vs.length→Rows keys vs out→Q (.ref D) s'):wpAny (model prog w) A (call (.builtin "sorted") [.ref l] [(Str.ofString "key", .ref f)]) Q E s:=by
 refine call_function_entry_kw kind_sorted plain_sorted entry_sorted (ksk_s1 _ _) ?_
 unfold Builtin.«sorted»
 refine wpAny_bind (m:=checkCount "sorted" 1 1 _) (wpAny_pure ?_)
 refine wpAny_bind (collect_list hL ?_ (by rw[sizeLine_eq];omega))
 refine wpAny_bind (wpAny_newList ?_ (by rw[sizeLine_eq];omega))
 have n0s:=S.sz s hJ
 have J1:=S.push s "list" #[] 0 hJ
 have J2:=S.upd _ s.heap.objs.size (· ++vs.toArray) J1 n0s
 have J3:=S.push _ "list" vs.toArray 0 J2
 have sz:((s.heap.push (seqObj "list" #[] 0)).update s.heap.objs.size (Obj.mapSeq (· ++vs.toArray))).objs.size=s.heap.objs.size+1:=by rw[Heap.size_update,size_push']
 have g1:(((s.heap.push (seqObj "list" #[] 0)).update s.heap.objs.size (Obj.mapSeq (· ++vs.toArray))).push (seqObj "list" vs.toArray 0)).get? (s.heap.objs.size+1)=some (seqObj "list" vs.toArray 0):=by
  rw[←sz]
  exact Heap.get?_push_size _ rfl
 show wpAny _ _ _ _ _ {s with heap:=((s.heap.push (seqObj "list" #[] 0)).update s.heap.objs.size (Obj.mapSeq (· ++vs.toArray))).push (seqObj "list" vs.toArray 0)}
 rw[sz]
 refine wpAny_bind (wpAny_holding (wpAny_call_entry_kw slot_list_sort ⟨_,g1,rfl⟩ entry_list_sort ?inner (ksk_l1 _ _)))
 case inner=>
  show wpAny (model prog w) A.in1.in1 (Builtin.«list.sort» ⟨[.ref (s.heap.objs.size+1)],[(Str.ofString "key", .ref f)]⟩) _ _ _
  rw[ksk_t1]
  refine sortK (s:={s with heap:=((s.heap.push (seqObj "list" #[] 0)).update s.heap.objs.size (Obj.mapSeq (· ++vs.toArray))).push (seqObj "list" vs.toArray 0)}) S J3 g1 (by omega) hl h64 up turn fun s' keys out c z1 z2 z3 z4 z5=>⟨_,rfl,?_⟩
  exact wpAny_pure ⟨_,rfl,h s' _ keys out c (by omega) z1 z2 z3 z4 z5⟩
end
end Stb
namespace L2
open PySem PySem.Spec PyProof.Rows
structure kc8 (X:Cx) (scope:Scope) (x:Str) (N:List Str) (cap:List (Option Nat)):Prop where
 S:CompScope X scope N (none::cap)
 hd:N[0]?=some x
 par:scope.names.lookup x=some .local
 co:scope.isCoroutine=false
 gen:scope.isGenerator=false
 nocell:∀y∈scope.names,y.2≠.cell
noncomputable abbrev kim(X:Cx)(scope:Scope)(qual:Str)(L f c:Addr):Env:=PySem.W.envX qual scope L f (.ref c) (closL X.env.cells scope.names [])
noncomputable def cxL(X:Cx)(A:Around)(scope:Scope)(N:List Str)(qual:Str)(f c:Addr)(s:Shared)(H:Hp):Cx:=
 {X with A:=A.deeper (kim X scope qual s.heap.objs.size f c),N:=N,s₀:=s,H₀:=H,env:=kim X scope qual s.heap.objs.size f c,outer:=X.stack,stack:=kim X scope qual s.heap.objs.size f c::X.stack,ex:=[],fn:=fun _=>false,calm:=true,pn:=[],xe:=fun _ _=>False}
section
variable {X:Cx} {A:Around} {scope:Scope} {x:Str} {N:List Str} {cap:List (Option Nat)} {pins:List (Addr×Obj)} {σ:St} {H:Hp} {s s1:Shared} {qual:Str} {f c:Addr}
theorem kcr(S:kc8 X scope x N cap)(I:Inv X pins σ H s){y:Str}{a:Addr}(h:(closL X.env.cells scope.names []).lookup y=some a):X.env.cells.lookup y=some a:=by
 rcases kdH _ _ h with⟨h1,h2⟩|h1
 ·obtain⟨a',ea⟩:=I.ok.has y (S.S.free _ h1 rfl)
  rw[ea] at h2
  rw[h2]
  exact ea
 ·cases h1
theorem kkO(S:kc8 X scope x N cap)(I:Inv X pins σ H s)(hfr:A.frames=some X.stack)(hh:A.handled=none){v:V}{u:Value}(r:RelV v u){h1:Heap}{t:Nat}(hns:h1.Ns s.heap.objs.size fun y=>[(x,u)].reverse.lookup y)(hk:∀b o,s.heap.get? b=some o→h1.get? b=some o):
  Inv (cxL X A scope N qual f c s H) [] (some v::capσ cap σ) H {s with heap:=h1,toks:=t}:=by
 have noA:∀b:Addr,b∉(cxL X A scope N qual f c s H).ex:=fun b z=>absurd (show b∈([]:List Addr) from z) (by simp)
 have od:∀{y:Str}{a:Addr},X.env.cells.lookup y=some a→a<s.heap.objs.size:=fun {y a} h=>let⟨_,q⟩:=I.cell y a h;q.lt
 refine⟨⟨I.ok.mod,S.S.kind,rfl,rfl,Ux _,fun y z a e1 e2=>I.ok.inj y z a (kcr S I e1) (kcr S I e2),fun y hy=>?_,fun y a e1 _=>?_,fun _=>hh,Around.frames_deeper hfr, .inr ⟨rfl,rfl⟩,fun b z=>absurd z (noA b),I.bs,UA I.ok.bsz I.sz,fun b _ _=>noA b,fun b z=>absurd z (noA b),I.stack,I.stkFree⟩,
  rfl,I.bare,Un.kept hk,⟨_,hns,fun j y w e1 e2 e3=>?_⟩,fun y a e=>?_,I.hok.fresh (Ux _),fun y a e=>I.freeC y a (kcr S I e),fun p hp=>absurd (show p∈([]:List (Addr×Obj)) from hp) (by simp),I.hok.kept hk,?_⟩
 ·have hy':scope.names.lookup y=some .cell∨scope.names.lookup y=some .free:=hy
  rcases hy' with q|q
  ·exact absurd rfl (S.nocell _ (PySem.mem_of_lookup q))
  ·exact kcv (cells:=X.env.cells) scope.names [] (.inl (PySem.mem_of_lookup q))
 ·cases(show false=true from e1)
 ·cases j with
  | zero=>
   have ex:y=x:=by
    have e1':N[0]?=some y:=e1
    rw[S.hd] at e1'
    exact(Option.some.inj e1').symm
   have ev:w=v:=by
    have e2':some (some v)=some (some w):=e2
    exact(Option.some.inj (Option.some.inj e2')).symm
   subst ex ev
   refine⟨u,r, .inl ⟨S.par,?_⟩⟩
   simp
  | succ j=>
   have e2':(capσ cap σ)[j]?=some (some w):=by simpa using e2
   have e2'':(cap.map fun o=>match o with|some i=>(σ[i]?).getD none|none=>none)[j]?=some (some w):=e2'
   rw[UD] at e2''
   cases ec:cap[j]? with
   |none=>rw[ec] at e2'';cases e2''
   | some oi=>
    rw[ec] at e2''
    cases oi with
    |none=>cases e2''
    | some i=>
     have e4:(σ[i]?).getD none=some w:=Option.some.inj e2''
     have e5: σ[i]?=some (some w):=by
      cases q: σ[i]? with
      |none=>rw[q] at e4;cases e4
      |some w'=>rw[q] at e4;exact congrArg some e4
     obtain⟨q1,hf,_⟩:=S.S.cap (j+1) i y (by simpa using ec) e1
     have hm:=PySem.mem_of_lookup hf
     have q2:=S.S.free _ hm rfl
     obtain⟨mo,_,hl⟩:=I.loc
     obtain⟨u',ru,lk⟩:=hl i y w q1 e5 (.inr q2)
     refine⟨u',ru, .inr ⟨.inr hf,?_⟩⟩
     rcases lk with⟨k1,_⟩|⟨_,a,ea,z⟩
     ·have k1':X.env.scope.names.lookup y=some .local:=k1
      rcases q2 with q2|q2 <;> rw[q2] at k1' <;> cases k1'
     ·obtain⟨a',ea2⟩:=kcv (cells:=X.env.cells) scope.names [] (.inl hm)
      have e6:=kcr S I ea2
      rw[ea] at e6
      have e7:a=a':=Option.some.inj e6
      subst e7
      obtain⟨oc,ho,hd⟩:=z
      exact⟨a,ea2,oc,hk _ _ ho,hd⟩
 ·obtain⟨w,oc,ho,hd⟩:=I.cell y a (kcr S I e)
  exact⟨w,oc,hk _ _ ho,hd⟩
 ·have:=S.S.len
  show(some v::capσ cap σ).length=N.length
  rw[←this,Jb,Jb]
  unfold capσ
  rw[Uu]
theorem kjq{name:Str}{params:Arguments}{body:Expr}{pm ctv:Value}{te:TE}{v:V}{u:Value}{Q:VK}(S:kc8 X scope x N cap)(I:Inv X pins σ H s)(hfr:A.frames=some X.stack)(hh:A.handled=none)(hdp:A.depth<recursionLimit)
  (ho:s.heap.get? f=some (NB name qual params body scope (closL X.env.cells scope.names []) pm c ctv)) (hcd:s.heap.CodeRec (.ref c) qual)
  (hbind:bindArgs (PySem.W.kla_fn name qual params body scope (closL X.env.cells scope.names []) pm (.ref c) ctv) ⟨[u],[]⟩=pure [(x,u)]) (r:RelV v u) (he:PE (cxL X A scope N qual f c s H) body te) (hq:te (some v::capσ cap σ) H Q):
  wpAny (model X.prog X.w) A (call (.ref f) [u]) (fun w' s'=>∃v' H',Inv X pins σ H' s'∧RelV v' w'∧Q v' H'∧Un (frs X.stack) [] H H' s.heap s'.heap∧s.heap.objs.size≤s'.heap.objs.size) (fun _ _=>False) s:=by
 refine wpAny_call (PySem.W.kla_callFunE hdp ho rfl S.co S.gen rfl hcd ?_)
 rw[hbind]
 refine wpAny_pure (wpAny_newFunctionEnv S.nocell (fun y hy=>?_) (fun h1 hns hsb=>⟨I.nolimit.fresh _ hsb,?_⟩) S.S.kind)
 ·rw[Jq] at hy
  subst hy
  exact S.par
 have hk:∀b o,s.heap.get? b=some o→h1.get? b=some o:=fun b o e=>hsb.extBut b o (UU (Heap.lt_size e)) (Heap.get?_push_of_some _ e)
 have J:=kkO (A:=A) (qual:=qual) (f:=f) (c:=c) (t:=s.toks+1) S I hfr hh r hns hk
 refine PySem.W.kla_codeExpr (wpAny_mono (he [] _ _ _ Q J hq) (fun w' s' hw=>?_) fun _ _ z=>z.elim)
 obtain⟨v',H',J',rv,qv⟩:=hw
 exact⟨v',H',I.call' (ch:=[]) J'.os J'.base J'.hok J'.bare (fun b hb=>by simp at hb),rv,qv,J'.base,J'.sz⟩
end
end L2
namespace L2
open PySem PySem.Spec PyProof.Rows
noncomputable def CodeO(c:Addr)(qual:Str):HO:=.ext fun h=>h.CodeRec (.ref c) qual
noncomputable def lamN(p:Pos):Str:=if p.col=38 then "first_use.<locals>.<lambda>" else "falling_groups.<locals>.<lambda>"
def kjr{p p':Pos}(h:p.col=p'.col):lamN p=lamN p':=by unfold lamN;rw[h]
noncomputable def TbAt(P:Addr)(H:Hp):Prop:=∃ps:Array Value,H P=some (.tbl ps)∧TriplesOk ps.toList∧∀pos c,codeAmong pos ps.toList=some c→∃c',c=.ref c'∧H c'=some (CodeO c' (lamN pos))
structure Grew (P:Addr) (H H':Hp):Prop where
 kp:∀b o,b≠P→H b=some o→H' b=some o
 tb:TbAt P H'
theorem ki0{pos:Pos}{a b:Int}{c:Value}(l:List Value)(h:TriplesOk l){x:Value}(e:codeAmong pos (l++[rawInt a,rawInt b,c])=some x):codeAmong pos l=some x∨(x=c∧b=pos.col):=by
 fun_induction TriplesOk l with
 |case1=>
  right
  unfold rawInt codeAmong at e
  simp only[Nv] at e
  split at e
  next hc=>exact⟨(Option.some.inj e).symm,by simpa using(Bool.and_eq_true_iff.mp hc).2⟩
  ·simp[codeAmong] at e
 | case2 n t m u d rest ih=>
  simp only[N6,codeAmong] at e⊢
  split at e
  ·left
   rename_i hc
   rw[if_pos hc]
   exact e
  ·rename_i hc
   rw[if_neg hc]
   exact ih h e
 |case3=>exact h.elim
noncomputable def CodeK(K:Uv)(c P:Addr):Prop:=
 ∃o vs file tf flags tg inF text tt,K.lookup c=some o∧o.cls=.type "code"∧o.data=.fields vs∧vs[11]?=some (.ref P)∧vs.getD 11 .none=.ref P∧vs.getD 18 .none=.str file tf∧vs.getD 7 .none=.int flags tg∧vs.getD 9 .none=.bool inF∧vs.getD 10 .none=.int text tt∧c≠P
def CodeK.hd{K:Uv}{c P:Addr}{h:Heap}(x:CodeK K c P)(X:K.In h):PySem.W.CodeHd h c P:=by
 obtain⟨o,vs,file,tf,flags,tg,inF,text,tt,e,r⟩:=x
 exact⟨o,vs,file,tf,flags,tg,inF,text,tt,X _ _ e,r⟩
noncomputable def BltM(mg:Str→Option Value)(base:Heap):Prop:=∃bm ob,mg "__builtins__"=some (.ref bm)∧bm≠builtinsNs∧base.get? bm=some ob∧ob.cls=.type "module"∧ob.dict=some builtinsNs∧ob.data=.plain
section
variable {X:Cx} {scope:Scope} {x:Str} {N:List Str} {cap:List (Option Nat)} {pins:List (Addr×Obj)} {σ:St} {H:Hp} {s:Shared} {c0 P:Addr} {params:Arguments} {body:Expr} {lpos:Pos}
theorem kjp{E:Value→Shared→Prop}{Q:Value→Shared→Prop}(S:kc8 X scope x N cap)(I:Inv X pins σ H s)(hcode:X.env.code=.ref c0)(CK:CodeK X.K c0 P)(hB:BltM X.mg X.base)(TB:TbAt P H)(hq:X.env.qual++ "<lambda>"=(lamN lpos))(hdef:defaultsOf params X.env=([],[]))
  (h:∀(s':Shared)(H':Hp)(f c:Addr)(pm ctv:Value),Inv X pins σ H' s'→Grew P H H'→s'.heap.get? f=some (NB "<lambda>" (lamN lpos) params body scope (closL X.env.cells scope.names []) pm c ctv)→H' f=none→s.heap.objs.size≤f→(∀b,s.heap.objs.size≤b→s'.heap.objs.size≤b→H' b=none)→H' c=some (CodeO c (lamN lpos))→Q (.ref f) s'):
  wpAny (model X.prog X.w) X.A (eval (.Lambda params body scope lpos) X.env) Q E s:=by
 obtain⟨ps,eP,ht,hor⟩:=TB
 have hP:s.heap.get? P=some (NC ps):=(show ObjOk X.prog X.w H s.heap P (.tbl ps) from I.hok P _ eP)
 have hg:=I.mod.glob.keeps I.bk
 have nbP:∀b o,X.base.get? b=some o→b≠P:=fun b o e z=>by
  have:=(I.bs b o e).2
  rw[z,eP] at this
  cases this
 have hgP:mainGlobals≠P:=by
  obtain⟨o,_,_,e,_⟩:=I.mod.glob
  exact nbP _ o e
 have hb:s.heap.BuiltinsAt X.mg P:=by
  obtain⟨bm,ob,b1,b2,b3,b4,b5,b6⟩:=hB
  refine⟨bm,ob,b1,b2,fun z=>?_,nbP _ ob b3,I.bk _ _ b3,b4,b5,b6⟩
  obtain⟨o,es,ep,e,hd,_⟩:=I.mod.glob
  rw[←z,b3] at e
  cases e
  rw[b6] at hd
  cases hd
 have CH:=CK.hd I.kIn
 refine PySem.W.kla_eval hdef ?_
 rw[hq]
 cases hor':codeAmong lpos ps.toList with
 | none=>
  have hnf:=hor'
  refine PySem.W.kla_makeFunction (mg:=X.mg) (kcu S.S I) I.ok.glob hg hcode CH hP ht hnf hgP hb fun c' ctv h' tk hx hge hlt hrec htb=>?_
  have hc0:H c'=none:=I.hok.fresh hge
  have nPc:P≠c':=kai eP hc0
  have szP:P<s.heap.objs.size:=Heap.lt_size hP
  generalize hob:NB "<lambda>" (lamN lpos) params body scope (closL X.env.cells scope.names []) ((X.mg "__name__").getD .none) c' ctv=ob
  have k2:∀b o,b≠P→s.heap.get? b=some o→(h'.push ob).get? b=some o:=fun b o hbp e=>Heap.get?_push_of_some _ (hx b o hbp e)
  have nN:∀{b:Addr},H b=none→b≠P:=fun {b} n z=>by rw[z,eP] at n;cases n
  have at2:∀{b:Addr},b≠P→b≠c'→(upd (upd H P (.tbl (ps++ #[rawInt lpos.line,rawInt lpos.col, .ref c']))) c' (CodeO c' (lamN lpos))) b=H b:=fun {b} h1 h2=>by rw[kaj h2,kaj h1]
  have eP2:(upd (upd H P (.tbl (ps++ #[rawInt lpos.line,rawInt lpos.col, .ref c']))) c' (CodeO c' (lamN lpos))) P=some (.tbl (ps++ #[rawInt lpos.line,rawInt lpos.col, .ref c'])):=by rw[kaj nPc,kad]
  have ec2:(upd (upd H P (.tbl (ps++ #[rawInt lpos.line,rawInt lpos.col, .ref c']))) c' (CodeO c' (lamN lpos))) c'=some (CodeO c' (lamN lpos)):=kad
  have fresh2:∀b,s.heap.objs.size≤b→(h'.push ob).objs.size≤b→(upd (upd H P (.tbl (ps++ #[rawInt lpos.line,rawInt lpos.col, .ref c']))) c' (CodeO c' (lamN lpos))) b=none:=fun b h1 h2=>by
   rw[Heap.size_push] at h2
   rw[at2 (Je (UT szP h1)) (Je (UT hlt (Nat.le_of_succ_le h2)))]
   exact I.hok.fresh h1
  have ff:(upd (upd H P (.tbl (ps++ #[rawInt lpos.line,rawInt lpos.col, .ref c']))) c' (CodeO c' (lamN lpos))) h'.objs.size=none:=by
   have h1:s.heap.objs.size≤h'.objs.size:=UA hge (UI hlt)
   rw[at2 (Je (UT szP h1)) (Je hlt)]
   exact I.hok.fresh h1
  generalize upd (upd H P (.tbl (ps++ #[rawInt lpos.line,rawInt lpos.col, .ref c']))) c' (CodeO c' (lamN lpos))=H2 at *
  have un:Un X.fs [] H H2 s.heap (h'.push ob):=by
   refine⟨fun b o e n _ _=>k2 b o (nN n) e,fun b o e n _ _=>⟨o.slots,k2 b o (nN n) e⟩,fun b o e n _=>?_,fun b o e _=>?_,fun b xs e=>?_,fun b o u e=>?_,fun b qs e=>?_⟩
   ·rw[at2 (nN n) (UU (UT (Heap.lt_size e) hge))]
    exact n
   ·by_cases hbp:b=P
    ·subst hbp
     exact⟨_,Heap.get?_push_of_some _ htb⟩
    ·exact⟨o,k2 b o hbp e⟩
   ·rw[at2 (ne_of e eP (by intro z;cases z)) (kai e hc0)]
    exact e
   ·rw[at2 (ne_of e eP (by intro z;cases z)) (kai e hc0)]
    exact e
   ·by_cases hbp:b=P
    ·subst hbp
     rw[eP] at e
     cases e
     exact⟨_,eP2⟩
    ·refine⟨#[],?_⟩
     rw[at2 hbp (kai e hc0),e]
     simp
  have hok2:HOk X.prog X.w H2 (h'.push ob):=fun b u e=>by
   by_cases hbp:b=P
   ·subst hbp
    rw[eP2] at e
    cases e
    exact(show(h'.push ob).get? b=some _ from Heap.get?_push_of_some _ htb)
   ·by_cases hbc:b=c'
    ·subst hbc
     rw[ec2] at e
     cases e
     obtain⟨cc,oc,vs,t,e1,e2,e3,e4⟩:=hrec
     cases e1
     refine(show ObjOk X.prog X.w H2 (h'.push ob) b (CodeO b (lamN lpos)) from⟨⟨b,oc,vs,t,rfl,Heap.get?_push_of_some _ e2,e3,e4⟩,⟨oc,Heap.get?_push_of_some _ e2⟩,fun h1 h2 q k=>?_⟩)
     obtain⟨c3,o3,vs3,t3,z1,z2,z3,z4⟩:=q
     cases z1
     exact⟨b,o3,vs3,t3,rfl,k _ z2,z3,z4⟩
    ·rw[at2 hbp hbc] at e
     have nown:∀d y,H d=some (.own y)→d≠P∧d≠c':=fun d y r=>⟨ne_of r eP (by intro z;cases z),kai r hc0⟩
     refine(I.hok b u e).stay (fun d v hd r=>k2 d v ?_ r) (fun d r=>by rw[at2 (nown d b r).1 (nown d b r).2];exact r) fun d xs r=>by rw[at2 (ne_of r eP (by intro z;cases z)) (kai r hc0)];exact r
     rcases hd with rfl|hd
     ·exact hbp
     ·exact(nown d b hd).1
  subst hob
  refine h _ H2 h'.objs.size c' _ ctv (I.un (t':=tk) un hok2) ⟨fun b o hbp e=>by rw[at2 hbp (kai e hc0)];exact e,_,eP2,?_,fun pos d ed=>?_⟩ (Heap.get?_push_size _ rfl) ff (UA hge (UI hlt)) fresh2 ec2
  ·have:=TriplesOk_snoc lpos.line lpos.col (.ref c') ps.toList ht
   simpa using this
  ·have ed':codeAmong pos (ps.toList++[rawInt lpos.line,rawInt lpos.col, .ref c'])=some d:=by simpa using ed
   rcases ki0 ps.toList ht ed' with z|z
   ·obtain⟨d',rfl,ed2⟩:=hor pos d z
    exact⟨d',rfl,by rw[at2 (ne_of ed2 eP (by intro z;cases z)) (kai ed2 hc0)];exact ed2⟩
   ·exact⟨c',z.1,by rw[kjr (p:=pos) (p':=lpos) (by have:=z.2;omega)];exact ec2⟩
 |some cv=>
  have hf:=hor'
  obtain⟨c',rfl,ec'⟩:=hor lpos cv hf
  refine PySem.W.kla_makeFunctionHit (mg:=X.mg) (kcu S.S I) I.ok.glob hg hcode CH hP ht hf hb fun ctv h' tk hk hsz=>?_
  have k2:∀b o,s.heap.get? b=some o→(h'.push (NB "<lambda>" (lamN lpos) params body scope (closL X.env.cells scope.names []) ((X.mg "__name__").getD .none) c' ctv)).get? b=some o:=fun b o e=>Heap.get?_push_of_some _ (hk b o e)
  exact h _ H h'.objs.size c' _ ctv (I.kept (t':=tk) k2) ⟨fun b o _ e=>e,ps,eP,ht,hor⟩ (Heap.get?_push_size _ rfl) (I.hok.fresh hsz) hsz (fun b h1 _=>I.hok.fresh h1) ec'
end
end L2
namespace L2
open PySem PySem.Spec PyProof.Rows
theorem kgZ:∀{ns:List Int}{us:List Value},Vals (ns.map V.int) us→IntsAre us ns
 |[],_, .nil=>.nil
 |n::ns,_, .cons h t=>by
  obtain⟨tk,rfl⟩:=h
  exact .cons n tk (kgZ t)
theorem kgs:∀{us:List Value}{ns:List Int},IntsAre us ns→Vals (ns.map V.int) us
 |_,_, .nil=>.nil
 |_,_, .cons n t h=>.cons ⟨t,rfl⟩ (kgs h)
theorem ki9{ns:List Int}{key:Int→Int}{keys:Array Value}{us:List Value}{out:Array Value}(hu:IntsAre us ns)(hk:IntsAre keys.toList (ns.map key))(hl:keys.size=us.length)(h:Stb.Rows keys us out):
  ∃ms:List Int,IntsAre out.toList ms∧ms.Perm ns∧ms.Pairwise fun a b=>key a<key b∨(key a=key b∧a<b):=by
 obtain⟨xs,hp,hup,rfl⟩:=h
 have pl:xs.toList.Perm (keys.toList.zip us):=by
  rw[←ksk_zip]
  exact Array.perm_iff_toList_perm.mp hp
 have mem:∀p∈keys.toList.zip us,p.2∈us∧numOf p.1=key (numOf p.2):=fun p hp=>by
  obtain⟨i,hi,rfl⟩:=List.mem_iff_getElem.mp hp
  have l1:i<keys.toList.length:=by
   rw[List.length_zip] at hi
   omega
  have l2:i<us.length:=by
   rw[List.length_zip] at hi
   omega
  rw[List.getElem_zip]
  refine⟨List.getElem_mem l2,?_⟩
  have e1:(keys.toList.map numOf)[i]?=(ns.map key)[i]?:=by rw[hk.nums]
  have e2:(us.map numOf)[i]?=ns[i]?:=by rw[hu.nums]
  rw[UD,Jz l1,UD] at e1
  rw[UD,Jz l2] at e2
  rw[←e2] at e1
  exact Option.some.inj e1
 have memx:∀p∈xs.toList,p.2∈us∧numOf p.1=key (numOf p.2):=fun p hp=>mem p (pl.mem_iff.mp hp)
 refine⟨xs.toList.map fun p=>numOf p.2,?_,?_,?_⟩
 ·have e:(xs.map (·.2)).toList=xs.toList.map (·.2):=by simp
  rw[e]
  have:=intsAre_map (xs.toList.map (·.2)) fun v hv=>by
   obtain⟨p,hp',rfl⟩:=UX.mp hv
   exact hu.all _ (memx p hp').1
  rw[UR] at this
  exact this
 ·have h1:=pl.map (fun p:Keyed=>numOf p.2)
  have e2:(keys.toList.zip us).map (fun p:Keyed=>numOf p.2)=ns:=by
   have e3:(keys.toList.zip us).map (fun p:Keyed=>numOf p.2)=((keys.toList.zip us).map Prod.snd).map numOf:=by rw[UR];rfl
   rw[e3,List.map_snd_zip (by have e:=JV (xs:=keys);omega),hu.nums]
  rw[e2] at h1
  exact h1
 ·rw[JI]
  intro i j hi hj hij
  have hi':i<xs.size:=by simpa using hi
  have hj':j<xs.size:=by simpa using hj
  have q:=hup i j hij hj'
  have ki:=(memx xs[i] (by simp)).2
  have kj:=(memx xs[j] (by simp)).2
  unfold Stb.Lx Stb.T at q
  rw[K_eq hi',K_eq hj',N5 hi',N5 hj'] at q
  simp only[Na,Array.getElem_toList]
  rw[←ki,←kj]
  exact q
section
variable {X:Cx} {scope:Scope} {x:Str} {N:List Str} {cap:List (Option Nat)} {pins:List (Addr×Obj)} {σ:St} {H:Hp} {s1:Shared} {f:Addr} {fo:Obj}
noncomputable def Held(X:Cx)(pins:List (Addr×Obj))(σ:St)(H:Hp)(n0:Nat)(f:Addr)(fo:Obj)(s:Shared):Prop:=Inv X pins σ H s∧n0≤s.heap.objs.size∧s.heap.get? f=some fo
theorem kkP(I:Inv X pins σ H s1)(hf:f<s1.heap.objs.size):Stb.SJ (Held X pins σ H s1.heap.objs.size f fo) s1.heap.objs.size where
 sz:=fun s h=>h.2.1
 push:=fun s c xs n h=>⟨h.1.kept (t':=s.toks) fun b o e=>Heap.get?_push_of_some _ e,UA h.2.1 (by rw[Heap.size_push];exact J7 _),Heap.get?_push_of_some _ h.2.2⟩
 upd:=fun s b g h hb=>by
  obtain⟨q1,q2,q3,q4,q5,q6⟩:=I.fpOk hb (I.hok.fresh hb)
  have sb:=Heap.SameBut.update s.heap b (Obj.mapSeq g)
  exact⟨h.1.turned (t':=s.toks) (it:=b) (fun d o hd e=>(sb.2 d hd).trans e) q1 q2 q4 q5 q6,by rw[Heap.size_update];exact h.2.1,(sb.2 f (UU (UT hf hb))).trans h.2.2⟩
noncomputable def ki5(K:Uv)(P:Addr)(tl:TE)(cap:List (Option Nat))(te:TE):TE:=fun σ H Q=>tl σ H fun v H1=>∃(a:Addr)(ns:List Int)(key:Int→Int),v=.ref a∧SqL K H1 a (ns.map V.int)∧ns.length<64∧ns.Pairwise (· < ·)∧TbAt P H1∧a≠P∧
 (∀H2,Grew P H1 H2→∀n∈ns,te (some (.int n)::capσ cap σ) H2 fun v H3=>v=.int (key n)∧H3=H2)∧
 ∀(H2:Hp)(l:Addr)(ms:List Int),Grew P H1 H2→H1 l=none→H2 l=none→ms.Perm ns→(ms.Pairwise fun a b=>key a<key b∨(key a=key b∧a<b))→Q (.ref l) (upd H2 l (.lst (ms.map V.int)))
theorem kjK:bootBuiltins "sorted"=some (.builtin "sorted"):=by decide +kernel
theorem Grew.seq{K:Uv}{P:Addr}{H H':Hp}{a:Addr}{xs:List V}(g:Grew P H H')(ha:a≠P)(h:SqL K H a xs):SqL K H' a xs:=by
 rcases h with(h|⟨o,h⟩)|h
 ·exact .inl (.inl (g.kp _ _ ha h))
 ·exact .inl (.inr ⟨o,g.kp _ _ ha h⟩)
 ·exact .inr h
theorem khd{l:Expr}{tl te:TE}{c0 P:Addr}{params:Arguments}{body:Expr}{lpos p pos kpos:Pos}(hl:PE X l tl)(S:kc8 X scope x N cap)(hc:X.calm=true)(hdp:X.A.depth<recursionLimit)(hcode:X.env.code=.ref c0)(CK:CodeK X.K c0 P)(hB:BltM X.mg X.base)
  (hg:Gl X "sorted") (hm:X.mg "sorted"=none) (hbind:∀(cl:List (Str×Addr))(pm:Value)(c:Addr)(ctv u:Value),bindArgs (PySem.W.kla_fn "<lambda>" (lamN lpos) params body scope cl pm (.ref c) ctv) ⟨[u],[]⟩=pure [(x,u)])
  (he:∀A f c s H,PE (cxL X A scope N (lamN lpos) f c s H) body te) (hq:X.env.qual++ "<lambda>"=(lamN lpos)) (hdef:defaultsOf params X.env=([],[]):=by rfl) (s1:starEach [l] X.env=[(false,eval l X.env)]:=by rfl):
  PE X (.Call (.Name "sorted" p) [l] [⟨some "key", .Lambda params body scope lpos,kpos⟩] pos) (ki5 X.K P tl cap te):=by
 intro pins s σ H Q I h
 refine wpAny_Call_Name_kw (kcq I hg hm kjK ?_ (by decide) (by decide))
 refine callWith_kw ?_ (by rw[s1];rfl) (by rw[s1];rfl)
 rw[s1]
 refine Calls.spliced_cons (thn (hl pins s σ H _ I h) fun u s3 ⟨v,H1,I1,r1,a,ns,key,ev,hS,h64,hup,TB,haP,hte,q⟩=>Calls.spliced_nil ?_)
 subst ev
 cases r1
 show wpAny _ _ (evalAll ((do let v ←eval (.Lambda params body scope lpos) X.env;standAt pos;pure v):: [])) _ _ s3
 refine wpAny_evalAll_cons (wpAny_bind (kjp S I1 hcode CK hB TB hq hdef fun s4 H4 lf c pm ctv I4 G ef ff hsf hfr ec=>wpAny_bind (wpAny_standAt (wpAny_pure (wpAny_evalAll_nil ?_)))))
 show wpAny _ _ (call (.builtin "sorted") [.ref a] [(Str.ofString "key", .ref lf)]) _ _ s4
 obtain⟨its,rv,pl,hz⟩:=I4.list (G.seq haP hS)
 have hi:=kgZ rv
 have lu:=hi.length
 have lf4:lf<s4.heap.objs.size:=Heap.lt_size ef
 have rising:∀(i j:Nat)(y z:Value),i<j→its[i]?=some y→its[j]?=some z→numOf y<numOf z:=fun i j y z hij ey ez=>by
  have e1:ns[i]?=some (numOf y):=by rw[←hi.nums,UD,ey];rfl
  have e2:ns[j]?=some (numOf z):=by rw[←hi.nums,UD,ez];rfl
  obtain⟨l1,q1⟩:=UG.mp e1
  obtain⟨l2,q2⟩:=UG.mp e2
  have:=JI.mp hup i j l1 l2 hij
  rw[q1,q2] at this
  exact this
 refine Stb.sortedK (kz:=ns.map key) (J:=Held X pins σ H4 s4.heap.objs.size lf _) (kkP I4 lf4) ⟨I4,Ux _,ef⟩ pl.isList (by rw[Uu,lu]) (by omega) rising (fun i v k ev ek s5 hJ=>?_) fun s5 D keys out cc hD hJ eD hk hkl hR=>?_
 ·have en:ns[i]?=some (numOf v):=by rw[←hi.nums,UD,ev];rfl
  have ek':k=key (numOf v):=by
   rw[UD,en] at ek
   exact(Option.some.inj ek).symm
  subst ek'
  obtain⟨n,t,rfl⟩:=hi.all v (UE ev)
  have hcr:s5.heap.CodeRec (.ref c) (lamN lpos):=(show ObjOk X.prog X.w H4 s5.heap c (CodeO c (lamN lpos)) from hJ.1.hok c _ ec).1
  refine wpAny_mono (kjq (A:=X.A.in1.in1) (v:=.int n) (u:=.int n t) S hJ.1 I.ok.frames (I.ok.hd hc) hdp hJ.2.2 hcr (hbind _ _ _ _ _) ⟨t,rfl⟩ (he _ _ _ _ _) (hte H4 G n (UE en))) (fun w' s6 hw=>?_) fun _ _ z=>z
  obtain⟨v',H6,I6,rv',⟨e1,e2⟩,un,sz6⟩:=hw
  subst e1 e2
  have nst:∀b,s3.heap.objs.size≤b→b∉frs X.stack:=fun b hb z=>absurd (khD I1 z) (Nat.not_lt.mpr hb)
  have s34:s3.heap.objs.size≤s4.heap.objs.size:=UI (Jv hsf lf4)
  have kp:∀b o,s3.heap.objs.size≤b→H6 b=none→s5.heap.get? b=some o→s6.heap.get? b=some o:=fun b o hb hn e=>un.keep b o e hn (nst b hb) (by simp)
  refine⟨rv',⟨I6,?_,kp lf _ hsf ff hJ.2.2⟩,fun b o hb e=>kp b o (UA s34 hb) (I4.hok.fresh hb) e⟩
  exact UA hJ.2.1 sz6
 ·obtain⟨ms,m1,m2,m3⟩:=ki9 hi hk (by omega) hR
  have hn:H4 D=none:=I4.hok.fresh hD
  have fp:=I4.fpOk hD hn
  have h10:H1 D=none:=I1.hok.fresh (UA (UI (Jv hsf lf4)) hD)
  have vm:=kgs m1
  have lz:(ms.map V.int).length≤sizeLine:=by
   rw[Uu,m2.length_eq,sizeLine_eq]
   omega
  refine⟨.ref D,_,hJ.1.adopt (a:=D) (o:=.lst (ms.map V.int)) fp ?_ ?_,rfl,q H4 D ms G h10 hn m2 m3⟩
  ·exact UA I4.sz hD
  ·exact(show ObjOk X.prog X.w _ s5.heap D (.lst (ms.map V.int)) from⟨lz,out.toList,cc,vm,by simpa using eD⟩)
end
end L2
namespace L2
open PySem PySem.W PyProof.Rows
section
variable {X:Cx}
noncomputable def kk4:V→List V→Hp→VK→Prop:=fun x vs H Q=>∃(l:Addr)(ns:List Int)(k:Int),x=.ref l∧vs=[.int k]∧H l=some (.lst (ns.map V.int))∧Q (.int (ns.count k:Nat)) H
theorem kd9:∀{ns:List Int}{us:List Value}(k:Int),Vals (ns.map V.int) us→us.countP (isI k)=ns.count k
 |[],_,_, .nil=>rfl
 |m::ns,_::us,k, .cons r t=>by
  obtain⟨tk,rfl⟩:=r
  rw[List.countP_cons,N7,kd9 k t]
  rfl
theorem kgT:MtM X "list.count" kk4:=by
 intro pins s σ H x vs v us Q I rx rv h
 obtain⟨l,ns,k,rfl,rfl,hH,q⟩:=h
 cases rx
 obtain⟨u,rfl,ru⟩:=rv.one
 obtain⟨t,rfl⟩:=ru
 obtain⟨z,its,n,r,hl,e⟩:=I.lstM hH
 refine call_meets F.slot_list_count ⟨_,e,rfl⟩ F.entry_list_count (F.args_list_count_2 _ _)
  (MeetsSeq.list_count l its.toArray n (.int k t) (isI k) (fun y hy=>?_)) ⟨e,?_⟩
 ·obtain⟨j,hj',rfl⟩:=Array.mem_iff_getElem.mp hy
  have hjl:j<its.length:=by simpa using hj'
  have hln:its.length=ns.length:=by rw[←hl,Uu]
  obtain⟨tk,et⟩:=kfE r j ns[j] (by simp)
  obtain⟨_,e'⟩:=UG.mp et
  have e2:its.toArray[j]=.int ns[j] tk:=by simpa using e'
  rw[e2]
  exact MeetsSeq.EqGives.int _ k tk t
 ·refine⟨.int (ns.count k:Nat),H,I.tok _,⟨s.toks,?_⟩,q⟩
  rw[List.toList_toArray,kd9 k r]
end
end L2
namespace L2
open PySem PySem.W PyProof.Rows
section
variable {X:Cx} {pins:List (Addr×Obj)} {σ:St} {H:Hp} {s:Shared} {A:Around} {E:Value→Shared→Prop} {Q:Value→Shared→Prop}
theorem kkM{x:V}{u t:Value}{tp:Addr}{cs:List Value}{b:Bool}(I:Inv X pins σ H s)(rx:RelV x u)(ty:TyOf X.K H x t)(ht:IsTup s.heap tp cs.toArray)(e:PySem.W.kitAny X.K t cs=some b)
  (h:∀tk,Q (.bool b) {s with toks:=tk}) (hx:∀a,x=.ref a→(∃xs,H a=some (.lst xs))∨∃xs,H a=some (.tup xs)):wpAny (model X.prog X.w) A (call (.builtin "isinstance") [u, .ref tp]) Q E s:=by
 obtain⟨⟨oc,od,dt,sl⟩,ho,hc,n,hd⟩:=ht
 have hc':oc=.type "tuple":=hc
 have hd':dt=.seq cs.toArray n:=hd
 subst hc' hd'
 cases ty with
 |non=>
  cases(show u=Value.none from rx)
  exact kia_tup kitx_none I.kIn True.intro ho e (by intro z;cases z) h
 |bl y=>
  cases(show u=Value.bool y from rx)
  exact kia_tup kitx_bool I.kIn True.intro ho e (by intro z;cases z) h
 |int i=>
  obtain⟨t,q⟩:=(show ∃t,u=Value.int i t from rx)
  cases q
  exact kia_tup kitx_int I.kIn True.intro ho e (by intro z;cases z) h
 |str y=>
  obtain⟨t,q⟩:=(show ∃t,u=Value.str y t from rx)
  cases q
  exact kia_tup kitx_str I.kIn True.intro ho e (by intro z;cases z) h
 |flt y=>
  obtain⟨t,q⟩:=(show ∃t,u=Value.float y t from rx)
  cases q
  exact kia_tup kitx_float I.kIn True.intro ho e (by intro z;cases z) h
 | @lst a xs ea=>
  cases(show u=Value.ref a from rx)
  have ok:ObjOk X.prog X.w H s.heap a (.lst xs):=I.hok a _ ea
  obtain⟨_,_,m,_,h1⟩:=ok
  exact kia_tup kitx_list I.kIn ⟨_,h1,rfl⟩ ho e (by intro z;cases z) h
 | @tup a xs ea=>
  cases(show u=Value.ref a from rx)
  have ok:ObjOk X.prog X.w H s.heap a (.tup xs):=I.hok a _ ea
  obtain⟨_,_,_,o,h1,h2,_⟩:=ok
  exact kia_tup kitx_tuple I.kIn ⟨o,h1,h2⟩ ho e (by intro z;cases z) h
 | @frz a o xs ea=>rcases hx a rfl with⟨ys,z⟩|⟨ys,z⟩ <;> rw[ea] at z <;> cases z
 | @dK a o ea=>rcases hx a rfl with⟨ys,z⟩|⟨ys,z⟩ <;> rw[ea] at z <;> cases z
 | @dT a o ea=>rcases hx a rfl with⟨ys,z⟩|⟨ys,z⟩ <;> rw[ea] at z <;> cases z
 | @ins a C dx fs ea=>rcases hx a rfl with⟨ys,z⟩|⟨ys,z⟩ <;> rw[ea] at z <;> cases z
theorem kbN{K:Uv}{n m:String}(e:(Value.type n==Value.type m)=false)(hk:kitMeta m=true)(hf:(fastBuiltinMro n).map (·.contains (Value.type m))=some false):kitOne K (.type n) (.type m)=some false:=by
 unfold kitOne kitCls subIn
 rw[e,if_neg UB]
 show(if kitMeta m=true then _ else _)=_
 rw[if_pos hk]
 exact hf
theorem kg7{K:Uv}{t c c':Value}(h1:kitOne K t c=some false)(h2:kitOne K t c'=some false):kitAny K t [c,c']=some false:=by simp only[kitAny,h1,h2]
theorem any_t{K:Uv}{t c c':Value}(h1:kitOne K t c=some true):kitAny K t [c,c']=some true:=by simp only[kitAny,h1]
theorem klp{K:Uv}{t c c':Value}(h1:kitOne K t c=some false)(h2:kitOne K t c'=some true):kitAny K t [c,c']=some true:=by simp only[kitAny,h1,h2]
noncomputable def isSeq:Value→Bool
 | .type n=>n== "list" ||n== "tuple"
 |_=>false
noncomputable def kjZ(K:Uv):List V→Hp→VK→Prop:=fun xs H Q=>∃(x:V)(tp:Addr)(t:Value),xs=[x, .ref tp]∧SqT K H tp [.ty "list", .ty "tuple"]∧TyOf K H x t∧(t=.type "NoneType"∨t=.type "bool"∨t=.type "int"∨t=.type "str"∨t=.type "list"∨t=.type "tuple")∧
  (∀a,x=.ref a→(∃xs,H a=some (.lst xs))∨∃xs,H a=some (.tup xs))∧Q (.bl (isSeq t)) H
theorem khr:CallR X (.builtin "isinstance") (kjZ X.K):=by
 intro pins s σ H xs us Q I r h
 obtain⟨x,tp,t,rfl,ht,ty,hor,hx,q⟩:=h
 obtain⟨u,w',rfl,r1,r2⟩:=vals2 r
 cases(show w'=Value.ref tp from r2)
 obtain⟨its,rv,pl,hz⟩:=I.tuple ht
 obtain⟨u1,u2,rfl,ra,rb⟩:=vals2 rv
 cases(show u1=Value.type "list" from ra)
 cases(show u2=Value.type "tuple" from rb)
 refine kkM I r1 ty pl (b:=isSeq t) ?_ (fun tk=>⟨.bl _,H,I.tok tk,rfl,q⟩) hx
 rcases hor with rfl|rfl|rfl|rfl|rfl|rfl
 ·exact kg7 (kbN (by decide +kernel) (by decide +kernel) (by decide +kernel)) (kbN (by decide +kernel) (by decide +kernel) (by decide +kernel))
 ·exact kg7 (kbN (by decide +kernel) (by decide +kernel) (by decide +kernel)) (kbN (by decide +kernel) (by decide +kernel) (by decide +kernel))
 ·exact kg7 (kbN (by decide +kernel) (by decide +kernel) (by decide +kernel)) (kbN (by decide +kernel) (by decide +kernel) (by decide +kernel))
 ·exact kg7 (kbN (by decide +kernel) (by decide +kernel) (by decide +kernel)) (kbN (by decide +kernel) (by decide +kernel) (by decide +kernel))
 ·exact any_t (kaU _ _)
 ·exact klp (kbN (by decide +kernel) (by decide +kernel) (by decide +kernel)) (kaU _ _)
end
end L2
namespace L2
open PySem PySem.W PyProof.Rows
section
variable {X:Cx}
end
end L2
namespace L2
open PySem PySem.Spec PyProof.Rows
section
variable {prog:Program} {w:World} {A:Around} {E:Value→Shared→Prop} {s:Shared}
theorem nextT{q t:Addr}{k:Nat}{vs:Array Value}{v:Value}{Q:Value→Shared→Prop}(J:IsTupIter s.heap q t k)(T:IsTup s.heap t vs)(e:vs[k]?=some v)
  (K:∀g,IsTupIter g q t (k+1)→Heap.SameBut q s.heap g→Q v {s with heap:=g}):wpAny (model prog w) A (Builtin.SmallTypes.nextOf (.ref q)) Q E s:=by
 obtain⟨c,hc,c1,c2⟩:=id J
 obtain⟨u,hu,_,nu,du⟩:=T
 unfold Builtin.SmallTypes.nextOf
 refine wpAny_bind (wpAny_callSpecial?_slot (name:=Str.ofString "__next__") J.typeIs slot_tupleiter_next (wpAny_call_entry slot_tupleiter_next J.typeIs entry_tupleiter_next ?_ (args_tupleiter_next _)))
 show wpAny _ _ (field (.ref q) 0 >>= _) _ _ s
 refine wpAny_bind (wpAny_field hc c2 (x:=.ref t) rfl ?_)
 show wpAny _ _ (if(Value.ref t==Value.none)=true then _ else _) _ _ s
 rw[if_neg (show ¬(Value.ref t==Value.none)=true from UB)]
 show wpAny _ _ (field (.ref q) 1 >>= _) _ _ s
 refine wpAny_bind (wpAny_field hc c2 (x:=.int k 0) rfl (?_:wpAny _ _ (seqItems? (.ref t) >>= _) _ _ s))
 refine wpAny_bind (wpAny_seqItems hu du ?_)
 simp only[Int.toNat_natCast,e]
 refine wpAny_bind (wpAny_setField hc c2 (by simp) (wpAny_pure ⟨v,rfl,wpAny_pure (K _ ⟨_,Heap.get?_update_self _ hc (Obj.isFreed_of_fields (Obj.data_mapFields c2 _)),(Obj.cls_mapFields ..).trans c1,?_⟩ (Heap.SameBut.update ..))⟩))
 rw[Obj.data_mapFields c2]
 simp[rawInt]
theorem kfz{q t:Addr}{k:Nat}{vs:Array Value}{Q:Value→Shared→Prop}(n:A.handled=none)(J:IsTupIter s.heap q t k)(T:IsTup s.heap t vs)(e:vs[k]?=none)
  (K:∀g x,Heap.ExtBut q s.heap g→(∃o,g.get? x=some o∧o.cls=.type "StopIteration")→E (.ref x) {s with heap:=g}):wpAny (model prog w) A (Builtin.SmallTypes.nextOf (.ref q)) Q E s:=by
 obtain⟨c,hc,c1,c2⟩:=id J
 obtain⟨u,hu,_,nu,du⟩:=T
 unfold Builtin.SmallTypes.nextOf
 refine wpAny_bind (wpAny_callSpecial?_slot (name:=Str.ofString "__next__") J.typeIs slot_tupleiter_next (wpAny_call_entry slot_tupleiter_next J.typeIs entry_tupleiter_next ?_ (args_tupleiter_next _)))
 show wpAny _ _ (field (.ref q) 0 >>= _) _ _ s
 refine wpAny_bind (wpAny_field hc c2 (x:=.ref t) rfl ?_)
 show wpAny _ _ (if(Value.ref t==Value.none)=true then _ else _) _ _ s
 rw[if_neg (show ¬(Value.ref t==Value.none)=true from UB)]
 show wpAny _ _ (field (.ref q) 1 >>= _) _ _ s
 refine wpAny_bind (wpAny_field hc c2 (x:=.int k 0) rfl (?_:wpAny _ _ (seqItems? (.ref t) >>= _) _ _ s))
 refine wpAny_bind (wpAny_seqItems hu du ?_)
 simp only[Int.toNat_natCast,e]
 refine wpAny_bind (wpAny_rule (wpAny_bind (wpAny_setField hc c2 (by simp) (?_:wpAny _ _ (newExc (.type "StopIteration") [] >>= _) _ _ _))))
 refine wpAny_bind ?_
 simp only[newExc,newTuple]
 refine wpAny_bind (wpAny_newObj_type (wpAny_bind (m:=firstArgMember _ _) (wpAny_of_eq (a:=Value.none) (by first|rfl|(simp only[firstArgMember];rfl)) (wpAny_newObj_type ?_ (by size_fits)))) (by size_fits))
 simp only[raiseNew]
 refine wpAny_bind (wpAny_handled ?_)
 first|rw[n]|rw[show A.in1.handled=none from n]
 exact wpAny_bind (wpAny_pure (wpAny_throw (K _ _ (((Heap.SameBut.update ..).extBut.push _).push _) ⟨_,Heap.get?_push_size _ rfl,rfl⟩)))
theorem zipT{Z P O a b t u:Addr}{j k:Nat}{vs ws:Array Value}{x y c e:Value}{Q:Value→Shared→Prop}(D:ZipApart Z P O a b t u)(Hz:IsZip s.heap Z P O .none)(Hi:IsPair s.heap P (.ref a) (.ref b))(Ho:IsPair s.heap O c e)
  (J:IsTupIter s.heap a t j) (L:IsTupIter s.heap b u k) (T:IsTup s.heap t vs) (U:IsTup s.heap u ws) (hx:vs[j]?=some x) (hy:ws[k]?=some y)
  (K:∀g,IsZip g Z P O (rawInt s.heap.objs.size)→IsPair g O x y→IsTupIter g a t (j+1)→IsTupIter g b u (k+1)→IsPair g s.heap.objs.size x y→
   (∀n o,n≠Z→n≠O→n≠a→n≠b→s.heap.get? n=some o→g.get? n=some o)→Q (.ref s.heap.objs.size) {s with heap:=g}):
  wpAny (model prog w) A (Builtin.«zip.__next__» ⟨[.ref Z],[]⟩) (fun f s'=>∃v,f=.done (.ret v)∧Q v s') E s:=by
 show wpAny _ _ (field (.ref Z) 2 >>= _) _ _ _
 refine wpAny_bind (wpAny_field Hz rfl (x:=.bool false) rfl (?_:wpAny _ _ (field (.ref Z) 3 >>= _) _ _ _))
 refine wpAny_bind (wpAny_field Hz rfl (x:=.ref P) rfl (wpAny_bind (wpAny_seqItems Hi rfl ?_)))
 show wpAny _ _ (Builtin.SmallTypes.ownedTupleIsFree (.ref Z) >>= _) _ _ _
 refine wpAny_bind ?_
 unfold Builtin.SmallTypes.ownedTupleIsFree
 refine wpAny_bind (wpAny_field Hz rfl (x:=.none) rfl (wpAny_pure ?_))
 simp only[if_true]
 refine wpAny_bind (wpAny_rule (wpAny_bind (wpAny_field Hz rfl (x:=.ref O) rfl (wpAny_bind (wpAny_setField_rec Hz (by simp) fun g1 (Z1:IsZip g1 Z P O .ellipsis) r1=>?_)))))
 refine wpAny_bind ?_
 simp only[Nb,List.zipIdx_nil,N4,N3]
 refine wpAny_bind (wpAny_bind (wpAny_onRaise (?_:wpAny _ _ (Builtin.SmallTypes.nextOf (.ref a) >>= _) _ _ _)))
 refine wpAny_bind (nextT (J.extBut r1.extBut D.i1z) (T.extBut r1.extBut D.l1z) hx fun g2 J2 r2=>wpAny_pure ?_)
 have O2:IsPair g2 O c e:=r2.extBut _ _ D.TOi1 (r1.extBut _ _ D.TOz Ho)
 refine wpAny_bind (wpAny_seqItems O2 rfl (wpAny_bind (wpAny_updateSeq_pair O2 fun g3 (O3:IsPair g3 O x e) r3=>wpAny_bind (wpAny_letGo (wpAny_pure ?_)))))
 refine wpAny_bind (wpAny_bind (wpAny_onRaise (?_:wpAny _ _ (Builtin.SmallTypes.nextOf (.ref b) >>= _) _ _ _)))
 refine wpAny_bind (nextT (((L.extBut r1.extBut D.i2z).extBut r2.extBut D.i12.symm).extBut r3.extBut D.TOi2.symm) (((U.extBut r1.extBut D.l2z).extBut r2.extBut D.l2i1).extBut r3.extBut D.l2TO) hy fun g4 L4 r4=>wpAny_pure ?_)
 have O4:IsPair g4 O x e:=r4.extBut _ _ D.TOi2 O3
 refine wpAny_bind (wpAny_seqItems O4 rfl (wpAny_bind (wpAny_updateSeq_pair O4 fun g5 (O5:IsPair g5 O x y) r5=>wpAny_bind (wpAny_letGo (wpAny_pure (wpAny_pure ?_))))))
 refine wpAny_bind (wpAny_seqItems O5 rfl (wpAny_bind (wpAny_newTuple ?_)))
 have sz:g5.objs.size=s.heap.objs.size:=by rw[r5.1,r4.1,r3.1,r2.1,r1.1]
 have Z5:IsZip g5 Z P O .ellipsis:=r5.extBut _ _ D.TOz.symm (r4.extBut _ _ D.i2z.symm (r3.extBut _ _ D.TOz.symm (r2.extBut _ _ D.i1z.symm Z1)))
 have k5:∀n o,n≠Z→n≠O→n≠a→n≠b→s.heap.get? n=some o→g5.get? n=some o:=fun n o m1 m2 m3 m4 m5=>r5.extBut _ _ m2 (r4.extBut _ _ m4 (r3.extBut _ _ m2 (r2.extBut _ _ m3 (r1.extBut _ _ m1 m5))))
 have J5:IsTupIter g5 a t (j+1):=((J2.extBut r3.extBut D.TOi1.symm).extBut r4.extBut D.i12).extBut r5.extBut D.TOi1.symm
 have L5:IsTupIter g5 b u (k+1):=L4.extBut r5.extBut D.TOi2.symm
 have zl:Z<g5.objs.size:=Heap.lt_size Z5
 show wpAny _ _ (Builtin.SmallTypes.ownedTupleHandOut (.ref Z) (.ref g5.objs.size) >>= _) _ _ _
 refine wpAny_bind ?_
 unfold Builtin.SmallTypes.ownedTupleHandOut
 have Z6:IsZip (g5.push {cls:=.type "tuple",data:=.seq #[x,y]}) Z P O .ellipsis:=Heap.get?_push_of_some _ Z5
 refine wpAny_bind (wpAny_setField_rec Z6 (by simp) fun g7 (Z7:IsZip g7 Z P O (rawInt g5.objs.size)) r7=>?_)
 refine wpAny_setField_rec Z7 (by simp) fun g8 (Z8:IsZip g8 Z P O (rawInt g5.objs.size)) r8=>?_
 have up:∀n o,n≠Z→g5.get? n=some o→g8.get? n=some o:=fun n o m1 m2=>r8.extBut _ _ m1 (r7.extBut _ _ m1 (Heap.get?_push_of_some _ m2))
 have T8:IsPair g8 g5.objs.size x y:=r8.extBut _ _ (Je zl) (r7.extBut _ _ (Je zl) (Heap.get?_push_size _ rfl))
 rw[sz] at Z8 T8
 refine wpAny_pure ⟨_,rfl,(?_:Q (.ref g5.objs.size) _)⟩
 rw[sz]
 obtain⟨q1,w1,v1⟩:=J5
 obtain⟨q2,w2,v2⟩:=L5
 exact K g8 Z8 (up _ _ D.TOz O5) ⟨q1,up _ _ D.i1z w1,v1⟩ ⟨q2,up _ _ D.i2z w2,v2⟩ T8 fun n o m1 m2 m3 m4 m5=>up n o m1 (k5 n o m1 m2 m3 m4 m5)
theorem ki3{Z P O a b t u:Addr}{j k:Nat}{vs ws:Array Value}{c e:Value}{Q:Fin→Shared→Prop}(n0:A.handled=none)(D:ZipApart Z P O a b t u)(Hz:IsZip s.heap Z P O .none)(Hi:IsPair s.heap P (.ref a) (.ref b))(Ho:IsPair s.heap O c e)
  (J:IsTupIter s.heap a t j) (L:IsTupIter s.heap b u k) (T:IsTup s.heap t vs) (U:IsTup s.heap u ws) (hxy:vs[j]?=none∨ws[k]?=none)
  (K:∀g x,(∀n o,n≠Z→n≠O→n≠a→n≠b→s.heap.get? n=some o→g.get? n=some o)→(∃o,g.get? x=some o∧o.cls=.type "StopIteration")→E (.ref x) {s with heap:=g}):
  wpAny (model prog w) A (Builtin.«zip.__next__» ⟨[.ref Z],[]⟩) Q E s:=by
 show wpAny _ _ (field (.ref Z) 2 >>= _) _ _ _
 refine wpAny_bind (wpAny_field Hz rfl (x:=.bool false) rfl (?_:wpAny _ _ (field (.ref Z) 3 >>= _) _ _ _))
 refine wpAny_bind (wpAny_field Hz rfl (x:=.ref P) rfl (wpAny_bind (wpAny_seqItems Hi rfl ?_)))
 show wpAny _ _ (Builtin.SmallTypes.ownedTupleIsFree (.ref Z) >>= _) _ _ _
 refine wpAny_bind ?_
 unfold Builtin.SmallTypes.ownedTupleIsFree
 refine wpAny_bind (wpAny_field Hz rfl (x:=.none) rfl (wpAny_pure ?_))
 simp only[if_true]
 refine wpAny_bind (wpAny_rule (wpAny_bind (wpAny_field Hz rfl (x:=.ref O) rfl (wpAny_bind (wpAny_setField_rec Hz (by simp) fun g1 (Z1:IsZip g1 Z P O .ellipsis) r1=>?_)))))
 refine wpAny_bind ?_
 simp only[Nb,List.zipIdx_nil,N4,N3]
 refine wpAny_bind (wpAny_bind (wpAny_onRaise (?_:wpAny _ _ (Builtin.SmallTypes.nextOf (.ref a) >>= _) _ _ _)))
 have noZ:∀{g:Heap}{x:Addr}{o:Obj},IsZip g Z P O .ellipsis→g.get? x=some o→o.cls=.type "StopIteration"→x≠Z:=fun hz ho hc z=>by
  subst z
  rw[hz] at ho
  cases ho
  simp at hc
 cases hx:vs[j]? with
 |none=>
  refine wpAny_bind (kfz n0 (J.extBut r1.extBut D.i1z) (T.extBut r1.extBut D.l1z) hx fun g2 x r2 ⟨o,ho,hc⟩=>?_)
  have Z2:IsZip g2 Z P O .ellipsis:=r2 _ _ D.i1z.symm Z1
  exact wpAny_setField_rec Z2 (by simp) fun g3 _ r3=>K g3 x (fun n o m1 _ m3 _ m5=>r3.extBut _ _ m1 (r2 _ _ m3 (r1.extBut _ _ m1 m5))) ⟨o,r3.extBut _ _ (noZ Z2 ho hc) ho,hc⟩
 |some x=>
  have hy:ws[k]?=none:=hxy.resolve_left (by rw[hx];simp)
  refine wpAny_bind (nextT (J.extBut r1.extBut D.i1z) (T.extBut r1.extBut D.l1z) hx fun g2 J2 r2=>wpAny_pure ?_)
  have O2:IsPair g2 O c e:=r2.extBut _ _ D.TOi1 (r1.extBut _ _ D.TOz Ho)
  refine wpAny_bind (wpAny_seqItems O2 rfl (wpAny_bind (wpAny_updateSeq_pair O2 fun g3 O3 r3=>wpAny_bind (wpAny_letGo (wpAny_pure ?_)))))
  refine wpAny_bind (wpAny_bind (wpAny_onRaise (?_:wpAny _ _ (Builtin.SmallTypes.nextOf (.ref b) >>= _) _ _ _)))
  refine wpAny_bind (kfz n0 (((L.extBut r1.extBut D.i2z).extBut r2.extBut D.i12.symm).extBut r3.extBut D.TOi2.symm) (((U.extBut r1.extBut D.l2z).extBut r2.extBut D.l2i1).extBut r3.extBut D.l2TO) hy fun g4 x' r4 ⟨o,ho,hc⟩=>?_)
  have Z4:IsZip g4 Z P O .ellipsis:=r4 _ _ D.i2z.symm (r3.extBut _ _ D.TOz.symm (r2.extBut _ _ D.i1z.symm Z1))
  exact wpAny_setField_rec Z4 (by simp) fun g5 _ r5=>K g5 x' (fun n o m1 m2 m3 m4 m5=>r5.extBut _ _ m1 (r4 _ _ m4 (r3.extBut _ _ m2 (r2.extBut _ _ m3 (r1.extBut _ _ m1 m5))))) ⟨o,r5.extBut _ _ (noZ Z4 ho hc) ho,hc⟩
theorem kf3{Z P O a b t u:Addr}{j k:Nat}{vs ws:Array Value}{x y c e:Value}{Q:Option Value→Shared→Prop}(D:ZipApart Z P O a b t u)(Hz:IsZip s.heap Z P O .none)(Hi:IsPair s.heap P (.ref a) (.ref b))(Ho:IsPair s.heap O c e)
  (J:IsTupIter s.heap a t j) (L:IsTupIter s.heap b u k) (T:IsTup s.heap t vs) (U:IsTup s.heap u ws) (hx:vs[j]?=some x) (hy:ws[k]?=some y)
  (K:∀g,IsZip g Z P O (rawInt s.heap.objs.size)→IsPair g O x y→IsTupIter g a t (j+1)→IsTupIter g b u (k+1)→IsPair g s.heap.objs.size x y→
   (∀n o,n≠Z→n≠O→n≠a→n≠b→s.heap.get? n=some o→g.get? n=some o)→Q (some (.ref s.heap.objs.size)) {s with heap:=g}):wpAny (model prog w) A (pyNext (.ref Z)) Q E s:=by
 have ty:s.TypeIs (.ref Z) "zip":=⟨_,Hz,rfl⟩
 unfold pyNext
 exact wpAny_bind (wpAny_attempt (wpAny_callSpecial?_slot (name:=Str.ofString "__next__") ty F.slot_zip_next (wpAny_call_entry F.slot_zip_next ty F.entry_zip_next (zipT D Hz Hi Ho J L T U hx hy fun g q1 q2 q3 q4 q5 q6=>wpAny_pure (K g q1 q2 q3 q4 q5 q6)) (F.args_zip_next_1 _))))
theorem kdP{Z P O a b t u:Addr}{j k:Nat}{vs ws:Array Value}{c e:Value}{Q:Option Value→Shared→Prop}(n0:A.handled=none)(D:ZipApart Z P O a b t u)(Hz:IsZip s.heap Z P O .none)(Hi:IsPair s.heap P (.ref a) (.ref b))(Ho:IsPair s.heap O c e)
  (J:IsTupIter s.heap a t j) (L:IsTupIter s.heap b u k) (T:IsTup s.heap t vs) (U:IsTup s.heap u ws) (hxy:vs[j]?=none∨ws[k]?=none)
  (K:∀g,(∀n o,n≠Z→n≠O→n≠a→n≠b→s.heap.get? n=some o→g.get? n=some o)→Q none {s with heap:=g}):wpAny (model prog w) A (pyNext (.ref Z)) Q E s:=by
 have ty:s.TypeIs (.ref Z) "zip":=⟨_,Hz,rfl⟩
 unfold pyNext
 refine wpAny_bind (wpAny_attempt (wpAny_callSpecial?_slot (name:=Str.ofString "__next__") ty F.slot_zip_next (wpAny_call_entry F.slot_zip_next ty F.entry_zip_next (ki3 n0 D Hz Hi Ho J L T U hxy fun g x hk ⟨o,ho,hc⟩=>?_) (F.args_zip_next_1 _))))
 exact wpAny_bind (wpAny_isInstance (T:="StopIteration") (b:=true) ⟨o,ho,hc⟩ isSubtype_stop (wpAny_pure (K _ hk)))
end
end L2
namespace L2
open PySem PySem.Spec PyProof.Rows
noncomputable abbrev zT1(h:Heap)(t:Addr):Heap:=h.push {cls:=.type "tuple_iterator",data:=.fields #[.ref t, .int 0 0]}
noncomputable abbrev zT3(h:Heap)(t u:Addr):Heap:=(zT1 (zT1 h t) u).push {cls:=.type "tuple",data:=.seq #[.ref h.objs.size, .ref (zT1 h t).objs.size]}
noncomputable abbrev zT4(h:Heap)(t u:Addr):Heap:=(zT3 h t u).push {cls:=.type "tuple",data:=.seq #[.none, .none]}
noncomputable abbrev zT5(h:Heap)(t u:Addr):Heap:=(zT4 h t u).push {cls:=.type "zip",data:=.fields #[.none, .bool false, .bool false, .ref (zT1 (zT1 h t) u).objs.size, .ref (zT3 h t u).objs.size]}
def ki2(t u:Addr)(vs ws:Array Value):Meets (Builtin.«zip.__new__» ⟨[.type "zip", .ref t, .ref u],[]⟩) (fun _ R s=>IsTup s.heap t vs∧IsTup s.heap u ws∧R (.ok (.ret (.ref (zT4 s.heap t u).objs.size))) {s with heap:=zT5 s.heap t u}):=
 .of_wp fun prog w A R s h=>by
  obtain⟨hp,g,d,tk,os⟩:=s
  obtain⟨T,U,h⟩:=h
  have hsub:=PySem.sub_zip
  have T':IsTup (Shared.heap ⟨hp,g,d,tk,os⟩) t vs:=T
  have U':IsTup (Shared.heap ⟨hp.push {cls:=.type "tuple_iterator",data:=.fields #[.ref t, .int 0 0]},g,d,tk,os⟩) u ws:=IsTup.push U _
  wp_walk using iter_tuple T',iter_tuple U'
  exact⟨_,rfl,h⟩
section
variable {prog:Program} {w:World} {A:Around} {E:Value→Shared→Prop} {s:Shared}
theorem kiR{t u:Addr}{vs ws:Array Value}{Q:Value→Shared→Prop}(T:IsTup s.heap t vs)(U:IsTup s.heap u ws)
  (K:∀g,IsZip g (s.heap.objs.size+4) (s.heap.objs.size+2) (s.heap.objs.size+3) .none→IsPair g (s.heap.objs.size+2) (.ref s.heap.objs.size) (.ref (s.heap.objs.size+1))→IsPair g (s.heap.objs.size+3) .none .none→IsTupIter g s.heap.objs.size t 0→IsTupIter g (s.heap.objs.size+1) u 0→
   (∀n o,s.heap.get? n=some o→g.get? n=some o)→Q (.ref (s.heap.objs.size+4)) {s with heap:=g}):wpAny (model prog w) A (call (.type "zip") [.ref t, .ref u]) Q E s:=by
 refine callType_new F.called_zip (by decide) (F.typeCall_zip_2 _ _) (F.newCall_zip_2 _ _) (fun o=>F.args_object_init_3 o _ _) F.entry_zip_new (ki2 t u vs ws) ⟨T,U,?_⟩
 have y1:(zT1 s.heap t).objs.size=s.heap.objs.size+1:=Heap.size_push ..
 have y2:(zT1 (zT1 s.heap t) u).objs.size=s.heap.objs.size+2:=by rw[Heap.size_push,y1]
 have y3:(zT3 s.heap t u).objs.size=s.heap.objs.size+3:=by rw[Heap.size_push,y2]
 have y4:(zT4 s.heap t u).objs.size=s.heap.objs.size+4:=by rw[Heap.size_push,y3]
 have w5:(zT5 s.heap t u).get? (zT4 s.heap t u).objs.size=some _:=Heap.get?_push_size _ rfl
 have w4:(zT5 s.heap t u).get? (zT3 s.heap t u).objs.size=some _:=Heap.get?_push_of_some _ (Heap.get?_push_size _ rfl)
 have up:∀{n:Addr}{o:Obj},(zT1 (zT1 s.heap t) u).get? n=some o→(zT5 s.heap t u).get? n=some o:=fun q=>Heap.get?_push_of_some _ (Heap.get?_push_of_some _ (Heap.get?_push_of_some _ q))
 have w3:(zT5 s.heap t u).get? (zT1 (zT1 s.heap t) u).objs.size=some _:=Heap.get?_push_of_some _ (Heap.get?_push_of_some _ (Heap.get?_push_size _ rfl))
 have w2:(zT5 s.heap t u).get? (zT1 s.heap t).objs.size=some _:=up (Heap.get?_push_size _ rfl)
 have w1:(zT5 s.heap t u).get? s.heap.objs.size=some _:=up (Heap.get?_push_of_some _ (Heap.get?_push_size _ rfl))
 show _∧_
 rw[y2,y3,y4] at w5
 rw[y1,y2] at w3
 rw[y3] at w4
 rw[y1] at w2
 rw[y4]
 exact⟨⟨_,w5,rfl⟩,K _ w5 w3 w4 ⟨_,w1,rfl,rfl⟩ ⟨_,w2,rfl,rfl⟩ fun n o q=>up (Heap.get?_push_of_some _ (Heap.get?_push_of_some _ q))⟩
end
section
variable {X:Cx}
noncomputable def Itzt(a b:Addr):It:=⟨fun i H=>∃xs ys x y,H a=some (.tup xs)∧H b=some (.tup ys)∧xs[i]?=some x∧ys[i]?=some y,
 fun i H v H'=>∃t x y,H t=none∧v=.ref t∧H'=upd H t (.tup [x,y])∧(∀xs,H a=some (.tup xs)→xs[i]?=some x)∧∀ys,H b=some (.tup ys)→ys[i]?=some y,
 fun i H=>∃xs ys,H a=some (.tup xs)∧H b=some (.tup ys)∧(xs.length≤i∨ys.length≤i)⟩
theorem khv{P:Program}{w:World}{K:Uv}{es:List Expr}{k:Nat}{pos:Pos}(a b z TI TO i1 i2:Addr)(nd:[z,TI,TO,i1,i2].Nodup):
  Turn P w K (.Tuple es k pos) (Itzt a b) [z,TI,TO,i1,i2] z (fun i h=>IsZip h z TI TO .none∧IsPair h TI (.ref i1) (.ref i2)∧(∃u v,IsPair h TO u v)∧IsTupIter h i1 a i∧IsTupIter h i2 b i) where
 mem:=by simp
 obj:=fun i h st b hb=>by
  obtain⟨hz,hI,⟨_,_,hO⟩,⟨o1,e1,_,d1⟩,⟨o2,e2,_,d2⟩⟩:=st
  simp only[UJ,U3,or_false] at hb
  rcases hb with rfl|rfl|rfl|rfl|rfl
  ·exact⟨_,hz,fun v q=>by cases(show Data.fields _=Data.cell v from q)⟩
  ·exact⟨_,hI,fun v q=>by cases(show Data.seq _ _=Data.cell v from q)⟩
  ·exact⟨_,hO,fun v q=>by cases(show Data.seq _ _=Data.cell v from q)⟩
  ·exact⟨o1,e1,fun v q=>by rw[d1] at q;cases q⟩
  ·exact⟨o2,e2,fun v q=>by rw[d2] at q;cases q⟩
 keep:=fun i h h' st kk=>by
  obtain⟨hz,hI,⟨u,v,hO⟩,h1,h2⟩:=st
  exact⟨kk z (by simp) _ hz,kk TI (by simp) _ hI,⟨u,v,kk TO (by simp) _ hO⟩,(let⟨o,e,q⟩:=h1;⟨o,kk i1 (by simp) o e,q⟩),(let⟨o,e,q⟩:=h2;⟨o,kk i2 (by simp) o e,q⟩)⟩
 item:=by
  intro X hP hw hK hc i pins s σ H E I hf st hg
  subst hP hw hK
  obtain⟨hz,hI,⟨u,v,hO⟩,h1,h2⟩:=st
  obtain⟨xs,ys,x,y,ha,hb,hx,hy⟩:=hg
  obtain⟨its1,r1,L1,_⟩:=I.tuple (SqT.of ha)
  obtain⟨its2,r2,L2',_⟩:=I.tuple (SqT.of hb)
  obtain⟨u1,g1,ru1⟩:=r1.get hx
  obtain⟨u2,g2,ru2⟩:=r2.get hy
  have off:∀{l:Addr}{zs:List V},H l=some (.tup zs)→l∉[z,TI,TO,i1,i2]:=fun {l zs} e m=>by
   have:=(hf l m).1
   rw[this] at e
   cases e
  have oa:=off ha
  have ob:=off hb
  have nd':=nd
  simp only[Ji,UJ,U3,or_false,not_or,J9,and_true,not_false_eq_true] at nd' oa ob
  obtain⟨⟨nzI,nzO,nz1,nz2⟩,⟨nIO,nI1,nI2⟩,⟨nO1,nO2⟩,n12⟩:=nd'
  have D:ZipApart z TI TO i1 i2 a b:=⟨Ne.symm nzI,Ne.symm nzO,Ne.symm nz1,Ne.symm nz2,nIO,nI1,nI2,nO1,nO2,n12,oa.1,oa.2.2.1,oa.2.2.2.1,oa.2.2.2.2,ob.1,ob.2.2.1,ob.2.2.2.1,ob.2.2.2.2⟩
  refine kf3 D hz hI hO h1 h2 L1 L2' (x:=u1) (y:=u2) (by simpa using g1) (by simpa using g2) fun h' a1 a2 a3 a4 a5 a7=>?_
  refine⟨.ref s.heap.objs.size,rfl,wpAny_letOwnedTupleGo_zip a1 fun h2' z2 s2=>?_⟩
  have s2':Heap.SameBut z h' h2':=s2
  have zl:z<s.heap.objs.size:=Heap.lt_size hz
  have kk:∀b o,b∉[z,TI,TO,i1,i2]→s.heap.get? b=some o→h2'.get? b=some o:=fun b o hb eo=>by
   simp only[UJ,U3,or_false,not_or] at hb
   exact(s2'.2 b hb.1).trans (a7 b o hb.1 hb.2.2.1 hb.2.2.2.1 hb.2.2.2.2 eo)
  have I1:Inv X pins σ H {s with heap:=h2',toks:=s.toks}:=I.turnedL (ch:=[z,TI,TO,i1,i2]) kk hf
  have fr:H s.heap.objs.size=none:=I.hok.fresh (Ux _)
  have ft:FpOk X pins H s.heap.objs.size:=I.fpOk (Ux _) fr
  have t2:h2'.get? s.heap.objs.size=some {cls:=.type "tuple",data:=.seq #[u1,u2]}:=(s2'.2 _ (Je zl)).trans a5
  have I2:Inv X pins σ (upd H s.heap.objs.size (.tup [x,y])) {s with heap:=h2',toks:=s.toks}:=
   I1.adopt ft I.sz ⟨by show 2≤sizeLine;decide,[u1,u2], .cons ru1 (.cons ru2 .nil),_,t2,rfl,_,rfl⟩
  have hI2:IsPair h2' TI (.ref i1) (.ref i2):=(s2'.2 _ (Ne.symm nzI)).trans (a7 TI _ (Ne.symm nzI) nIO nI1 nI2 hI)
  refine⟨.ref s.heap.objs.size,_,I2,rfl,⟨s.heap.objs.size,x,y,fr,rfl,rfl,fun ws e=>by rw[ha] at e;cases e;exact hx,fun ws e=>by rw[hb] at e;cases e;exact hy⟩,
   ⟨z2,hI2,⟨_,_,(s2'.2 _ (Ne.symm nzO)).trans a2⟩,a3.extBut s2'.extBut (Ne.symm nz1),a4.extBut s2'.extBut (Ne.symm nz2)⟩,fun b hb=>?_⟩
  have hbl:b<s.heap.objs.size:=by
   simp only[UJ,U3,or_false] at hb
   rcases hb with rfl|rfl|rfl|rfl|rfl
   ·exact zl
   ·exact Heap.lt_size hI
   ·exact Heap.lt_size hO
   ·obtain⟨o,e,_⟩:=h1;exact Heap.lt_size e
   ·obtain⟨o,e,_⟩:=h2;exact Heap.lt_size e
  rw[kaj (UU hbl)]
  exact(hf b hb).1
 done:=by
  intro X hP hw hK hc i pins s σ H E I hf st hg
  subst hP hw hK
  obtain⟨hz,hI,⟨u,v,hO⟩,h1,h2⟩:=st
  obtain⟨xs,ys,ha,hb,hx⟩:=hg
  obtain⟨its1,r1,L1,_⟩:=I.tuple (SqT.of ha)
  obtain⟨its2,r2,L2',_⟩:=I.tuple (SqT.of hb)
  have hlen1:=r1.length
  have hlen2:=r2.length
  have off:∀{l:Addr}{zs:List V},H l=some (.tup zs)→l∉[z,TI,TO,i1,i2]:=fun {l zs} e m=>by
   have:=(hf l m).1
   rw[this] at e
   cases e
  have oa:=off ha
  have ob:=off hb
  have nd':=nd
  simp only[Ji,UJ,U3,or_false,not_or,J9,and_true,not_false_eq_true] at nd' oa ob
  obtain⟨⟨nzI,nzO,nz1,nz2⟩,⟨nIO,nI1,nI2⟩,⟨nO1,nO2⟩,n12⟩:=nd'
  have D:ZipApart z TI TO i1 i2 a b:=⟨Ne.symm nzI,Ne.symm nzO,Ne.symm nz1,Ne.symm nz2,nIO,nI1,nI2,nO1,nO2,n12,oa.1,oa.2.2.1,oa.2.2.2.1,oa.2.2.2.2,ob.1,ob.2.2.1,ob.2.2.2.1,ob.2.2.2.2⟩
  refine kdP (I.ok.hd hc) D hz hI hO h1 h2 L1 L2' ?_ fun h' hk=>⟨rfl,?_⟩
  ·rcases hx with hx|hx
   ·exact .inl (by simp;omega)
   ·exact .inr (by simp;omega)
  ·refine I.turnedL (t':=s.toks) (ch:=[z,TI,TO,i1,i2]) (fun b o hb e=>?_) hf
   simp only[UJ,U3,or_false,not_or] at hb
   exact hk b o hb.1 hb.2.2.1 hb.2.2.2.1 hb.2.2.2.2 e
 self:=fun _ _ _ _ _ st h=>wpAny_pyIter_zip st.1 h
end
theorem kiM{a b:Addr}{xs ys:List V}{g:TG}{te:TE}{σ:St}{H:Hp}{R:List V→Hp→Addr→Prop}(Pv:Nat→St→List V→Hp→Prop)(h0:Pv 0 σ [] H)(hz:min xs.length ys.length≤sizeLine)(hl:∀i σ zs H,i≤min xs.length ys.length→Pv i σ zs H→H a=some (.tup xs)∧H b=some (.tup ys)∧zs.length=i)
  (hs:∀i x y t σ zs H,xs[i]?=some x→ys[i]?=some y→Pv i σ zs H→H t=none→g (.ref t) σ (upd H t (.tup [x,y])) fun σ2 H2=>te σ2 H2 fun z H3=>Pv (i+1) σ2 (zs++[z]) H3) (hd:∀σ zs H,Pv (min xs.length ys.length) σ zs H→∀D,H D=none→R zs H D):
  ∃ W:Nat→Nat→St→List V→Hp→Prop,(∃m,W 0 m σ [] H)∧∀i m σ' zs H',W i m σ' zs H'→
   ((Itzt a b).stop i H'∧∀D,H' D=none→R zs H' D)∨((Itzt a b).go i H'∧zs.length<sizeLine∧∃N:St→V→Hp→Prop,(∀σ2 y H4,N σ2 y H4→∃m',m'<m∧W (i+1) m' σ2 (zs++[y]) H4)∧
    ∀x H2,(Itzt a b).yld i H' x H2→g x σ' H2 fun σ2 H3=>te σ2 H3 (N σ2)):=by
 refine⟨fun i m σ zs H=>m=min xs.length ys.length-i∧i≤min xs.length ys.length∧Pv i σ zs H,⟨min xs.length ys.length,by simp,U2 _,h0⟩,?_⟩
 rintro i m σ zs H ⟨rfl,hi,p⟩
 obtain⟨q1,q2,el⟩:=hl i σ zs H hi p
 by_cases hlt:i<min xs.length ys.length
 ·refine .inr ⟨⟨xs,ys,xs[i]'(by omega),ys[i]'(by omega),q1,q2,by simp[show i<xs.length by omega],by simp[show i<ys.length by omega]⟩,by omega,fun σ2 y H3=>Pv (i+1) σ2 (zs++[y]) H3,fun σ' y H' p'=>⟨min xs.length ys.length-(i+1),by omega,rfl,hlt,p'⟩,fun x H' yl=>?_⟩
  obtain⟨t,x,y,hn,rfl,rfl,h1,h2⟩:=yl
  exact hs i x y t σ zs _ (h1 _ q1) (h2 _ q2) p hn
 ·have e:i=min xs.length ys.length:=by omega
  refine .inl ⟨⟨xs,ys,q1,q2,by omega⟩,?_⟩
  rw[e] at p
  exact hd σ zs H p
end L2
namespace L2
open PySem PySem.Spec PyProof.Rows
section
variable {X:Cx}
noncomputable def iZipG(ta:TA):TI:=fun σ H R=>ta σ H fun vs H1=>(∃a b xs ys,vs=[.ref a, .ref b]∧H1 a=some (.lst xs)∧H1 b=some (.lst ys)∧R (Itz a b) H1)∨(∃a b xs ys,vs=[.ref a, .ref b]∧H1 a=some (.tup xs)∧H1 b=some (.tup ys)∧R (Itzt a b) H1)
theorem kja{es:List Expr}{k:Nat}{tpos:Pos}{e1 e2:Expr}{ta:TA}{p pos:Pos}(hg:Gl X "zip")(hm:X.mg "zip"=none)(ha:PA X [e1,e2] ta)(he:starEach [e1,e2] X.env=(false,eval e1 X.env)::starEach [e2] X.env:=by rfl)
  (hpl:(backTo pos (starEach [e2] X.env)).any (·.1)=false:=by rfl):PI X (.Tuple es k tpos) (.Call (.Name "zip" p) [e1,e2] [] pos) (iZipG ta):=by
 intro pins s σ H R I h
 refine Call_ (kcq I hg hm kkj (PyProof.Rows.callWith_type1 (thn (ha pos pins s σ H _ I h) fun us s1 ⟨vs,H1,I1,r1,q1⟩=>?_) he hpl))
 rcases q1 with⟨a,b,xs,ys,rfl,qa,qb,q⟩|⟨a,b,xs,ys,rfl,qa,qb,q⟩
 ·cases r1 with
  | cons ra rr=>
   cases rr with
   |cons rb rr=>
    cases rr
    cases ra
    cases rb
    obtain⟨its1,n1,_,ho1,_⟩:=I1.lst qa
    obtain⟨its2,n2,_,ho2,_⟩:=I1.lst qb
    refine call_zip_2 (xs:=its1.toArray) (ys:=its2.toArray) ⟨_,ho1,rfl,n1,rfl⟩ ⟨_,ho2,rfl,n2,rfl⟩ fun h' b1 b2 b3 b4 b5 _ hk=>wpAny_pyIter_zip b1 ?_
    have I2:Inv X pins σ H1 {s1 with heap:=h'}:=I1.kept (t':=s1.toks) hk
    refine⟨s1.heap.objs.size+4,[s1.heap.objs.size+4,s1.heap.objs.size+2,s1.heap.objs.size+3,s1.heap.objs.size,s1.heap.objs.size+1],_,_,H1,rfl,I2,kgu a b _ _ _ _ _ (kgh _),⟨b1,b2,⟨_,_,b3⟩,b4,b5⟩,fun x hx=>?_,q⟩
    have hle:s1.heap.objs.size≤x:=kgi hx
    exact I1.fpOk hle (I1.hok.fresh hle)
 ·cases r1 with
  | cons ra rr=>
   cases rr with
   |cons rb rr=>
    cases rr
    cases ra
    cases rb
    obtain⟨its1,_,L1,_⟩:=I1.tuple (SqT.of qa)
    obtain⟨its2,_,L2',_⟩:=I1.tuple (SqT.of qb)
    refine kiR L1 L2' fun h' b1 b2 b3 b4 b5 hk=>wpAny_pyIter_zip b1 ?_
    have I2:Inv X pins σ H1 {s1 with heap:=h'}:=I1.kept (t':=s1.toks) hk
    refine⟨s1.heap.objs.size+4,[s1.heap.objs.size+4,s1.heap.objs.size+2,s1.heap.objs.size+3,s1.heap.objs.size,s1.heap.objs.size+1],_,_,H1,rfl,I2,khv a b _ _ _ _ _ (kgh _),⟨b1,b2,⟨_,_,b3⟩,b4,b5⟩,fun x hx=>?_,q⟩
    have hle:s1.heap.objs.size≤x:=kgi hx
    exact I1.fpOk hle (I1.hok.fresh hle)
end
end L2
namespace L2
open PySem PySem.Spec PyProof.Rows
section
variable {κ:Type} [DecidableEq κ]
noncomputable def valV(kvs:List (κ×V))(k: κ):Option V:=(kvs.find? fun kv=>decide (kv.1=k)).map (·.2)
noncomputable def putK(kvs:List (κ×V))(k: κ)(v:V):List (κ×V):=
 if(kvs.any fun kv=>decide (kv.1=k))=true then kvs.map (fun kv=>if kv.1=k then(kv.1,v) else kv) else kvs++[(k,v)]
noncomputable def dropK(kvs:List (κ×V))(k: κ):List (κ×V):=kvs.filter fun kv=>decide (kv.1≠k)
theorem keD{p: κ×V}{r:List (κ×V)}{k: κ}(e:p.1=k):valV (p::r) k=some p.2:=by simp[valV,Jp,e]
theorem keE{p: κ×V}{r:List (κ×V)}{k: κ}(e:¬p.1=k):valV (p::r) k=valV r k:=by simp[valV,Jp,e]
theorem kgt(k: κ):∀kvs:List (κ×V),(kvs.any fun kv=>decide (kv.1=k))=(valV kvs k).isSome
 |[]=>rfl
 |p::r=>by
  rw[Jo]
  by_cases e:p.1=k
  ·simp only[keD e,decide_eq_true e,Bool.true_or,Option.isSome_some]
  ·rw[keE e,decide_eq_false e,Bool.false_or];exact kgt k r
theorem kcL(kvs:List (κ×V))(k: κ)(v:V):(putK kvs k v).length≤kvs.length+1:=by
 unfold putK
 split
 ·rw[Uu];omega
 ·rw[UY,Jb,N8];omega
theorem RelO.isSome_eq{o:Option V}{u:Option Value}(r:RelO o u):o.isSome=u.isSome:=by
 cases o with
 |none=>cases u with
  |none=>rfl
  |some _=>exact(show False from r).elim
 |some _=>cases u with
  |none=>exact(show False from r).elim
  |some _=>rfl
theorem RelO.getD{o:Option V}{u:Option Value}{d:V}{d':Value}(r:RelO o u)(rd:RelV d d'):RelV (o.getD d) (u.getD d'):=by
 cases o with
 |none=>cases u with
  |none=>exact rd
  |some _=>exact(show False from r).elim
 |some _=>cases u with
  |none=>exact(show False from r).elim
  |some _=>exact r
theorem KV.val{kvs:List (κ×V)}{vs:List (κ×Value)}(r:KV kvs vs)(k: κ):RelO (valV kvs k) (valueAt vs k):=by
 unfold KV at r
 induction r with
 |nil=>exact True.intro
 | @cons p q ps qs h t ih=>
  obtain⟨h1,h2⟩:=h
  by_cases e:p.1=k
  ·have e':q.1=k:=h1.symm.trans e
   have b:valueAt (q::qs) k=some q.2:=by simp[valueAt,Jp,e']
   rw[keD e,b];exact h2
  ·have e':¬q.1=k:=fun z=>e (h1.trans z)
   have b:valueAt (q::qs) k=valueAt qs k:=by simp[valueAt,Jp,e']
   rw[keE e,b];exact ih
theorem KV.any{kvs:List (κ×V)}{vs:List (κ×Value)}(r:KV kvs vs)(k: κ):(kvs.any fun kv=>decide (kv.1=k))=vs.any fun kv=>decide (kv.1=k):=by
 unfold KV at r
 induction r with
 |nil=>rfl
 |cons h t ih=>rw[Jo,Jo,ih,h.1]
theorem KV.repl{kvs:List (κ×V)}{vs:List (κ×Value)}(r:KV kvs vs)(k: κ){y:V}{u:Value}(ry:RelV y u):
  KV (kvs.map fun kv=>if kv.1=k then(kv.1,y) else kv) (vs.map fun kv=>if kv.1=k then(kv.1,u) else kv):=by
 unfold KV at r⊢
 induction r with
 |nil=>exact .nil
 | @cons p q ps qs h t ih=>
  rw[UK,UK]
  refine .cons ?_ ih
  obtain⟨h1,h2⟩:=h
  by_cases e:p.1=k
  ·rw[if_pos e,if_pos (h1.symm.trans e)];exact⟨h1,ry⟩
  ·rw[if_neg e,if_neg (fun z=>e (h1.trans z))];exact⟨h1,h2⟩
theorem KV.put{kvs:List (κ×V)}{vs:List (κ×Value)}(r:KV kvs vs)(k: κ){y:V}{u:Value}(ry:RelV y u):KV (putK kvs k y) (stored vs k u):=by
 unfold putK stored
 rw[r.any k]
 by_cases e:(vs.any fun kv=>decide (kv.1=k))=true
 ·rw[if_pos e,if_pos e];exact r.repl k ry
 ·rw[if_neg e,if_neg e];exact Paired.snoc r ⟨rfl,ry⟩
theorem KV.drop{kvs:List (κ×V)}{vs:List (κ×Value)}(r:KV kvs vs)(k: κ):KV (dropK kvs k) (without vs k):=by
 unfold KV at r⊢
 unfold dropK without
 induction r with
 |nil=>exact .nil
 | @cons p q ps qs h t ih=>
  obtain⟨h1,h2⟩:=h
  rw[N9,N9]
  by_cases e:p.1=k
  ·have a:¬decide (p.1≠k)=true:=by simp[e]
   have b:¬decide (q.1≠k)=true:=by simp[h1.symm.trans e]
   rw[if_neg a,if_neg b];exact ih
  ·have e':¬q.1=k:=fun z=>e (h1.trans z)
   have a:decide (p.1≠k)=true:=by simp[e]
   have b:decide (q.1≠k)=true:=by simp[e']
   rw[if_pos a,if_pos b];exact .cons ⟨h1,h2⟩ ih
theorem KV.keys{kvs:List (κ×V)}{vs:List (κ×Value)}(r:KV kvs vs):kvs.map (·.1)=vs.map (·.1):=by
 unfold KV at r
 induction r with
 |nil=>rfl
 |cons h t ih=>rw[UK,UK,ih,h.1]
theorem KV.length{kvs:List (κ×V)}{vs:List (κ×Value)}(r:KV kvs vs):kvs.length=vs.length:=Paired.length r
end
theorem kV_is{P:Program}{w:World}{k:Key}{u:Value}(r:RelV (kV k) u):(kaY P w).is k u=true:=by
 cases k with
 |inl i=>obtain⟨t,e⟩:=(show ∃t,u=Value.int i t from r);subst e;exact kd1 P w i t
 |inr x=>obtain⟨t,e⟩:=(show ∃t,u=Value.str x t from r);subst e;exact kga P w x t
theorem kfD{P:Program}{w:World}:∀{ks:List Key}{us:List Value},Vals (ks.map kV) us→ItemsAre (kaY P w) ks us
 |[],_,r=>by rw[JX] at r;cases r;exact .nil
 |k::ks,_,r=>by
  rw[UK] at r
  cases r with
  |cons h t=>exact .cons (kV_is h) (kfD t)
noncomputable abbrev KT(H:Hp):List (List Key×V)→List (List Key×Addr×Value)→Prop:=Paired fun p q=>p.1=q.1∧H q.2.1=some (.tup (p.1.map kV))∧RelV p.2 q.2.2
theorem KT.val{H:Hp}{kvs:List (List Key×V)}{xs:List (List Key×Addr×Value)}(r:KT H kvs xs)(k:List Key):RelO (valV kvs k) ((atKey xs k).map (·.2)):=by
 induction r with
 |nil=>exact True.intro
 | @cons p q ps qs h t ih=>
  obtain⟨h1,_,h2⟩:=h
  by_cases e:p.1=k
  ·have e':q.1=k:=h1.symm.trans e
   have b:atKey (q::qs) k=some q.2:=by simp[atKey,Jp,e']
   rw[keD e,b];exact h2
  ·have e':¬q.1=k:=fun z=>e (h1.trans z)
   have b:atKey (q::qs) k=atKey qs k:=by simp[atKey,Jp,e']
   rw[keE e,b];exact ih
theorem KT.repl{H:Hp}{kvs:List (List Key×V)}{xs:List (List Key×Addr×Value)}(r:KT H kvs xs)(k:List Key){y:V}{u:Value}(ry:RelV y u):
  KT H (kvs.map fun kv=>if kv.1=k then(kv.1,y) else kv) (xs.map (putAt k u)):=by
 induction r with
 |nil=>exact .nil
 | @cons p q ps qs h t ih=>
  rw[UK,UK]
  refine .cons ?_ ih
  obtain⟨h1,h2,h3⟩:=h
  unfold putAt
  by_cases e:p.1=k
  ·rw[if_pos e,if_pos (h1.symm.trans e)];exact⟨h1,h2,ry⟩
  ·rw[if_neg e,if_neg (fun z=>e (h1.trans z))];exact⟨h1,h2,h3⟩
theorem KT.put{H:Hp}{kvs:List (List Key×V)}{xs:List (List Key×Addr×Value)}(r:KT H kvs xs)(k:List Key){b:Addr}{y:V}{u:Value}(hb:H b=some (.tup (k.map kV)))(ry:RelV y u):
  KT H (putK kvs k y) (storedH xs k b u):=by
 have e:(kvs.any fun kv=>decide (kv.1=k))=(atKey xs k).isSome:=by
  rw[kgt,(r.val k).isSome_eq,Option.isSome_map]
 unfold putK storedH
 rw[e]
 by_cases q:(atKey xs k).isSome=true
 ·rw[if_pos q,if_pos q];exact r.repl k ry
 ·rw[if_neg q,if_neg q];exact Paired.snoc r ⟨rfl,hb,ry⟩
def KT.keeps{H H':Hp}{kvs:List (List Key×V)}{xs:List (List Key×Addr×Value)}(r:KT H kvs xs)(ht:∀b ys,H b=some (.tup ys)→H' b=some (.tup ys)):KT H' kvs xs:=
 Paired.mapP r fun _ _ z=>⟨z.1,ht _ _ z.2.1,z.2.2⟩
section
variable {P:Program} {w:World} {H:Hp} {h:Heap} {a:Addr}
theorem rd_of{u:HO}(ok:HOk P w H h)(e:Rd H a u):ObjOk P w H h a u:=e.ok ok
theorem dk_rd{kvs:List (Key×V)}(ok:HOk P w H h)(e:Rd H a (.dK kvs)):kvs.length≤sizeLine∧(a==sysModules)=false∧∃vs,KV kvs vs∧h.DictOf (kaY P w) a vs:=
 show ObjOk P w H h a (.dK kvs) from rd_of ok e
theorem dk_of{kvs:List (Key×V)}(ok:HOk P w H h)(e:H a=some (.dK kvs)):kvs.length≤sizeLine∧(a==sysModules)=false∧∃vs,KV kvs vs∧h.DictOf (kaY P w) a vs:=dk_rd ok (.inl e)
theorem kip{ks:List Key}(ok:HOk P w H h)(e:H a=some (.tup (ks.map kV))):(tupleKind (kaY P w)).is h ks a:=by
 obtain⟨_,its,r,o,h1,h2,n,h3⟩:=(show ObjOk P w H h a (.tup (ks.map kV)) from ok a _ e)
 exact⟨o,its.toArray,n,h1,h2,h3,by simpa using kfD r⟩
theorem dt_rd{kvs:List (List Key×V)}(ok:HOk P w H h)(e:Rd H a (.dT kvs)):kvs.length≤sizeLine∧(a==sysModules)=false∧
  ∃xs,KT H kvs xs∧h.DictOfH (tupleKind (kaY P w)) a xs:=by
 obtain⟨z,y,xs,r,o,es,ep,h1,h2,h3,h4,h5⟩:=(show ObjOk P w H h a (.dT kvs) from rd_of ok e)
 refine⟨z,y,xs,r,o,es,ep,h1,h2,h3,h4,fun x hx=>?_,h5⟩
 have all:∀{l:List (List Key×V)}{m:List (List Key×Addr×Value)},KT H l m→∀x∈m,(tupleKind (kaY P w)).is h x.1 x.2.1:=by
  intro l m q
  induction q with
  |nil=>intro x hx;exact nomatch hx
  | @cons p q ps qs hq t ih=>
   intro x hx
   rcases UJ.mp hx with e|hx
   ·subst e
    exact kip ok (by rw[←hq.1];exact hq.2.1)
   ·exact ih x hx
 exact all r x hx
theorem dt_of{kvs:List (List Key×V)}(ok:HOk P w H h)(e:H a=some (.dT kvs)):kvs.length≤sizeLine∧(a==sysModules)=false∧
  ∃xs,KT H kvs xs∧h.DictOfH (tupleKind (kaY P w)) a xs:=dt_rd ok (.inl e)
end
noncomputable def DGet(H:Hp)(a:Addr)(y:V)(r:Option V):Prop:=
 (∃kvs k,Rd H a (.dK kvs)∧y=kV k∧r=valV kvs k)∨∃kvs k b,Rd H a (.dT kvs)∧y=.ref b∧H b=some (.tup (k.map kV))∧r=valV kvs k
noncomputable def DPut(H:Hp)(a:Addr)(y v:V)(H':Hp):Prop:=
 (∃kvs k,H a=some (.dK kvs)∧y=kV k∧kvs.length<sizeLine∧H'=upd H a (.dK (putK kvs k v)))∨
 ∃kvs k b,H a=some (.dT kvs)∧y=.ref b∧H b=some (.tup (k.map kV))∧kvs.length<sizeLine∧H'=upd H a (.dT (putK kvs k v))
theorem DGet.k{H:Hp}{a:Addr}{kvs:List (Key×V)}{k:Key}(e:H a=some (.dK kvs)):DGet H a (kV k) (valV kvs k):=.inl ⟨kvs,k, .inl e,rfl,rfl⟩
def DGet.t{H:Hp}{a b:Addr}{kvs:List (List Key×V)}{k:List Key}(e:H a=some (.dT kvs))(eb:H b=some (.tup (k.map kV))):DGet H a (.ref b) (valV kvs k):=.inr ⟨kvs,k,b, .inl e,rfl,eb,rfl⟩
theorem DPut.k{H:Hp}{a:Addr}{kvs:List (Key×V)}{k:Key}{v:V}(e:H a=some (.dK kvs))(hl:kvs.length<sizeLine):DPut H a (kV k) v (upd H a (.dK (putK kvs k v))):=.inl ⟨kvs,k,e,rfl,hl,rfl⟩
theorem DPut.t{H:Hp}{a b:Addr}{kvs:List (List Key×V)}{k:List Key}{v:V}(e:H a=some (.dT kvs))(eb:H b=some (.tup (k.map kV)))(hl:kvs.length<sizeLine):
  DPut H a (.ref b) v (upd H a (.dT (putK kvs k v))):=.inr ⟨kvs,k,b,e,rfl,eb,hl,rfl⟩
section
variable {X:Cx} {pins:List (Addr×Obj)} {σ:St} {H:Hp} {s:Shared} {a:Addr} {y v:V} {u r:Value} {o:Option V} {A:Around} {E:Value→Shared→Prop}
theorem Inv.big(I:Inv X pins σ H s):sysModules<s.heap.objs.size:=by
 have h:mainGlobals<s.heap.objs.size:=(I.mod.glob.keeps I.bk).lt
 exact Nz (by decide) h
theorem kiL{Q:Value→Shared→Prop}(hu:A.units+1<cLine)(I:Inv X pins σ H s)(g:DGet H a y (some v))(ry:RelV y u)(h:∀w' s',Inv X pins σ H s'→RelV v w'→Q w' s'):
  wpAny (model X.prog X.w) A (getItem (.ref a) u) Q E s:=by
 rcases g with⟨kvs,k,e,ey,l⟩|⟨kvs,k,b,e,ey,eb,l⟩
 ·subst ey
  obtain⟨z,hd,vs,rel,dd⟩:=dk_rd I.hok e
  obtain⟨w',hw,rw'⟩:=RelO.some_of (v:=v) (o:=valueAt vs k) (by rw[l];exact rel.val k)
  exact wpAny_getItem_of (kV_is ry) dd.mapOf hw (h w' _ (I.tok _) rw')
 ·subst ey
  cases(show u=Value.ref b from ry)
  obtain⟨z,hd,xs,rel,dd⟩:=dt_rd I.hok e
  obtain⟨w',hw,rw'⟩:=RelO.some_of (v:=v) (o:=(atKey xs k).map (·.2)) (by rw[l];exact rel.val k)
  obtain⟨p,hp,hp2⟩:=Option.map_eq_some_iff.mp hw
  refine wpAny_getItem_heap (tupleKind_room_in1 hu) (kip I.hok eb) dd hp ?_
  rw[hp2]
  exact h w' _ (I.tok _) rw'
theorem kgl{h':Heap}{t':Nat}{ob:HO}(I:Inv X pins σ H s)(mu:Mut (H a))(hs:Heap.SameBut a s.heap h')(he:∃q,h'.get? a=some q)(new:ObjOk X.prog X.w (upd H a ob) h' a ob):
  Inv X pins σ (upd H a ob) {s with heap:=h',toks:=t'}:=
 I.write (x:=a) (e:=a) mu (.inl rfl) (fun b q hb z=>(hs.2 b hb).trans z) he new
theorem kke{P:Program}{w:World}{H':Hp}{h':Heap}{kvs:List (Key×V)}{vs:List (Key×Value)}(z:kvs.length≤sizeLine)(hd:(a==sysModules)=false)(rel:KV kvs vs)(dd:h'.DictOf (kaY P w) a vs):
  ObjOk P w H' h' a (.dK kvs):=⟨z,hd,vs,rel,dd⟩
theorem kiK{H':Hp}{Q:Unit→Shared→Prop}(hu:A.units+1<cLine)(I:Inv X pins σ H s)(g:DPut H a y v H')(ry:RelV y u)(rv:RelV v r)(h:∀s',Inv X pins σ H' s'→Q () s'):
  wpAny (model X.prog X.w) A (setItem (.ref a) u r) Q E s:=by
 rcases g with⟨kvs,k,e,ey,l,eH⟩|⟨kvs,k,b,e,ey,eb,l,eH⟩
 ·subst ey eH
  obtain⟨z,hd,vs,rel,dd⟩:=dk_of I.hok e
  have hz:vs.length≤sizeLine:=by rw[←rel.length];exact z
  have hl:(putK kvs k v).length≤sizeLine:=by have:=kcL kvs k v;omega
  refine wpAny_setItem_pairs (hsz:=hz) (kV_is ry) dd fun h' dd' hs=>h _ ?_
  have he:∃q,h'.get? a=some q:=let⟨q,_,_,hq,_⟩:=dd';⟨q,hq⟩
  exact kgl I (by rw[e];exact True.intro) hs he (kke hl hd (rel.put k rv) dd')
 ·subst ey eH
  cases(show u=Value.ref b from ry)
  obtain⟨z,hd,xs,rel,dd⟩:=dt_of I.hok e
  have hz:xs.length≤sizeLine:=by rw[←Paired.length rel];exact z
  have hl:(putK kvs k v).length≤sizeLine:=by have:=kcL kvs k v;omega
  refine wpAny_setItem_heap (hsz:=hz) (tupleKind_room_in1 hu) (kip I.hok eb) dd fun h' dd' hs=>h _ ?_
  obtain⟨q,es,ep,hq,h2,h3,h4,_,h5⟩:=dd'
  refine kgl I (by rw[e];exact True.intro) hs ⟨q,hq⟩ ⟨hl,hd,_,(rel.put k eb rv).keeps fun c ys ec=>?_,q,es,ep,hq,h2,h3,h4,h5⟩
  rw[kaj (ne_of ec e (fun z=>nomatch z))]
  exact ec
end
section
variable {X:Cx} {pins:List (Addr×Obj)} {σ:St} {H:Hp} {s:Shared} {a:Addr} {kvs:List (Key×V)} {k:Key} {u:Value} {A:Around} {E:Value→Shared→Prop}
end
noncomputable def NoSl(i:Expr):Prop:=∀ov iv,subscripted i false ov iv=operate [ov,iv] (getItem ov iv)
theorem kkr{prog:Program}{w:World}{A:Around}{E:Value→Shared→Prop}{s:Shared}{env:Env}{value slice:Expr}{pos:Pos}{T id:String}{Q:Value→Shared→Prop}
  (hl:typeLookup (.type T) "__getitem__"=pure (some (.builtin id))) (hs:NoSl slice)
  (h:wpAny (model prog w) A (eval value env) (fun o s₁=>wpAny (model prog w) A (eval slice env) (fun i s₂=>s₂.TypeIs o T∧wpAny (model prog w) A (getItem o i) Q E s₂) E s₁) E s):
  wpAny (model prog w) A (eval (.Subscript value slice pos) env) Q E s:=by
 refine Subscript_ (wpAny_mono h (fun o s₁ h₁=>wpAny_mono h₁ (fun i s₂ h₂=>?_) fun _ _ x=>x) fun _ _ x=>x)
 obtain⟨hT,h₂⟩:=h₂
 unfold subscriptTail
 refine wpAny_bind ?_
 rw[getitemInPython_of_ne hT.not_modules]
 refine wpAny_bind (wpAny_specialOf hT hl ?_)
 have fin:wpAny (model prog w) A (subscripted slice false o i) (fun r s₃=>wpAny (model prog w) A (letTemporaryGo value o r >>= fun _=>pure r) Q E s₃) E s₂:=by
  rw[hs o i]
  exact wpAny_operating (wpAny_mono h₂ (fun r s₃ h₃=>wpAny_bind (wpAny_letTemporaryGo (wpAny_pure h₃))) fun _ _ x=>x)
 first
  |exact wpAny_pure (wpAny_bind fin)
  |exact wpAny_bind (wpAny_pure (wpAny_bind fin))
  |exact wpAny_bind fin
def kgk{X:Cx}{pins:List (Addr×Obj)}{σ:St}{H:Hp}{s:Shared}{a:Addr}{y:V}{o:Option V}(I:Inv X pins σ H s)(g:DGet H a y o):s.TypeIs (.ref a) "dict":=by
 rcases g with⟨kvs,k,e,_,_⟩|⟨kvs,k,b,e,_,_,_⟩
 ·obtain⟨_,_,vs,_,dd⟩:=dk_rd I.hok e
  exact dd.typeIs
 ·obtain⟨_,_,xs,_,dd⟩:=dt_rd I.hok e
  exact dd.typeIs
noncomputable def tDGet(td ty:TE):TE:=fun σ H Q=>td σ H fun x H1=>ty σ H1 fun y H2=>∃a v,x=.ref a∧DGet H2 a y (some v)∧Q v H2
noncomputable def sDPut(td ty tv:TE):TS:=fun D σ H=>tv σ H fun v H1=>td σ H1 fun x H2=>ty σ H2 fun y H3=>∃a H4,x=.ref a∧DPut H3 a y v H4∧D.nx σ H4
section
variable {X:Cx} {o i e value:Expr} {pos pos' tpos:Pos} {td ty tv:TE}
theorem kaG(hu:X.A.units+1<cLine)(ho:PE X o td)(hi:PE X i ty)(hs:NoSl i):PE X (.Subscript o i pos) (tDGet td ty):=by
 intro pins s σ H Q I h
 refine kkr PySem.F.slot_dict_getitem.lookup hs (thn (ho pins s σ H _ I h) fun u s1 ⟨x,H1,I1,rx,q1⟩=>thn (hi pins s1 σ H1 _ I1 q1) fun iv s2 ⟨y,H2,I2,ry,a,v,ex,g,q2⟩=>?_)
 subst ex
 obtain rfl:u=Value.ref a:=rx
 exact⟨kgk I2 g,kiL hu I2 g ry fun w' s3 I3 rw'=>⟨v,H2,I3,rw',q2⟩⟩
theorem kky(hu:X.A.units+1<cLine)(ho:PE X o td)(hi:PE X i ty)(hv:PE X value tv)(hs:swapsWith value (some (.Subscript o i pos')) pos.line X.env=pure false):
  PS X (.Assign [.Subscript o i pos'] value pos) (sDPut td ty tv):=by
 intro pins s σ H D I h
 refine wpAny_Assign_Subscript (thn (hv pins s σ H _ I h) fun r s1 ⟨v,H1,I1,rv,q1⟩=>thn (ho pins s1 σ H1 _ I1 q1) fun u s2 ⟨x,H2,I2,rx,q2⟩=>thn (hi pins s2 σ H2 _ I2 q2) fun iv s3 ⟨y,H3,I3,ry,a,H4,ex,g,q3⟩=>?_) hs
 subst ex
 obtain rfl:u=Value.ref a:=rx
 exact kiK hu I3 g ry rv fun s4 I4=>⟨σ,H4,I4,q3⟩
end
def kjC{P:Program}{w:World}{H:Hp}(h:Heap)(hb:sysModules<h.objs.size):ObjOk P w H (h.push {cls:=.type "dict",data:=.dict #[]}) h.objs.size (.dK []):=
 ⟨U2 _,beq_eq_false_iff_ne.mpr (Ne.symm (UU hb)),[], .nil,Heap.DictOf.new h⟩
section
variable {X:Cx} {pos:Pos}
end
noncomputable def khz:List (TE×TE)→St→Hp→(List (V×V)→Hp→Prop)→Prop
 |[],_,H,Q=>Q [] H
 |(tk,tv)::r,σ,H,Q=>tk σ H fun x H1=>tv σ H1 fun y H2=>khz r σ H2 fun ps H3=>Q ((x,y)::ps) H3
noncomputable abbrev VV:List (V×V)→List (Value×Value)→Prop:=Paired fun p q=>RelV p.1 q.1∧RelV p.2 q.2
noncomputable def PPs(X:Cx)(pos:Pos)(keys:List (Option Expr))(values:List Expr)(trs:List (TE×TE)):Prop:=
 ∀(pins:List (Addr×Obj))(s:Shared)(σ:St)(H:Hp)(Q:List (V×V)→Hp→Prop),Inv X pins σ H s→khz trs σ H Q→
  wpAny (model X.prog X.w) X.A (evalPairs (pairTrees keys values X.env pos)) (fun vs s'=>∃ps H',Inv X pins σ H' s'∧VV ps vs∧Q ps H') X.xe s
def kh3{X:Cx}{pos:Pos}:PPs X pos [] [] []:=fun pins s σ H Q I h=>pairTrees_nil_walk ⟨[],H,I, .nil,h⟩
theorem kcx{X:Cx}{pos:Pos}{k v:Expr}{ks:List (Option Expr)}{vs:List Expr}{tk tv:TE}{trs:List (TE×TE)}(hk:PE X k tk)(hv:PE X v tv)(hr:PPs X pos ks vs trs):
  PPs X pos (some k::ks) (v::vs) ((tk,tv)::trs):=fun pins s σ H Q I h=>
 pairTrees_cons_walk (thn (hk pins s σ H _ I h) fun u s1 ⟨x,H1,I1,rx,q1⟩=>thn (hv pins s1 σ H1 _ I1 q1) fun w2 s2 ⟨y,H2,I2,ry,q2⟩=>
  thn (hr pins s2 σ H2 _ I2 q2) fun ws s3 ⟨ps,H3,I3,rel,q3⟩=>⟨(x,y)::ps,H3,I3, .cons ⟨rx,ry⟩ rel,q3⟩)
noncomputable def kd2(kvs more:List (Key×V)):List (Key×V):=more.foldl (fun acc kv=>putK acc kv.1 kv.2) kvs
theorem KV.merge:∀{more:List (Key×V)}{rs:List (Key×Value)}{kvs:List (Key×V)}{vs:List (Key×Value)},KV more rs→KV kvs vs→KV (kd2 kvs more) (merged vs rs):=by
 intro more rs kvs vs r
 unfold KV at r
 induction r generalizing kvs vs with
 |nil=>intro q;exact q
 | @cons p q ps qs h t ih=>
  intro r0
  have e:KV (putK kvs p.1 p.2) (stored vs q.1 q.2):=by
   have:=r0.put p.1 h.2
   rw[←h.1];exact this
  exact ih e
theorem kc1:∀(more kvs:List (Key×V)),(kd2 kvs more).length≤kvs.length+more.length
 |[],kvs=>by show kvs.length≤kvs.length+0;omega
 |p::r,kvs=>by
  have h1:=kc1 r (putK kvs p.1 p.2)
  have h2:=kcL kvs p.1 p.2
  show(kd2 (putK kvs p.1 p.2) r).length≤_
  rw[Jb];omega
theorem kez{P:Program}{w:World}:∀{kvs:List (Key×V)}{ws:List (Value×Value)},VV (kvs.map fun kv=>(kV kv.1,kv.2)) ws→∃rs,Carries (kaY P w) ws rs∧KV kvs rs
 |[],_,r=>by rw[JX] at r;cases r;exact⟨[],True.intro, .nil⟩
 | p::kvs,_,r=>by
  rw[UK] at r
  cases r with
  | @cons a b as bs h t=>
   obtain⟨rs,c,q⟩:=kez (P:=P) (w:=w) t
   obtain⟨b1,b2⟩:=b
   exact⟨(p.1,b2)::rs,⟨kV_is h.1,rfl,c⟩, .cons ⟨rfl,h.2⟩ q⟩
noncomputable def tDisp(trs:List (TE×TE)):TE:=fun σ H Q=>∀p,H p=none→khz trs σ (upd H p (.dK [])) fun ps H2=>H2 p=some (.dK [])∧∃kvs:List (Key×V),ps=kvs.map (fun kv=>(kV kv.1,kv.2))∧kvs.length≤15∧Q (.ref p) (upd H2 p (.dK (kd2 [] kvs)))
theorem kh7{X:Cx}{pos:Pos}{keys:List (Option Expr)}{values:List Expr}{trs:List (TE×TE)}(h:PPs X pos keys values trs)(hall:keys.all (·.isSome)=true)(hl:keys.length=values.length)(h0:keys≠[])
  (h15:keys.length≤15):PE X (.Dict keys values pos) (tDisp trs):=by
 intro pins s σ H Q I q
 have hn:=I.hok.fresh (Ux s.heap.objs.size)
 have I1:=I.laid (a:=s.heap.objs.size) (o:=.dK []) (h':=s.heap.push {cls:=.type "dict",data:=.dict #[]}) (t':=s.toks) (fun _ _ q=>Heap.get?_push_of_some _ q) (Ux _) (kjC s.heap I.big)
 refine wpAny_Dict_walk (knd:=kaY X.prog X.w) hall hl h0 h15 (thn (h pins _ σ _ _ I1 (q _ hn)) fun ws s2 ⟨ps,H2,I2,rel,e,kvs,ep,lk,q2⟩=>?_)
 subst ep
 obtain⟨rs,c,rk⟩:=kez (P:=X.prog) (w:=X.w) rel
 obtain⟨z,hd,vs0,r0,dd⟩:=dk_of I2.hok e
 cases r0
 refine⟨rs,c,dd,fun h' dd' hs=>⟨.ref s.heap.objs.size,_,?_,rfl,q2⟩⟩
 have hz:(kd2 [] kvs).length≤sizeLine:=by
  have h1:=kc1 kvs []
  rw[N8] at h1
  rw[sizeLine_eq];omega
 have he:∃q,h'.get? s.heap.objs.size=some q:=let⟨q,_,_,hq,_⟩:=dd';⟨q,hq⟩
 exact kgl I2 (by rw[e];exact True.intro) hs he (kke hz hd (rk.merge .nil) dd')
end L2
namespace L2
open PySem PySem.Spec PyProof.Rows
noncomputable def nxo:HO→Bool
 | .ext _=>false
 |_=>true
noncomputable def NX(H:Hp)(p:Addr):Prop:=∀φ,H p≠some (.ext φ)
def nx{H:Hp}{p:Addr}{o:HO}(h:H p=some o)(n:nxo o=true:=by rfl):NX H p:=fun φ z=>by
 rw[h] at z
 cases z
 cases n
def nx0{H:Hp}{p:Addr}(h:H p=none):NX H p:=fun φ z=>by
 rw[h] at z
 cases z
def kcD{H:Hp}{p q:Addr}{o:HO}(h:NX H p)(n:nxo o=true:=by rfl):NX (upd H q o) p:=fun φ z=>by
 by_cases e:p=q
 ·subst e
  rw[kad] at z
  cases z
  cases n
 ·rw[kaj e] at z
  exact h φ z
noncomputable abbrev Ev(H H':Hp)(b:Addr)(o:HO):Prop:=match o with
 | .tbl _=>(∃ps,H' b=some (.tbl ps))∧(TbAt b H→TbAt b H')
 |o=>H' b=some o
def ev_eq{H H':Hp}{b:Addr}{o:HO}(e:H' b=some o)(t:TbAt b H→TbAt b H'):Ev H H' b o:=by
 cases o <;> first|exact e|exact⟨⟨_,e⟩,t⟩
def ke4{H H':Hp}{b:Addr}{o:HO}(e:Ev H H' b o):∃o',H' b=some o':=by
 cases o <;> first|exact⟨_,e⟩|exact⟨_,e.1.choose_spec⟩
theorem ka7{H H1 H2:Hp}{b:Addr}{o:HO}(e:Ev H H1 b o)(k:∀o,H1 b=some o→Ev H1 H2 b o):Ev H H2 b o:=by
 cases o with
 |tbl ps=>
  obtain⟨⟨ps1,e1⟩,t1⟩:=e
  obtain⟨e2,t2⟩:=(show Ev H1 H2 b (.tbl ps1) from k _ e1)
  exact⟨e2,fun h=>t2 (t1 h)⟩
 |_=>exact k _ e
def kdn{b p:Addr}{H:Hp}{o:HO}(h:TbAt b H)(n:b≠p)(hx:NX H p):TbAt b (upd H p o):=by
 obtain⟨ps,e,t,hor⟩:=h
 refine⟨ps,by rw[kaj n];exact e,t,fun pos d ed=>?_⟩
 obtain⟨c,rfl,z2⟩:=hor pos d ed
 have hc:c≠p:=fun e=>by
  subst e
  exact hx _ z2
 exact⟨c,rfl,by rw[kaj hc];exact z2⟩
noncomputable def Same(H H':Hp):Prop:=∀b o,H b=some o→Ev H H' b o
def Same.refl(H:Hp):Same H H:=fun _ _ h=>ev_eq h fun t=>t
def Same.trans{H H1 H2:Hp}(a:Same H H1)(b:Same H1 H2):Same H H2:=fun c o h=>ka7 (a c o h) fun o' e=>b c o' e
theorem Same.free{H H':Hp}(e:Same H H'){l:Addr}(h:H' l=Option.none):H l=Option.none:=by
 cases q:H l with
 |none=>rfl
 |some o=>
  obtain⟨o',e'⟩:=ke4 (e l o q)
  rw[e'] at h
  cases h
def Same.seq{K:Uv}{H H':Hp}{a:Addr}{xs:List V}(e:Same H H')(h:SqL K H a xs):SqL K H' a xs:=by
 rcases h with(h|⟨o,h⟩)|h
 ·exact .inl (.inl (e _ _ h))
 ·exact .inl (.inr ⟨o,e _ _ h⟩)
 ·exact .inr h
def Same.tb{H H':Hp}(s:Same H H'){b:Addr}(h:TbAt b H):TbAt b H':=by
 obtain⟨ps,e,r⟩:=id h
 exact(show Ev H H' b (.tbl ps) from s b _ e).2 h
def Grew.same{P:Addr}{H H':Hp}(g:Grew P H H')(TB:TbAt P H):Same H H':=fun b o e=>by
 obtain⟨ps,eP,ht,hor⟩:=TB
 by_cases h:b=P
 ·subst h
  rw[eP] at e
  cases e
  obtain⟨qs,e1,_⟩:=id g.tb
  exact⟨⟨qs,e1⟩,fun _=>g.tb⟩
 ·refine ev_eq (g.kp b o h e) fun t=>?_
  obtain⟨qs,e1,t1,h1⟩:=t
  refine⟨qs,g.kp b _ h e1,t1,fun pos d ed=>?_⟩
  obtain⟨c,rfl,z⟩:=h1 pos d ed
  exact⟨c,rfl,g.kp c _ (ne_of z eP (by intro z;cases z)) z⟩
end L2
namespace L2
open PySem PySem.Spec PyProof.Rows
noncomputable def kfd(K:Uv)(tP:Addr):Sp:=fun vs H Q _=>∃(a:Addr)(ns:List Int),vs=[.ref a]∧SqL K H a (ns.map V.int)∧ns.length≤63∧TbAt tP H∧∀H',Q (.bl true) H'
theorem kij{P:Program}{w:World}{K:Uv}{mg mb:Str→Option Value}{k:Nat}{fa a tP c0:Addr}{fd:FuncData}{x:Str}{s₁:Shared}{vs:List Value}{ns:List Int}
  (KX:K.In s₁.heap) (hns:s₁.heap.Ns mainGlobals mg) (hb:s₁.heap.Ns builtinsNs mb) (hbb:∀x:Str,x≠"__name__"→mb x=bootBuiltins x) (hlim:s₁.heap.NoLimit) (hg:s₁.gens= #[])
  (ha:s₁.heap.get? a=some {cls:=.type "list",data:=.seq vs.toArray}) (hi:IntsAre vs ns) (hl:ns.length≤63) (hr:Room k callerA) (hT:s₁.heap.get? tP=some (NC #[])) (CK:CodeK K c0 tP) (kT:K.lookup tP=none) (hBM:BltM mg s₁.heap)
  (F:∀base:Heap,K.In base→base.Ns mainGlobals mg→BltM mg base→FnOk P w K mg base CX0 k fa fd [x] (kfd K tP)) (hbind:∀(s:Shared)(u:Value),BindsTo s fd ⟨[u],[]⟩ [(x,u)]):
  codeAny (model P w) callerA (.call (.ref fa) ⟨[.ref a],[]⟩) (fun r s'=>r=.ok (.ret (.bool true))∧OldK s₁.heap s'.heap∧s'.os=s₁.os∧AllBare s'.gens) s₁:=by
 have rv:=kfa hi
 have lenV:=hi.length
 have hlz:ns.length≤sizeLine:=UA hl (by decide)
 have nTa:tP≠a:=fun e=>by
  rw[e,ha] at hT
  have:=Option.some.inj hT
  injection this with z
  cases z
 have core:∀H:Hp,SqL K H a (ns.map V.int)→HOk P w H s₁.heap→H tP=some (.tbl #[])→(∀b,b≠tP→H b=none∨(b=a∧∃o xs,H b=some (.frz o (.lst xs))))→(H a≠none→K.lookup a=none)→
   codeAny (model P w) callerA (.call (.ref fa) ⟨[.ref a],[]⟩) (fun r s'=>r=.ok (.ret (.bool true))∧OldK s₁.heap s'.heap∧s'.os=s₁.os∧AllBare s'.gens) s₁:=by
  intro H hS hok eT hO hK
  have base_of:∀{b:Addr}{o:Obj},s₁.heap.get? b=some o→H b=none→(hidT s₁.heap H).get? b=some o:=fun e n=>kju e n
  have noT:∀{b:Addr}{o:Obj},s₁.heap.get? b=some o→o.cls≠.none→(∀us n,o.data≠.seq us n)→H b=none:=fun {b o} e hc hd=>by
   by_cases hbT:b=tP
   ·rw[hbT,hT] at e
    cases e
    exact absurd rfl hc
   ·rcases hO b hbT with z|⟨z,_⟩
    ·exact z
    ·rw[z,ha] at e
     cases e
     exact absurd rfl (hd _ _)
  have noA:∀{b:Addr}{o:Obj}{es:Array DictEntry}{ep:Nat},s₁.heap.get? b=some o→o.data=.dict es ep→H b=none:=fun {b o es ep} e d=>by
   by_cases hbT:b=tP
   ·rw[hbT,hT] at e
    cases e
    cases d
   ·rcases hO b hbT with z|⟨z,_⟩
    ·exact z
    ·rw[z,ha] at e
     cases e
     cases d
  have nsK:∀{b:Addr}{m:Str→Option Value},s₁.heap.Ns b m→(hidT s₁.heap H).Ns b m:=fun {b m} ⟨o,es,ep,e,d,r⟩=>⟨o,es,ep,base_of e (noA e d),d,r⟩
  have hKb:K.In (hidT s₁.heap H):=fun b o e=>base_of (KX b o e) (by
   by_cases hbT:b=tP
   ·rw[hbT,kT] at e
    cases e
   ·rcases hO b hbT with z|⟨z,o',xs,z2⟩
    ·exact z
    ·subst z
     rw[hK (by rw[z2];simp)] at e
     cases e)
  have hM:Mod K mg (hidT s₁.heap H):=⟨hKb,nsK hns,⟨mb,nsK hb,hbb⟩,let⟨mc,h1,h2⟩:=hlim;⟨mc,nsK h1,h2⟩⟩
  have hBb:BltM mg (hidT s₁.heap H):=by
   obtain⟨bm,ob,b1,b2,b3,b4,b5,b6⟩:=hBM
   exact⟨bm,ob,b1,b2,base_of b3 (noT b3 (by rw[b4];intro z;cases z) (fun us n z=>by rw[b6] at z;cases z)),b4,b5,b6⟩
  have e0:Env0 P w K mg (hidT s₁.heap H) callerA [] s₁ H:=⟨rfl,hM,fun b o e=>kkF e,Nl (kiw _ _),trivial,fun b hb=>absurd (show b∈([]:List Addr) from hb) (by simp),hok, .of_eq hg⟩
  have hsp:kfd K tP [.ref a] H (fun v _=>v=.bl true) fun _ _ _=>False:=⟨a,ns,rfl,hS,hl,⟨#[],eT,by trivial,fun pos c e=>by cases e⟩,fun _=>rfl⟩
  refine codeAny_mono ((F _ hKb (nsK hns) hBb).run callerA [] s₁ H ⟨[.ref a],[]⟩ [.ref a] [.ref a] _ _ hr e0 (hbind s₁ (.ref a)) (.cons rfl .nil) hsp) fun r s' h=>?_
  cases r with
  |error e=>exact(show False from h).elim
  | ok fl=>
   cases fl with
   |next=>exact False.elim h
   |brk=>exact False.elim h
   |cont=>exact False.elim h
   | ret u=>
    obtain⟨v,H',os,bare,un,hok',r',q⟩:=h
    have q':v=.bl true:=q
    subst q'
    obtain rfl:u=Value.bool true:=r'
    have kp:∀b o,b≠tP→s₁.heap.get? b=some o→s'.heap.get? b=some o:=fun b o hbT e=>by
     rcases hO b hbT with z|⟨z,o',xs,z2⟩
     ·exact un.keep b o e z (fun z=>absurd (show b∈([]:List Addr) from z) (by simp)) (by simp)
     ·have z3:=un.frzs b o' _ z2
      obtain⟨e1,_⟩:=hok b _ z2
      obtain⟨e2,_⟩:=hok' b _ z3
      rw[e] at e1
      cases e1
      exact e2
    obtain⟨more,eM⟩:=un.tbls tP #[] eT
    have tM:s'.heap.get? tP=some (NC (#[]++more)):=(show ObjOk P w H' s'.heap tP (.tbl (#[]++more)) from hok' tP _ eM)
    refine⟨rfl,⟨fun b o e=>?_,fun b o e=>?_⟩,os,bare⟩
    ·by_cases hbT:b=tP
     ·subst hbT
      rw[hT] at e
      cases e
      obtain⟨oc,us,_,_,_,_,_,_,_,c1,c2,c3,c4,_⟩:=CK
      exact .inr (.inl ⟨⟨c0,oc,us,KX _ _ c1,c2,c3,c4⟩,rfl,#[],more,rfl,tM⟩)
     ·exact .inl (kp b o hbT e)
    ·by_cases hbT:b=tP
     ·subst hbT
      exact⟨_,tM⟩
     ·exact⟨o,kp b o hbT e⟩
 cases hk:K.lookup a with
 | some o=>
  have e:=KX a o hk
  rw[ha] at e
  cases e
  refine core (fun b=>if b=tP then some (.tbl #[]) else none) (.inr ⟨_,vs.toArray,_,hk,rfl,rfl,rfl,by rw[UQ,lenV];exact hlz,by simpa using rv⟩) (fun b u z=>?_) (if_pos rfl) (fun b hbT=>.inl (if_neg hbT)) fun z=>absurd (if_neg nTa.symm) z
  by_cases hbT:b=tP
  ·have z':=(if_pos hbT).symm.trans z
   cases z'
   subst hbT
   exact(show s₁.heap.get? b=some _ from hT)
  ·have z':=(if_neg hbT).symm.trans z
   cases z'
 | none=>
  refine core (fun b=>if b=tP then some (.tbl #[]) else if b=a then some (.frz {cls:=.type "list",data:=.seq vs.toArray} (.lst (ns.map V.int))) else none) (.inl (.inr ⟨{cls:=.type "list",data:=.seq vs.toArray},by show(if a=tP then _ else _)=_;rw[if_neg nTa.symm,if_pos rfl]⟩)) (fun b u z=>?_) (if_pos rfl) (fun b hbT=>?_) fun _=>hk
  ·by_cases hbT:b=tP
   ·have z':=(if_pos hbT).symm.trans z
    cases z'
    subst hbT
    exact(show s₁.heap.get? b=some _ from hT)
   ·have z1:=(if_neg hbT).symm.trans z
    by_cases hb2:b=a
    ·have z':=(if_pos hb2).symm.trans z1
     cases z'
     subst hb2
     exact⟨ha,by rw[Uu];exact hlz,vs,_,rv,ha⟩
    ·have z':=(if_neg hb2).symm.trans z1
     cases z'
  ·by_cases hb2:b=a
   ·exact .inr ⟨hb2,_,_,by show(if b=tP then _ else _)=_;rw[if_neg hbT,if_pos hb2]⟩
   ·exact .inl (by show(if b=tP then _ else _)=_;rw[if_neg hbT,if_neg hb2])
theorem walkT_of{l:PySem.W.OpenLaw}{k:Nat}{q:Program}{loose:List Str}{XP:(Str→Option Value)→Heap→Prop}{YP:World→Heap→Prop}{d:DefRec}{K:Params→Uv}{ts:List Addr}{x:Str}
  (hn:l.most=some 63) (hdf:d.params.defaults=[]) (hr:Room k callerA) (hY:∀(w:World)(h:Heap),YP w h→(K w.params).In h) (hTs:∀(w:World)(h:Heap),YP w h→∀P∈ts,h.get? P=some (NC #[]))
  (F:∀(w:World)(mg:Str→Option Value)(fa:Addr)(h:Heap),(K w.params).In h→h.Ns mainGlobals mg→mg d.name=some (.ref fa)→
   ∃(fd:FuncData)(tP c0:Addr),tP∈ts∧CodeK (K w.params) c0 tP∧(K w.params).lookup tP=none∧(∀(s:Shared)(u:Value),BindsTo s fd ⟨[u],[]⟩ [(x,u)])∧
    ∀base:Heap,(K w.params).In base→base.Ns mainGlobals mg→BltM mg base→FnOk l.prog w (K w.params) mg base CX0 k fa fd [x] (kfd (K w.params) tP)):
  PySem.W.WalkO q loose XP YP l.row.toRowW d [] (fun f vs=>PySem.call f vs):=by
 refine Att.attach_call hn hdf fun w s₀ s₁ mg mb fa o pm cd doc a vs ns G Y ho hd hcd hmg hobj hints hlen hg=>?_
 have KX:=hY w _ Y
 obtain⟨fd,tP,c0,hm,CK,kT,hb,hF⟩:=F w mg fa _ KX G.T.g hmg
 obtain⟨bm,ob,b1,b2,b3,b4,b5,b6⟩:=G.T.bmain
 exact kij KX G.T.g G.T.b G.T.builtins G.T.nolimit hg hobj hints hlen hr (hTs w _ Y tP hm) CK kT ⟨bm,ob,b1,b2,b3,b4,b5,b6⟩ hF hb
end L2
namespace L2
open PySem PySem.Spec PyProof.Rows
def nd1(x:Str):([x]:List Str).Nodup:=by simp
noncomputable def But(x:Addr)(H H':Hp):Prop:=∀b o,b≠x→H b=some o→Ev H H' b o
def But.trans{x:Addr}{H H1 H2:Hp}(a:But x H H1)(b:But x H1 H2):But x H H2:=fun c o n h=>ka7 (a c o n h) fun o' e=>b c o' n e
def But.same{x:Addr}{H H1 H2:Hp}(a:But x H H1)(b:Same H1 H2):But x H H2:=fun c o n h=>ka7 (a c o n h) fun o' e=>b c o' e
def But.of_same{x:Addr}{H H1:Hp}(b:Same H H1):But x H H1:=fun c o _ h=>b c o h
def But.refl{x:Addr}{H:Hp}:But x H H:=fun b o _ h=>Same.refl H b o h
def kax{x:Addr}{H:Hp}{o:HO}(hx:NX H x:=by first|exact nx kad|exact nx (by assumption)|exact nx0 (by assumption)|exact kcD (nx kad) rfl|exact kcD (nx (by assumption)) rfl):But x H (upd H x o):=fun b u n e=>ev_eq (by rw[kaj n];exact e) fun t=>kdn t n hx
def kak{H:Hp}{p:Addr}{o:HO}(hp:H p=none):Same H (upd H p o):=fun b u e=>ev_eq (by rw[kaj (kai e hp)];exact e) fun t=>kdn t (kai e hp) (nx0 hp)
def kaq{H H':Hp}{p:Addr}{o:HO}(hp:H p=none)(s:Same H H')(hx:NX H' p:=by first|exact nx (by assumption)|exact nx kad|exact kcD (nx (by assumption)) rfl|exact kcD (nx kad) rfl|exact kcD (nx0 (by assumption)) rfl|exact kcD (kcD (nx (by assumption)) rfl) rfl):Same H (upd H' p o):=fun b u e=>
 ka7 (s b u e) fun u' e'=>ev_eq (by rw[kaj (kai e hp)];exact e') fun t=>kdn t (kai e hp) hx
def kbf{H:Hp}{x dx C:Addr}(hx:H x=none)(nd:H dx=none):Same H (upd (upd H dx (.own x)) x (.ins C dx [])):=fun b u e=>by
 have n1:=kai e hx
 have n2:=kai e nd
 exact ev_eq (by rw[kaj n1,kaj n2];exact e) fun t=>kdn (kdn t n2 (nx0 nd)) n1 (kcD (nx0 hx) rfl)
def kbt{H H':Hp}{x dx C:Addr}(hx:H x=none)(nd:H dx=none)(k:But x (upd (upd H dx (.own x)) x (.ins C dx [])) H'):Same H H':=fun b o e=>ka7 (kbf (C:=C) hx nd b o e) fun o' e'=>k b o' (kai e hx) e'
def kc0{H:Hp}{x dx C y:Addr}(h:(upd (upd H dx (.own x)) x (.ins C dx [])) y=none):H y=none:=by
 by_cases e1:y=x
 ·subst e1
  rw[kad] at h
  cases h
 ·rw[kaj e1] at h
  by_cases e2:y=dx
  ·subst e2
   rw[kad] at h
   cases h
  ·rw[kaj e2] at h
   exact h
def kfB{H:Hp}{x dx C y:Addr}{o:HO}(nx:H x=none)(nd:H dx=none)(h:H y=some o):(upd (upd H dx (.own x)) x (.ins C dx [])) y=some o:=by
 rw[kaj (kai h nx),kaj (kai h nd)]
 exact h
theorem kal{f:Str}{v:V}:∀{fs:List (Str×V)}{n:Nat},fs.length≤n→(putF f v fs).length≤n+1
 |[],n,_=>by
  show 1≤n+1
  omega
 | (g,x)::r,n,h=>by
  show(if g=f then(g,v)::r else(g,x)::putF f v r).length≤n+1
  have h':r.length+1≤n:=h
  split
  ·show r.length+1≤n+1
   omega
  ·show(putF f v r).length+1≤n+1
   have:=kal (f:=f) (v:=v) (fs:=r) (n:=n-1) (by omega)
   omega
def few{fs:List (Str×V)}(h:fs.length≤20):fs.length<1000:=by omega
theorem kbZ{ns:List Addr}{i:Nat}{x:V}(h:(ns.map V.ref)[i]?=some x):∃z,ns[i]?=some z∧x=V.ref z:=by
 rw[UD] at h
 cases e:ns[i]? with
 |none=>rw[e] at h;cases h
 |some z=>rw[e] at h;exact⟨z,rfl,(Option.some.inj h).symm⟩
theorem kbl{α:Type}{g: α→V}{ns:List α}{i:Nat}{x:V}(h:(ns.map g)[i]?=some x):∃z,ns[i]?=some z∧x=g z:=by
 rw[UD] at h
 cases e:ns[i]? with
 |none=>rw[e] at h;cases h
 |some z=>rw[e] at h;exact⟨z,rfl,(Option.some.inj h).symm⟩
def at_lt{α:Type}{xs:List α}{i:Nat}{x: α}(h:xs[i]?=some x):i<xs.length:=(UG.mp h).1
def at_of{α:Type}{xs:List α}{i:Nat}(h:i<xs.length):∃x,xs[i]?=some x:=⟨xs[i],by simp[h]⟩
def kbR{α:Type}{rs:List α}{i:Nat}{r: α}(h:rs[i]?=some r):rs.take (i+1)=rs.take i++[r]:=by
 rw[JA,h]
 rfl
inductive P2 {α β:Type} (R: α→β→Prop):List α→List β→Prop
 |nil:P2 R [] []
 |cons {a: α} {b: β} {as:List α} {bs:List β} (h:R a b) (t:P2 R as bs):P2 R (a::as) (b::bs)
section
variable {α β:Type} {R R': α→β→Prop} {as as':List α} {bs bs':List β}
theorem P2.of(hl:as.length=bs.length)(h:∀(i:Nat)(a: α)(b: β),as[i]?=some a→bs[i]?=some b→R a b):P2 R as bs:=by
 induction as generalizing bs with
 |nil=>
  cases bs with
  |nil=>exact .nil
  |cons b bs=>cases hl
 |cons a as ih=>
  cases bs with
  |nil=>cases hl
  |cons b bs=>exact .cons (h 0 a b rfl rfl) (ih (by simpa using hl) fun i x y e1 e2=>h (i+1) x y (by simpa using e1) (by simpa using e2))
theorem P2.len(h:P2 R as bs):as.length=bs.length:=by
 induction h with
 |nil=>rfl
 |cons r t ih=>simp[ih]
theorem P2.get(h:P2 R as bs){i:Nat}{a: α}{b: β}(e1:as[i]?=some a)(e2:bs[i]?=some b):R a b:=by
 induction h generalizing i with
 |nil=>simp at e1
 | cons r t ih=>
  cases i with
  |zero=>
   simp at e1 e2
   subst e1 e2
   exact r
  |succ i=>exact ih (by simpa using e1) (by simpa using e2)
theorem P2.at(h:P2 R as bs){i:Nat}{a: α}(e1:as[i]?=some a):∃b,bs[i]?=some b∧R a b:=by
 obtain⟨b,e2⟩:=at_of (xs:=bs) (i:=i) (by rw[←h.len];exact at_lt e1)
 exact⟨b,e2,h.get e1 e2⟩
theorem P2.mono(h:P2 R as bs)(k:∀a b,R a b→R' a b):P2 R' as bs:=by
 induction h with
 |nil=>exact .nil
 |cons r t ih=>exact .cons (k _ _ r) ih
theorem P2.append(h:P2 R as bs)(h':P2 R as' bs'):P2 R (as++as') (bs++bs'):=by
 induction h with
 |nil=>exact h'
 |cons r t ih=>exact .cons r ih
theorem P2.snoc(h:P2 R as bs){a: α}{b: β}(r:R a b):P2 R (as++[a]) (bs++[b]):=h.append (.cons r .nil)
theorem P2.take(h:P2 R as bs)(k:Nat):P2 R (as.take k) (bs.take k):=by
 induction h generalizing k with
 |nil=>simpa using P2.nil
 |cons r t ih=>
  cases k with
  |zero=>exact .nil
  |succ k=>exact .cons r (ih k)
theorem P2.drop(h:P2 R as bs)(k:Nat):P2 R (as.drop k) (bs.drop k):=by
 induction h generalizing k with
 |nil=>simpa using P2.nil
 |cons r t ih=>
  cases k with
  |zero=>exact .cons r t
  |succ k=>exact ih k
theorem P2.reverse(h:P2 R as bs):P2 R as.reverse bs.reverse:=by
 induction h with
 |nil=>exact .nil
 |cons r t ih=>
  rw[Nr,Nr]
  exact ih.append (.cons r .nil)
end
theorem rep1(n:Nat)(v:V):(Uw n [v]).flatten=Uw n v:=by
 induction n with
 |zero=>rfl
 |succ n ih=>rw[JF,U1,ih,JF];rfl
def kf2(n:Nat)(z:Int):Uw n (V.int z)=(Uw n z).map V.int:=by simp
def kfy(k:Int):(!decide (V.int k=V.non))=true:=by simp
def ker:(!decide (V.non=V.non))=false:=by simp
noncomputable def oV:Option Int→V
 |none=>.non
 |some z=>.int z
structure TxtB (mg:Str→Option Value):Prop where
 range:mg "range"=none
 len:mg "len"=none
 min:mg "min"=none
 max:mg "max"=none
 isi:mg "isinstance"=none
 bool:mg "bool"=none
 int:mg "int"=none
 list:mg "list"=none
 sum:mg "sum"=none
 enum:mg "enumerate"=none
 any:mg "any"=none
 all:mg "all"=none
 rev:mg "reversed"=none
 zip:mg "zip"=none
 abs:mg "abs"=none
 sorted:mg "sorted"=none
 tuple:mg "tuple"=none
 str:mg "str"=none
structure FunD (K:Uv) (x qual:Str) (st:Stmt) (f:Addr) (fd:FuncData):Prop where
 ex:∃(oc:Value)(od:Option Addr)(dV kV doc pm:Value)(an:Option Addr)(cdv ct:Value)(osl:Array (Option Value)),
  fd=UM x qual (kaD st) (kaA st) (kah st) dV kV doc pm an cdv ct∧K.lookup f=some ⟨oc,od, .func fd,osl⟩∧U8 K cdv qual=true
 kp:UO K (.ref f)=true
theorem FunD.ok{P:Program}{w:World}{K:Uv}{mg:Str→Option Value}{base:Heap}{x qual:Str}{st:Stmt}{f:Addr}{fd:FuncData}{N ps:List Str}{k:Nat}{sp:Sp}(F:FunD K x qual st f fd)(S:kao N ps (kah st))(len:∀vs H Q E,sp vs H Q E→vs.length=ps.length)
  (hbody:∀(cdv:Value)(A:Around)(outer:List Env)(s:Shared)(H:Hp)(vs:List V)(Q:VK)(E:XK),Room k (A.deeper (PyProof.Rows.envOfC qual (kah st) s.heap.objs.size f cdv))→sp vs H Q E→
   ∃t,PSs (cxOf CX0 P w K mg base N qual (kah st) f cdv A outer s H E).nox (kaA st) t∧t {nx:=fun _ H'=>Q .non H',rt:=Q} (start N vs) H):FnOk P w K mg base CX0 (k+1) f fd ps sp:=by
 obtain⟨oc,od,dV,kV,doc,pm,an,cdv,ct,osl,rfl,lk,hcd⟩:=F.ex
 refine fn_of lk hcd S len fun A outer s H vs Q E hr hsp=>?_
 obtain⟨t,h,q⟩:=hbody cdv A outer s H vs Q E hr hsp
 exact⟨t,h.nox,q⟩
theorem FunD.okC{P:Program}{w:World}{K:Uv}{mg:Str→Option Value}{base:Heap}{x qual:Str}{st:Stmt}{f:Addr}{fd:FuncData}{N ps:List Str}{k:Nat}{sp:Sp}(F:FunD K x qual st f fd)(S:kao N ps (kah st))(len:∀vs H Q E,sp vs H Q E→vs.length=ps.length)
  (hbody:∀(A:Around)(outer:List Env)(s:Shared)(H:Hp)(vs:List V)(Q:VK)(E:XK),Room k (A.deeper (PyProof.Rows.envOfC qual (kah st) s.heap.objs.size f fd.code))→sp vs H Q E→
   ∃t,PSs (cxOf CX0 P w K mg base N qual (kah st) f fd.code A outer s H E).nox (kaA st) t∧t {nx:=fun _ H'=>Q .non H',rt:=Q} (start N vs) H):FnOk P w K mg base CX0 (k+1) f fd ps sp:=by
 obtain⟨oc,od,dV,kV,doc,pm,an,cdv,ct,osl,rfl,lk,hcd⟩:=F.ex
 refine fn_of lk hcd S len fun A outer s H vs Q E hr hsp=>?_
 obtain⟨t,h,q⟩:=hbody A outer s H vs Q E hr hsp
 exact⟨t,h.nox,q⟩
theorem kbB{K:Uv}{x qual:Str}{st:Stmt}{f:Addr}{oc:Value}{od an:Option Addr}{osl:Array (Option Value)}{dV kV doc pm cdv ct:Value}(l:K.lookup f=some ⟨oc,od, .func (UM x qual (kaD st) (kaA st) (kah st) dV kV doc pm an cdv ct),osl⟩)
  (c:U8 K cdv qual=true) (k:UO K (.ref f)=true):FunD K x qual st f (UM x qual (kaD st) (kaA st) (kah st) dV kV doc pm an cdv ct):=⟨⟨oc,od,dV,kV,doc,pm,an,cdv,ct,osl,rfl,l,c⟩,k⟩
structure Dn (K:Uv) (mg:Str→Option Value) (x:Str) (st:Stmt) (ps:List Str) (f:Addr) (fd:FuncData):Prop where
 F:FunD K x x st f fd
 b:Binds K fd ps []
 m:mg x=some (.ref f)
structure Isi (K:Uv) (C:Addr):Prop where
 ha:Uy K (.ref C) "__class__"=some (some (.builtin "object.__class__"))
 hn:J6 K (.builtin "object.__class__") "__get__"=some (some (.builtin "getset_descriptor.__get__"))
 ht:NT K (.builtin "object.__class__")=some true
 hm:UC K C (.type "object")=some true
def kaN{K:Uv}{A B:Addr}{b:Bool}(mA:UC K A (.ref B)=some b)(ob:UC K B (.type "object")=some true)(ty:U7 K (.ref B)=some (.type "type"))(ne:A≠B):UL K (.ref A) (.ref B)=some b:=by
 have e:(Value.ref A==Value.ref B)=false:=beq_eq_false_iff_ne.mpr fun z=>ne (by injection z)
 obtain⟨cd,a,_⟩:=Option.bind_eq_some_iff.mp ob
 unfold UL PySem.W.kitCls PySem.W.subIn
 rw[e,if_neg UB]
 show(if((PySem.W.clsIn K B).isSome&&U7 K (.ref B)==some (.type "type"))=true then UC K A (.ref B) else none)=some b
 rw[a,ty,mA,if_pos (by simp)]
def kbg{K:Uv}{A B:Addr}(h:UC K A (.ref B)=some false)(hA:UC K A (.ref A)=some true):A≠B:=fun e=>by
 rw[←e,hA] at h
 cases h
structure ClsT (K:Uv) (mg:Str→Option Value) (nm:Str) (C:Addr):Prop where
 cl:Cls K C
 m:mg nm=some (.ref C)
 isi:Isi K C
 self:UC K C (.ref C)=some true
 ty:U7 K (.ref C)=some (.type "type")
 makes:Jc K C=true
 kp:UO K (.ref C)=true
structure MthT (K:Uv) (C:Addr) (m qual:Str) (st:Stmt) (ps:List Str) (f:Addr) (fd:FuncData):Prop where
 at_:Uy K (.ref C) m=some (some (.ref f))
 fn:Jh K (.ref f)=true
 F:FunD K m qual st f fd
 b:Binds K fd ps []
def MthT.me{K:Uv}{C:Addr}{m qual:Str}{st:Stmt}{ps:List Str}{f:Addr}{fd:FuncData}(h:MthT K C m qual st ps f fd):Meth K C m f:=⟨h.at_,h.fn,h.F.kp⟩
def MthT.mk'{K:Uv}{mg:Str→Option Value}{C:Addr}{nm qual:Str}{st:Stmt}{ps:List Str}{f:Addr}{fd:FuncData}(h:MthT K C "__init__" qual st ps f fd)(c:ClsT K mg nm C):Mk K C f:=⟨c.makes,h.at_,h.fn,c.kp⟩
end L2
namespace L2
open PySem PySem.Spec PyProof.Rows
section
variable {X:Cx}
theorem pcl{k:Nat}{f:Addr}{fd:FuncData}{ps:List Str}{sp:Sp}{x:Str}{st:Stmt}{e:Expr}{es:List Expr}{t:TA}{p pos:Pos}(F:FnOk X.prog X.w X.K X.mg X.base CX0 k f fd ps sp)(hr:Room k X.A)(D:Dn X.K X.mg x st ps f fd)(ha:PA X (e::es) t)
  (hg:Gl X x:=by rfl) (hdb:(x==("__debug__" :Str))=false:=by decide) (he:starEach (e::es) X.env=(false,eval e X.env)::starEach es X.env:=by rfl) (hpl:(backTo pos (starEach es X.env)).any (·.1)=false:=by rfl):
  PE X (.Call (.Name x p) (e::es) [] pos) (tCall sp [] E0 t):=kh8 F hr hg D.m D.F.kp D.b .nil pass0 ha hdb he hpl
theorem psl{i:Nat}{x:Str}{e:Expr}{te:TE}{pos pos':Pos}(hN:X.N.Nodup)(he:PE X e te)(hi:X.N[i]?=some x:=by rfl)(hx:Loc X.env.scope x:=by first|exact Or.inl rfl|exact Or.inr rfl)(hs:swapsWith e (some (.Name x pos')) pos.line X.env=pure false:=by rfl)(hf:X.fn x=true∨X.env.scope.names.lookup x=some .local:=by first|exact .inl rfl|exact .inr rfl|assumption):
  PS X (.Assign [.Name x pos'] e pos) (tAsg te (gName i)):=kk5 hN hi hx he hs hf
theorem pgn{i:Nat}{x:Str}{pos:Pos}(hN:X.N.Nodup)(hi:X.N[i]?=some x:=by rfl)(hx:Loc X.env.scope x:=by first|exact Or.inl rfl|exact Or.inr rfl)(hf:X.fn x=true∨X.env.scope.names.lookup x=some .local:=by first|exact .inl rfl|exact .inr rfl|assumption):PG X (.Name x pos) (gName i):=kkB hN hi hx hf
end
end L2
namespace War
structure Row where
 kd:Int
 pr:Int
 mn:Int
 ex:Option Int
structure Row.Ok (r:Row):Prop where
 pr0:0≤r.pr
 pr1:r.pr≤1000000000000
 mn0:0≤r.mn
 mn1:r.mn≤60
 ex0:∀z,r.ex=some z→0≤z∧z≤1000000000000
noncomputable def prc(m:Bool)(r:Row):Int:=if m=true then r.ex.getD r.pr else r.pr
noncomputable def own(rs:List Row):List Int:=(rs.zipIdx.map fun p=>Uw p.1.mn.toNat (p.2:Int)).flatten
noncomputable def prs(m:Bool)(rs:List Row):List Int:=(rs.map fun r=>Uw r.mn.toNat (prc m r)).flatten
def kjf(rs:List Row)(r:Row):own (rs++[r])=own rs++Uw r.mn.toNat (rs.length:Int):=by
 unfold own
 rw[List.zipIdx_append,UH,Nc]
 simp
def kgJ(m:Bool)(rs:List Row)(r:Row):prs m (rs++[r])=prs m rs++Uw r.mn.toNat (prc m r):=by
 unfold prs
 rw[UH,Nc]
 simp
theorem kgO:∀(rs:List Row)(k:Nat),(∀r∈rs,r.Ok)→((rs.zipIdx k).map fun p=>Uw p.1.mn.toNat (p.2:Int)).flatten.length≤60*rs.length
 |[],_,_=>by simp
 |r::rs,k,h=>by
  have h1:=kgO rs (k+1) fun x hx=>h x (UV _ hx)
  have h2:=(h r UW).mn1
  rw[Nb,UK,U1,UY,Jn,Jb]
  show r.mn.toNat+_≤_
  omega
def kia(rs:List Row)(h:∀r∈rs,r.Ok):(own rs).length≤60*rs.length:=kgO rs 0 h
theorem kf4(m:Bool):∀(rs:List Row),(∀r∈rs,r.Ok)→(prs m rs).length≤60*rs.length
 |[],_=>by simp[prs]
 |r::rs,h=>by
  have h1:=kf4 m rs fun x hx=>h x (UV _ hx)
  have h2:=(h r UW).mn1
  unfold prs at h1⊢
  rw[UK,U1,UY,Jn,Jb]
  omega
def kh2{m:Bool}{r:Row}(h:r.Ok):0≤prc m r∧prc m r≤1000000000000:=by
 unfold prc
 split
 ·cases e:r.ex with
  |none=>exact⟨h.pr0,h.pr1⟩
  |some z=>exact h.ex0 z e
 ·exact⟨h.pr0,h.pr1⟩
def take_snoc{α:Type}{rs:List α}{i:Nat}{r: α}(h:rs[i]?=some r):rs.take (i+1)=rs.take i++[r]:=by
 rw[JA,h]
 rfl
end War
namespace Kin
noncomputable def Good(ps:List (Option Nat)):Prop:=∀(i k:Nat),ps[i]?=some (some k)→k<i
noncomputable def anc(ps:List (Option Nat)):Nat→Nat→List Nat
 |0,_=>[]
 |f+1,i=>i::(match ps[i]? with|some (some k)=>anc ps f k|_=>[])
noncomputable def up(ps:List (Option Nat))(i:Nat):List Nat:=anc ps (i+1) i
theorem kjM{ps:List (Option Nat)}(g:Good ps):∀(f f' i:Nat),i<f→i<f'→anc ps f i=anc ps f' i:=by
 intro f
 induction f with
 |zero=>intro f' i h;omega
 | succ f ih=>
  intro f' i h h'
  cases f' with
  |zero=>omega
  | succ f'=>
   show i::_=i::_
   congr 1
   cases e:ps[i]? with
   |none=>rfl
   | some o=>
    cases o with
    |none=>rfl
    |some k=>
     have hk:=g i k e
     exact ih f' k (by omega) (by omega)
def kko{ps:List (Option Nat)}(g:Good ps){i k:Nat}(e:ps[i]?=some (some k)):up ps i=i::up ps k:=by
 have hk:=g i k e
 show i::_=_
 rw[e]
 show i::anc ps i k=i::up ps k
 rw[kjM g i (k+1) k hk (by omega)]
 rfl
def kkp{ps:List (Option Nat)}{i:Nat}(e:ps[i]?=some none):up ps i=[i]:=by
 show i::_=_
 rw[e]
noncomputable def rest(ps:List (Option Nat)):Option Nat→List Nat
 |none=>[]
 |some k=>up ps k
noncomputable def left:Option Nat→Nat
 |none=>0
 |some k=>k+1
theorem up_eq{ps:List (Option Nat)}(g:Good ps){i:Nat}{o:Option Nat}(e:ps[i]?=some o):up ps i=i::rest ps o:=by
 cases o with
 |none=>exact kkp e
 |some k=>exact kko g e
def kjw:Good []:=fun i k e=>by simp at e
def kfF{ps:List (Option Nat)}(g:Good ps){o:Option Nat}(h:∀k,o=some k→k<ps.length):Good (ps++[o]):=by
 intro i k e
 rcases Nat.lt_trichotomy i ps.length with hi|hi|hi
 ·rw[J8 hi] at e
  exact g i k e
 ·subst hi
  rw[JW (Ux _)] at e
  simp at e
  exact h k e
 ·rw[JW (by omega)] at e
  have:(i-ps.length)≠0:=by omega
  cases q:i-ps.length with
  |zero=>omega
  |succ n=>rw[q] at e;simp at e
end Kin
namespace Kin
end Kin
namespace Deal
noncomputable def pre(ws:List Int)(k:Nat):Int:=(ws.take k).sum
noncomputable def part(c:Int)(ws:List Int)(j:Nat):Int:=c*pre ws (j+1)/ws.sum-c*pre ws j/ws.sum
noncomputable def dl(c:Int)(ws:List Int):List Int:=if ws.sum=0 then ws.map (fun _=>0) else(Uz ws.length).map (part c ws)
def keP(ws:List Int):pre ws 0=0:=by simp[pre]
def kh1(ws:List Int):pre ws ws.length=ws.sum:=by simp[pre]
def kcQ{ws:List Int}{i:Nat}{w:Int}(h:ws[i]?=some w):pre ws (i+1)=pre ws i+w:=by
 unfold pre
 rw[JA,h]
 simp
def kc5(c:Int)(ws:List Int):(dl c ws).length=ws.length:=by
 unfold dl
 split <;> simp
def dl_at{c:Int}{ws:List Int}(h:¬ws.sum=0){j:Nat}(hj:j<ws.length):(dl c ws)[j]?=some (part c ws j):=by
 unfold dl
 rw[if_neg h]
 simp[hj]
def kew{c:Int}{ws:List Int}(h:ws.sum=0){j:Nat}(hj:j<ws.length):(dl c ws)[j]?=some 0:=by
 unfold dl
 rw[if_pos h]
 simp[hj]
noncomputable def Nn(ws:List Int):Prop:=∀w∈ws,0≤w
theorem kbk:∀{ws:List Int},Nn ws→0≤ws.sum
 |[],_=>by simp
 |w::ws,h=>by
  have:=kbk (ws:=ws) fun x hx=>h x (UV _ hx)
  have h1:=h w UW
  simp
  omega
def kj1{ws:List Int}(h:Nn ws)(k:Nat):0≤pre ws k:=kbk fun w hw=>h w (JZ hw)
def kj2{ws:List Int}(h:Nn ws)(k:Nat):pre ws k≤ws.sum:=by
 have e:ws.sum=pre ws k+(ws.drop k).sum:=by
  unfold pre
  rw[←List.sum_append,Ma]
 have:=kbk (ws:=ws.drop k) fun w hw=>h w (List.mem_of_mem_drop hw)
 omega
theorem kh9{c s A w:Int}(hs:0<s)(hc:0≤c)(hcs:c≤s)(hw:0≤w):0≤c*(A+w)/s-c*A/s∧c*(A+w)/s-c*A/s≤w∧
  (c*(A+w)/s-c*A/s)*s-c*w<s∧-s<(c*(A+w)/s-c*A/s)*s-c*w:=by
 have e:c*(A+w)=c*A+c*w:=Int.mul_add ..
 rw[e]
 generalize hx:c*A=x
 have h1:0≤c*w:=Int.mul_nonneg hc hw
 have h2:c*w≤w*s:=by
  rw[Int.mul_comm w s]
  exact Int.mul_le_mul_of_nonneg_right hcs hw
 generalize hy:c*w=y at h1 h2
 have m1:x/s≤(x+y)/s:=Int.ediv_le_ediv hs (by omega)
 have m2:(x+y)/s≤(x+w*s)/s:=Int.ediv_le_ediv hs (by omega)
 rw[Int.add_mul_ediv_right _ _ (by omega)] at m2
 have d1:=Int.emod_add_mul_ediv x s
 have d2:=Int.emod_add_mul_ediv (x+y) s
 have r1:=Int.emod_nonneg x (show s≠0 by omega)
 have r2:=Int.emod_lt_of_pos x hs
 have r3:=Int.emod_nonneg (x+y) (show s≠0 by omega)
 have r4:=Int.emod_lt_of_pos (x+y) hs
 have e3:((x+y)/s-x/s)*s=s*((x+y)/s)-s*(x/s):=by
  rw[Int.sub_mul,Int.mul_comm,Int.mul_comm (x/s)]
 rw[e3]
 refine⟨by omega,by omega,by omega,by omega⟩
end Deal
namespace Vs
open Kin Deal
structure Mks where
 kind:Option Nat
 needs:Int
 most:Option Int
 member:Bool
 once:Bool
 lone:Bool
inductive Srt
 |off (a:Int)
 |share (s:Int) (b:Bool)
 |cheap (n:Int)
 |bund (n p:Int)
 |carr
structure Vch where
 so:Srt
 ms:Mks
structure Stnd where
 ow:List Nat
 pr:List Int
 cg:Int
 mkd:List Bool
noncomputable def kHit(ps:List (Option Nat))(kind:Option Nat)(kd:Nat):Bool:=match kind with
 |none=>true
 |some k=>decide (k∈up ps kd)
noncomputable def hits(ps:List (Option Nat))(kds:List Nat)(kind:Option Nat)(lone:Bool)(mkd:List Bool)(l:Nat):Bool:=
 kHit ps kind (kds.getD l 0)&&(!lone|| !(mkd.getD l false))
noncomputable def abt(ps:List (Option Nat))(kds:List Nat)(kind:Option Nat)(lone:Bool)(S:Stnd):List Nat:=
 (Uz S.ow.length).filter fun i=>hits ps kds kind lone S.mkd (S.ow.getD i 0)
def keA{ps:List (Option Nat)}{kds:List Nat}{kind:Option Nat}{lone:Bool}{S:Stnd}{i:Nat}(h:i∈abt ps kds kind lone S):i<S.ow.length:=by
 have:=(Ju.mp h).1
 simpa using this
def ked(ps:List (Option Nat))(kds:List Nat)(kind:Option Nat)(lone:Bool)(S:Stnd):(abt ps kds kind lone S).Nodup:=JY.filter _ ND
def kcM(ps:List (Option Nat))(kds:List Nat)(kind:Option Nat)(lone:Bool)(S:Stnd):(abt ps kds kind lone S).length≤S.ow.length:=by
 have:=Nd (fun i=>hits ps kds kind lone S.mkd (S.ow.getD i 0)) (Uz S.ow.length)
 simpa[abt] using this
noncomputable def qs(pr:List Int)(is:List Nat):List Int:=is.map fun i=>pr.getD i 0
def kbq(pr:List Int)(is:List Nat):(qs pr is).length=is.length:=by simp[qs]
noncomputable def spr(n:Nat)(is:List Nat)(vs:List Int):List Int:=(Uz n).map fun i=>((is.zip vs).lookup i).getD 0
def kcd(n:Nat)(is:List Nat)(vs:List Int):(spr n is vs).length=n:=by simp[spr]
def khG(n:Nat)(vs:List Int):spr n [] vs=Uw n 0:=by
 unfold spr
 apply JJ
 ·simp
 ·intro i h1 h2
  simp
theorem kgb{l:List (Nat×Int)}{i j:Nat}{v:Int}(h:∀p∈l,p.1≠i):(l++[(i,v)]).lookup j=if j=i then some v else l.lookup j:=by
 induction l with
 | nil=>
  simp only[Nv,U5,List.lookup_nil]
  by_cases e:j=i
  ·subst e;simp
  ·have:(j==i)=false:=beq_eq_false_iff_ne.mpr e
   simp[this,e]
 | cons p l ih=>
  obtain⟨k,w⟩:=p
  have ih':=ih fun q hq=>h q (UV _ hq)
  have hk:k≠i:=h (k,w) UW
  simp only[N6,U5]
  by_cases e:j=k
  ·subst e
   simp[hk]
  ·have:(j==k)=false:=beq_eq_false_iff_ne.mpr e
   simp only[this]
   exact ih'
theorem khF{n:Nat}{is:List Nat}{vs:List Int}(hn:is.Nodup){k i:Nat}{v:Int}(h1:is[k]?=some i)(h2:vs[k]?=some v)(hi:i<n):
  (spr n (is.take k) (vs.take k)).set i v=spr n (is.take (k+1)) (vs.take (k+1)):=by
 have e1:is.take (k+1)=is.take k++[i]:=by rw[JA,h1];rfl
 have e2:vs.take (k+1)=vs.take k++[v]:=by rw[JA,h2];rfl
 have hk1:k<is.length:=(UG.mp h1).1
 have hk2:k<vs.length:=(UG.mp h2).1
 have ez:(is.take (k+1)).zip (vs.take (k+1))=(is.take k).zip (vs.take k)++[(i,v)]:=by
  rw[e1,e2,List.zip_append (by simp;omega)]
  rfl
 have hne:∀p∈(is.take k).zip (vs.take k),p.1≠i:=fun p hp e=>by
  have hm:p.1∈is.take k:=(JE hp).1
  rw[e] at hm
  obtain⟨j,hj,ej⟩:=Mb hm
  rw[UP] at hj
  rw[List.getElem_take] at ej
  have e3:is[k]=i:=by
   obtain⟨_,q⟩:=UG.mp h1
   exact q
  exact JI.mp hn j k (by omega) hk1 (by omega) (by rw[ej,e3])
 apply JJ
 ·simp[spr]
 ·intro j h3 h4
  have hj:j<n:=by simpa[spr] using h4
  rw[List.getElem_set]
  simp only[spr,Na,NF]
  rw[ez,kgb hne]
  by_cases e:i=j
  ·subst e;simp
  ·have:¬j=i:=fun z=>e z.symm
   simp[e,this]
def ki7{n:Nat}{is:List Nat}{vs:List Int}{m:Nat}(h1:is.length≤m)(h2:vs.length≤m):spr n (is.take m) (vs.take m)=spr n is vs:=by
 rw[Jw h1,Jw h2]
noncomputable def bef(q:List Int)(a b:Nat):Prop:=q.getD b 0<q.getD a 0∨(q.getD a 0=q.getD b 0∧a<b)
noncomputable def Fall(q:List Int)(r:List Nat):Prop:=r.Perm (Uz q.length)∧r.Pairwise (bef q)
def kjJ{q:List Int}{a b:Nat}(h:bef q a b)(h':bef q b a):False:=by
 unfold bef at h h'
 omega
theorem kdQ{R:Nat→Nat→Prop}(asym:∀a b,R a b→R b a→False):∀{l l':List Nat},l.Perm l'→l.Pairwise R→l'.Pairwise R→l=l'
 |[],l',p,_,_=>(List.nil_perm.mp p).symm
 | a ::l,l',p,h,h'=>by
  cases l' with
  |nil=>exact absurd p.length_eq (by simp)
  | cons b l'=>
   have hab:a=b:=by
    rcases Classical.em (a=b) with e|e
    ·exact e
    ·have ha:a∈b::l':=p.mem_iff.mp UW
     have hb:b∈a::l:=p.mem_iff.mpr UW
     rcases UJ.mp ha with e1|ha
     ·exact absurd e1 e
     ·rcases UJ.mp hb with e2|hb
      ·exact absurd e2.symm e
      ·exact(asym a b ((NG.mp h).1 b hb) ((NG.mp h').1 a ha)).elim
   subst hab
   congr 1
   exact kdQ asym (NH.cons_inv p) (NG.mp h).2 (NG.mp h').2
def kgj{q:List Int}{r r':List Nat}(h:Fall q r)(h':Fall q r'):r=r':=
 kdQ (fun _ _ a b=>kjJ a b) (h.1.trans h'.1.symm) h.2 h'.2
noncomputable def grp(n:Nat)(r:List Nat):List (List Nat):=(Uz (r.length/n)).map fun g=>(r.drop (g*n)).take n
end Vs
namespace Vs
open Kin Deal
noncomputable def Le2(xs ys:List Int):Prop:=xs.length=ys.length∧∀(j:Nat)(v w:Int),xs[j]?=some v→ys[j]?=some w→0≤v∧v≤w
def Le2.nil:Le2 [] []:=⟨rfl,fun j v w e=>by simp at e⟩
def Le2.self{xs:List Int}(h:Nn xs):Le2 xs xs:=⟨rfl,fun j v w e1 e2=>by
 rw[e1] at e2
 cases e2
 exact⟨h v (UE e1),Int.le_refl _⟩⟩
def Le2.nn{xs ys:List Int}(h:Le2 xs ys):Nn xs:=fun v hv=>by
 obtain⟨j,hj,e⟩:=Mb hv
 exact(h.2 j v (ys[j]'(by rw[←h.1];exact hj)) (by simp[hj,e]) (by simp[show j<ys.length by rw[←h.1];exact hj])).1
def Le2.trans{xs ys zs:List Int}(h:Le2 xs ys)(h':Le2 ys zs):Le2 xs zs:=⟨h.1.trans h'.1,fun j v w e1 e2=>by
 have hj:j<xs.length:=(UG.mp e1).1
 have e3:ys[j]?=some (ys[j]'(by rw[←h.1];exact hj)):=by simp[show j<ys.length by rw[←h.1];exact hj]
 have a:=h.2 j v _ e1 e3
 have b:=h'.2 j _ w e3 e2
 omega⟩
def Le2.append{xs ys xs' ys':List Int}(h:Le2 xs ys)(h':Le2 xs' ys'):Le2 (xs++xs') (ys++ys'):=by
 refine⟨by simp[h.1,h'.1],fun j v w e1 e2=>?_⟩
 have hl:=h.1
 rcases Nat.lt_or_ge j xs.length with hj|hj
 ·rw[J8 hj] at e1
  rw[J8 (by omega)] at e2
  exact h.2 j v w e1 e2
 ·rw[JW hj] at e1
  rw[JW (by omega),←hl] at e2
  exact h'.2 _ v w e1 e2
theorem Le2.sum:∀{xs ys:List Int},Le2 xs ys→0≤xs.sum∧xs.sum≤ys.sum
 |[],[],_=>by simp
 |[],_::_,h=>by have:=h.1;simp at this
 |_::_,[],h=>by have:=h.1;simp at this
 |x::xs,y::ys,h=>by
  have h0:=h.2 0 x y rfl rfl
  have h1:Le2 xs ys:=⟨by simpa using h.1,fun j v w e1 e2=>h.2 (j+1) v w (by simpa using e1) (by simpa using e2)⟩
  have h2:=Le2.sum h1
  simp
  omega
def dl_le{c:Int}{ws:List Int}(hn:Nn ws)(h0:0≤c)(h1:c≤ws.sum):Le2 (dl c ws) ws:=by
 refine⟨kc5 c ws,fun j v w e1 e2=>?_⟩
 have hj:j<ws.length:=(UG.mp e2).1
 have hw:=hn w (UE e2)
 by_cases hs:ws.sum=0
 ·rw[kew hs hj] at e1
  cases e1
  exact⟨Int.le_refl _,hw⟩
 ·rw[dl_at hs hj] at e1
  cases e1
  have hp:0<ws.sum:=by
   have:=kbk hn
   omega
  have q:=kh9 (A:=pre ws j) hp h0 h1 hw
  unfold part
  rw[kcQ e2]
  exact⟨q.1,q.2.1⟩
theorem kcA{is:List Nat}{vs:List Int}{i:Nat}{v:Int}(h:(is.zip vs).lookup i=some v):∃k:Nat,is[k]?=some i∧vs[k]?=some v:=by
 induction is generalizing vs with
 |nil=>simp at h
 | cons a is ih=>
  cases vs with
  |nil=>simp at h
  | cons b vs=>
   simp only[List.zip_cons_cons,U5] at h
   by_cases e:i=a
   ·subst e
    simp at h
    exact⟨0,rfl,by simp[h]⟩
   ·have:(i==a)=false:=beq_eq_false_iff_ne.mpr e
    rw[this] at h
    obtain⟨k,h1,h2⟩:=ih h
    exact⟨k+1,by simpa using h1,by simpa using h2⟩
theorem kfb{pr:List Int}{is:List Nat}{vs:List Int}(hn:Nn pr)(hv:Le2 vs (qs pr is)):Le2 (spr pr.length is vs) pr:=by
 refine⟨kcd _ _ _,fun j v w e1 e2=>?_⟩
 have hj:j<pr.length:=(UG.mp e2).1
 have hw:=hn w (UE e2)
 have e3:v=((is.zip vs).lookup j).getD 0:=by
  simp[spr,hj] at e1
  exact e1.symm
 cases e4:(is.zip vs).lookup j with
 |none=>
  rw[e4] at e3
  subst e3
  exact⟨Int.le_refl _,hw⟩
 |some u=>
  rw[e4] at e3
  have e3':v=u:=e3
  subst e3'
  obtain⟨k,h1,h2⟩:=kcA e4
  refine hv.2 k v w h2 ?_
  simp only[qs,UD,h1,Ny]
  rw[UF,e2]
  rfl
theorem qs_nn{pr:List Int}(hn:Nn pr)(is:List Nat):Nn (qs pr is):=fun v hv=>by
 obtain⟨i,_,rfl⟩:=UX.mp hv
 rw[UF]
 cases e:pr[i]? with
 |none=>exact Int.le_refl _
 |some w=>exact hn w (UE e)
noncomputable def leQ(q:List Int)(a b:Nat):Bool:=decide (q.getD b 0<q.getD a 0∨(q.getD a 0=q.getD b 0∧a≤b))
noncomputable def ordQ(q:List Int):List Nat:=(Uz q.length).mergeSort (leQ q)
def kcS(q:List Int):(ordQ q).Perm (Uz q.length):=List.mergeSort_perm _ _
def kdU(q:List Int):Fall q (ordQ q):=by
 refine⟨kcS q,?_⟩
 have h1:(ordQ q).Pairwise (fun a b=>leQ q a b=true):=List.pairwise_mergeSort (le:=leQ q) (fun a b c h h'=>by simp only[leQ,decide_eq_true_eq] at *;omega) (fun a b=>by simp only[leQ,Nx,decide_eq_true_eq];omega) _
 have h2:(ordQ q).Nodup:=(kcS q).nodup_iff.mpr ND
 refine(h1.and h2).imp fun {a b} h=>?_
 have h3:=h.1
 have h4:a≠b:=h.2
 simp only[leQ,decide_eq_true_eq] at h3
 unfold bef
 omega
noncomputable def gdl(cut:Int→Int)(gs:List (List Nat))(q:List Int):List Int:=spr q.length gs.flatten ((gs.map fun g=>dl (cut (qs q g).sum) (qs q g)).flatten)
def kdO(q:List Int)(a b:List Nat):qs q (a++b)=qs q a++qs q b:=by simp[qs]
theorem kkb{cut:Int→Int}{gs:List (List Nat)}{q:List Int}(hn:Nn q)(hc:∀s,0≤s→0≤cut s∧cut s≤s):Le2 (gdl cut gs q) q:=by
 refine kfb hn ?_
 induction gs with
 |nil=>exact Le2.nil
 |cons g gs ih=>
  rw[UK,U1,U1,kdO]
  have h:=hc _ (kbk (qs_nn hn g))
  exact(dl_le (qs_nn hn g) h.1 h.2).append ih
noncomputable def keb(n:Nat)(lines:List Nat):List (List Nat):=(Uz n).map fun l=>(Uz lines.length).filter fun k=>lines.getD k 0==l
noncomputable def lasts(gs:List (List Nat)):List Nat:=gs.map fun g=>g.getLastD 0
noncomputable def want(so:Srt)(n:Nat)(lines:List Nat)(q:List Int):List Int:=match so with
 | .off a=>dl (min a q.sum) q
 | .share s false=>dl (q.sum*s/1000) q
 | .share s true=>gdl (fun z=>z*s/1000) (keb n lines) q
 | .cheap m=>spr q.length (lasts (grp m.toNat (ordQ q))) (qs q (lasts (grp m.toNat (ordQ q))))
 | .bund m p=>gdl (fun z=>max 0 (z-p)) (grp m.toNat (ordQ q)) q
 | .carr=>Uw q.length 0
noncomputable def fee(so:Srt)(cg:Int):Int:=match so with
 | .carr=>cg
 |_=>0
noncomputable def SrtOk:Srt→Prop
 | .off a=>0≤a∧a≤1000000000000
 | .share s _=>1≤s∧s≤1000
 | .cheap n=>2≤n∧n≤20
 | .bund n p=>2≤n∧n≤20∧0≤p∧p≤1000000000000
 | .carr=>True
def kdE{z s:Int}(hz:0≤z)(h1:1≤s)(h2:s≤1000):0≤z*s/1000∧z*s/1000≤z:=by
 have a:0≤z*s:=Int.mul_nonneg hz (by omega)
 have b:z*s≤z*1000:=Int.mul_le_mul_of_nonneg_left h2 hz
 omega
def kk3{q:List Int}(hn:Nn q):Le2 (Uw q.length 0) q:=by
 refine⟨by simp,fun j v w e1 e2=>?_⟩
 have:v=0:=by
  rw[JQ] at e1
  split at e1
  ·exact(Option.some.inj e1).symm
  ·cases e1
 subst this
 exact⟨Int.le_refl _,hn w (UE e2)⟩
def kfO{a:Int}{n:Nat}{lines:List Nat}{q:List Int}(hn:Nn q)(h0:0≤a):Le2 (want (.off a) n lines q) q:=by
 have hs:=kbk hn
 show Le2 (dl (min a q.sum) q) q
 exact dl_le hn (by omega) (by omega)
theorem keB{s:Int}{e:Bool}{n:Nat}{lines:List Nat}{q:List Int}(hn:Nn q)(h1:1≤s)(h2:s≤1000):Le2 (want (.share s e) n lines q) q:=by
 have hs:=kbk hn
 cases e with
 |false=>
  show Le2 (dl (q.sum*s/1000) q) q
  have h:=kdE hs h1 h2
  exact dl_le hn h.1 h.2
 |true=>
  show Le2 (gdl (fun z=>z*s/1000) (keb n lines) q) q
  exact kkb hn fun z hz=>kdE hz h1 h2
def ke9{m p:Int}{n:Nat}{lines:List Nat}{q:List Int}(hn:Nn q)(h0:0≤p):Le2 (want (.bund m p) n lines q) q:=by
 show Le2 (gdl (fun z=>max 0 (z-p)) (grp m.toNat (ordQ q)) q) q
 exact kkb hn fun z hz=>⟨by show 0≤max 0 (z-p);omega,by show max 0 (z-p)≤z;omega⟩
def keC{m:Int}{n:Nat}{lines:List Nat}{q:List Int}(hn:Nn q):Le2 (want (.cheap m) n lines q) q:=by
 show Le2 (spr q.length _ (qs q _)) q
 exact kfb hn (Le2.self (qs_nn hn _))
def ke8{n:Nat}{lines:List Nat}{q:List Int}(hn:Nn q):Le2 (want .carr n lines q) q:=kk3 hn
theorem kht{so:Srt}{n:Nat}{lines:List Nat}{q:List Int}(hn:Nn q)(ho:SrtOk so):Le2 (want so n lines q) q:=by
 cases so with
 |off a=>exact kfO hn ho.1
 |share s e=>exact keB hn ho.1 ho.2
 |cheap m=>exact keC hn
 |bund m p=>exact ke9 hn ho.2.2.1
 |carr=>exact ke8 hn
noncomputable def cap(most:Option Int)(w:List Int)(f:Int):List Int×Int:=match most with
 |none=>(w,f)
 |some m=>if m<w.sum+f then(dl (min m w.sum) w,min f m) else(w,f)
theorem klo{most:Option Int}{w q:List Int}{f cg:Int}(h:Le2 w q)(hf:0≤f∧f≤cg)(hm:∀m,most=some m→0≤m):Le2 (cap most w f).1 q∧0≤(cap most w f).2∧(cap most w f).2≤cg:=by
 unfold cap
 cases most with
 |none=>exact⟨h,hf⟩
 |some m=>
  have h0:=hm m rfl
  have hs:=kbk h.nn
  simp only
  split
  ·exact⟨(dl_le h.nn (by omega) (by omega)).trans h,by simp only;omega,by simp only;omega⟩
  ·exact⟨h,hf⟩
noncomputable def cutM(V:Vch)(ps:List (Option Nat))(kk:List Nat)(S:Stnd):List Int×Int:=
 let is:=abt ps kk V.ms.kind V.ms.lone S
 let c:=cap V.ms.most (want V.so S.mkd.length (is.map fun i=>S.ow.getD i 0) (qs S.pr is)) (fee V.so S.cg)
 (spr S.pr.length is c.1,c.2)
def kkg{V:Vch}{ps:List (Option Nat)}{kk:List Nat}{S:Stnd}(hn:Nn S.pr)(hc:0≤S.cg)(ho:SrtOk V.so)(hm:∀m,V.ms.most=some m→0≤m):Le2 (cutM V ps kk S).1 S.pr∧0≤(cutM V ps kk S).2∧(cutM V ps kk S).2≤S.cg:=by
 have hf:0≤fee V.so S.cg∧fee V.so S.cg≤S.cg:=by
  unfold fee
  split <;> omega
 have h:=klo (most:=V.ms.most) (kht (n:=S.mkd.length) (lines:=(abt ps kk V.ms.kind V.ms.lone S).map fun i=>S.ow.getD i 0) (qs_nn hn (abt ps kk V.ms.kind V.ms.lone S)) ho) hf hm
 exact⟨kfb hn h.1,h.2⟩
noncomputable def kbu(ow:List Nat)(c:List Int)(l:Nat):Bool:=(Uz ow.length).any fun i=>ow.getD i 0==l&&decide (0<c.getD i 0)
noncomputable def aftM(V:Vch)(ps:List (Option Nat))(kk:List Nat)(S:Stnd):Stnd:=
 ⟨S.ow,US (· - ·) S.pr (cutM V ps kk S).1,S.cg-(cutM V ps kk S).2,(Uz S.mkd.length).map fun l=>S.mkd.getD l false||(V.ms.lone&&kbu S.ow (cutM V ps kk S).1 l)⟩
def klq{V:Vch}{ps:List (Option Nat)}{kk:List Nat}{S:Stnd}(hn:Nn S.pr)(hc:0≤S.cg)(ho:SrtOk V.so)(hm:∀m,V.ms.most=some m→0≤m):Le2 (aftM V ps kk S).pr S.pr∧0≤(aftM V ps kk S).cg∧(aftM V ps kk S).cg≤S.cg:=by
 have h:=kkg (ps:=ps) (kk:=kk) hn hc ho hm
 refine⟨⟨?_,fun j v w e1 e2=>?_⟩,?_,?_⟩
 ·show(US _ _ _).length=_
  rw[Nf,h.1.1]
  omega
 ·have hj:j<S.pr.length:=(UG.mp e2).1
  have hj2:j<(cutM V ps kk S).1.length:=by rw[h.1.1];exact hj
  have e3:(cutM V ps kk S).1[j]?=some ((cutM V ps kk S).1[j]):=by simp[hj2]
  have b:=h.1.2 j _ w e3 e2
  have e4:(US (· - ·) S.pr (cutM V ps kk S).1)[j]?=some (w-(cutM V ps kk S).1[j]):=by
   rw[JK,e2,e3]
  have e1':(US (· - ·) S.pr (cutM V ps kk S).1)[j]?=some v:=e1
  rw[e4] at e1'
  cases e1'
  omega
 ·show 0≤S.cg-_
  have:=h.2
  omega
 ·show S.cg-_≤S.cg
  have:=h.2
  omega
end Vs
namespace Vs
open Kin Deal
structure Sel (q:List Int) (row left:List Nat):Prop where
 pm:(row++left).Perm (Uz q.length)
 inc:left.Pairwise (· < ·)
 pw:row.Pairwise (bef q)
 cr:∀r∈row,∀l∈left,bef q r l
def Sel.start(q:List Int):Sel q [] (Uz q.length):=⟨NH.refl _,Mc, .nil,fun r hr=>by simp at hr⟩
def Sel.lt{q:List Int}{row left:List Nat}(h:Sel q row left){i:Nat}(hi:i∈left):i<q.length:=by
 have:=h.pm.mem_iff.mp (U9 row hi)
 simpa using this
def Sel.len{q:List Int}{row left:List Nat}(h:Sel q row left):row.length+left.length=q.length:=by
 have:=h.pm.length_eq
 simpa using this
def Sel.fin{q:List Int}{row:List Nat}(h:Sel q row []):row=ordQ q:=by
 refine kgj ⟨?_,h.pw⟩ (kdU q)
 have:=h.pm
 rwa [NU] at this
noncomputable def TopI(q:List Int)(left:List Nat)(i top:Nat):Prop:=(∃k,left[k]?=some top∧(k<i∨k=0))∧∀y∈left.take i,y=top∨bef q top y
def TopI.start{q:List Int}{left:List Nat}{t:Nat}(h:left[0]?=some t):TopI q left 0 t:=⟨⟨0,h, .inr rfl⟩,fun y hy=>by simp at hy⟩
def TopI.more{q:List Int}{left:List Nat}{i top x:Nat}(inc:left.Pairwise (· < ·))(h:TopI q left i top)(hx:left[i]?=some x):TopI q left (i+1) (if q.getD top 0<q.getD x 0 then x else top):=by
 obtain⟨⟨k,ek,hk⟩,hy⟩:=h
 have et:left.take (i+1)=left.take i++[x]:=by rw[JA,hx];rfl
 split
 ·rename_i hlt
  refine⟨⟨i,hx, .inl (by omega)⟩,fun y hm=>?_⟩
  rw[et] at hm
  rcases Jg.mp hm with h1|h1
  ·refine .inr (.inl ?_)
   rcases hy y h1 with rfl|h2
   ·exact hlt
   ·unfold bef at h2
    omega
  ·exact .inl (by simpa using h1)
 ·rename_i hge
  refine⟨⟨k,ek,by omega⟩,fun y hm=>?_⟩
  rw[et] at hm
  rcases Jg.mp hm with h1|h1
  ·exact hy y h1
  ·have e:y=x:=by simpa using h1
   subst e
   by_cases hki:k=i
   ·subst hki
    rw[ek] at hx
    exact .inl (Option.some.inj hx).symm
   ·have hlt:top<y:=by
     obtain⟨l1,q1⟩:=UG.mp ek
     obtain⟨l2,q2⟩:=UG.mp hx
     have:=JI.mp inc k i l1 l2 (by omega)
     rwa [q1,q2] at this
    refine .inr ?_
    unfold bef
    omega
def Sel.step{q:List Int}{row left:List Nat}{top:Nat}(h:Sel q row left)(ht:TopI q left left.length top):Sel q (row++[top]) (left.erase top)∧top∈left:=by
 obtain⟨⟨k,ek,_⟩,hy⟩:=ht
 have hm:=UE ek
 rw[U0] at hy
 have nd:left.Nodup:=h.inc.imp fun hlt=>UU hlt
 refine⟨⟨?_,h.inc.sublist (List.erase_sublist),?_,?_⟩,hm⟩
 ·refine NH.trans ?_ h.pm
  rw[JG]
  exact NH.append_left row (List.perm_cons_erase hm).symm
 ·exact List.pairwise_append.mpr ⟨h.pw,List.pairwise_singleton _ _,fun r hr t ht=>by
   have e:t=top:=by simpa using ht
   subst e
   exact h.cr r hr t hm⟩
 ·intro r hr l hl
  have hl':=(nd.mem_erase_iff).mp hl
  rcases Jg.mp hr with h1|h1
  ·exact h.cr r h1 l hl'.2
  ·have e:r=top:=by simpa using h1
   subst e
   rcases hy l hl'.2 with h2|h2
   ·exact absurd h2 hl'.1
   ·exact h2
end Vs
namespace Vs
open Kin Deal
def kg0{m:Nat}{r:List Nat}{i:Nat}{g:List Nat}(h:(grp m r)[i]?=some g):i*m+m≤r.length∧g.length=m∧∀j,j<m→g[j]?=r[i*m+j]?:=by
 unfold grp at h
 rw[UD] at h
 have hi:i<r.length/m:=by
  rcases Nat.lt_or_ge i (r.length/m) with q|q
  ·exact q
  ·rw[JL (by simpa using q)] at h
   cases h
 rw[JT hi] at h
 cases h
 have hle:i*m+m≤r.length:=by
  have h1:(i+1)*m≤r.length/m*m:=Nat.mul_le_mul_right m hi
  have h2:=Nat.div_mul_le_self r.length m
  rw[Nat.add_mul,Nat.one_mul] at h1
  omega
 refine⟨hle,by rw[UP,Nq];omega,fun j hj=>?_⟩
 rw[Mj hj,List.getElem?_drop]
theorem kge{m:Nat}{r:List Nat}{i:Nat}{g:List Nat}(hm:0<m)(h:(grp m r)[i]?=some g):r[i*m+(m-1)]?=some (g.getLastD 0):=by
 obtain⟨hle,hl,hg⟩:=kg0 h
 rw[←hg (m-1) (by omega)]
 cases g with
 |nil=>simp at hl;omega
 |cons x xs=>
  have e:(x::xs).getLastD 0=(x::xs).getLast (by simp):=by simp[List.getLastD]
  rw[e,List.getLast_eq_getElem,UG]
  refine⟨by omega,?_⟩
  congr 1
  omega
def kgX{gs:List (List Nat)}{i:Nat}{g:List Nat}(h:gs[i]?=some g):(lasts gs)[i]?=some (g.getLastD 0):=by
 unfold lasts
 rw[UD,h]
 rfl
def kc2(gs:List (List Nat)):(lasts gs).length=gs.length:=by simp[lasts]
def kgd{m:Nat}{r:List Nat}(hm:0<m)(hr:r.Nodup):(lasts (grp m r)).Nodup:=by
 refine JI.mpr fun i j hi hj hij e=>?_
 rw[kc2] at hi hj
 have e1:(grp m r)[i]?=some (grp m r)[i]:=by simp[hi]
 have e2:(grp m r)[j]?=some (grp m r)[j]:=by simp[hj]
 have a1:=kge hm e1
 have a2:=kge hm e2
 have b1:=kgX e1
 have b2:=kgX e2
 obtain⟨_,c1⟩:=UG.mp b1
 obtain⟨_,c2⟩:=UG.mp b2
 rw[c1,c2] at e
 rw[e] at a1
 obtain⟨l1,d1⟩:=UG.mp a1
 obtain⟨l2,d2⟩:=UG.mp a2
 have hlt:i*m+(m-1)<j*m+(m-1):=by
  have:=Nat.mul_lt_mul_of_pos_right hij hm
  omega
 exact JI.mp hr _ _ l1 l2 hlt (by rw[d1,d2])
def kkD{q:List Int}{i:Nat}(h:i∈ordQ q):i<q.length:=by
 have:=(kcS q).mem_iff.mp h
 simpa using this
end Vs
namespace Vs
open Kin Deal
def ki6{n:Nat}{is:List Nat}{vs:List Int}{i:Nat}{v:Int}(hl:is.length=vs.length)(hn:(is++[i]).Nodup)(hi:i<n):(spr n is vs).set i v=spr n (is++[i]) (vs++[v]):=by
 have h:=khF (n:=n) (is:=is++[i]) (vs:=vs++[v]) hn (k:=is.length) (i:=i) (v:=v) (by simp) (by rw[hl];simp) hi
 rw[List.take_left' rfl,List.take_left' hl.symm,Jw (by simp),Jw (by simp[hl])] at h
 exact h
def kdJ{gs:List (List Nat)}(h:gs.flatten.Nodup){i k a:Nat}{g:List Nat}(hg:gs[i]?=some g)(hk:g[k]?=some a):((gs.take i).flatten++g.take k++[a]).Nodup:=by
 have e:gs=gs.take i++g::gs.drop (i+1):=by
  obtain⟨hi,eg⟩:=UG.mp hg
  rw[←eg,Mp hi,Ma]
 have e2:g=(g.take k++[a])++g.drop (k+1):=by
  obtain⟨hk',ek⟩:=UG.mp hk
  rw[JG,List.singleton_append,←ek,Mp hk',Ma]
 rw[e,Nc,U1] at h
 rw[JG]
 refine h.sublist (List.Sublist.append_left ?_ _)
 refine List.Sublist.trans ?_ (Mq g _)
 conv=>rhs;rw[e2]
 exact Mq _ _
theorem kjv{m:Nat}(r:List Nat):(grp m r).flatten=r.take (r.length/m*m):=by
 unfold grp
 have hle:r.length/m*m≤r.length:=Nat.div_mul_le_self _ _
 generalize r.length/m=c at *
 induction c with
 |zero=>simp
 |succ c ih=>
  have h1:c*m+m≤r.length:=by rw[←Nat.succ_mul];exact hle
  rw[JB,UH,Nc,ih (by omega)]
  simp only[UK,JX,U1,List.flatten_nil,NU]
  rw[show(c+1)*m=c*m+m by rw[Nat.add_mul,Nat.one_mul],List.take_add]
def kiy{m:Nat}{r:List Nat}(h:r.Nodup):(grp m r).flatten.Nodup:=by
 rw[kjv]
 exact h.sublist (List.take_sublist _ _)
end Vs
namespace Vs
open Kin Deal
theorem kcE{is:List Nat}(hn:is.Nodup){k i:Nat}(hk:is[k]?=some i):∀(l:List (Nat×Int)),(∀p∈l,p.1<is.length)→(l.map fun p=>(is.getD p.1 0,p.2)).lookup i=l.lookup k
 |[],_=>rfl
 | (j,v)::l,h=>by
  have ih:=kcE hn hk l fun p hp=>h p (UV _ hp)
  have hj:j<is.length:=h (j,v) UW
  obtain⟨hk',ek⟩:=UG.mp hk
  have e:is.getD j 0=is[j]:=by rw[UF];simp[hj]
  simp only[UK,U5,e]
  by_cases q:k=j
  ·subst q
   simp[ek]
  ·have h1:(k==j)=false:=by simp[q]
   have h2:(i==is[j])=false:=by
    refine beq_eq_false_iff_ne.mpr fun z=>q ?_
    exact(List.getElem_inj hn).mp (by rw[ek,z])
   rw[h1,h2]
   exact ih
theorem lookup_none{is:List Nat}{i:Nat}(hi:∀k:Nat,is[k]?≠some i):∀(l:List (Nat×Int)),(∀p∈l,p.1<is.length)→(l.map fun p=>(is.getD p.1 0,p.2)).lookup i=none
 |[],_=>rfl
 |(j,v)::l,h=>by
  have ih:=lookup_none hi l fun p hp=>h p (UV _ hp)
  have hj:j<is.length:=h (j,v) UW
  have e:is.getD j 0=is[j]:=by rw[UF];simp[hj]
  have h2:(i==is[j])=false:=beq_eq_false_iff_ne.mpr fun z=>hi j (by rw[z];simp[hj])
  simp only[UK,U5,e,h2]
  exact ih
theorem kd3{is:List Nat}(hn:is.Nodup){k i:Nat}(hk:is[k]?=some i):∀{vs:List Int},is.length=vs.length→(is.zip vs).lookup i=vs[k]?:=by
 induction is generalizing k with
 |nil=>simp at hk
 | cons a is ih=>
  intro vs hl
  cases vs with
  |nil=>simp at hl
  | cons v vs=>
   rw[List.zip_cons_cons,U5]
   cases k with
   |zero=>
    have:a=i:=by simpa using hk
    subst this
    simp
   |succ k=>
    have hk':is[k]?=some i:=by simpa using hk
    have hh:=Ji.mp hn
    have hne:(i==a)=false:=beq_eq_false_iff_ne.mpr fun z=>hh.1 (z▸UE hk')
    rw[hne]
    simpa using ih hh.2 hk' (by simpa using hl)
def kfP{n:Nat}{is js:List Nat}{vs:List Int}(hn:is.Nodup)(hj:∀j∈js,j<is.length):spr n is (spr is.length js vs)=spr n (js.map fun j=>is.getD j 0) vs:=by
 apply JJ
 ·simp[spr]
 intro i h1 h2
 have ez:(js.map fun j=>is.getD j 0).zip vs=(js.zip vs).map fun p=>(is.getD p.1 0,p.2):=by rw[List.zip_map_left];rfl
 have hp:∀p∈js.zip vs,p.1<is.length:=fun p hp=>hj _ (JE hp).1
 simp only[spr,Na,NF]
 rw[ez]
 by_cases hk:∃k:Nat,is[k]?=some i
 ·obtain⟨k,hk⟩:=hk
  have hkl:=(UG.mp hk).1
  rw[kcE hn hk _ hp,kd3 hn hk (by simp)]
  simp[hkl]
 ·rw[lookup_none (fun k e=>hk ⟨k,e⟩) _ hp]
  have:((is.zip ((Uz is.length).map fun i=>((js.zip vs).lookup i).getD 0)).lookup i)=none:=by
   rw[List.lookup_eq_none_iff]
   intro p hp'
   have:=(JE hp').1
   obtain⟨k,ek⟩:=JU.mp this
   have hne:i≠p.1:=fun z=>hk ⟨k,by rw[ek,←z]⟩
   simpa using hne
  rw[this]
noncomputable def owns(n:Nat)(ow:List Nat)(is:List Nat):List (List Nat):=(Uz n).map fun l=>is.filter fun i=>ow.getD i 0==l
def kea(n:Nat)(ow is:List Nat):(keb n (is.map fun i=>ow.getD i 0)).map (fun g=>g.map fun j=>is.getD j 0)=owns n ow is:=by
 unfold keb owns
 rw[UR]
 refine Jj fun l _=>?_
 show(((Uz _).filter _).map fun j=>is.getD j 0)=_
 have e:is=(Uz is.length).map fun j=>is.getD j 0:=by
  apply JJ
  ·simp
  ·intro j h1 h2
   simp[UF,h1]
 conv=>rhs;rw[e]
 rw[List.filter_map,Uu]
 congr 1
 refine List.filter_congr fun k hk=>?_
 have hk':k<is.length:=by simpa using hk
 simp[UF,hk']
def qs_qs{pr:List Int}{ab g:List Nat}(h:∀j∈g,j<ab.length):qs (qs pr ab) g=qs pr (g.map fun j=>ab.getD j 0):=by
 unfold qs
 rw[UR]
 refine Jj fun j hj=>?_
 have:=h j hj
 simp[UF,this]
def kfI{n:Nat}{lines:List Nat}{g:List Nat}(hg:g∈keb n lines){j:Nat}(hj:j∈g):j<lines.length:=by
 obtain⟨l,_,rfl⟩:=UX.mp hg
 have:=(Ju.mp hj).1
 simpa using this
def kgo{n N:Nat}{ow ab:List Nat}{pr:List Int}(cut:Int→Int)(hn:ab.Nodup):spr n ab (gdl cut (keb N (ab.map fun i=>ow.getD i 0)) (qs pr ab))=spr n (owns N ow ab).flatten ((owns N ow ab).map fun o=>dl (cut (qs pr o).sum) (qs pr o)).flatten:=by
 unfold gdl
 rw[kbq,kfP hn fun j hj=>?_,List.map_flatten,kea]
 ·congr 2
  rw[←kea,UR]
  refine Jj fun g hg=>?_
  have e:=qs_qs (pr:=pr) (ab:=ab) (g:=g) fun j hj=>by simpa using kfI hg hj
  show dl (cut (qs (qs pr ab) g).sum) (qs (qs pr ab) g)=dl (cut (qs pr (g.map fun j=>ab.getD j 0)).sum) (qs pr (g.map fun j=>ab.getD j 0))
  rw[e]
 ·obtain⟨g,hg,hj'⟩:=Jx.mp hj
  simpa using kfI hg hj'
end Vs
namespace Vs
open Kin Deal
section
variable {p:Nat→Bool} {n:Nat} {w:List Int}
noncomputable def cnt(p:Nat→Bool)(j:Nat):Nat:=((Uz j).filter p).length
theorem kiO{j:Nat}(h:p j=true):cnt p (j+1)=cnt p j+1:=by
 unfold cnt
 rw[JB,Ng,UY]
 simp[h]
theorem kki{j:Nat}(h:p j=false):cnt p (j+1)=cnt p j:=by
 unfold cnt
 rw[JB,Ng,UY]
 simp[h]
theorem kct:∀{n j:Nat},j<n→p j=true→((Uz n).filter p)[cnt p j]?=some j
 |0,j,h,_=>by omega
 | n+1,j,h,hp=>by
  rw[JB,Ng]
  by_cases hj:j<n
  ·have ih:=kct hj hp
   rw[J8 (UG.mp ih).1]
   exact ih
  ·have e:j=n:=by omega
   subst e
   unfold cnt
   rw[JW (Ux _)]
   simp[hp]
theorem kjQ(hl:w.length=cnt p n){j:Nat}(hj:j<n):(spr n ((Uz n).filter p) w)[j]?=some (if p j=true then w.getD (cnt p j) 0 else 0):=by
 unfold spr
 rw[UD,JT hj]
 show some _=some _
 congr 1
 show(Jl j (((Uz n).filter p).zip w)).getD 0=_
 cases hp:p j with
 |true=>
  rw[kd3 (JY.filter _ ND) (kct hj hp) hl.symm,if_pos rfl,UF]
 | false=>
  rw[if_neg UB]
  cases e:(((Uz n).filter p).zip w).lookup j with
  |none=>rw[NY]
  |some v=>
   obtain⟨k,hk,_⟩:=kcA e
   have:=(Ju.mp (UE hk)).2
   rw[hp] at this
   cases this
theorem keQ(hl:w.length=cnt p n):∀j,j≤n→pre (spr n ((Uz n).filter p) w) j=pre w (cnt p j)
 |0,_=>by simp[pre,cnt]
 | j+1,h=>by
  have ih:=keQ hl j (by omega)
  rw[kcQ (kjQ hl (show j<n by omega)),ih]
  cases hp:p j with
  |true=>
   have hk:=(UG.mp (kct (show j<n by omega) hp)).1
   have hk':cnt p j<w.length:=by rw[hl];exact hk
   rw[if_pos rfl,kiO hp,kcQ (w:=w.getD (cnt p j) 0) (by rw[UF,Jz hk'];rfl)]
  |false=>rw[if_neg UB,kki hp,Int.add_zero]
theorem khB(hl:w.length=cnt p n):(spr n ((Uz n).filter p) w).sum=w.sum:=by
 have h:=keQ hl n (Ux _)
 rw[←hl,kh1] at h
 have e:pre (spr n ((Uz n).filter p) w) n=(spr n ((Uz n).filter p) w).sum:=by
  have:=kh1 (spr n ((Uz n).filter p) w)
  rw[kcd] at this
  exact this
 rw[←e,h]
theorem klm(m:Int)(hl:w.length=cnt p n):dl m (spr n ((Uz n).filter p) w)=spr n ((Uz n).filter p) (dl m w):=by
 have hl2:(dl m w).length=cnt p n:=by rw[kc5,hl]
 have hs:=khB hl
 apply JC
 intro j
 by_cases hj:j<n
 ·rw[kjQ hl2 hj]
  have hjF:j<(spr n ((Uz n).filter p) w).length:=by rw[kcd];exact hj
  by_cases h0:w.sum=0
  ·rw[kew (hs.trans h0) hjF]
   cases hp:p j with
   |false=>rw[if_neg UB]
   |true=>
    have hk:=(UG.mp (kct hj hp)).1
    rw[if_pos rfl,UF,kew h0 (by rw[hl];exact hk)]
    rfl
  ·rw[dl_at (by rw[hs];exact h0) hjF]
   unfold part
   rw[hs,keQ hl j (by omega),keQ hl (j+1) (by omega)]
   cases hp:p j with
   |false=>rw[if_neg UB,kki hp,Int.sub_self]
   |true=>
    have hk:=(UG.mp (kct hj hp)).1
    rw[if_pos rfl,UF,dl_at h0 (by rw[hl];exact hk),kiO hp]
    rfl
 ·rw[JL (by rw[kc5,kcd];omega),JL (by rw[kcd];omega)]
end
def kkT{c:Int}{n:Nat}:dl c (Uw n 0)=Uw n 0:=by
 have e:(Uw n (0:Int)).sum=0:=by simp
 unfold dl
 rw[if_pos e]
 simp
theorem kg4{V:Vch}{ps:List (Option Nat)}{kk:List Nat}{S:Stnd}(e:V.ms.most=none):
  (cutM V ps kk S).1=spr S.pr.length (abt ps kk V.ms.kind V.ms.lone S) (want V.so S.mkd.length ((abt ps kk V.ms.kind V.ms.lone S).map fun i=>S.ow.getD i 0) (qs S.pr (abt ps kk V.ms.kind V.ms.lone S))):=by
 unfold cutM cap
 rw[e]
theorem kjD{V:Vch}{ps:List (Option Nat)}{kk:List Nat}{S:Stnd}(hl:S.pr.length=S.ow.length)
  (hw:Le2 (want V.so S.mkd.length ((abt ps kk V.ms.kind V.ms.lone S).map fun i=>S.ow.getD i 0) (qs S.pr (abt ps kk V.ms.kind V.ms.lone S))) (qs S.pr (abt ps kk V.ms.kind V.ms.lone S))) {m:Int} (e:V.ms.most=some m) (h0:0≤m):
  (cutM V ps kk S).1=if(spr S.pr.length (abt ps kk V.ms.kind V.ms.lone S) (want V.so S.mkd.length ((abt ps kk V.ms.kind V.ms.lone S).map fun i=>S.ow.getD i 0) (qs S.pr (abt ps kk V.ms.kind V.ms.lone S)))).sum > m
   then dl m (spr S.pr.length (abt ps kk V.ms.kind V.ms.lone S) (want V.so S.mkd.length ((abt ps kk V.ms.kind V.ms.lone S).map fun i=>S.ow.getD i 0) (qs S.pr (abt ps kk V.ms.kind V.ms.lone S))))
   else spr S.pr.length (abt ps kk V.ms.kind V.ms.lone S) (want V.so S.mkd.length ((abt ps kk V.ms.kind V.ms.lone S).map fun i=>S.ow.getD i 0) (qs S.pr (abt ps kk V.ms.kind V.ms.lone S))):=by
 have hwl:=hw.1
 rw[kbq] at hwl
 have ea:abt ps kk V.ms.kind V.ms.lone S=(Uz S.pr.length).filter fun i=>hits ps kk V.ms.kind V.ms.lone S.mkd (S.ow.getD i 0):=by rw[hl];rfl
 have ez:V.so=.carr→(want V.so S.mkd.length ((abt ps kk V.ms.kind V.ms.lone S).map fun i=>S.ow.getD i 0) (qs S.pr (abt ps kk V.ms.kind V.ms.lone S)))=Uw (qs S.pr (abt ps kk V.ms.kind V.ms.lone S)).length 0:=fun z=>by rw[z];rfl
 unfold cutM cap
 rw[e]
 simp only
 generalize want V.so S.mkd.length ((abt ps kk V.ms.kind V.ms.lone S).map fun i=>S.ow.getD i 0) (qs S.pr (abt ps kk V.ms.kind V.ms.lone S))=w at *
 rw[ea] at hwl⊢
 rw[khB hwl,klm m hwl]
 by_cases hc:V.so=.carr
 ·have hz:=ez hc
  have hs:w.sum=0:=by rw[hz];simp
  rw[if_neg (by omega:¬w.sum > m)]
  split
  ·simp only
   rw[hz,kkT]
  ·rfl
 ·have hf:fee V.so S.cg=0:=by
   unfold fee
   split
   ·rename_i z
    exact absurd z hc
   ·rfl
  rw[hf,Int.add_zero]
  by_cases hm:m<w.sum
  ·rw[if_pos hm,if_pos hm]
   simp only
   rw[Int.min_eq_left (by omega)]
  ·rw[if_neg hm,if_neg hm]
end Vs
namespace Vs
open Kin Deal
noncomputable def ins:List (Nat×List Nat)→Nat→Nat→List (Nat×List Nat)
 |[],o,a=>[(o,[a])]
 |(l,g)::G,o,a=>if l=o then(l,g++[a])::G else(l,g)::ins G o a
noncomputable def parted(f:Nat→Nat)(is:List Nat):List (Nat×List Nat):=is.foldl (fun G a=>ins G (f a) a) []
def kdT(f:Nat→Nat)(is:List Nat)(a:Nat):parted f (is++[a])=ins (parted f is) (f a) a:=by
 unfold parted
 rw[List.foldl_append]
 rfl
theorem kdF:∀(G:List (Nat×List Nat))(o a:Nat),(ins G o a).map Prod.fst=if o∈G.map Prod.fst then G.map Prod.fst else G.map Prod.fst++[o]
 |[],o,a=>by simp[ins]
 | (l,g)::G,o,a=>by
  unfold ins
  by_cases h:l=o
  ·subst h
   simp
  ·rw[if_neg h,UK,kdF G o a]
   show _=if o∈l::G.map Prod.fst then l::G.map Prod.fst else(l::G.map Prod.fst)++[o]
   have h':¬o=l:=fun z=>h z.symm
   by_cases hm:o∈G.map Prod.fst
   ·rw[if_pos hm,if_pos (UV _ hm)]
   ·rw[if_neg hm,if_neg (by rw[UJ,not_or];exact⟨h',hm⟩)]
    rfl
theorem kiv:∀{G:List (Nat×List Nat)}{o a l:Nat}{g:List Nat},(G.map Prod.fst).Nodup→(l,g)∈ins G o a→(l≠o∧(l,g)∈G)∨(l=o∧((∃g',(o,g')∈G∧g=g'++[a])∨(o∉G.map Prod.fst∧g=[a])))
 |[],o,a,l,g,_,h=>by
  unfold ins at h
  rw[Jq] at h
  cases h
  exact .inr ⟨rfl, .inr ⟨by simp,rfl⟩⟩
 | (k,g0)::G,o,a,l,g,hn,h=>by
  unfold ins at h
  rw[UK,Ji] at hn
  by_cases e:k=o
  ·rw[if_pos e] at h
   subst e
   rcases UJ.mp h with z|z
   ·cases z
    exact .inr ⟨rfl, .inl ⟨g0,UW,rfl⟩⟩
   ·refine .inl ⟨fun w=>?_,UV _ z⟩
    subst w
    exact hn.1 (UX.mpr ⟨(l,g),z,rfl⟩)
  ·rw[if_neg e] at h
   rcases UJ.mp h with z|z
   ·cases z
    exact .inl ⟨e,UW⟩
   ·rcases kiv hn.2 z with⟨w1,w2⟩|⟨w1,⟨g',w2,w3⟩|⟨w2,w3⟩⟩
    ·exact .inl ⟨w1,UV _ w2⟩
    ·exact .inr ⟨w1, .inl ⟨g',UV _ w2,w3⟩⟩
    ·refine .inr ⟨w1, .inr ⟨?_,w3⟩⟩
     rw[UK,UJ,not_or]
     exact⟨fun z=>e z.symm,w2⟩
structure PtOk (f:Nat→Nat) (is:List Nat) (G:List (Nat×List Nat)):Prop where
 nd:(G.map Prod.fst).Nodup
 gs:∀l g,(l,g)∈G→g=is.filter fun i=>f i==l
 all:∀i∈is,f i∈G.map Prod.fst
theorem kep(f:Nat→Nat):∀(n:Nat)(is:List Nat),is.length=n→PtOk f is (parted f is)
 |0,is,h=>by
  have e:is=[]:=List.eq_nil_of_length_eq_zero h
  subst e
  exact⟨by simp[parted],fun l g hg=>by simp[parted] at hg,fun i hi=>by simp at hi⟩
 | n +1,is,h=>by
  have hne:is≠[]:=by
   intro z
   subst z
   cases h
  obtain⟨is',a,rfl⟩:∃is' a,is=is'++[a]:=⟨is.dropLast,is.getLast hne,(List.dropLast_concat_getLast hne).symm⟩
  have ih:=kep f n is' (by simpa using h)
  rw[kdT]
  refine⟨?_,fun l g hg=>?_,fun i hi=>?_⟩
  ·rw[kdF]
   split
   ·exact ih.nd
   ·rename_i hm
    exact Md.mpr ⟨ih.nd,by simp,fun x hx y hy=>by
     rw[Jq] at hy
     subst hy
     exact fun z=>hm (by rw[←z];exact hx)⟩
  ·rw[Ng]
   rcases kiv ih.nd hg with⟨w1,w2⟩|⟨w1,⟨g',w2,w3⟩|⟨w2,w3⟩⟩
   ·rw[ih.gs l g w2]
    have:(f a==l)=false:=by simpa using fun z=>w1 z.symm
    simp[this]
   ·subst w1 w3
    rw[ih.gs _ g' w2]
    simp
   ·subst w1 w3
    have e:is'.filter (fun i=>f i==f a)=[]:=by
     rw[List.filter_eq_nil_iff]
     intro i hi z
     have z':f i=f a:=by simpa using z
     exact w2 (by rw[←z'];exact ih.all i hi)
    rw[e]
    simp
  ·rw[kdF]
   rcases Jg.mp hi with hi|hi
   ·have:=ih.all i hi
    split
    ·exact this
    ·exact NP _ this
   ·rw[Jq] at hi
    subst hi
    split
    ·assumption
    ·exact U9 _ (by simp)
def kco(f:Nat→Nat)(is:List Nat):PtOk f is (parted f is):=kep f is.length is rfl
def PtOk.snds{f:Nat→Nat}{is:List Nat}{G:List (Nat×List Nat)}(h:PtOk f is G):G.map Prod.snd=(G.map Prod.fst).map fun l=>is.filter fun i=>f i==l:=by
 rw[UR]
 refine Jj fun p hp=>?_
 exact h.gs p.1 p.2 hp
theorem khl{l l':List (Nat×Int)}{i:Nat}:(l++l').lookup i=(l.lookup i).or (l'.lookup i):=by
 induction l with
 |nil=>simp
 |cons p l ih=>
  obtain⟨a,b⟩:=p
  rw[N6,U5,U5,ih]
  split <;> rfl
theorem kes{l:List (Nat×Int)}{i:Nat}(h:∀p∈l,p.1≠i):l.lookup i=none:=by
 induction l with
 |nil=>rfl
 | cons p l ih=>
  obtain⟨a,b⟩:=p
  have h1:(i==a)=false:=by
   have:=h (a,b) UW
   simpa using fun z=>this z.symm
  rw[U5,h1]
  exact ih fun q hq=>h q (UV _ hq)
section
variable {f:Nat→Nat} {is:List Nat} {D:List Nat→List Int}
theorem kkm{l i:Nat}{vs:List Int}(h:f i≠l):((is.filter fun i=>f i==l).zip vs).lookup i=none:=
 kes fun p hp=>by
  have h1:=(JE (show(p.1,p.2)∈_ from hp)).1
  have h2:f p.1=l:=by simpa using(Ju.mp h1).2
  intro z
  rw[z] at h2
  exact h h2
theorem kdq(hD:∀g,(D g).length=g.length)(i:Nat):∀(ks:List Nat),ks.Nodup→
  (((ks.map fun l=>is.filter fun i=>f i==l).flatten).zip ((ks.map fun l=>D (is.filter fun i=>f i==l)).flatten)).lookup i=if f i∈ks then((is.filter fun j=>f j==f i).zip (D (is.filter fun j=>f j==f i))).lookup i else none
 |[],_=>by simp
 | l::ks,hn=>by
  rw[Ji] at hn
  have ih:=kdq hD i ks hn.2
  rw[UK,UK,U1,U1,List.zip_append (hD _).symm,khl,ih]
  by_cases h:f i=l
  ·subst h
   rw[if_neg hn.1,if_pos UW,Option.or_none]
  ·rw[kkm h,Option.none_or]
   by_cases hm:f i∈ks
   ·rw[if_pos hm,if_pos (UV _ hm)]
   ·rw[if_neg hm,if_neg (by rw[UJ,not_or];exact⟨h,hm⟩)]
theorem khe(hD:∀g,(D g).length=g.length){n:Nat}{ks ks':List Nat}(hn:ks.Nodup)(hn':ks'.Nodup)(h:∀i∈is,f i∈ks)(h':∀i∈is,f i∈ks'):
  spr n (ks.map fun l=>is.filter fun i=>f i==l).flatten (ks.map fun l=>D (is.filter fun i=>f i==l)).flatten=spr n (ks'.map fun l=>is.filter fun i=>f i==l).flatten (ks'.map fun l=>D (is.filter fun i=>f i==l)).flatten:=by
 unfold spr
 refine Jj fun i _=>?_
 have key:∀ks:List Nat,ks.Nodup→(∀i∈is,f i∈ks)→(((ks.map fun l=>is.filter fun i=>f i==l).flatten).zip ((ks.map fun l=>D (is.filter fun i=>f i==l)).flatten)).lookup i=((is.filter fun j=>f j==f i).zip (D (is.filter fun j=>f j==f i))).lookup i:=fun ks hn hk=>by
  rw[kdq hD i ks hn]
  by_cases hm:f i∈ks
  ·rw[if_pos hm]
  ·rw[if_neg hm,kes fun p hp=>?_]
   have h1:=(JE (show(p.1,p.2)∈_ from hp)).1
   obtain⟨h2,h3⟩:=Ju.mp h1
   exact fun _=>hm (by rw[←(show f p.1=f i by simpa using h3)];exact hk _ h2)
 rw[key ks hn h,key ks' hn' h']
theorem kdS(hi:is.Nodup):∀{ks:List Nat},ks.Nodup→(ks.map fun l=>is.filter fun i=>f i==l).flatten.Nodup
 |[],_=>by simp
 |l::ks,hn=>by
  rw[Ji] at hn
  rw[UK,U1]
  refine Md.mpr ⟨hi.filter _,kdS hi hn.2,fun x hx y hy z=>?_⟩
  subst z
  have h1:f x=l:=by simpa using(Ju.mp hx).2
  obtain⟨g,hg,hy⟩:=Jx.mp hy
  obtain⟨l',hl',rfl⟩:=UX.mp hg
  have h2:f x=l':=by simpa using(Ju.mp hy).2
  exact hn.1 (by rw[←h1,h2];exact hl')
end
theorem khf{n N:Nat}{ow ab:List Nat}{pr:List Int}(cut:Int→Int)(hn:ab.Nodup)(hN:∀i∈ab,ow.getD i 0<N):
  spr n ((parted (fun i=>ow.getD i 0) ab).map Prod.snd).flatten (((parted (fun i=>ow.getD i 0) ab).map Prod.snd).map fun g=>dl (cut (qs pr g).sum) (qs pr g)).flatten=spr n ab (gdl cut (keb N (ab.map fun i=>ow.getD i 0)) (qs pr ab)):=by
 have ok:=kco (fun i=>ow.getD i 0) ab
 rw[kgo cut hn,ok.snds]
 generalize hks:(parted (fun i=>ow.getD i 0) ab).map Prod.fst=ks at *
 have nd:ks.Nodup:=by rw[←hks];exact ok.nd
 have al:∀i∈ab,ow.getD i 0∈ks:=by rw[←hks];exact ok.all
 unfold owns
 rw[UR,UR]
 exact khe (f:=fun i=>ow.getD i 0) (is:=ab) (D:=fun g=>dl (cut (qs pr g).sum) (qs pr g)) (fun g=>by rw[kc5,kbq]) nd ND al fun i hi=>by simpa using hN i hi
def keq(f:Nat→Nat):∀(is:List Nat),(parted f is).length≤is.length:=by
 intro is
 have key:∀(is:List Nat)(G:List (Nat×List Nat)),(is.foldl (fun G a=>ins G (f a) a) G).length≤G.length+is.length:=by
  intro is
  induction is with
  |nil=>intro G;simp
  | cons a is ih=>
   intro G
   have h1:=ih (ins G (f a) a)
   have h2:(ins G (f a) a).length≤G.length+1:=by
    have:=congrArg Np (kdF G (f a) a)
    rw[Uu] at this
    rw[this]
    split <;> simp
   rw[List.foldl_cons,Jb]
   omega
 simpa[parted] using key is []
end Vs
namespace Vs
open Kin Deal
noncomputable def fallP(pr:List Int)(is:List Nat):List Nat:=(ordQ (qs pr is)).map fun j=>is.getD j 0
def range_getD(is:List Nat):(Uz is.length).map (fun j=>is.getD j 0)=is:=by
 apply JJ
 ·simp
 ·intro j h1 h2
  simp[UF,h2]
def kbo(pr:List Int)(is:List Nat):(fallP pr is).Perm is:=by
 have h:=(kcS (qs pr is)).map fun j=>is.getD j 0
 rw[kbq,range_getD] at h
 exact h
noncomputable def befP(pr:List Int)(a b:Nat):Prop:=pr.getD b 0<pr.getD a 0∨(pr.getD a 0=pr.getD b 0∧a<b)
def kjz{pr:List Int}{is:List Nat}(hs:is.Pairwise (· < ·)):(fallP pr is).Pairwise (befP pr):=by
 have h:=(kdU (qs pr is)).2
 have hm:=(kdU (qs pr is)).1
 unfold fallP
 rw[Me]
 refine h.imp_of_mem fun {a b} ha hb hab=>?_
 have la:a<is.length:=by simpa[kbq] using hm.mem_iff.mp ha
 have lb:b<is.length:=by simpa[kbq] using hm.mem_iff.mp hb
 have ea:(qs pr is).getD a 0=pr.getD (is.getD a 0) 0:=by simp[qs,UF,la]
 have eb:(qs pr is).getD b 0=pr.getD (is.getD b 0) 0:=by simp[qs,UF,lb]
 unfold bef at hab
 unfold befP
 rw[ea,eb] at hab
 rcases hab with z|⟨z1,z2⟩
 ·exact .inl z
 ·refine .inr ⟨z1,?_⟩
  have:=JI.mp hs a b la lb z2
  simpa[UF,la,lb] using this
def khn{pr:List Int}{is ks:List Nat}(hs:is.Pairwise (· < ·))(hp:ks.Perm is)(hk:ks.Pairwise (befP pr)):ks=fallP pr is:=
 kdQ (R:=befP pr) (fun a b h h'=>by unfold befP at h h';omega) (hp.trans (kbo pr is).symm) hk (kjz hs)
def kiA(m:Nat)(f:Nat→Nat)(r:List Nat):grp m (r.map f)=(grp m r).map fun g=>g.map f:=by
 unfold grp
 rw[Uu,UR]
 refine Jj fun g _=>?_
 show((r.map f).drop _).take _=((r.drop _).take _).map f
 rw[JH,N2]
def kiz{m:Nat}{r g:List Nat}(h:g∈grp m r):∀j∈g,j∈r:=fun j hj=>by
 obtain⟨i,_,rfl⟩:=UX.mp h
 exact List.mem_of_mem_drop (JZ hj)
theorem kiB{n:Nat}{ab:List Nat}{pr:List Int}(cut:Int→Int)(hn:ab.Nodup)(gs:List (List Nat))(hg:∀g∈gs,∀j∈g,j<ab.length):
  spr n ab (gdl cut gs (qs pr ab))=spr n (gs.map fun g=>g.map fun j=>ab.getD j 0).flatten ((gs.map fun g=>g.map fun j=>ab.getD j 0).map fun o=>dl (cut (qs pr o).sum) (qs pr o)).flatten:=by
 unfold gdl
 rw[kbq,kfP hn fun j hj=>?_,List.map_flatten,UR]
 ·congr 2
  refine Jj fun g hg'=>?_
  have e:=qs_qs (pr:=pr) (ab:=ab) (g:=g) (hg g hg')
  show dl (cut (qs (qs pr ab) g).sum) (qs (qs pr ab) g)=dl (cut (qs pr (g.map fun j=>ab.getD j 0)).sum) (qs pr (g.map fun j=>ab.getD j 0))
  rw[e]
 ·obtain⟨g,hg',hj'⟩:=Jx.mp hj
  exact hg g hg' j hj'
def kj3{pr:List Int}{is:List Nat}{m:Nat}{g:List Nat}(h:g∈grp m (ordQ (qs pr is))):∀j∈g,j<is.length:=fun j hj=>by
 have:=kkD (kiz h j hj)
 rwa [kbq] at this
theorem kjI{n m:Nat}{is:List Nat}{pr:List Int}(cut:Int→Int)(hn:is.Nodup):
  spr n is (gdl cut (grp m (ordQ (qs pr is))) (qs pr is))=spr n (grp m (fallP pr is)).flatten ((grp m (fallP pr is)).map fun o=>dl (cut (qs pr o).sum) (qs pr o)).flatten:=by
 rw[kiB cut hn _ fun g hg=>kj3 hg]
 unfold fallP
 rw[kiA]
def kik{f:Nat→Nat}{gs:List (List Nat)}(h:∀g∈gs,g≠[]):lasts (gs.map fun g=>g.map f)=(lasts gs).map f:=by
 unfold lasts
 rw[UR,UR]
 refine Jj fun g hg=>?_
 show(g.map f).getLastD 0=f (g.getLastD 0)
 have hne:=h g hg
 rw[Mf,Mf,List.getLast?_map,Mr hne]
 rfl
def kln(c:Int):dl c [c]=[c]:=by
 unfold dl
 by_cases h:[c].sum=0
 ·rw[if_pos h]
  have:c=0:=by simpa using h
  simp[this]
 ·rw[if_neg h]
  have hc:c≠0:=by simpa using h
  have e:part c [c] 0=c:=by
   unfold part pre
   simp[Int.mul_ediv_cancel _ hc]
  simp[JB,e]
theorem khW(f:Nat→Int):∀(l:List Nat),(l.map fun i=>[i]).flatten=l∧(l.map fun i=>[f i]).flatten=l.map f
 |[]=>⟨rfl,rfl⟩
 |a::l=>by
  obtain⟨h1,h2⟩:=khW f l
  simp[h1,h2]
theorem kiQ{n m:Nat}{is:List Nat}{pr:List Int}(hm:0<m)(hn:is.Nodup):
  spr n is (spr (qs pr is).length (lasts (grp m (ordQ (qs pr is)))) (qs (qs pr is) (lasts (grp m (ordQ (qs pr is))))))=spr n (lasts (grp m (fallP pr is))) ((lasts (grp m (fallP pr is))).map fun i=>pr.getD i 0):=by
 have ne:∀g∈grp m (ordQ (qs pr is)),g≠[]:=fun g hg z=>by
  obtain⟨i,hi⟩:=JU.mp hg
  have:=(kg0 hi).2.1
  rw[z] at this
  simp at this
  omega
 have hl:∀j∈lasts (grp m (ordQ (qs pr is))),j<is.length:=fun j hj=>by
  obtain⟨g,hg,rfl⟩:=UX.mp hj
  refine kj3 hg _ ?_
  rw[Mf,Mr (ne g hg)]
  exact List.getLast_mem _
 rw[kbq,kfP hn hl,qs_qs hl]
 have e:lasts (grp m (fallP pr is))=(lasts (grp m (ordQ (qs pr is)))).map fun j=>is.getD j 0:=by
  unfold fallP
  rw[kiA,kik ne]
 rw[e]
 rfl
def spr_zero{n k:Nat}{is:List Nat}:spr n is (Uw k 0)=Uw n 0:=by
 unfold spr
 apply JJ
 ·simp
 ·intro j h1 h2
  simp only[Na,NF,List.getElem_replicate]
  cases e:(is.zip (Uw k (0:Int))).lookup j with
  |none=>rfl
  |some v=>
   obtain⟨i,_,hv⟩:=kcA e
   have:=List.eq_of_mem_replicate (UE hv)
   rw[this]
   rfl
def kd8{pr:List Int}{is:List Nat}(hn:is.Nodup):(fallP pr is).Nodup:=(kbo pr is).nodup_iff.mpr hn
def kgg(m:Nat)(r:List Nat):(grp m r).length≤r.length:=by
 unfold grp
 rw[Uu,List.length_range]
 exact Nat.div_le_self _ _
end Vs
namespace Vs
open Kin Deal
structure Later (S S':Stnd):Prop where
 ow:S'.ow=S.ow
 pr:Le2 S'.pr S.pr
 cg:0≤S'.cg∧S'.cg≤S.cg
 mg:∀l,S.mkd.getD l false=true→S'.mkd.getD l false=true
def Later.refl{S:Stnd}(hn:Nn S.pr)(hc:0≤S.cg):Later S S:=⟨rfl,Le2.self hn,⟨hc,Int.le_refl _⟩,fun _ h=>h⟩
def Later.trans{S S' S'':Stnd}(h:Later S S')(h':Later S' S''):Later S S'':=⟨h'.ow.trans h.ow,h'.pr.trans h.pr,⟨h'.cg.1,Int.le_trans h'.cg.2 h.cg.2⟩,fun l e=>h'.mg l (h.mg l e)⟩
end Vs
namespace Vs
open PySem L2
noncomputable def top(i:Nat):Stmt:=PySem.Challenge.pw_voucherstack_k21_hindrances_in_orders.main.body.getD i (.Pass ⟨0,0,0,0⟩)
noncomputable abbrev kf0:Stmt:=top 2
noncomputable abbrev kfY:Stmt:=top 4
noncomputable abbrev kbw:Stmt:=top 16
noncomputable abbrev kdN:Stmt:=top 19
noncomputable abbrev khY:Stmt:=top 20
noncomputable abbrev kcF:Stmt:=top 21
noncomputable abbrev kf1:Stmt:=top 22
noncomputable abbrev kby:Stmt:=top 23
noncomputable abbrev kbn:Stmt:=top 24
noncomputable abbrev ka6:Stmt:=top 25
noncomputable abbrev kbx:Stmt:=top 26
noncomputable abbrev kaz:Stmt:=top 27
noncomputable abbrev kbE:Stmt:=top 28
noncomputable abbrev kb0:Stmt:=top 29
noncomputable abbrev kbD:Stmt:=top 30
noncomputable abbrev kdM:Stmt:=top 31
noncomputable abbrev kfZ:Stmt:=top 34
noncomputable abbrev keN:Stmt:=top 35
noncomputable abbrev kbC:Stmt:=top 36
noncomputable abbrev kbS:Stmt:=top 37
noncomputable abbrev kbT:Stmt:=top 38
noncomputable abbrev kbm:Stmt:=top 39
noncomputable abbrev kcf:Stmt:=top 43
noncomputable abbrev kcH:Stmt:=top 44
noncomputable abbrev kci:Stmt:=top 45
noncomputable abbrev kcg:Stmt:=top 46
noncomputable abbrev kbV:Stmt:=top 47
noncomputable abbrev kb4:Stmt:=top 48
noncomputable abbrev kbh:Stmt:=top 49
noncomputable abbrev kbQ:Stmt:=top 50
noncomputable abbrev kbU:Stmt:=top 51
noncomputable abbrev kcG:Stmt:=top 52
noncomputable abbrev kch:Stmt:=top 53
noncomputable abbrev kce:Stmt:=top 54
noncomputable abbrev kck:Stmt:=top 55
noncomputable abbrev ka9:Stmt:=top 56
noncomputable abbrev kb3:Stmt:=top 57
noncomputable abbrev kdd:Stmt:=top 58
noncomputable abbrev s_law:Stmt:=top 59
noncomputable abbrev kaX:Stmt:=inClass (top 6) 0
noncomputable abbrev kaO:Stmt:=inClass (top 7) 0
noncomputable abbrev kbd:Stmt:=inClass (top 8) 0
noncomputable abbrev kaW:Stmt:=inClass (top 9) 0
noncomputable abbrev kaL:Stmt:=inClass (top 12) 0
noncomputable abbrev ka2:Stmt:=inClass (top 14) 0
noncomputable abbrev kaR:Stmt:=inClass (top 15) 0
noncomputable abbrev kbG:Stmt:=inClass (top 17) 0
noncomputable abbrev kde:Stmt:=inClass (top 33) 0
noncomputable abbrev kbW:Stmt:=inClass (top 33) 1
noncomputable abbrev kcl:Stmt:=inClass (top 33) 2
noncomputable abbrev kbF:Stmt:=inClass (top 33) 4
noncomputable abbrev ka1:Stmt:=inClass (top 41) 0
set_option genInjectivity false
set_option genSizeOf false
structure D where
 Q2:Addr
 Q3:FuncData
 Q4:Addr
 Q5:FuncData
 Q6:Addr
 Q7:FuncData
 Q8:Addr
 Q9:FuncData
 Xa:Addr
 Xb:FuncData
 Xc:Addr
 Xd:FuncData
 Xe:Addr
 Xf:FuncData
 Xg:Addr
 Xh:FuncData
 Xi:Addr
 Xj:FuncData
 Xk:Addr
 Xl:FuncData
 Xm:Addr
 Xn:FuncData
 Xo:Addr
 Qk:FuncData
 Xp:Addr
 Xq:FuncData
 Xr:Addr
 Xs:FuncData
 Xt:Addr
 Xu:FuncData
 Xv:Addr
 Xw:FuncData
 Xx:Addr
 Xy:FuncData
 Xz:Addr
 XA:FuncData
 XB:Addr
 XC:FuncData
 XD:Addr
 XE:FuncData
 XF:Addr
 XG:FuncData
 XH:Addr
 XI:FuncData
 XJ:Addr
 XM:FuncData
 XO:Addr
 XQ:FuncData
 qJ:Addr
 qK:FuncData
 XR:Addr
 XS:FuncData
 XT:Addr
 XU:FuncData
 XW:Addr
 XX:FuncData
 XY:Addr
 XZ:FuncData
 X0:Addr
 X1:FuncData
 X2:Addr
 X3:FuncData
 X4:Addr
 X5:FuncData
 X6:Addr
 X7:FuncData
 X8:Addr
 X9:FuncData
 Ya:Addr
 Yb:FuncData
 Yc:Addr
 Yd:FuncData
 Ye:Addr
 Yf:FuncData
 Yg:Addr
 Yh:FuncData
 f_law:Addr
 Yi:FuncData
 qd:Addr
 Yj:Addr
 qu:FuncData
 tok1_Marks_init:Nat
 qA:Addr
 Ql:Addr
 Qm:FuncData
 c_Off:Addr
 Yk:Addr
 Qn:FuncData
 qh:Addr
 Yl:Addr
 qU:FuncData
 qk:Addr
 qj:Addr
 qi:Addr
 Ym:Addr
 Qo:FuncData
 qf:Addr
 Yn:Addr
 Qp:FuncData
 qg:Addr
 Yo:Addr
 qV:FuncData
 tok0_Basket_init:Nat
 qc:Addr
 Yp:Addr
 Yq:FuncData
 c_Way:Addr
 Yr:Addr
 Ys:FuncData
 Yt:Addr
 Yu:FuncData
 Yv:Addr
 Yw:FuncData
 Yx:Addr
 Yy:FuncData
 qe:Addr
 Yz:Addr
 Qq:FuncData
 tok0_Till_init:Nat
 cc_falling_groups:Addr
 tP_falling_groups:Addr
structure Wld (K:Uv) (mg:Str→Option Value) (d:D):Prop where
 B:TxtB mg
 Qr:Dn K mg "dealt" kf0 ["cut","weights"] d.Q2 d.Q3
 YA:Dn K mg "under" kfY ["parents","one","other"] d.Q4 d.Q5
 YB:Dn K mg "price_of_piece" kbw ["line","member"] d.Q6 d.Q7
 Qs:Dn K mg "about" kdN ["voucher","parents","basket","standing"] d.Q8 d.Q9
 YC:Dn K mg "fits" khY ["marks","parents","kind","marked"] d.Xa d.Xb
 YD:Dn K mg "hindrance" kcF ["voucher","parents","basket","standing"] d.Xc d.Xd
 YE:Dn K mg "after" kf1 ["voucher","parents","basket","standing"] d.Xe d.Xf
 YF:Dn K mg "cuts_of_pieces" kby ["voucher","parents","basket","standing"] d.Xg d.Xh
 YG:Dn K mg "cut_of_carriage" kbn ["voucher","standing"] d.Xi d.Xj
 YH:Dn K mg "wanted_cuts" ka6 ["voucher","standing","pieces"] d.Xk d.Xl
 YI:Dn K mg "parted_by_line" kbx ["standing","pieces"] d.Xm d.Xn
 Qt:Dn K mg "falling_groups" kaz ["standing","pieces","many"] d.Xo d.Qk
 YJ:Dn K mg "marked_behind" kbE ["voucher","standing","piece_cuts"] d.Xp d.Xq
 Qu:Dn K mg "prices_of" kb0 ["standing","pieces"] d.Xr d.Xs
 qL:Dn K mg "sum_of_prices" kbD ["standing","pieces"] d.Xt d.Xu
 YK:Dn K mg "at_most" kdM ["most","number"] d.Xv d.Xw
 YL:Dn K mg "fault" kfZ ["till","basket","hand","order"] d.Xx d.Xy
 YM:Dn K mg "way_by" keN ["till","basket","hand","order"] d.Xz d.XA
 YN:Dn K mg "word_of_order" kbC ["till","hand","used","number"] d.XB d.XC
 YO:Dn K mg "breaks_never" kbS ["rules","used","number"] d.XD d.XE
 YQ:Dn K mg "breaks_ahead" kbT ["rules","used","number"] d.XF d.XG
 YR:Dn K mg "without_company" kbm ["rules","order"] d.XH d.XI
 qp:Dn K mg "_law_mixed" kcf ["_law_cell_here","_law_k"] d.XJ d.XM
 qW:Dn K mg "_law_cell" kcH ["_law_script","_law_k"] d.XO d.XQ
 qM:Dn K mg "_law_alike" kci ["_law_found","_law_due_here"] d.qJ d.qK
 qD:Dn K mg "_law_coins" kcg ["_law_drawn","_law_great"] d.XR d.XS
 YS:Dn K mg "_law_parents" kbV ["_law_cell_here"] d.XT d.XU
 YT:Dn K mg "_law_basket" kb4 ["_law_cell_here","_law_kinds","_law_great"] d.XW d.XX
 YU:Dn K mg "_law_basket_made" kbh ["_law_told"] d.XY d.XZ
 YV:Dn K mg "_law_order" kbQ ["_law_cell_here","_law_many"] d.X0 d.X1
 YW:Dn K mg "_law_voucher" kbU ["_law_cell_here","_law_kinds","_law_great","_law_total"] d.X2 d.X3
 YX:Dn K mg "_law_made" kcG ["_law_told"] d.X4 d.X5
 Qv:Dn K mg "_law_begun" kch ["_law_told"] d.X6 d.X7
 YY:Dn K mg "_law_under" kce ["_law_parents_here","_law_one","_law_other"] d.X8 d.X9
 YZ:Dn K mg "_law_about" kck ["_law_voucher_here","_law_parents_here","_law_told","_law_state"] d.Ya d.Yb
 Y0:Dn K mg "_law_hindrance" ka9 ["_law_voucher_here","_law_told","_law_pieces","_law_state"] d.Yc d.Yd
 Y1:Dn K mg "_law_used" kb3 ["_law_voucher_here","_law_pieces","_law_state"] d.Ye d.Yf
 Y2:Dn K mg "_law_due" kdd ["_law_world","_law_order_here"] d.Yg d.Yh
 d_law:Dn K mg "law" s_law ["_law_script"] d.f_law d.Yi
 qd:ClsT K mg "Marks" d.qd
 qX:NoAttr K d.qd "kind"
 Y3:NoAttr K d.qd "needs"
 Qw:NoAttr K d.qd "most"
 Y5:NoAttr K d.qd "member"
 Y7:NoAttr K d.qd "once"
 Qx:NoAttr K d.qd "lone"
 qY:MthT K d.qd "__init__" "Marks.__init__" kaX ["self","kind","needs","most","member","once","lone"] d.Yj d.qu
 b1_Marks_init:Binds K d.qu ["self","kind","needs","most","member","once","lone"] [.bool false]
 b2_Marks_init:Binds K d.qu ["self","kind","needs","most","member","once","lone"] [.bool false, .bool false]
 b3_Marks_init:Binds K d.qu ["self","kind","needs","most","member","once","lone"] [.bool false, .bool false, .bool false]
 b4_Marks_init:Binds K d.qu ["self","kind","needs","most","member","once","lone"] [.none, .bool false, .bool false, .bool false]
 b5_Marks_init:Binds K d.qu ["self","kind","needs","most","member","once","lone"] [.int 0 d.tok1_Marks_init, .none, .bool false, .bool false, .bool false]
 b6_Marks_init:Binds K d.qu ["self","kind","needs","most","member","once","lone"] [.none, .int 0 d.tok1_Marks_init, .none, .bool false, .bool false, .bool false]
 qA:ClsT K mg "Voucher" d.qA
 qB:MthT K d.qA "__init__" "Voucher.__init__" kaO ["self","marks"] d.Ql d.Qm
 b1_Voucher_init:Binds K d.Qm ["self","marks"] [.none]
 g_Off:mg "Off"=some (.ref d.c_Off)
 c_Off:ClsT K mg "Off" d.c_Off
 Y9:NoAttr K d.c_Off "amount"
 Za:NoAttr K d.c_Off "marks"
 Qy:MthT K d.c_Off "__init__" "Off.__init__" kbd ["self","amount","marks"] d.Yk d.Qn
 b1_Off_init:Binds K d.Qn ["self","amount","marks"] [.none]
 Zr:mg "Share"=some (.ref d.qh)
 qh:ClsT K mg "Share" d.qh
 Zb:NoAttr K d.qh "share"
 Zc:NoAttr K d.qh "by_line"
 Zd:NoAttr K d.qh "marks"
 Qz:MthT K d.qh "__init__" "Share.__init__" kaW ["self","share","by_line","marks"] d.Yl d.qU
 b1_Share_init:Binds K d.qU ["self","share","by_line","marks"] [.none]
 b2_Share_init:Binds K d.qU ["self","share","by_line","marks"] [.bool false, .none]
 Zs:mg "Cheapest"=some (.ref d.qk)
 qk:ClsT K mg "Cheapest" d.qk
 Zt:NoAttr K d.qk "many"
 Zu:NoAttr K d.qk "marks"
 Zv:mg "Bundle"=some (.ref d.qj)
 qj:ClsT K mg "Bundle" d.qj
 Zw:NoAttr K d.qj "many"
 Zx:NoAttr K d.qj "price"
 Zy:NoAttr K d.qj "marks"
 Zz:mg "Carriage"=some (.ref d.qi)
 qi:ClsT K mg "Carriage" d.qi
 QA:NoAttr K d.qi "marks"
 QB:MthT K d.qi "__init__" "Carriage.__init__" kaL ["self","marks"] d.Ym d.Qo
 b1_Carriage_init:Binds K d.Qo ["self","marks"] [.none]
 qf:ClsT K mg "Line" d.qf
 Ze:NoAttr K d.qf "kind"
 QC:NoAttr K d.qf "price"
 QD:NoAttr K d.qf "many"
 QE:NoAttr K d.qf "special"
 QF:MthT K d.qf "__init__" "Line.__init__" ka2 ["self","kind","price","many","special"] d.Yn d.Qp
 b1_Line_init:Binds K d.Qp ["self","kind","price","many","special"] [.none]
 qg:ClsT K mg "Basket" d.qg
 QG:NoAttr K d.qg "lines"
 Zf:NoAttr K d.qg "carriage"
 QH:NoAttr K d.qg "member"
 QI:MthT K d.qg "__init__" "Basket.__init__" kaR ["self","lines","carriage","member"] d.Yo d.qV
 b1_Basket_init:Binds K d.qV ["self","lines","carriage","member"] [.bool false]
 b2_Basket_init:Binds K d.qV ["self","lines","carriage","member"] [.int 0 d.tok0_Basket_init, .bool false]
 qc:ClsT K mg "Standing" d.qc
 qC:NoAttr K d.qc "owners"
 qw:NoAttr K d.qc "prices"
 qZ:NoAttr K d.qc "carriage"
 qN:NoAttr K d.qc "marked"
 qO:MthT K d.qc "__init__" "Standing.__init__" kbG ["self","basket"] d.Yp d.Yq
 c_Way:ClsT K mg "Way" d.c_Way
 qx:NoAttr K d.c_Way "till"
 q9:NoAttr K d.c_Way "basket"
 QJ:NoAttr K d.c_Way "hand"
 qE:NoAttr K d.c_Way "used"
 Qa:NoAttr K d.c_Way "standing"
 qP:MthT K d.c_Way "__init__" "Way.__init__" kde ["self","till","basket","hand"] d.Yr d.Ys
 qQ:MthT K d.c_Way "word_for" "Way.word_for" kbW ["self","number"] d.Yt d.Yu
 QK:MthT K d.c_Way "behind" "Way.behind" kcl ["self","number"] d.Yv d.Yw
 QL:MthT K d.c_Way "is_let_by" "Way.is_let_by" kbF ["self"] d.Yx d.Yy
 qe:ClsT K mg "Till" d.qe
 QM:NoAttr K d.qe "parents"
 Qb:NoAttr K d.qe "vouchers"
 qF:NoAttr K d.qe "rules"
 ZA:NoAttr K d.qe "back"
 Zg:MthT K d.qe "__init__" "Till.__init__" ka1 ["self","parents","vouchers","rules","back"] d.Yz d.Qq
 b1_Till_init:Binds K d.Qq ["self","parents","vouchers","rules","back"] [.str "again" d.tok0_Till_init]
 QN:BaseT K d.qA "__init__" d.Ql
 ZC:UL K (.ref d.c_Off) (.ref d.qi)=some false
 ZD:UL K (.ref d.qh) (.ref d.qi)=some false
 ZE:UL K (.ref d.qk) (.ref d.qi)=some false
 ZF:UL K (.ref d.qj) (.ref d.qi)=some false
 ZG:UL K (.ref d.qh) (.ref d.c_Off)=some false
 ZH:UL K (.ref d.qk) (.ref d.c_Off)=some false
 ZI:UL K (.ref d.qj) (.ref d.c_Off)=some false
 ZJ:UL K (.ref d.qi) (.ref d.c_Off)=some false
 ZK:UL K (.ref d.c_Off) (.ref d.qh)=some false
 ZL:UL K (.ref d.qk) (.ref d.qh)=some false
 ZM:UL K (.ref d.qj) (.ref d.qh)=some false
 ZN:UL K (.ref d.qi) (.ref d.qh)=some false
 ZO:UL K (.ref d.c_Off) (.ref d.qk)=some false
 ZP:UL K (.ref d.qh) (.ref d.qk)=some false
 ZQ:UL K (.ref d.qj) (.ref d.qk)=some false
 ZR:UL K (.ref d.qi) (.ref d.qk)=some false
 ZS:UL K (.ref d.c_Off) (.ref d.qj)=some false
 ZT:UL K (.ref d.qh) (.ref d.qj)=some false
 ZU:UL K (.ref d.qk) (.ref d.qj)=some false
 ZV:UL K (.ref d.qi) (.ref d.qj)=some false
 code_falling_groups:d.Qk.code=.ref d.cc_falling_groups
 ck_falling_groups:CodeK K d.cc_falling_groups d.tP_falling_groups
structure WB (K:Uv) (mg:Str→Option Value) (d:D) (base:Heap):Prop extends Wld K mg d where
 blt:BltM mg base
end Vs
namespace Vs
open PySem L2 War Kin Deal
noncomputable def LineAt(C:Addr)(H:Hp)(x:Addr)(r:Row):Prop:=∃(dx:Addr)(fs:List (Str×V)),H x=some (.ins C dx fs)∧fs.lookup ("kind" :Str)=some (.int r.kd)∧fs.lookup ("price" :Str)=some (.int r.pr)∧fs.lookup ("many" :Str)=some (.int r.mn)∧fs.lookup ("special" :Str)=some (oV r.ex)
noncomputable abbrev Lines(C:Addr)(H:Hp)(ls:List Addr)(rs:List Row):Prop:=P2 (LineAt C H) ls rs
noncomputable def BaskAt(C:Addr)(H:Hp)(b l:Addr)(cg:Int)(m:Bool):Prop:=∃(dx:Addr)(fs:List (Str×V)),H b=some (.ins C dx fs)∧fs.lookup ("lines" :Str)=some (.ref l)∧fs.lookup ("carriage" :Str)=some (.int cg)∧fs.lookup ("member" :Str)=some (.bl m)
noncomputable def StandAt(C:Addr)(H:Hp)(x o p mk:Addr)(cg:Int):Prop:=∃(dx:Addr)(fs:List (Str×V)),H x=some (.ins C dx fs)∧fs.lookup ("owners" :Str)=some (.ref o)∧fs.lookup ("prices" :Str)=some (.ref p)∧fs.lookup ("carriage" :Str)=some (.int cg)∧fs.lookup ("marked" :Str)=some (.ref mk)∧fs.lookup ("whole" :Str)=none
section
variable {C:Addr} {H H':Hp}
theorem LineAt.same{x:Addr}{r:Row}(s:Same H H'):LineAt C H x r→LineAt C H' x r:=fun⟨dx,fs,h,q⟩=>⟨dx,fs,s _ _ h,q⟩
theorem Lines.same{ls:List Addr}{rs:List Row}(s:Same H H')(h:Lines C H ls rs):Lines C H' ls rs:=h.mono fun _ _ q=>q.same s
theorem BaskAt.same{b l:Addr}{cg:Int}{m:Bool}(s:Same H H'):BaskAt C H b l cg m→BaskAt C H' b l cg m:=fun⟨dx,fs,h,q⟩=>⟨dx,fs,s _ _ h,q⟩
theorem StandAt.same{x o p mk:Addr}{cg:Int}(s:Same H H'):StandAt C H x o p mk cg→StandAt C H' x o p mk cg:=fun⟨dx,fs,h,q⟩=>⟨dx,fs,s _ _ h,q⟩
end
section
variable {H:Hp} {hd:Addr} {xs:List V} {o:HO}
theorem BaskAt.set{C b l:Addr}{cg:Int}{m:Bool}(h:H hd=some (.lst xs)):BaskAt C H b l cg m→BaskAt C (upd H hd o) b l cg m:=fun⟨dx,fs,e,q⟩=>⟨dx,fs,by rw[kaj (ne_of e h (by intro z;cases z))];exact e,q⟩
theorem StandAt.set{C x a b c:Addr}{cg:Int}(h:H hd=some (.lst xs)):StandAt C H x a b c cg→StandAt C (upd H hd o) x a b c cg:=fun⟨dx,fs,e,q⟩=>⟨dx,fs,by rw[kaj (ne_of e h (by intro z;cases z))];exact e,q⟩
theorem LineAt.set{C x:Addr}{r:Row}(h:H hd=some (.lst xs)):LineAt C H x r→LineAt C (upd H hd o) x r:=fun⟨dx,fs,e,q⟩=>⟨dx,fs,by rw[kaj (ne_of e h (by intro z;cases z))];exact e,q⟩
theorem Lines.set{C:Addr}{ls:List Addr}{rs:List Row}(h:H hd=some (.lst xs))(L:Lines C H ls rs):Lines C (upd H hd o) ls rs:=L.mono fun _ _ q=>q.set h
end
structure Bask where
 rs:List Row
 cg:Int
 m:Bool
inductive BaskIs (CL CB:Addr) (H:Hp) (b:Addr) (B:Bask):Prop
 |ct (l:Addr)(ls:List Addr)(_:BaskAt CB H b l B.cg B.m)(_:H l=some (.lst (ls.map V.ref)))(_:Lines CL H ls B.rs):BaskIs CL CB H b B
def BaskIs.same{CL CB:Addr}{H H':Hp}{b:Addr}{B:Bask}(s:Same H H'):BaskIs CL CB H b B→BaskIs CL CB H' b B:=fun⟨l,ls,h1,h2,h3⟩=>⟨l,ls,h1.same s,s _ _ h2,h3.same s⟩
noncomputable def iV(k:Nat):V:=.int (k:Int)
inductive StndIs (CS:Addr) (H:Hp) (x:Addr) (S:Stnd):Prop
 |ct (o p mk:Addr)(_:StandAt CS H x o p mk S.cg)(_:H o=some (.lst (S.ow.map iV)))(_:H p=some (.lst (S.pr.map V.int)))(_:H mk=some (.lst (S.mkd.map V.bl))):StndIs CS H x S
def StndIs.same{CS:Addr}{H H':Hp}{x:Addr}{S:Stnd}(s:Same H H'):StndIs CS H x S→StndIs CS H' x S:=fun⟨o,p,mk,h1,h2,h3,h4⟩=>⟨o,p,mk,h1.same s,s _ _ h2,s _ _ h3,s _ _ h4⟩
def kbY(ns:List Nat):(ns.map iV).all flatV=true:=by
 rw[Nw]
 intro x hx
 obtain⟨n,_,rfl⟩:=UX.mp hx
 rfl
noncomputable def ownN(rs:List Row):List Nat:=(rs.zipIdx.map fun p=>Uw p.1.mn.toNat p.2).flatten
theorem keT(rs:List Row):(own rs).map V.int=(ownN rs).map iV:=by
 unfold own ownN
 generalize rs.zipIdx=l
 induction l with
 |nil=>rfl
 |cons p l ih=>
  rw[UK,U1,UH,ih,UK,U1,UH]
  congr 1
  simp[iV]
def kkC(rs:List Row){l:Nat}(h:l∈ownN rs):l<rs.length:=by
 unfold ownN at h
 obtain⟨xs,h1,h2⟩:=Jx.mp h
 obtain⟨p,h3,rfl⟩:=UX.mp h1
 have e:l=p.2:=(Mg.mp h2).2
 have q:=List.mem_zipIdx h3
 omega
def kjh(rs:List Row)(h:∀r∈rs,r.Ok):(ownN rs).length≤60*rs.length:=by
 have e:(ownN rs).length=(own rs).length:=by
  have:=congrArg Np (keT rs)
  simpa using this.symm
 rw[e]
 exact kia rs h
noncomputable def pV:Option Nat→V
 |none=>.non
 |some k=>.int (k:Int)
def eq_int(a b:Nat):decide (V.int (a:Int)=V.int (b:Int))=decide (a=b):=by
 by_cases h:a=b
 ·subst h;simp
 ·have:¬(V.int (a:Int)=V.int (b:Int)):=by
   intro e
   injection e with e
   omega
  simp[h,this]
theorem kjn{c:Int}{ws:List Int}(h:ws.sum=0):(dl c ws).map V.int=Uw ws.length (V.int 0):=by
 unfold dl
 rw[if_pos h]
 clear h
 induction ws with
 |nil=>rfl
 |cons w ws ih=>simpa[JF] using ih
def kih{c:Int}{ws:List Int}(h:¬ws.sum=0):dl c ws=(Uz ws.length).map (part c ws):=by
 unfold dl
 rw[if_neg h]
inductive khR (K:Uv) (vs:List V) (H:Hp) (Q:VK) (E_:XK):Prop
 |ct (c:Int)(a:Addr)(ws:List Int)(_:vs=[.int c, .ref a])(_:SqL K H a (ws.map V.int))(_:Nn ws)(_:ws.sum<2 ^ 100)(_:0≤c)(_:c<2 ^ 64)(_:ws.length≤1000)(_:∀p,H p=none→Q (.ref p) (upd H p (.lst ((dl c ws).map V.int)))):khR K vs H Q E_
inductive kfQ (K:Uv) (vs:List V) (H:Hp) (Q:VK) (E_:XK):Prop
 |ct (a:Addr)(ps:List (Option Nat))(one other:Nat)(_:vs=[.ref a, .int one, .int other])(_:SqL K H a (ps.map pV))(_:Good ps)(_:one<ps.length)(_:Q (.bl (decide (other∈up ps one))) H):kfQ K vs H Q E_
inductive kfT (C:Addr) (vs:List V) (H:Hp) (Q:VK) (E_:XK):Prop
 |ct (x dx:Addr)(r:Row)(_:vs=[.ref x, .int r.kd, .int r.pr, .int r.mn,oV r.ex])(_:H x=some (.ins C dx []))(_:∀H',But x H H'→LineAt C H' x r→Q .non H'):kfT C vs H Q E_
inductive kfU (K:Uv) (C:Addr) (vs:List V) (H:Hp) (Q:VK) (E_:XK):Prop
 |ct (x dx l:Addr)(cg:Int)(m:Bool)(xs:List V)(_:vs=[.ref x, .ref l, .int cg, .bl m])(_:H x=some (.ins C dx []))(_:SqL K H l xs)(_:∀(H':Hp)(l':Addr),But x H H'→H l'=none→H' l'=some (.lst xs)→BaskAt C H' x l' cg m→Q .non H'):kfU K C vs H Q E_
inductive khL (CL:Addr) (vs:List V) (H:Hp) (Q:VK) (E_:XK):Prop
 |ct (x:Addr)(m:Bool)(r:Row)(_:vs=[.ref x, .bl m])(_:LineAt CL H x r)(_:Q (.int (prc m r)) H):khL CL vs H Q E_
inductive kcN (CL CB CS:Addr) (vs:List V) (H:Hp) (Q:VK) (E_:XK):Prop
 |ct (x dx b l:Addr)(cg:Int)(m:Bool)(ls:List Addr)(rs:List Row)(_:vs=[.ref x, .ref b])(_:H x=some (.ins CS dx []))(_:BaskAt CB H b l cg m)(_:H l=some (.lst (ls.map V.ref)))(_:Lines CL H ls rs)(_:rs.length≤12)(_:(∀r∈rs,r.Ok))(_:∀(H':Hp)(o p mk:Addr),But x H H'→H o=none→H p=none→H mk=none→StandAt CS H' x o p mk cg→H' o=some (.lst ((own rs).map V.int))→H' p=some (.lst ((prs m rs).map V.int))→H' mk=some (.lst (Uw rs.length (.bl false)))→(∃dx fs,H' x=some (.ins CS dx fs)∧fs.length≤10)→Q .non H'):kcN CL CB CS vs H Q E_
structure S3 (H0:Hp) (x C dx:Addr) (fs:List (Str×V)) (o p mk:Addr) (a b c:List V) (H:Hp):Prop where
 bt:But x H0 H
 ob:H x=some (.ins C dx fs)
 ho:H o=some (.lst a)
 hp:H p=some (.lst b)
 hm:H mk=some (.lst c)
structure Ds (H0:Hp) (x o p mk:Addr):Prop where
 fo:H0 o=none
 fp:H0 p=none
 fm:H0 mk=none
 ox:o≠x
 px:p≠x
 mx:mk≠x
 op:o≠p
 om:o≠mk
 pm:p≠mk
section
variable {H0 H H':Hp} {x C dx o p mk:Addr} {fs:List (Str×V)} {a b c d:List V}
theorem S3.same(h:S3 H0 x C dx fs o p mk a b c H)(s:Same H H'):S3 H0 x C dx fs o p mk a b c H':=⟨h.bt.same s,s _ _ h.ob,s _ _ h.ho,s _ _ h.hp,s _ _ h.hm⟩
theorem S3.setO(h:S3 H0 x C dx fs o p mk a b c H)(D:Ds H0 x o p mk):S3 H0 x C dx fs o p mk d b c (upd H o (.lst d)):=
 ⟨fun y u n e=>ka7 (h.bt y u n e) fun u' e'=>ev_eq (by rw[kaj (kai e D.fo)];exact e') fun t=>kdn t (kai e D.fo) (nx h.ho),by rw[kaj D.ox.symm];exact h.ob,kad,by rw[kaj D.op.symm];exact h.hp,by rw[kaj D.om.symm];exact h.hm⟩
theorem S3.setP(h:S3 H0 x C dx fs o p mk a b c H)(D:Ds H0 x o p mk):S3 H0 x C dx fs o p mk a d c (upd H p (.lst d)):=
 ⟨fun y u n e=>ka7 (h.bt y u n e) fun u' e'=>ev_eq (by rw[kaj (kai e D.fp)];exact e') fun t=>kdn t (kai e D.fp) (nx h.hp),by rw[kaj D.px.symm];exact h.ob,by rw[kaj D.op];exact h.ho,kad,by rw[kaj D.pm.symm];exact h.hm⟩
theorem S3.setM(h:S3 H0 x C dx fs o p mk a b c H)(D:Ds H0 x o p mk):S3 H0 x C dx fs o p mk a b d (upd H mk (.lst d)):=
 ⟨fun y u n e=>ka7 (h.bt y u n e) fun u' e'=>ev_eq (by rw[kaj (kai e D.fm)];exact e') fun t=>kdn t (kai e D.fm) (nx h.hm),by rw[kaj D.mx.symm];exact h.ob,by rw[kaj D.om];exact h.ho,by rw[kaj D.pm];exact h.hp,kad⟩
end
end Vs
namespace Vs
open PySem L2 War Kin Deal
noncomputable def MksIs(C:Addr)(H:Hp)(x:Addr)(M:Mks):Prop:=∃(dx:Addr)(fs:List (Str×V)),H x=some (.ins C dx fs)∧fs.lookup ("kind" :Str)=some (pV M.kind)∧fs.lookup ("needs" :Str)=some (.int M.needs)∧fs.lookup ("most" :Str)=some (oV M.most)∧fs.lookup ("member" :Str)=some (.bl M.member)∧fs.lookup ("once" :Str)=some (.bl M.once)∧fs.lookup ("lone" :Str)=some (.bl M.lone)
def MksIs.same{C:Addr}{H H':Hp}{x:Addr}{M:Mks}(s:Same H H'):MksIs C H x M→MksIs C H' x M:=fun⟨dx,fs,h,q⟩=>⟨dx,fs,s _ _ h,q⟩
noncomputable def SrtIs(fs:List (Str×V)):Srt→Prop
 | .off a=>fs.lookup ("amount" :Str)=some (.int a)
 | .share s b=>fs.lookup ("share" :Str)=some (.int s)∧fs.lookup ("by_line" :Str)=some (.bl b)
 | .cheap n=>fs.lookup ("many" :Str)=some (.int n)
 | .bund n p=>fs.lookup ("many" :Str)=some (.int n)∧fs.lookup ("price" :Str)=some (.int p)
 | .carr=>True
noncomputable def clsOf(d:D):Srt→Addr
 | .off _=>d.c_Off
 | .share _ _=>d.qh
 | .cheap _=>d.qk
 | .bund _ _=>d.qj
 | .carr=>d.qi
noncomputable def here:Srt→Bool
 | .off _=>true
 | .share _ _=>true
 | .cheap _=>true
 | .bund _ _=>true
 | .carr=>true
noncomputable def kkW:Srt→Bool
 | .off _=>true
 | .share _ _=>false
 | .cheap _=>false
 | .bund _ _=>false
 | .carr=>false
noncomputable def kiY:Srt→Bool
 | .off _=>false
 | .share _ _=>true
 | .cheap _=>false
 | .bund _ _=>false
 | .carr=>false
noncomputable def kfN:Srt→Bool
 | .off _=>false
 | .share _ _=>false
 | .cheap _=>true
 | .bund _ _=>false
 | .carr=>false
noncomputable def khs:Srt→Bool
 | .off _=>false
 | .share _ _=>false
 | .cheap _=>false
 | .bund _ _=>true
 | .carr=>false
noncomputable def kbv:Srt→Bool
 | .off _=>false
 | .share _ _=>false
 | .cheap _=>false
 | .bund _ _=>false
 | .carr=>true
noncomputable def Tbs(d:D)(H:Hp):Prop:=TbAt d.tP_falling_groups H
def Tbs.same{d:D}{H H':Hp}(s:Same H H')(h:Tbs d H):Tbs d H':=s.tb h
inductive VchIs (d:D) (H:Hp) (v:Addr) (V:Vch):Prop
 |ct (mA dx:Addr)(fs:List (Str×L2.V))(_:H v=some (.ins (clsOf d V.so) dx fs))(_:fs.lookup ("marks" :Str)=some (.ref mA))(_:SrtIs fs V.so)(_:MksIs d.qd H mA V.ms)(_:here V.so=true)(_:Tbs d H):VchIs d H v V
def VchIs.same{d:D}{H H':Hp}{v:Addr}{V:Vch}(s:Same H H'):VchIs d H v V→VchIs d H' v V:=fun⟨mA,dx,fs,h1,h2,h3,h4,h5,h6⟩=>⟨mA,dx,fs,s _ _ h1,h2,h3,h4.same s,h5,h6.same s⟩
noncomputable def kds(B:Bask):List Nat:=B.rs.map fun r=>r.kd.toNat
structure Wf (ps:List (Option Nat)) (B:Bask) (S:Stnd):Prop where
 good:Good ps
 pl:ps.length≤20
 kd:∀r∈B.rs,0≤r.kd∧r.kd<(ps.length:Int)
 ok:∀r∈B.rs,r.Ok
 nl:B.rs.length≤12
 bc:0≤B.cg∧B.cg≤1000000000000
 ow:S.ow=ownN B.rs
 lp:S.pr.length=S.ow.length
 lm:S.mkd.length=B.rs.length
 pr:∀z∈S.pr,0≤z∧z≤1000000000000
 cg:0≤S.cg∧S.cg≤1000000000000
 n64:S.ow.length<64
def Wf.np{ps:List (Option Nat)}{B:Bask}{S:Stnd}(W:Wf ps B S):S.ow.length≤720:=by
 have:=kjh B.rs W.ok
 have:=W.nl
 rw[W.ow]
 omega
def Wf.line{ps:List (Option Nat)}{B:Bask}{S:Stnd}(W:Wf ps B S){i l:Nat}(h:S.ow[i]?=some l):l<B.rs.length:=by
 have hm:=UE h
 rw[W.ow] at hm
 exact kkC _ hm
structure MksOk (ps:List (Option Nat)) (M:Mks):Prop where
 kind:∀k,M.kind=some k→k<ps.length
 needs:0≤M.needs∧M.needs≤1000000000000
 most:∀m,M.most=some m→0≤m∧m≤1000000000000
noncomputable def mks0:Mks:=⟨none,0,none,false,false,false⟩
noncomputable def khE:Srt→List V
 | .off a=>[.int a]
 | .share s b=>[.int s, .bl b]
 | .cheap n=>[.int n]
 | .bund n p=>[.int n, .int p]
 | .carr=>[]
noncomputable def Mrk(CM:Addr)(H:Hp)(mv:V)(H':Hp)(mA:Addr):Prop:=mv=.ref mA∨(mv=.non∧H mA=none∧MksIs CM H' mA mks0)
def MksIs.but{C x mA:Addr}{H H':Hp}{M:Mks}(n:mA≠x)(b:But x H H'):MksIs C H mA M→MksIs C H' mA M:=fun⟨dx,fs,h,q⟩=>⟨dx,fs,b _ _ n h,q⟩
theorem Mrk.but{CM x mA:Addr}{H H1 H2:Hp}{mv:V}{o:HO}(hx:H x=some o)(b:But x H1 H2):Mrk CM H mv H1 mA→Mrk CM H mv H2 mA
 | .inl e=>.inl e
 | .inr ⟨e,f,h⟩=>.inr ⟨e,f,h.but (kai hx f).symm b⟩
inductive keG (C:Addr) (vs:List V) (H:Hp) (Q:VK) (E_:XK):Prop
 |ct (x dx:Addr)(M:Mks)(_:vs=[.ref x,pV M.kind, .int M.needs,oV M.most, .bl M.member, .bl M.once, .bl M.lone])(_:H x=some (.ins C dx []))(_:∀H',But x H H'→MksIs C H' x M→Q .non H'):keG C vs H Q E_
inductive kei (K:Uv) (CM:Addr) (vs:List V) (H:Hp) (Q:VK) (E_:XK):Prop
 |ct (x C dx:Addr)(fs:List (Str×V))(mv:V)(_:vs=[.ref x,mv])(_:H x=some (.ins C dx fs))(_:Cls K C)(_:NoAttr K C "marks")(_:fs.length≤5)(_:(mv=.non∨∃mA,mv=.ref mA))(_:∀(H':Hp)(mA:Addr),But x H H'→Mrk CM H mv H' mA→H' x=some (.ins C dx (putF "marks" (.ref mA) fs))→Q .non H'):kei K CM vs H Q E_
inductive kej (C CM:Addr) (is:Srt→Prop) (vs:List V) (H:Hp) (Q:VK) (E_:XK):Prop
 |ct (x dx:Addr)(so:Srt)(mv:V)(_:is so)(_:vs=.ref x::(khE so++[mv]))(_:H x=some (.ins C dx []))(_:(mv=.non∨∃mA,mv=.ref mA))(_:∀(H':Hp)(mA:Addr)(fs:List (Str×V)),But x H H'→Mrk CM H mv H' mA→H' x=some (.ins C dx fs)→fs.lookup ("marks" :Str)=some (.ref mA)→SrtIs fs so→Q .non H'):kej C CM is vs H Q E_
theorem kgU{C:Addr}{H:Hp}{M:Mks}{R:Addr→Hp→Prop}{E:XK}(k:∀(H':Hp)(x:Addr),Same H H'→H x=none→MksIs C H' x M→R x H'):
  ∀x dx,H x=none→H dx=none→dx≠x→keG C [.ref x,pV M.kind, .int M.needs,oV M.most, .bl M.member, .bl M.once, .bl M.lone] (upd (upd H dx (.own x)) x (.ins C dx [])) (fun v H2=>v=.non∧R x H2) E:=
 fun x dx nx nd _=>⟨x,dx,M,rfl,kad,fun H' b l=>⟨rfl,k H' x (kbt nx nd b) nx l⟩⟩
def kif{d:D}{H:Hp}{so:Srt}{mA:Addr}{M:Mks}{is:Srt→Prop}{R:Addr→Hp→Prop}{E:XK}(hi:is so)(hh:here so=true)(hM:MksIs d.qd H mA M)(k:∀(H':Hp)(x:Addr),Same H H'→H x=none→VchIs d H' x ⟨so,M⟩→R x H')(htb:Tbs d H:=by assumption):
  ∀x dx,H x=none→H dx=none→dx≠x→kej (clsOf d so) d.qd is (.ref x::(khE so++[.ref mA])) (upd (upd H dx (.own x)) x (.ins (clsOf d so) dx [])) (fun v H2=>v=.non∧R x H2) E:=
 fun x dx nx nd _=>⟨x,dx,so, .ref mA,hi,rfl,kad, .inr ⟨mA,rfl⟩,fun H' mA' fs b hm h1 h2 h3=>by
  have e:mA'=mA:=by
   rcases hm with e|⟨e,_⟩
   ·injection e with e
    exact e.symm
   ·cases e
  subst e
  exact⟨rfl,k H' x (kbt nx nd b) nx ⟨mA',dx,fs,h1,h2,h3,hM.same (kbt nx nd b),hh,htb.same (kbt nx nd b)⟩⟩⟩
def kkJ{K:Uv}{d:D}{H:Hp}{mA:Addr}{M:Mks}{R:Addr→Hp→Prop}{E:XK}(_:Cls K d.qi)(_:NoAttr K d.qi "marks")(hM:MksIs d.qd H mA M)(k:∀(H':Hp)(x:Addr),Same H H'→H x=none→VchIs d H' x ⟨.carr,M⟩→R x H')(htb:Tbs d H:=by assumption):
  ∀x dx,H x=none→H dx=none→dx≠x→kej d.qi d.qd (fun so=>so=.carr) [.ref x, .ref mA] (upd (upd H dx (.own x)) x (.ins d.qi dx [])) (fun v H2=>v=.non∧R x H2) E:=kif (so:=.carr) (is:=fun so=>so=.carr) rfl rfl hM k htb
end Vs
namespace Vs
open PySem L2 War Kin Deal
def sN{t u:TS}{D:Ends}{σ:St}{H:Hp}(h:∀N:St→Hp→Prop,(∀σ' H',u D σ' H'→N σ' H')→t {D with nx:=N} σ H):tSeq t u D σ H:=h (u D) fun _ _ q=>q
theorem kkI{CL:Addr}{H:Hp}{r:Row}{R:Addr→Hp→Prop}{E:XK}(k:∀(H':Hp)(x:Addr),Same H H'→H x=none→LineAt CL H' x r→R x H'):
  ∀x dx,H x=none→H dx=none→dx≠x→kfT CL [.ref x, .int r.kd, .int r.pr, .int r.mn,oV r.ex] (upd (upd H dx (.own x)) x (.ins CL dx [])) (fun v H2=>v=.non∧R x H2) E:=
 fun x dx nx nd _=>⟨x,dx,r,rfl,kad,fun H' b l=>⟨rfl,k H' x (kbt nx nd b) nx l⟩⟩
theorem kkK{K:Uv}{CB:Addr}{H:Hp}{l:Addr}{cg:Int}{m:Bool}{xs:List V}{R:Addr→Hp→Prop}{E:XK}(hl:SqL K H l xs)(k:∀(H':Hp)(x l':Addr),Same H H'→H x=none→H l'=none→H' l'=some (.lst xs)→BaskAt CB H' x l' cg m→R x H'):
  ∀x dx,H x=none→H dx=none→dx≠x→kfU K CB [.ref x, .ref l, .int cg, .bl m] (upd (upd H dx (.own x)) x (.ins CB dx [])) (fun v H2=>v=.non∧R x H2) E:=
 fun x dx nx nd _=>⟨x,dx,l,cg,m,xs,rfl,kad,(kbf nx nd).seq hl,fun H' l' b n h1 h2=>⟨rfl,k H' x l' (kbt nx nd b) nx (kc0 n) h1 h2⟩⟩
theorem kjm{CL CB CS:Addr}{H:Hp}{b l:Addr}{cg:Int}{m:Bool}{ls:List Addr}{rs:List Row}{R:Addr→Hp→Prop}{E:XK}(hb:BaskAt CB H b l cg m)(hl:H l=some (.lst (ls.map V.ref)))(hL:Lines CL H ls rs)(hn:rs.length≤12)(hok:∀r∈rs,r.Ok)
  (k:∀(H':Hp)(x o p mk:Addr),Same H H'→H x=none→H o=none→H p=none→H mk=none→StandAt CS H' x o p mk cg→H' o=some (.lst ((own rs).map V.int))→H' p=some (.lst ((prs m rs).map V.int))→H' mk=some (.lst (Uw rs.length (.bl false)))→R x H'):
  ∀x dx,H x=none→H dx=none→dx≠x→kcN CL CB CS [.ref x, .ref b] (upd (upd H dx (.own x)) x (.ins CS dx [])) (fun v H2=>v=.non∧R x H2) E:=
 fun x dx nx nd _=>⟨x,dx,b,l,cg,m,ls,rs,rfl,kad,hb.same (kbf nx nd),kfB nx nd hl,hL.same (kbf nx nd),hn,hok,fun H' o p mk bt n1 n2 n3 S h1 h2 h3 _=>⟨rfl,k H' x o p mk (kbt nx nd bt) nx (kc0 n1) (kc0 n2) (kc0 n3) S h1 h2 h3⟩⟩
structure VchOk (ps:List (Option Nat)) (V:Vch):Prop where
 so:SrtOk V.so
 ms:MksOk ps V.ms
noncomputable def stnd0(B:Bask):Stnd:=⟨ownN B.rs,prs B.m B.rs,B.cg,Uw B.rs.length false⟩
theorem kkH{CL CB CS:Addr}{H:Hp}{b:Addr}{B:Bask}{R:Addr→Hp→Prop}{E:XK}(hb:BaskIs CL CB H b B)(hn:B.rs.length≤12)(hok:∀r∈B.rs,r.Ok)(k:∀(H':Hp)(x:Addr),Same H H'→H x=none→StndIs CS H' x (stnd0 B)→R x H'):
  ∀x dx,H x=none→H dx=none→dx≠x→kcN CL CB CS [.ref x, .ref b] (upd (upd H dx (.own x)) x (.ins CS dx [])) (fun v H2=>v=.non∧R x H2) E:=by
 obtain⟨l,ls,h1,h2,h3⟩:=hb
 refine kjm h1 h2 h3 hn hok fun H' x o p mk s f1 _ _ _ hS ho hp hm=>k H' x s f1 ⟨o,p,mk,hS,?_,hp,?_⟩
 ·rw[ho,keT]
  rfl
 ·rw[hm]
  show _=some (HO.lst ((Uw B.rs.length false).map V.bl))
  rw[List.map_replicate]
def kh2{m:Bool}{r:Row}(h:r.Ok):0≤prc m r∧prc m r≤1000000000000:=by
 unfold prc
 split
 ·cases e:r.ex with
  |none=>exact⟨h.pr0,h.pr1⟩
  |some z=>exact h.ex0 z e
 ·exact⟨h.pr0,h.pr1⟩
theorem kgK(m:Bool):∀(rs:List Row)(k:Nat),(rs.map fun r=>Uw r.mn.toNat (prc m r)).flatten.length=((rs.zipIdx k).map fun p=>Uw p.1.mn.toNat (p.2:Int)).flatten.length
 |[],_=>by simp
 |r::rs,k=>by
  rw[Nb,UK,U1,UY,Jn,UK,U1,UY,Jn,kgK m rs (k+1)]
def kh0(m:Bool)(rs:List Row):(prs m rs).length=(ownN rs).length:=by
 have e:(ownN rs).length=(own rs).length:=by
  have:=congrArg Np (keT rs)
  simpa using this.symm
 rw[e]
 exact kgK m rs 0
def Wf.start{ps:List (Option Nat)}{B:Bask}(g:Good ps)(pl:ps.length≤20)(kd:∀r∈B.rs,0≤r.kd∧r.kd<(ps.length:Int))(ok:∀r∈B.rs,r.Ok)(nl:B.rs.length≤12)(bc:0≤B.cg∧B.cg≤1000000000000)(n64:(ownN B.rs).length<64):Wf ps B (stnd0 B):=by
 refine⟨g,pl,kd,ok,nl,bc,rfl,kh0 _ _,by simp[stnd0],fun z hz=>?_,bc,n64⟩
 obtain⟨xs,h1,h2⟩:=Jx.mp hz
 obtain⟨r,hr,rfl⟩:=UX.mp h1
 rw[(Mg.mp h2).2]
 exact kh2 (ok r hr)
def Wf.nn{ps:List (Option Nat)}{B:Bask}{S:Stnd}(W:Wf ps B S):Nn S.pr:=fun z hz=>(W.pr z hz).1
def Wf.after{ps:List (Option Nat)}{B:Bask}{S:Stnd}{V:Vch}(W:Wf ps B S)(O:VchOk ps V):Wf ps B (aftM V ps (kds B) S):=by
 have h:=klq (V:=V) (ps:=ps) (kk:=kds B) W.nn W.cg.1 O.so fun m e=>(O.ms.most m e).1
 refine⟨W.good,W.pl,W.kd,W.ok,W.nl,W.bc,W.ow,h.1.1.trans W.lp,by rw[←W.lm];simp[aftM],fun z hz=>?_,⟨h.2.1,Int.le_trans h.2.2 W.cg.2⟩,W.n64⟩
 obtain⟨j,e1⟩:=JU.mp hz
 have hj:j<S.pr.length:=by
  rw[←h.1.1]
  exact(UG.mp e1).1
 have e2:S.pr[j]?=some S.pr[j]:=by simp[hj]
 have b:=h.1.2 j z _ e1 e2
 have c:=W.pr _ (UE e2)
 exact⟨b.1,Int.le_trans b.2 c.2⟩
inductive khV (K:Uv) (d:D) (vs:List V) (H:Hp) (Q:VK) (E_:XK):Prop
 |ct (v a b x:Addr)(V:Vch)(ps:List (Option Nat))(B:Bask)(S:Stnd)(_:vs=[.ref v, .ref a, .ref b, .ref x])(_:VchIs d H v V)(_:SqL K H a (ps.map pV))(_:BaskIs d.qf d.qg H b B)(_:StndIs d.qc H x S)(_:Wf ps B S)(_:VchOk ps V)(_:∀(H':Hp)(p:Addr),Same H H'→H p=none→H' p=some (.lst ((abt ps (kds B) V.ms.kind V.ms.lone S).map iV))→Q (.ref p) H'):khV K d vs H Q E_
inductive khU (K:Uv) (d:D) (vs:List V) (H:Hp) (Q:VK) (E_:XK):Prop
 |ct (v a b x:Addr)(V:Vch)(ps:List (Option Nat))(B:Bask)(S:Stnd)(_:vs=[.ref v, .ref a, .ref b, .ref x])(_:VchIs d H v V)(_:SqL K H a (ps.map pV))(_:BaskIs d.qf d.qg H b B)(_:StndIs d.qc H x S)(_:Wf ps B S)(_:VchOk ps V)(_:∀(H':Hp)(x':Addr),Same H H'→H x'=none→StndIs d.qc H' x' (aftM V ps (kds B) S)→Q (.ref x') H'):khU K d vs H Q E_
theorem cl_of{K:Uv}{mg:Str→Option Value}{d:D}{base:Heap}(W:WB K mg d base):∀{so:Srt},here so=true→Cls K (clsOf d so)
 | .off _,h=>W.c_Off.cl
 | .share _ _,h=>W.qh.cl
 | .cheap _,h=>W.qk.cl
 | .bund _ _,h=>W.qj.cl
 | .carr,h=>W.qi.cl
theorem na_of{K:Uv}{mg:Str→Option Value}{d:D}{base:Heap}(W:WB K mg d base):∀{so:Srt},here so=true→NoAttr K (clsOf d so) "marks"
 | .off _,h=>W.Za
 | .share _ _,h=>W.Zd
 | .cheap _,h=>W.Zu
 | .bund _ _,h=>W.Zy
 | .carr,h=>W.QA
theorem kka{K:Uv}{mg:Str→Option Value}{d:D}{base:Heap}(W:WB K mg d base):∀{so:Srt},here so=true→Isi K (clsOf d so)
 | .off _,h=>W.c_Off.isi
 | .share _ _,h=>W.qh.isi
 | .cheap _,h=>W.qk.isi
 | .bund _ _,h=>W.qj.isi
 | .carr,h=>W.qi.isi
theorem kfC{K:Uv}{mg:Str→Option Value}{d:D}{base:Heap}(W:WB K mg d base):∀{so:Srt},here so=true→UL K (.ref (clsOf d so)) (.ref d.qi)=some (kbv so)
 | .off _,h=>W.ZC
 | .share _ _,h=>W.ZD
 | .cheap _,h=>W.ZE
 | .bund _ _,h=>W.ZF
 | .carr,h=>kaU _ _
theorem kkL{K:Uv}{mg:Str→Option Value}{d:D}{base:Heap}(W:WB K mg d base):∀{so:Srt},here so=true→UL K (.ref (clsOf d so)) (.ref d.c_Off)=some (kkW so)
 | .off _,h=>kaU _ _
 | .share _ _,h=>W.ZG
 | .cheap _,h=>W.ZH
 | .bund _ _,h=>W.ZI
 | .carr,h=>W.ZJ
theorem kc3{K:Uv}{mg:Str→Option Value}{d:D}{base:Heap}(W:WB K mg d base):∀{so:Srt},here so=true→UL K (.ref (clsOf d so)) (.ref d.qh)=some (kiY so)
 | .off _,h=>W.ZK
 | .share _ _,h=>kaU _ _
 | .cheap _,h=>W.ZL
 | .bund _ _,h=>W.ZM
 | .carr,h=>W.ZN
theorem kcs{K:Uv}{mg:Str→Option Value}{d:D}{base:Heap}(W:WB K mg d base):∀{so:Srt},here so=true→UL K (.ref (clsOf d so)) (.ref d.qk)=some (kfN so)
 | .off _,h=>W.ZO
 | .share _ _,h=>W.ZP
 | .cheap _,h=>kaU _ _
 | .bund _ _,h=>W.ZQ
 | .carr,h=>W.ZR
theorem ket{K:Uv}{mg:Str→Option Value}{d:D}{base:Heap}(W:WB K mg d base):∀{so:Srt},here so=true→UL K (.ref (clsOf d so)) (.ref d.qj)=some (khs so)
 | .off _,h=>W.ZS
 | .share _ _,h=>W.ZT
 | .cheap _,h=>W.ZU
 | .bund _ _,h=>kaU _ _
 | .carr,h=>W.ZV
theorem kc9{b:Int}:∀{q:List Int},(∀z∈q,z≤b)→q.sum≤b*q.length
 |[],_=>by simp
 |z::q,h=>by
  have h1:=h z UW
  have h2:=kc9 (q:=q) fun x hx=>h x (UV _ hx)
  rw[NI,Jb]
  have e:b*((q.length+1:Nat):Int)=b*q.length+b:=by rw[Int.natCast_add,Int.mul_add];simp
  omega
def kgH{ps:List (Option Nat)}{B:Bask}{S:Stnd}(wf:Wf ps B S){ab:List Nat}(hl:ab.length≤720)(hb:∀i∈ab,i<S.pr.length):(qs S.pr ab).sum≤720000000000000:=by
 have h:=kc9 (b:=1000000000000) (q:=qs S.pr ab) fun z hz=>by
  obtain⟨i,hi,rfl⟩:=UX.mp hz
  obtain⟨w,ew⟩:=at_of (hb i hi)
  rw[UF,ew]
  exact(wf.pr w (UE ew)).2
 rw[kbq] at h
 omega
def kkU(xs:List V)(i k:Nat):cutV xs (some (i:Int)) (some ((i+k:Nat):Int))=(xs.drop i).take k:=by
 unfold cutV
 rw[HT.sIx_nat,HT.sIx_nat]
 by_cases h:i≤xs.length
 ·rw[NJ h,Ml,Nq]
  omega
 ·rw[Ms (by omega),Ms (by omega)]
  simp
def kiW{α:Type}{xs:List α}{v: α}(h:xs[xs.length-1]?=some v)(h0:0<xs.length):atI xs (-1)=some v:=by
 unfold atI ixN
 rw[if_neg (by omega),if_pos (by omega)]
 show xs[(-1+(xs.length:Int)).toNat]?=some v
 rw[show(-1+(xs.length:Int)).toNat=xs.length-1 by omega]
 exact h
def kgD{H0 H1 H2:Hp}{x:Addr}(f:H0 x=none)(s:Same H0 H1)(b:But x H1 H2):Same H0 H2:=fun y u e=>ka7 (s y u e) fun u' e'=>b y u' (kai e f) e'
noncomputable def hindM(V:Vch)(ps:List (Option Nat))(B:Bask)(S:Stnd):L2.V:=
 if(V.ms.member&& !B.m)=true then .str "member" else if(abt ps (kds B) V.ms.kind V.ms.lone S).length=0 then .str "nothing" else if(qs S.pr (abt ps (kds B) V.ms.kind V.ms.lone S)).sum<V.ms.needs then .str "needs" else .non
inductive kjS (K:Uv) (d:D) (vs:List V) (H:Hp) (Q:VK) (E_:XK):Prop
 |ct (v a b x:Addr)(V:Vch)(ps:List (Option Nat))(B:Bask)(S:Stnd)(_:vs=[.ref v, .ref a, .ref b, .ref x])(_:VchIs d H v V)(_:SqL K H a (ps.map pV))(_:BaskIs d.qf d.qg H b B)(_:StndIs d.qc H x S)(_:Wf ps B S)(_:VchOk ps V)(_:∀(H':Hp),Same H H'→Q (hindM V ps B S) H'):kjS K d vs H Q E_
noncomputable def atM(m:Option Int)(n:Int):Int:=match m with
 |none=>n
 |some m=>min m n
def none_of{H H':Hp}(s:Same H H'){p:Addr}(h:H' p=none):H p=none:=s.free h
def kiU{x:Addr}{H H':Hp}(b:But x H H')(n:H x=none):Same H H':=fun y u e=>b y u (kai e n) e
theorem kig{CL CB CS:Addr}{H:Hp}{b l:Addr}{cg:Int}{m:Bool}{ls:List Addr}{rs:List Row}{R:Addr→Hp→Prop}{E:XK}(hb:BaskAt CB H b l cg m)(hl:H l=some (.lst (ls.map V.ref)))(hL:Lines CL H ls rs)(hn:rs.length≤12)(hok:∀r∈rs,r.Ok)
  (k:∀(H':Hp)(x:Addr),Same H H'→H x=none→∀(dx:Addr)(fs:List (Str×V)),H' x=some (.ins CS dx fs)→fs.length≤10→fs.lookup ("whole" :Str)=none→R x H'):
  ∀x dx,H x=none→H dx=none→dx≠x→kcN CL CB CS [.ref x, .ref b] (upd (upd H dx (.own x)) x (.ins CS dx [])) (fun v H2=>v=.non∧R x H2) E:=
 fun x dx nx nd _=>⟨x,dx,b,l,cg,m,ls,rs,rfl,kad,hb.same (kbf nx nd),kfB nx nd hl,hL.same (kbf nx nd),hn,hok,fun H' o p mk bt n1 n2 n3 S h1 h2 h3 fw=>by
  obtain⟨dx',fs,e,hf⟩:=fw
  obtain⟨dx2,fs2,e2,_,_,_,_,hw⟩:=S
  rw[e] at e2
  injection e2 with e2
  injection e2 with _ e3 e4
  subst e4
  exact⟨rfl,k H' x (kbt nx nd bt) nx dx' fs e hf hw⟩⟩
theorem kkR{V:Vch}{ps:List (Option Nat)}{kk:List Nat}{S:Stnd}(vo:VchOk ps V):(cutM V ps kk S).2=if kbv V.so=true then atM V.ms.most S.cg else 0:=by
 have hm:=vo.ms.most
 unfold cutM
 simp only
 cases e:V.ms.most with
 |none=>
  unfold cap atM
  simp only
  unfold fee kbv
  cases V.so <;> rfl
 | some m=>
  have h0:=(hm m e).1
  unfold cap atM
  simp only
  cases eso:V.so with
  | carr=>
   have hz:(want .carr S.mkd.length ((abt ps kk V.ms.kind V.ms.lone S).map fun i=>S.ow.getD i 0) (qs S.pr (abt ps kk V.ms.kind V.ms.lone S))).sum=0:=by
    unfold want
    simp
   show(if m<_+S.cg then _ else _:List Int×Int).2=min m S.cg
   rw[hz,Int.zero_add]
   split
   ·show min S.cg m=_
    omega
   ·show S.cg=_
    omega
  | _=>
   show(if m<_+0 then(_,min 0 m) else(_,0):List Int×Int).2=0
   split
   ·show min 0 m=0
    omega
   ·rfl
def kj9{B:Bask}{l:Nat}{r:Row}(h:B.rs[l]?=some r):(kds B).getD l 0=r.kd.toNat:=by
 unfold kds
 rw[UF,UD,h]
 rfl
theorem ke7{ps:List (Option Nat)}{kk:List Nat}{kind:Option Nat}{lone:Bool}{S:Stnd}{i:Nat}:
  (Uz (i+1)).filter (fun i=>hits ps kk kind lone S.mkd (S.ow.getD i 0))=(Uz i).filter (fun i=>hits ps kk kind lone S.mkd (S.ow.getD i 0))++(if hits ps kk kind lone S.mkd (S.ow.getD i 0)=true then [i] else []):=by
 rw[JB,Ng]
 congr 1
 simp only[N9,List.filter_nil]
noncomputable def GrpAt(H H':Hp)(pa:Addr)(t:Addr)(q:Int×List Nat):Prop:=∃ga,H' t=some (.tup [.int q.1, .ref ga])∧H' ga=some (.lst (q.2.map iV))∧(ga=pa∨H ga=none)
inductive kgw (d:D) (vs:List V) (H:Hp) (Q:VK) (E_:XK):Prop
 |ct (v x pa:Addr) (V:Vch) (ps:List (Option Nat)) (B:Bask) (S:Stnd) (_:vs=[.ref v, .ref x, .ref pa]) (_:VchIs d H v V) (_:StndIs d.qc H x S) (_:H pa=some (.lst ((abt ps (kds B) V.ms.kind V.ms.lone S).map iV))) (_:Wf ps B S) (_:VchOk ps V) (_:∀(H':Hp) (p:Addr) (tl:List Addr) (gl:List (Int×List Nat)),Same H H'→H p=none→H' p=some (.lst (tl.map L2.V.ref))→P2 (GrpAt H H' pa) tl gl→(∀c g,(c,g)∈gl→0≤c∧c≤(qs S.pr g).sum∧g.length≤720)→(gl.map Prod.snd).flatten.Nodup→(∀i∈(gl.map Prod.snd).flatten,i<S.pr.length)→gl.length≤720→
  spr S.pr.length (gl.map Prod.snd).flatten (gl.map fun p=>dl p.1 (qs S.pr p.2)).flatten=spr S.pr.length (abt ps (kds B) V.ms.kind V.ms.lone S) (want V.so S.mkd.length ((abt ps (kds B) V.ms.kind V.ms.lone S).map fun i=>S.ow.getD i 0) (qs S.pr (abt ps (kds B) V.ms.kind V.ms.lone S)))→Q (.ref p) H'):kgw d vs H Q E_
def kaI{H H':Hp}{p:Addr}{o:HO}(h:upd H p o=H')(f:H p=none):Same H H'∧H' p=some o:=by
 subst h
 exact⟨kak f,kad⟩
theorem But.free{x l:Addr}{H H':Hp}{o:HO}(b:But x H H')(hx:H' x=some o)(h:H' l=none):H l=none:=by
 cases q:H l with
 |none=>rfl
 |some u=>
  obtain⟨o',e'⟩:=ke4 (b l u (kai hx h).symm q)
  rw[e'] at h
  cases h
structure Rul where
 w:Str
 a:Nat
 b:Nat
structure TillD where
 ps:List (Option Nat)
 vs:List Vch
 rs:List Rul
 bk:Str
noncomputable def RulIs(H:Hp)(a:Addr)(r:Rul):Prop:=H a=some (.tup [.str r.w,iV r.a,iV r.b])
inductive TillIs (d:D) (H:Hp) (t:Addr) (T:TillD):Prop
 |ct (dx:Addr)(fs:List (Str×V))(p vl rl:Addr)(va ra:List Addr)(_:H t=some (.ins d.qe dx fs))(_:fs.lookup ("parents" :Str)=some (.ref p))(_:fs.lookup ("vouchers" :Str)=some (.ref vl))(_:fs.lookup ("rules" :Str)=some (.ref rl))(_:fs.lookup ("back" :Str)=some (.str T.bk))(_:H p=some (.lst (T.ps.map pV)))(_:H vl=some (.lst (va.map V.ref)))(_:P2 (fun a V=>VchIs d H a V) va T.vs)(_:H rl=some (.lst (ra.map V.ref)))(_:P2 (fun a r=>RulIs H a r) ra T.rs):TillIs d H t T
def TillIs.same{d:D}{H H':Hp}{t:Addr}{T:TillD}(s:Same H H'):TillIs d H t T→TillIs d H' t T:=fun⟨dx,fs,p,vl,rl,va,ra,h1,h2,h3,h4,h5,h6,h7,h8,h9,h10⟩=>
 ⟨dx,fs,p,vl,rl,va,ra,s _ _ h1,h2,h3,h4,h5,s _ _ h6,s _ _ h7,h8.mono fun a V h=>h.same s,s _ _ h9,h10.mono fun a r h=>s _ _ h⟩
structure ki1 (T:TillD):Prop where
 vs:∀V∈T.vs,VchOk T.ps V
 nv:T.vs.length≤8
inductive WayAt (d:D) (m:Nat) (H:Hp) (w t b x:Addr) (hand:List Int) (used:List Nat):Prop
 |ct (dx:Addr)(fs:List (Str×V))(h u:Addr)(_:H w=some (.ins d.c_Way dx fs))(_:fs.lookup ("till" :Str)=some (.ref t))(_:fs.lookup ("basket" :Str)=some (.ref b))(_:fs.lookup ("hand" :Str)=some (.ref h))(_:fs.lookup ("used" :Str)=some (.ref u))(_:fs.lookup ("standing" :Str)=some (.ref x))(_:fs.lookup ("word_for" :Str)=none)(_:fs.lookup ("behind" :Str)=none)(_:fs.lookup ("is_let_by" :Str)=none)(_:fs.lookup ("followers" :Str)=none)(_:fs.length≤m)(_:H h=some (.lst (hand.map V.int)))(_:H u=some (.lst (used.map iV))):WayAt d m H w t b x hand used
noncomputable abbrev WayIs(d:D)(H:Hp)(w t b x:Addr)(hand:List Int)(used:List Nat):Prop:=WayAt d 7 H w t b x hand used
def WayAt.most{d:D}{m m':Nat}{H:Hp}{w t b x:Addr}{hand:List Int}{used:List Nat}(hm:m≤m'):WayAt d m H w t b x hand used→WayAt d m' H w t b x hand used:=fun⟨dx,fs,h,u,h1,h2,h3,h4,h5,h6,h7,h8,h9,h10,h11,h12,h13⟩=>
 ⟨dx,fs,h,u,h1,h2,h3,h4,h5,h6,h7,h8,h9,h10,UA h11 hm,h12,h13⟩
def WayAt.same{d:D}{m:Nat}{H H':Hp}{w t b x:Addr}{hand:List Int}{used:List Nat}(s:Same H H'):WayAt d m H w t b x hand used→WayAt d m H' w t b x hand used:=fun⟨dx,fs,h,u,h1,h2,h3,h4,h5,h6,h7,h8,h9,h10,h11,h12,h13⟩=>
 ⟨dx,fs,h,u,s _ _ h1,h2,h3,h4,h5,h6,h7,h8,h9,h10,h11,s _ _ h12,s _ _ h13⟩
noncomputable def nevR(used:List Nat)(n:Nat)(r:Rul):Bool:=decide (r.w=("never" :Str))&&((decide (r.a=n)&&used.contains r.b)||(decide (r.b=n)&&used.contains r.a))
noncomputable def kdp(rs:List Rul)(used:List Nat)(n:Nat):Bool:=rs.any (nevR used n)
noncomputable def ahdR(used:List Nat)(n:Nat)(r:Rul):Bool:=decide (r.w=("ahead" :Str))&&(decide (r.a=n)&&used.contains r.b)
noncomputable def kdv(rs:List Rul)(used:List Nat)(n:Nat):Bool:=rs.any (ahdR used n)
noncomputable def loneM(order:List Nat)(r:Rul):Bool:=decide (r.w=("only" :Str))&&(order.contains r.a&& !order.contains r.b)
noncomputable def onlyM(rs:List Rul)(order:List Nat):Option Nat:=(rs.find? (loneM order)).map Rul.a
noncomputable def sV:Option Str→V
 |none=>.non
 |some z=>.str z
noncomputable def wordM(V:Vch)(rs:List Rul)(hand:List Int)(used:List Nat)(n:Nat):Option Str:=
 if hand.getD n 0<(used.count n:Int)+1 then some "held" else if(V.ms.once&&used.contains n)=true then some "once" else if kdp rs used n=true then some "never" else if kdv rs used n=true then some "ahead" else none
noncomputable def dueM(V:Vch)(T:TillD)(B:Bask)(hand:List Int)(used:List Nat)(S:Stnd)(n:Nat):L2.V:=match wordM V T.rs hand used n with
 |some z=>.str z
 |none=>hindM V T.ps B S
theorem kbX{n:Nat}:∀(l:List Nat),inV (iV n) (l.map iV)=l.contains n
 |[]=>rfl
 | m::l=>by
  have ih:=kbX (n:=n) l
  unfold inV at ih⊢
  rw[UK,Jo,ih,List.contains_cons]
  congr 1
  show eqV (V.int (m:Int)) (V.int (n:Int))=(n==m)
  by_cases h:n=m
  ·subst h
   simp[eqV]
  ·have h1:¬((m:Int)=(n:Int)):=by omega
   have e2:(n==m)=false:=beq_eq_false_iff_ne.mpr h
   rw[e2]
   simp[eqV,h1]
theorem kiP(l:List Nat)(n:Nat):(l.map fun(i:Nat)=>(i:Int)).count (n:Int)=l.count n:=by
 induction l with
 |nil=>rfl
 | cons m l ih=>
  rw[UK,N7,N7,ih]
  congr 1
  by_cases h:m=n
  ·subst h;simp
  ·have h1:¬((m:Int)=(n:Int)):=by omega
   have e1:((m:Int)==(n:Int))=false:=beq_eq_false_iff_ne.mpr h1
   have e2:(m==n)=false:=beq_eq_false_iff_ne.mpr h
   rw[e1,e2]
def kev(a b:Nat):decide (iV a=iV b)=decide (a=b):=by
 by_cases h:a=b
 ·subst h;simp
 ·have n:¬(iV a=iV b):=fun e=>h (by have:=V.int.inj e;omega)
  rw[decide_eq_false h,decide_eq_false n]
def eq_str(a b:Str):decide (V.str a=V.str b)=decide (a=b):=by
 by_cases h:a=b
 ·subst h;simp
 ·have n:¬(V.str a=V.str b):=fun e=>h (V.str.inj e)
  rw[decide_eq_false h,decide_eq_false n]
section
variable {P:Program} {w:World} {K:Uv} {mg:Str→Option Value} {base:Heap} {d:D}
seal PE PS PSs PA PT PC PG PGs PI
abbrev FO{K:Uv}{mg:Str→Option Value}{d:D}{base:Heap}(P:Program)(w:World)(_:WB K mg d base):=FnOk P w K mg base CX0
theorem QO:kao ["parents","one","other","kind"] ["parents","one","other"] (kah kfY):=by ac_rfl
theorem kji(W:WB K mg d base):FO P w W 1 d.Q4 d.Q5 ["parents","one","other"] (kfQ K):=by
 exists W.YA.F,QO
 ·obtain⟨a,ps,one,other,rfl,hS,hg,ho,k⟩:=h
  refine⟨_,kab (psl (i:=3) QO.nd (pv 1))
   (kab (kgI PassesOwn.never (kar kb5 (pv 3) kaT (kav _))
   (kab (ps_if (kar op_eq (pv 3) (pv 2) (kav _)) (kag (kan pe_bl)) (kas))
   (kag (psl (i:=3) QO.nd (pe_ix (r:=rIxL K) kay (pv 0) (pv 3) (fun _ _=>rfl))))))
   (kag (kan pe_bl))),?_⟩
  refine⟨_,rfl,?_⟩
  refine kgr (fun σ H'=>∃o:Option Nat,σ=[some (.ref a),some (.int one),some (.int other),some (pV o)]∧H'=H∧(∀i,o=some i→i<ps.length)∧decide (other∈up ps one)=decide (other∈rest ps o))
   (fun σ _=>match σ with|[_,_,_,some (.int i)]=>i.toNat+1|_=>0) ⟨some one,rfl,rfl,fun i e=>by cases e;exact ho,rfl⟩ ?_ ?_
  ·rintro σ H' ⟨o,rfl,rfl,hb,he⟩
   refine⟨_,rfl,rfl,_,rfl,?_⟩
   cases o with
   |none=>
    show if(!decide (V.non=V.non))=true then _ else _
    rw[ker]
    refine iteF ?_
    show Q (.bl false) _
    have e:decide (other∈up ps one)=false:=by rw[he];simp[Kin.rest]
    rw[e] at k
    exact k
   | some i=>
    show if(!decide (V.int i=V.non))=true then _ else _
    rw[kfy]
    refine iteT ?_
    have hi:=hb i rfl
    refine⟨_,rfl,_,rfl,rfl,_,rfl,?_⟩
    show if decide (V.int i=V.int other)=true then _ else _
    rw[eq_int]
    obtain⟨o,eo⟩:∃o,ps[i]?=some o:=⟨ps[i],by simp[hi]⟩
    refine ite2 (fun h=>?_) (fun h=>?_)
    ·have h':i=other:=of_decide_eq_true h
     subst h'
     have e:decide (i∈up ps one)=true:=by
      rw[he]
      show decide (i∈up ps i)=true
      rw[up_eq hg eo]
      simp
     rw[e] at k
     exact k
    ·have h':¬i=other:=fun z=>h (decide_eq_true z)
     refine⟨_,rfl,_,rfl,a,_,_,pV o,rfl,rfl,hS,kaQ (by simp[eo]),?_⟩
     refine⟨⟨o,rfl,rfl,fun j e=>?_,?_⟩,?_⟩
     ·subst e
      have:=hg i j eo
      omega
     ·rw[he]
      show decide (other∈up ps i)=_
      rw[up_eq hg eo]
      have:¬other=i:=fun z=>h' z.symm
      simp[this]
     ·cases o with
      |none=>exact Nat.succ_pos _
      |some j=>
       have:=hg i j eo
       show((j:Int)).toNat+1<((i:Int)).toNat+1
       omega
  ·rintro σ H' Q' Q'' hq ⟨v,h1,h2,h3⟩
   exact⟨v,h1,h2,by obtain⟨b,e,q⟩:=h3;exact⟨b,e,hq _ _ q⟩⟩
theorem qt:kao ["cut","weights","total","parts","reached","given","weight","share"] ["cut","weights"] (kah kf0):=by ac_rfl
theorem kjk(W:WB K mg d base):FO P w W 1 d.Q2 d.Q3 ["cut","weights"] (khR K):=by
 exists W.Qr.F,qt
 ·obtain⟨c,a,ws,rfl,hS,hn,hs,hc0,hc1,hl,k⟩:=h
  refine⟨_,kab (psl (i:=2) qt.nd (kat (r:=rSum K) (kb8 rfl) (by rfl) W.B.sum b_sum (kaa (pv 1) kae)))
   (kab (ps_if (kar op_eq (pv 2) kaf (kav _)) (kag (kan (kbi (N:=["weight"]) (CompScope.plain rfl (by decide +kernel) (by decide +kernel) (by decide +kernel) (nd1 _)) rfl (kaF (K:=K) (pv 1)) (fun _ _ _ _=>pgn (i:=0) (nd1 _)) (fun _ _ _ _=>kaf)))) (kas))
   (kab (psl (i:=3) qt.nd (kaM kae))
   (kab (psl (i:=4) qt.nd kaf)
   (kab (psl (i:=5) qt.nd kaf)
   (kab (kbe PassesOwn.never rfl (kaF (K:=K) (pv 1)) (pgn (i:=6) qt.nd)
   (kab (kk6 (i:=4) qt.nd rfl (Or.inl rfl) (pv 6) klk)
   (kab (psl (i:=7) qt.nd (pe_op kgP (pe_op kcT (pv 0) (pv 4)) (pv 2)))
   (kab (ka3 (pe_bm Jd Jr Js ka4 (pv 3) (kaa (pe_op kbJ (pv 7) (pv 5)) kae)))
   (kag (psl (i:=5) qt.nd (pv 7)))))))
   (kag (kan (pv 3)))))))),?_⟩
  refine⟨_,rfl,a,ws,rfl,hS,_,rfl,rfl,_,rfl,?_⟩
  refine ite2 (fun h=>?_) (fun h=>?_)
  ·have h0:ws.sum=0:=by
    have e:V.int ws.sum=V.int 0:=of_decide_eq_true h
    injection e
   refine⟨_,rfl,a,rfl,⟨_,hS⟩,kaV (xs:=ws.map V.int) (fun i σ ys H'=>H'=H∧ys=Uw i (V.int 0)∧∃v,σ=[v]) ⟨rfl,rfl,none,rfl⟩ ?_ ?_ ?_ ?_⟩
   ·rw[Uu]
    exact UI (kap hl)
   ·rintro i σ ys H' hi ⟨rfl,rfl,v,rfl⟩
    exact⟨hS,by simp⟩
   ·rintro i x σ ys H' hx ⟨rfl,rfl,v,rfl⟩
    exact⟨rfl,by rw[JM],_,rfl⟩
   ·rintro σ ys H' ⟨rfl,rfl,v,rfl⟩ D hD
    have:=k D hD
    rw[kjn h0] at this
    rw[Uu]
    exact this
  ·have h0:¬ws.sum=0:=fun e=>h (by rw[e];simp)
   have hpos:0<ws.sum:=by
    have:=kbk hn
    omega
   refine⟨by decide,fun p hp=>?_⟩
   have s1:∀o,Same H (upd H p o):=fun o=>kak hp
   refine⟨_,rfl,a,rfl,⟨_,(s1 _).seq hS⟩,kbp (K:=K) (a:=a) (xs:=ws.map V.int) (fun i σ H'=>H'=upd H p (.lst (((Uz i).map (part c ws)).map V.int))∧
    ∃(v6 v7:Option V),σ=[some (.int c),some (.ref a),some (.int ws.sum),some (.ref p),some (.int (pre ws i)),some (.int (c*pre ws i/ws.sum)),v6,v7])
    ⟨rfl,none,none,by simp[keP];rfl⟩ (fun i σ H' _ ⟨e,_⟩=>by rw[e];exact(s1 _).seq hS) ?_ ?_⟩
   ·rintro i x σ H' hi ⟨rfl,v6,v7,rfl⟩
    have hil:i<(ws.map V.int).length:=(UG.mp hi).1
    rw[Uu] at hil
    obtain⟨z,ez,rfl⟩:∃z,ws[i]?=some z∧x=V.int z:=by
     rw[UD] at hi
     cases e:ws[i]? with
     |none=>rw[e] at hi;cases hi
     |some z=>rw[e] at hi;exact⟨z,rfl,(Option.some.inj hi).symm⟩
    have ep:=kcQ ez
    refine⟨_,rfl,_,rfl,_,_,rfl,rfl,?_⟩
    refine⟨_,rfl,_,rfl,_,_,rfl,rfl, .inl ⟨by omega,by omega⟩,_,rfl,_,_,rfl,rfl,⟨hpos,by omega⟩,?_⟩
    refine⟨_,rfl, .inl ⟨rfl,_,SqL.of kad⟩,_,rfl,_,rfl,_,_,rfl,rfl,p,_,_,rfl,rfl,kad,kap (by simp;omega),?_⟩
    refine⟨_,rfl,?_,some (.int z),some (.int (c*(pre ws i+z)/ws.sum)),?_⟩
    ·rw[kkn,JB,UH,UH]
     show upd H p (.lst (_++[V.int (c*(pre ws i+z)/ws.sum-c*pre ws i/ws.sum)]))=upd H p (.lst (_++[V.int (part c ws i)]))
     unfold part
     rw[ep]
    ·rw[ep]
     rfl
   ·rintro σ H' ⟨rfl,v6,v7,rfl⟩
    refine⟨_,rfl,?_⟩
    have:=k p hp
    rw[kih h0] at this
    rw[Uu]
    exact this
theorem keM:kao ["self","kind","needs","most","member","once","lone"] ["self","kind","needs","most","member","once","lone"] (kah kaX):=by ac_rfl
theorem kcY(W:WB K mg d base):FO P w W 1 d.Yj d.qu ["self","kind","needs","most","member","once","lone"] (keG d.qd):=by
 exists W.qY.F,keM
 ·obtain⟨x,dx,M,rfl,hx,k⟩:=h
  refine⟨_,kab (kaK (pv 0) (pv 1) rfl)
   (kab (kaK (pv 0) (pv 2) rfl)
   (kab (kaK (pv 0) (pv 3) rfl)
   (kab (kaK (pv 0) (pv 4) rfl)
   (kab (kaK (pv 0) (pv 5) rfl)
   (kag (kaK (pv 0) (pv 6) rfl)))))),?_⟩
  refine⟨_,rfl,_,rfl,x,d.qd,dx,[],rfl,hx,W.qd.cl,W.qX,by decide,?_⟩
  refine⟨_,rfl,_,rfl,x,d.qd,dx,_,rfl,kad,W.qd.cl,W.Y3,few (UA (kal (n:=0) (Ux _)) (by decide)),?_⟩
  refine⟨_,rfl,_,rfl,x,d.qd,dx,_,rfl,kad,W.qd.cl,W.Qw,few (UA (kal (kal (n:=0) (Ux _))) (by decide)),?_⟩
  refine⟨_,rfl,_,rfl,x,d.qd,dx,_,rfl,kad,W.qd.cl,W.Y5,few (UA (kal (kal (kal (n:=0) (Ux _)))) (by decide)),?_⟩
  refine⟨_,rfl,_,rfl,x,d.qd,dx,_,rfl,kad,W.qd.cl,W.Y7,few (UA (kal (kal (kal (kal (n:=0) (Ux _))))) (by decide)),?_⟩
  refine⟨_,rfl,_,rfl,x,d.qd,dx,_,rfl,kad,W.qd.cl,W.Qx,few (UA (kal (kal (kal (kal (kal (n:=0) (Ux _)))))) (by decide)),?_⟩
  refine k _ (But.trans (But.trans (But.trans (But.trans (But.trans kax kax) kax) kax) kax) kax) ⟨dx,_,kad,?_,?_,?_,?_,?_,?_⟩ <;> ac_nf
theorem kdL:kao ["self","marks"] ["self","marks"] (kah kaO):=by ac_rfl
theorem kbL(W:WB K mg d base):FO P w W 3 d.Ql d.Qm ["self","marks"] (kei K d.qd):=by
 exists W.qB.F,kdL
 ·obtain⟨x,C,dx,fs,mv,rfl,hx,hC,hN,hl,hm,k⟩:=h
  exists QP,kcY,W
  refine⟨_,kag (kaK (pv 0) (kgN (kar kdV (pv 1) kaT (kav _)) (kjc (W.qY.mk' W.qd) QP hr rfl W.qd.m W.b6_Marks_init (show Vals [.non, .int 0, .non, .bl false, .bl false, .bl false] [.none, .int 0 d.tok1_Marks_init, .none, .bool false, .bool false, .bool false] from(.cons rfl (.cons ⟨_,rfl⟩ (.cons rfl (.cons rfl (.cons rfl (.cons rfl .nil))))))) pass0) (pv 1)) rfl),?_⟩
  rcases hm with rfl|⟨mA,rfl⟩
  ·refine⟨_,rfl,rfl,_,rfl,iteT ?_⟩
   refine kgU (M:=mks0) fun H1 mA s1 f1 hM=>?_
   refine⟨_,rfl,x,C,dx,fs,rfl,s1 _ _ hx,hC,hN,by omega,?_⟩
   have hne:mA≠x:=(kai hx f1).symm
   refine k _ mA ((But.of_same s1).trans (kax (nx (s1 _ _ hx)))) (.inr ⟨rfl,f1,?_⟩) kad
   exact hM.but hne (kax (nx (s1 _ _ hx)))
  ·refine⟨_,rfl,rfl,_,rfl,iteF ?_⟩
   refine⟨_,rfl,_,rfl,x,C,dx,fs,rfl,hx,hC,hN,by omega,?_⟩
   exact k _ mA kax (.inl rfl) kad
theorem kfX:kao ["self","amount","marks"] ["self","amount","marks"] (kah kbd):=by ac_rfl
theorem kf9(W:WB K mg d base):FO P w W 4 d.Yk d.Qn ["self","amount","marks"] (kej d.c_Off d.qd (fun so=>∃(a:Int),so=.off a)):=by
 refine FunD.ok W.Qy.F kfX (fun vs H Q E h=>?_) (fun cdv A outer s H vs Q E hr h=>?_)
 ·obtain⟨x,dx,so,mv,⟨a,rfl⟩,rfl,_⟩:=h
  rfl
 ·obtain⟨x,dx,so,mv,⟨a,rfl⟩,rfl,hx,hm,k⟩:=h
  exists qR,kbL,W
  refine⟨_,kab (ka3 (kf7 W.QN qR hr rfl W.qA.m W.qB.F.kp W.qB.b .nil pass0 (kaa (pv 0) (kaa (pv 2) kae))))
   (kag (kaK (pv 0) (pv 1) rfl)),?_⟩
  refine⟨_,rfl,_,rfl,x,d.c_Off,dx,[],mv,rfl,hx,W.c_Off.cl,W.Za,by decide,hm,fun H1 mA b1 hM h1=>?_⟩
  refine⟨_,rfl,_,rfl,x,d.c_Off,dx,_,rfl,h1,W.c_Off.cl,W.Y9,few (UA (kal (n:=0) (Ux _)) (by decide)),?_⟩
  refine k _ mA _ (b1.trans kax) ?_ kad ?_ ?_
  ·exact hM.but hx kax
  ·ac_nf
  ·show Jl _ _=_
   ac_nf
theorem keL:kao ["self","share","by_line","marks"] ["self","share","by_line","marks"] (kah kaW):=by ac_rfl
theorem keZ(W:WB K mg d base):FO P w W 4 d.Yl d.qU ["self","share","by_line","marks"] (kej d.qh d.qd (fun so=>∃(sh:Int)(bb:Bool),so=.share sh bb)):=by
 refine FunD.ok W.Qz.F keL (fun vs H Q E h=>?_) (fun cdv A outer s H vs Q E hr h=>?_)
 ·obtain⟨x,dx,so,mv,⟨sh,bb,rfl⟩,rfl,_⟩:=h
  rfl
 ·obtain⟨x,dx,so,mv,⟨sh,bb,rfl⟩,rfl,hx,hm,k⟩:=h
  exists qR,kbL,W
  refine⟨_,kab (ka3 (kf7 W.QN qR hr rfl W.qA.m W.qB.F.kp W.qB.b .nil pass0 (kaa (pv 0) (kaa (pv 3) kae))))
   (kab (kaK (pv 0) (pv 1) rfl)
   (kag (kaK (pv 0) (pv 2) rfl))),?_⟩
  refine⟨_,rfl,_,rfl,x,d.qh,dx,[],mv,rfl,hx,W.qh.cl,W.Zd,by decide,hm,fun H1 mA b1 hM h1=>?_⟩
  refine⟨_,rfl,_,rfl,x,d.qh,dx,_,rfl,h1,W.qh.cl,W.Zb,few (UA (kal (n:=0) (Ux _)) (by decide)),?_⟩
  refine⟨_,rfl,_,rfl,x,d.qh,dx,_,rfl,kad,W.qh.cl,W.Zc,few (UA (kal (kal (n:=0) (Ux _))) (by decide)),?_⟩
  refine k _ mA _ ((b1.trans kax).trans kax) ?_ kad ?_ ?_
  ·exact hM.but hx (But.trans kax kax)
  ·ac_nf
  ·exact⟨by ac_nf,by ac_nf⟩
theorem kdz:kao ["self","marks"] ["self","marks"] (kah kaL):=by ac_rfl
theorem kdD(W:WB K mg d base):FO P w W 4 d.Ym d.Qo ["self","marks"] (kej d.qi d.qd (fun so=>so=.carr)):=by
 exists W.QB.F,kdz
 ·obtain⟨x,dx,so,mv,rfl,rfl,hx,hm,k⟩:=h
  exists qR,kbL,W
  refine⟨_,kag (ka3 (kf7 W.QN qR hr rfl W.qA.m W.qB.F.kp W.qB.b .nil pass0 (kaa (pv 0) (kaa (pv 1) kae)))),?_⟩
  refine⟨_,rfl,_,rfl,x,d.qi,dx,[],mv,rfl,hx,W.qi.cl,W.QA,by decide,hm,fun H1 mA b1 hM h1=>?_⟩
  refine k _ mA _ b1 hM h1 ?_ trivial
  ac_nf
theorem kfn:kao ["self","kind","price","many","special"] ["self","kind","price","many","special"] (kah ka2):=by ac_rfl
theorem kfx(W:WB K mg d base):FO P w W 1 d.Yn d.Qp ["self","kind","price","many","special"] (kfT d.qf):=by
 exists W.QF.F,kfn
 ·obtain⟨x,dx,r,rfl,hx,k⟩:=h
  refine⟨_,kab (kaK (pv 0) (pv 1) rfl)
   (kab (kaK (pv 0) (pv 2) rfl)
   (kab (kaK (pv 0) (pv 3) rfl)
   (kag (kaK (pv 0) (pv 4) rfl)))),?_⟩
  refine⟨_,rfl,_,rfl,x,d.qf,dx,[],rfl,hx,W.qf.cl,W.Ze,by decide,?_⟩
  refine⟨_,rfl,_,rfl,x,d.qf,dx,_,rfl,kad,W.qf.cl,W.QC,few (UA (kal (n:=0) (Ux _)) (by decide)),?_⟩
  refine⟨_,rfl,_,rfl,x,d.qf,dx,_,rfl,kad,W.qf.cl,W.QD,few (UA (kal (kal (n:=0) (Ux _))) (by decide)),?_⟩
  refine⟨_,rfl,_,rfl,x,d.qf,dx,_,rfl,kad,W.qf.cl,W.QE,few (UA (kal (kal (kal (n:=0) (Ux _)))) (by decide)),?_⟩
  refine k _ (But.trans (But.trans (But.trans kax kax) kax) kax) ⟨dx,_,kad,?_,?_,?_,?_⟩
  ·rw[kac,if_neg (by decide +kernel),kac,if_neg (by decide +kernel),kac,if_neg (by decide +kernel),kac,if_pos rfl]
  ·rw[kac,if_neg (by decide +kernel),kac,if_neg (by decide +kernel),kac,if_pos rfl]
  ·rw[kac,if_neg (by decide +kernel),kac,if_pos rfl]
  ·rw[kac,if_pos rfl]
theorem kee:kao ["self","lines","carriage","member"] ["self","lines","carriage","member"] (kah kaR):=by ac_rfl
theorem keh(W:WB K mg d base):FO P w W 1 d.Yo d.qV ["self","lines","carriage","member"] (kfU K d.qg):=by
 exists W.QI.F,kee
 ·obtain⟨x,dx,l,cg,m,xs,rfl,hx,hl,k⟩:=h
  refine⟨_,kab (kaK (pv 0) (kbr (r:=kcJ K) ka5 (by rfl) W.B.list kcw (kaa (pv 1) kae)) rfl)
   (kab (kaK (pv 0) (pv 2) rfl)
   (kag (kaK (pv 0) (pv 3) rfl))),?_⟩
  refine⟨_,rfl,l,_,rfl, .inl hl,fun l' hl'=>?_⟩
  have s1:=kak (o:=.lst xs) hl'
  have nlx:l'≠x:=fun e=>by
   rw[e,hx] at hl'
   cases hl'
  refine⟨_,rfl,x,d.qg,dx,[],rfl,s1 _ _ hx,W.qg.cl,W.QG,by decide,?_⟩
  refine⟨_,rfl,_,rfl,x,d.qg,dx,_,rfl,kad,W.qg.cl,W.Zf,few (UA (kal (n:=0) (Ux _)) (by decide)),?_⟩
  refine⟨_,rfl,_,rfl,x,d.qg,dx,_,rfl,kad,W.qg.cl,W.QH,few (UA (kal (kal (n:=0) (Ux _))) (by decide)),?_⟩
  refine k _ l' ((((But.of_same s1).trans kax).trans kax).trans kax) hl' ?_ ⟨dx,_,kad,?_,?_,?_⟩
  ·rw[kaj nlx,kaj nlx,kaj nlx,kad]
  ·rw[kac,if_neg (by decide +kernel),kac,if_neg (by decide +kernel),kac,if_pos rfl]
  ·rw[kac,if_neg (by decide +kernel),kac,if_pos rfl]
  ·rw[kac,if_pos rfl]
theorem kdc:kao ["line","member"] ["line","member"] (kah kbw):=by ac_rfl
theorem kdg(W:WB K mg d base):FO P w W 1 d.Q6 d.Q7 ["line","member"] (khL d.qf):=by
 exists W.YB.F,kdc
 ·obtain⟨x,m,r,rfl,⟨dx,fs,hx,lk,lp,lm,ls⟩,k⟩:=h
  refine⟨_,kab (ps_if (PW.pt (ka8 (kaS (pv 1)) (ka0 (kar kb5 (kam (K:=K) (pv 0) rfl) kaT (kav _))))) (kag (kan (kam (K:=K) (pv 0) rfl))) (kas))
   (kag (kan (kam (K:=K) (pv 0) rfl))),?_⟩
  refine⟨_,rfl,m,rfl,?_⟩
  cases m with
  |false=>
   refine iteF (iteF ⟨_,rfl,x,d.qf,dx,fs,_,rfl,hx,W.qf.cl,W.QC,lp,?_⟩)
   exact k
  | true=>
   refine iteT ⟨_,rfl,x,d.qf,dx,fs,_,rfl,hx,W.qf.cl,W.QE,ls,rfl,_,rfl,?_⟩
   cases e:r.ex with
   | none=>
    rw[e] at ls
    show if(!decide (V.non=V.non))=true then _ else _
    rw[show(!decide (V.non=V.non))=false by simp]
    refine iteF ⟨_,rfl,x,d.qf,dx,fs,_,rfl,hx,W.qf.cl,W.QC,lp,?_⟩
    have ep:prc true r=r.pr:=by
     unfold prc
     rw[if_pos rfl,e]
     rfl
    rw[ep] at k
    exact k
   | some z=>
    rw[e] at ls
    show if(!decide (V.int z=V.non))=true then _ else _
    rw[show(!decide (V.int z=V.non))=true by simp]
    refine iteT ⟨_,rfl,x,d.qf,dx,fs,_,rfl,hx,W.qf.cl,W.QE,ls,?_⟩
    have ep:prc true r=z:=by
     unfold prc
     rw[if_pos rfl,e]
     rfl
    rw[ep] at k
    exact k
theorem Qc:kao ["self","basket","number","line","price"] ["self","basket"] (kah kbG):=by ac_rfl
theorem kca(W:WB K mg d base):FO P w W 2 d.Yp d.Yq ["self","basket"] (kcN d.qf d.qg d.qc):=by
 exists W.qO.F,Qc
 ·obtain⟨x,dx,b,l,cg,m,ls,rs,rfl,hx,⟨dxb,fsb,hb,lbl,lbc,lbm⟩,hl,hL,hn,hok,k⟩:=h
  exists ZW,kdg,W
  refine⟨_,kab (kaK (pv 0) (kaM kae) rfl)
   (kab (kaK (pv 0) (kaM kae) rfl)
   (kab (kaK (pv 0) (kam (K:=K) (pv 1) rfl) rfl)
   (kab (kaK (pv 0) (kaM kae) rfl)
   (kag (kbe PassesOwn.never rfl (kdR rfl W.B.enum (kaa (kam (K:=K) (pv 1) rfl) kae)) (kbb (K:=K) (n:=2) rfl (kaw (pgn (i:=2) Qc.nd) (kaw (pgn (i:=3) Qc.nd) kba)))
   (kab (psl (i:=4) Qc.nd (pcl ZW hr W.YB (kaa (pv 3) (kaa (kam (K:=K) (pv 1) rfl) kae))))
   (kab (ka3 (pe_bm Jd Mt Mu kfA (kam (K:=K) (pv 0) rfl) (kaa (pe_op kic (kaM (kaa (pv 2) kae)) (kam (K:=K) (pv 3) rfl)) kae)))
   (kab (ka3 (pe_bm Jd Mt Mu kfA (kam (K:=K) (pv 0) rfl) (kaa (pe_op kic (kaM (kaa (pv 4) kae)) (kam (K:=K) (pv 3) rfl)) kae)))
   (kag (ka3 (pe_bm Jd Jr Js ka4 (kam (K:=K) (pv 0) rfl) (kaa pe_bl kae)))))))))))),?_⟩
  have nbx:b≠x:=ne_of hb hx (by
   intro z
   injection z with _ _ z
   rw[z] at lbl
   cases lbl)
  have nlx:l≠x:=ne_of hl hx (by intro z;cases z)
  exists Y4
  refine⟨by decide,fun o ho=>?_⟩
  have nox:o≠x:=(kai hx ho).symm
  symm
  exists Y4
  refine⟨_,rfl,x,d.qc,dx,[],rfl,kak ho _ _ hx,W.qc.cl,W.qC,by decide,?_⟩
  have b1:But x H (upd (upd H o (.lst [])) x (.ins d.qc dx (putF "owners" (.ref o) []))):=(But.of_same (kak ho)).trans kax
  symm
  exists Y4
  refine⟨by decide,fun p hp=>?_⟩
  have npx:p≠x:=fun e=>by
   rw[e,kad] at hp
   cases hp
  have nop:o≠p:=fun e=>by
   rw[←e,kaj nox,kad] at hp
   cases hp
  have hp0:H p=none:=by
   cases e:H p with
   |none=>rfl
   |some u=>
    obtain⟨u',e'⟩:=ke4 (b1 p u npx e)
    rw[e'] at hp
    cases hp
  symm
  exists Y4
  refine⟨_,rfl,x,d.qc,dx,_,rfl,kak hp _ _ kad,W.qc.cl,W.qw,few (UA (kal (n:=0) (Ux _)) (by decide)),?_⟩
  have b2:=(b1.same (kak (o:=.lst []) hp)).trans (kax (o:=.ins d.qc dx (putF "prices" (.ref p) (putF "owners" (.ref o) []))))
  symm
  exists Y4
  refine⟨_,rfl,b,d.qg,dxb,fsb,_,rfl,b2 b _ nbx hb,W.qg.cl,W.Zf,lbc,_,rfl,x,d.qc,dx,_,rfl,kad,W.qc.cl,W.qZ,few (UA (kal (kal (n:=0) (Ux _))) (by decide)),?_⟩
  have b3:=b2.trans (kax (o:=.ins d.qc dx (putF "carriage" (.int cg) (putF "prices" (.ref p) (putF "owners" (.ref o) [])))))
  symm
  exists Y4
  refine⟨by decide,fun mk hm=>?_⟩
  have nmx:mk≠x:=fun e=>by
   rw[e,kad] at hm
   cases hm
  have hm0:H mk=none:=by
   cases e:H mk with
   |none=>rfl
   |some u=>
    obtain⟨u',e'⟩:=ke4 (b3 mk u nmx e)
    rw[e'] at hm
    cases hm
  have nom:o≠mk:=fun e=>by
   rw[←e,kaj nox,kaj nox,kaj nop,kaj nox,kad] at hm
   cases hm
  have npm:p≠mk:=fun e=>by
   rw[←e,kaj npx,kaj npx,kad] at hm
   cases hm
  symm
  exists Y4
  refine⟨_,rfl,x,d.qc,dx,_,rfl,kak hm _ _ kad,W.qc.cl,W.qN,few (UA (kal (kal (kal (n:=0) (Ux _)))) (by decide)),?_⟩
  have b4:=(b3.same (kak (o:=.lst []) hm)).trans (kax (o:=.ins d.qc dx (putF "marked" (.ref mk) (putF "carriage" (.int cg) (putF "prices" (.ref p) (putF "owners" (.ref o) []))))))
  have Di:Ds H x o p mk:=⟨ho,hp0,hm0,nox,npx,nmx,nop,nom,npm⟩
  have Z0:S3 H x d.qc dx (putF "marked" (.ref mk) (putF "carriage" (.int cg) (putF "prices" (.ref p) (putF "owners" (.ref o) [])))) o p mk [] [] [] (upd (upd (upd (upd (upd (upd (upd H o (.lst [])) x (.ins d.qc dx (putF "owners" (.ref o) []))) p (.lst [])) x (.ins d.qc dx (putF "prices" (.ref p) (putF "owners" (.ref o) []))))
    x (.ins d.qc dx (putF "carriage" (.int cg) (putF "prices" (.ref p) (putF "owners" (.ref o) []))))) mk (.lst [])) x (.ins d.qc dx (putF "marked" (.ref mk) (putF "carriage" (.int cg) (putF "prices" (.ref p) (putF "owners" (.ref o) [])))))):=by
   symm
   exists Y6
   refine⟨b4,kad,?_,?_,?_⟩
   ·rw[kaj nox,kaj nom,kaj nox,kaj nox,kaj nop,kaj nox,kad]
   ·rw[kaj npx,kaj npm,kaj npx,kaj npx,kad]
   ·rw[kaj nmx,kad]
  have l1:(putF "marked" (.ref mk) (putF "carriage" (.int cg) (putF "prices" (.ref p) (putF "owners" (.ref o) [])))).lookup ("owners" :Str)=some (.ref o):=by
   rw[kac,if_neg (by decide +kernel),kac,if_neg (by decide +kernel),kac,if_neg (by decide +kernel),kac,if_pos rfl]
  have l2:(putF "marked" (.ref mk) (putF "carriage" (.int cg) (putF "prices" (.ref p) (putF "owners" (.ref o) [])))).lookup ("prices" :Str)=some (.ref p):=by
   rw[kac,if_neg (by decide +kernel),kac,if_neg (by decide +kernel),kac,if_pos rfl]
  have l3:(putF "marked" (.ref mk) (putF "carriage" (.int cg) (putF "prices" (.ref p) (putF "owners" (.ref o) [])))).lookup ("carriage" :Str)=some (.int cg):=by
   rw[kac,if_neg (by decide +kernel),kac,if_pos rfl]
  have l4:(putF "marked" (.ref mk) (putF "carriage" (.int cg) (putF "prices" (.ref p) (putF "owners" (.ref o) [])))).lookup ("marked" :Str)=some (.ref mk):=by
   rw[kac,if_pos rfl]
  have l5:(putF "marked" (.ref mk) (putF "carriage" (.int cg) (putF "prices" (.ref p) (putF "owners" (.ref o) [])))).lookup ("whole" :Str)=none:=by
   rw[kac,if_neg (by decide +kernel),kac,if_neg (by decide +kernel),kac,if_neg (by decide +kernel),kac,if_neg (by decide +kernel)]
   rfl
  have lfs:(putF "marked" (.ref mk) (putF "carriage" (.int cg) (putF "prices" (.ref p) (putF "owners" (.ref o) [])))).length≤10:=UA (kal (kal (kal (kal (n:=0) (Ux _))))) (by decide)
  generalize putF "marked" (.ref mk) (putF "carriage" (.int cg) (putF "prices" (.ref p) (putF "owners" (.ref o) [])))=fs at *
  generalize (upd (upd (upd (upd (upd (upd (upd H o (.lst [])) x (.ins d.qc dx (putF "owners" (.ref o) []))) p (.lst [])) x (.ins d.qc dx (putF "prices" (.ref p) (putF "owners" (.ref o) []))))
    x (.ins d.qc dx (putF "carriage" (.int cg) (putF "prices" (.ref p) (putF "owners" (.ref o) []))))) mk (.lst [])) x (.ins d.qc dx fs))=Hs at *
  symm
  exists Y4
  refine⟨_,rfl,b,d.qg,dxb,fsb,_,rfl,Z0.bt b _ nbx hb,W.qg.cl,W.QG,lbl,l,_,rfl,Z0.bt l _ nlx hl,kdG (xs:=ls.map V.ref) (fun i σ H'=>(∃v2 v3 v4:Option V,σ=[some (.ref x),some (.ref b),v2,v3,v4])∧
   S3 H x d.qc dx fs o p mk ((own (rs.take i)).map V.int) ((prs m (rs.take i)).map V.int) (Uw i (.bl false)) H') ⟨⟨none,none,none,rfl⟩,Z0⟩ (fun i σ H' _ ⟨_,Z⟩=>Z.bt l _ nlx hl) ?_ ?_⟩
  ·rintro i y t σ H1 hy ⟨⟨v2,v3,v4,rfl⟩,Z⟩ ht
   have hll:=hL.len
   have hil:i<(ls.map V.ref).length:=(UG.mp hy).1
   rw[Uu] at hil
   obtain⟨lx,el,rfl⟩:∃lx,ls[i]?=some lx∧y=V.ref lx:=by
    rw[UD] at hy
    cases e:ls[i]? with
    |none=>rw[e] at hy;cases hy
    |some z=>rw[e] at hy;exact⟨z,rfl,(Option.some.inj hy).symm⟩
   obtain⟨r,er⟩:∃r,rs[i]?=some r:=⟨rs[i]'(by omega),by simp[show i<rs.length by omega]⟩
   have hr':r.Ok:=hok r (UE er)
   obtain⟨dxl,fsl,hlx,lk1,lk2,lk3,lk4⟩:=hL.get el er
   have nlxx:lx≠x:=ne_of hlx hx (by
    intro z
    injection z with _ _ z
    rw[z] at lk1
    cases lk1)
   have hmn0:=hr'.mn0
   have hmn1:=hr'.mn1
   have Z1:=Z.same (kak (o:=.tup [.int (i:Nat),V.ref lx]) ht)
   have lo1:((own (rs.take i)).map V.int).length≤720:=by
    rw[Uu]
    have:=kia (rs.take i) fun r hr=>hok r (JZ hr)
    rw[UP] at this
    omega
   have lp1:((prs m (rs.take i)).map V.int).length≤720:=by
    rw[Uu]
    have:=kf4 m (rs.take i) fun r hr=>hok r (JZ hr)
    rw[UP] at this
    omega
   symm
   exists Y6
   refine⟨t,_,rfl,SqT.of kad,rfl,_,_,rfl,_,_,rfl,rfl,?_⟩
   nofun
   exists Y6
   refine⟨_,rfl,_,rfl,b,d.qg,dxb,fsb,_,rfl,Z1.bt b _ nbx hb,W.qg.cl,W.QH,lbm,lx,m,r,rfl,⟨dxl,fsl,Z1.bt lx _ nlxx hlx,lk1,lk2,lk3,lk4⟩,?_⟩
   nofun
   exists Y6
   refine⟨_,rfl,x,d.qc,dx,fs,_,rfl,Z1.ob,W.qc.cl,W.qC,l1, .inl ⟨rfl,_,SqL.of Z1.ho⟩,_,rfl,(by show 1≤sizeLine;decide),fun t1 ht1=>?_⟩
   have Z2:=Z1.same (kak (o:=.lst [V.int (i:Nat)]) ht1)
   nofun
   exists Y6
   refine⟨_,rfl,lx,d.qf,dxl,fsl,_,rfl,Z2.bt lx _ nlxx hlx,W.qf.cl,W.QD,lk3,t1,_,_,rfl,rfl,kad,by omega,by omega,UI (kap (by simp;omega)),fun t2 ht2=>?_⟩
   have Z3:=Z2.same (kak (o:=.lst (Uw r.mn.toNat [V.int (i:Nat)]).flatten) ht2)
   nofun
   exists Y6
   refine⟨o,t2,_,_,rfl,rfl,Z3.ho,kad,UI (kap (by rw[rep1,Jn];omega)),?_⟩
   have Z4:=Z3.setO (d:=(own (rs.take i)).map V.int++(Uw r.mn.toNat [V.int (i:Nat)]).flatten) Di
   nofun
   exists Y6
   refine⟨_,rfl,x,d.qc,dx,fs,_,rfl,Z4.ob,W.qc.cl,W.qw,l2, .inl ⟨rfl,_,SqL.of Z4.hp⟩,_,rfl,(by show 1≤sizeLine;decide),fun t3 ht3=>?_⟩
   have Z5:=Z4.same (kak (o:=.lst [V.int (prc m r)]) ht3)
   nofun
   exists Y6
   refine⟨_,rfl,lx,d.qf,dxl,fsl,_,rfl,Z5.bt lx _ nlxx hlx,W.qf.cl,W.QD,lk3,t3,_,_,rfl,rfl,kad,by omega,by omega,UI (kap (by simp;omega)),fun t4 ht4=>?_⟩
   have Z6:=Z5.same (kak (o:=.lst (Uw r.mn.toNat [V.int (prc m r)]).flatten) ht4)
   nofun
   exists Y6
   refine⟨p,t4,_,_,rfl,rfl,Z6.hp,kad,UI (kap (by rw[rep1,Jn];omega)),?_⟩
   have Z7:=Z6.setP (d:=(prs m (rs.take i)).map V.int++(Uw r.mn.toNat [V.int (prc m r)]).flatten) Di
   nofun
   exists Y6
   refine⟨_,rfl,x,d.qc,dx,fs,_,rfl,Z7.ob,W.qc.cl,W.qN,l4, .inl ⟨rfl,_,SqL.of Z7.hm⟩,mk,_,_,rfl,rfl,Z7.hm,kap (by simp;omega),?_⟩
   have Z8:=Z7.setM (d:=Uw i (V.bl false)++[V.bl false]) Di
   nofun
   exists Y6
   refine⟨⟨_,_,_,rfl⟩,?_⟩
   have e1:(own (rs.take i)).map V.int++(Uw r.mn.toNat [V.int (i:Nat)]).flatten=(own (rs.take (i+1))).map V.int:=by
    rw[take_snoc er,kjf,UH,rep1,kf2,UP,NJ (by omega)]
   have e2:(prs m (rs.take i)).map V.int++(Uw r.mn.toNat [V.int (prc m r)]).flatten=(prs m (rs.take (i+1))).map V.int:=by
    rw[take_snoc er,kgJ,UH,rep1,kf2]
   have e3:Uw i (V.bl false)++[V.bl false]=Uw (i+1) (V.bl false):=by rw[JM]
   rw[←e1,←e2,←e3]
   nofun
   exact Z8
  ·rintro σ H' ⟨⟨v2,v3,v4,rfl⟩,Z⟩
   have hll:=hL.len
   have e:(ls.map V.ref).length=rs.length:=by rw[Uu,hll]
   rw[e,U0] at Z
   nofun
   exact k H' o p mk Z.bt ho hp0 hm0 ⟨dx,fs,Z.ob,l1,l2,l3,l4,l5⟩ Z.ho Z.hp Z.hm ⟨dx,fs,Z.ob,lfs⟩
inductive kjU (K:Uv) (CM:Addr) (vs:List V) (H:Hp) (Q:VK) (E_:XK):Prop
 |ct (mA a:Addr)(M:Mks)(ps:List (Option Nat))(kn:Nat)(mk:Bool)(_:vs=[.ref mA, .ref a, .int kn, .bl mk])(_:MksIs CM H mA M)(_:SqL K H a (ps.map pV))(_:Good ps)(_:kn<ps.length)(_:Q (.bl (kHit ps M.kind kn&&(!M.lone|| !mk))) H):kjU K CM vs H Q E_
theorem kku:kao ["marks","parents","kind","marked"] ["marks","parents","kind","marked"] (kah khY):=by ac_rfl
theorem kkE(W:WB K mg d base):FO P w W 2 d.Xa d.Xb ["marks","parents","kind","marked"] (kjU K d.qd):=by
 exists W.YC.F,kku
 ·obtain⟨mA,a,M,ps,kn,mk,rfl,⟨dx,fs,hm,l1,l2,l3,l4,l5,l6⟩,hS,hg,hk,k⟩:=h
  exists ZX,kji,W
  refine⟨_,kab (kcm (ps_if (PW.pt (ka8 (kaS (kam (K:=K) (pv 0) rfl)) (ka0 (kaS (pv 3))))) (kag (kan pe_bl)) (kas)))
   (kag (kan (pe_or (kbc kdV (kam (K:=K) (pv 0) rfl) kaT (kav _)) (keo (pcl ZX hr W.YA (kaa (pv 1) (kaa (pv 2) (kaa (kam (K:=K) (pv 0) rfl) kae)))))))),?_⟩
  refine⟨fun σ' H'=>σ'=[some (.ref mA),some (.ref a),some (.int kn),some (.bl mk)]∧H'=H∧(!M.lone|| !mk)=true,⟨_,rfl,mA,d.qd,dx,fs,_,rfl,hm,W.qd.cl,W.Qx,l6,M.lone,rfl,?_⟩,?_⟩
  ·cases e:M.lone with
   |false=>exact iteF (iteF ⟨rfl,rfl,rfl⟩)
   | true=>
    refine iteT ⟨_,rfl,mk,rfl,?_⟩
    cases mk with
    |false=>exact iteF ⟨rfl,rfl,rfl⟩
    |true=>
     refine iteT ?_
     rw[e,show(kHit ps M.kind kn&&(!true|| !true))=false by simp] at k
     exact k
  ·rintro σ' H' ⟨rfl,rfl,hh⟩
   rw[hh,Bool.and_true] at k
   cases ek:M.kind with
   |none=>
    rw[ek] at l1 k
    refine⟨_,rfl,mA,d.qd,dx,fs,_,rfl,hm,W.qd.cl,W.qX,l1,rfl,_,rfl,?_⟩
    show if decide (V.non=V.non)=true then _ else _
    rw[show decide (V.non=V.non)=true by simp]
    exact iteT k
   |some kk=>
    rw[ek] at l1 k
    refine⟨_,rfl,mA,d.qd,dx,fs,_,rfl,hm,W.qd.cl,W.qX,l1,rfl,_,rfl,?_⟩
    show if decide (V.int (kk:Nat)=V.non)=true then _ else _
    rw[show decide (V.int (kk:Nat)=V.non)=false by simp]
    exact iteF ⟨_,rfl,_,rfl,_,rfl,mA,d.qd,dx,fs,_,rfl,hm,W.qd.cl,W.qX,l1,a,ps,kn,kk,rfl,hS,hg,hk,k⟩
theorem Zh:kao ["voucher","parents","basket","standing","fitting"] ["voucher","parents","basket","standing"] (kah kdN):=by ac_rfl
theorem kgQ(W:WB K mg d base):FO P w W 3 d.Q8 d.Q9 ["voucher","parents","basket","standing"] (khV K d):=by
 exists W.Qs.F,Zh
 ·obtain⟨v,a,b,x,Vc,ps,B,S,rfl,hV,hA,hB,hS,wf,vo,k⟩:=h
  obtain⟨mA,dxv,fsv,hv,lvm,_,hM,hh,htb⟩:=id hV
  obtain⟨l,ls,⟨dxb,fsb,hb,lb1,lb2,lb3⟩,hl,hL⟩:=id hB
  obtain⟨o,p,mk,⟨dxs,fss,hx,l1,l2,l3,l4,l5⟩,ho,hp,hmk⟩:=id hS
  exists ZY,kkE,W
  refine⟨_,kab (psl (i:=4) Zh.nd (kbi (N:=["line","marked","voucher","parents"]) (CompScope.of (N:=["line","marked","voucher","parents"]) (cap:=[none,none,some 0,some 1]) (kah kdN).names ["voucher","parents","basket","standing","fitting"] rfl rfl (by decide +kernel)) rfl (keS rfl W.B.zip (kaa (kam (K:=K) (pv 2) rfl) (kaa (kam (K:=K) (pv 3) rfl) kae))) (fun _ _ _ _=>kbb (K:=K) (n:=2) rfl (kaw (pgn (i:=0) (show(["line","marked","voucher","parents"]:List Str).Nodup by decide +kernel)) (kaw (pgn (i:=1) (show(["line","marked","voucher","parents"]:List Str).Nodup by decide +kernel)) kba))) (fun _ _ _ _=>(pcl ZY hr W.YC (kaa (kam (K:=K) (pv 2) rfl) (kaa (pv 3) (kaa (kam (K:=K) (pv 0) rfl) (kaa (pv 1) kae))))))))
   (kag (kan (kje (N:=["piece","owner","fitting"]) (CompScope.of (N:=["piece","owner","fitting"]) (cap:=[none,none,some 4]) (kah kdN).names ["voucher","parents","basket","standing","fitting"] rfl rfl (by decide +kernel)) rfl (kdR rfl W.B.enum (kaa (kam (K:=K) (pv 3) rfl) kae)) (fun _ _ _ _=>kbb (K:=K) (n:=2) rfl (kaw (pgn (i:=0) (show(["piece","owner","fitting"]:List Str).Nodup by decide +kernel)) (kaw (pgn (i:=1) (show(["piece","owner","fitting"]:List Str).Nodup by decide +kernel)) kba))) (fun _ _ _ _=>kkz (kaS (pe_ix (r:=rIxL K) kay (pv 2) (pv 1) (fun _ _=>rfl)))) (fun _ _ _ _=>(pv 0))))),?_⟩
  have np:=wf.np
  have nl:=wf.nl
  have lenL:=hL.len
  have lenM:=wf.lm
  have emin:min (ls.map V.ref).length (S.mkd.map V.bl).length=B.rs.length:=by rw[Uu,Uu,lenL,lenM,JS]
  refine⟨_,rfl,b,d.qg,dxb,fsb,_,rfl,hb,W.qg.cl,W.QG,lb1,_,rfl,x,d.qc,dxs,fss,_,rfl,hx,W.qc.cl,W.qN,l4,l,mk,_,_,rfl,hl,hmk,
   ke5 (xs:=ls.map V.ref) (ys:=S.mkd.map V.bl) (fun i σ zs H'=>Same H H'∧zs=((Uz i).map fun l=>hits ps (kds B) Vc.ms.kind Vc.ms.lone S.mkd l).map V.bl∧∃v0 v1:Option V,σ=[v0,v1,some (.ref v),some (.ref a)])
    ⟨Same.refl _,rfl,none,none,rfl⟩ (by rw[emin];exact UI (kap (by omega))) (fun i σ zs H' _ h=>⟨h.1 _ _ hl,h.1 _ _ hmk,by rw[h.2.1];simp⟩) ?_ ?_⟩
  ·rintro i y m t σ zs H1 hy hm ⟨s1,rfl,v0,v1,rfl⟩ ht
   obtain⟨lx,elx,rfl⟩:=kbZ hy
   obtain⟨mv,emv,rfl⟩:=kbl hm
   obtain⟨r,er,hr⟩:=hL.at elx
   have s2:=s1.trans (kak (o:=.tup [V.ref lx,V.bl mv]) ht)
   obtain⟨dxl,fsl,hlx,lk1,_⟩:=hr.same s2
   have hkd:=wf.kd r (UE er)
   obtain⟨kn,ekn⟩:=Int.eq_ofNat_of_zero_le hkd.1
   have hkn:kn<ps.length:=by omega
   refine⟨t,_,rfl,SqT.of kad,rfl,_,_,rfl,_,_,rfl,rfl,?_⟩
   refine⟨_,rfl,v,clsOf d Vc.so,dxv,fsv,_,rfl,s2 _ _ hv,cl_of W hh,na_of W hh,lvm,_,rfl,_,rfl,lx,d.qf,dxl,fsl,_,rfl,hlx,W.qf.cl,W.Ze,lk1,_,rfl,mA,a,Vc.ms,ps,kn,mv,by rw[ekn];rfl,hM.same s2,s2.seq hA,wf.good,hkn,s2,?_,_,_,rfl⟩
   have e1:hits ps (kds B) Vc.ms.kind Vc.ms.lone S.mkd i=(kHit ps Vc.ms.kind kn&&(!Vc.ms.lone|| !mv)):=by
    unfold hits
    have e2:S.mkd.getD i false=mv:=by rw[UF,emv];rfl
    rw[e2,kj9 er,ekn,Int.toNat_natCast]
   rw[JB,UH,UH,←e1]
   rfl
  rintro σ zs H1 ⟨s1,rfl,v0,v1,rfl⟩ D hD
  rw[emin]
  have s2:=s1.trans (kak (o:=.lst (((Uz B.rs.length).map fun l=>hits ps (kds B) Vc.ms.kind Vc.ms.lone S.mkd l).map V.bl)) hD)
  have eD:(upd H1 D (.lst (((Uz B.rs.length).map fun l=>hits ps (kds B) Vc.ms.kind Vc.ms.lone S.mkd l).map V.bl))) D=some (.lst (((Uz B.rs.length).map fun l=>hits ps (kds B) Vc.ms.kind Vc.ms.lone S.mkd l).map V.bl)):=kad
  generalize upd H1 D (.lst (((Uz B.rs.length).map fun l=>hits ps (kds B) Vc.ms.kind Vc.ms.lone S.mkd l).map V.bl))=H2 at *
  refine⟨_,rfl,x,d.qc,dxs,fss,_,rfl,s2 _ _ hx,W.qc.cl,W.qC,l1,o,_,rfl,s2 _ _ ho,
   khq (xs:=S.ow.map iV) (fun i σ ys H'=>Same H2 H'∧ys=((Uz i).filter fun i=>hits ps (kds B) Vc.ms.kind Vc.ms.lone S.mkd (S.ow.getD i 0)).map iV∧∃v0 v1:Option V,σ=[v0,v1,some (.ref D)])
    ⟨Same.refl _,rfl,none,none,rfl⟩ (by rw[Uu];exact UI (kap (by omega))) (fun i σ zs H' _ h=>⟨h.1 _ _ (s2 _ _ ho),by rw[h.2.1,Uu];have:=Nd (fun i=>hits ps (kds B) Vc.ms.kind Vc.ms.lone S.mkd (S.ow.getD i 0)) (Uz i);simpa using this⟩) ?_ ?_⟩
  ·rintro i y t σ zs H3 hy ⟨s3,rfl,v0,v1,rfl⟩ ht
   obtain⟨ln,eln,rfl⟩:=kbl hy
   have hln:=wf.line eln
   have s4:=s3.trans (kak (o:=.tup [V.int (i:Nat),iV ln]) ht)
   refine⟨t,_,rfl,SqT.of kad,rfl,_,_,rfl,_,_,rfl,rfl,?_⟩
   refine⟨_,rfl,_,rfl,D,_,_,_,rfl,rfl,SqL.of (s4 _ _ eD),kaQ (v:=.bl (hits ps (kds B) Vc.ms.kind Vc.ms.lone S.mkd ln)) (by rw[UD,UD,JT hln];rfl),_,rfl,?_⟩
   have e1:S.ow.getD i 0=ln:=by rw[UF,eln];rfl
   have st:=ke7 (ps:=ps) (kk:=kds B) (kind:=Vc.ms.kind) (lone:=Vc.ms.lone) (S:=S) (i:=i)
   rw[e1] at st
   cases hh2:hits ps (kds B) Vc.ms.kind Vc.ms.lone S.mkd ln with
   |false=>exact iteF ⟨s4,by rw[st,hh2];simp,_,_,rfl⟩
   |true=>exact iteT ⟨_,rfl,s4,by rw[st,hh2,if_pos rfl,UH];rfl,_,_,rfl⟩
  ·rintro σ zs H3 ⟨s3,rfl,v0,v1,rfl⟩ D2 hD2
   rw[Uu]
   have s4:=(s2.trans s3).trans (kak (o:=.lst ((abt ps (kds B) Vc.ms.kind Vc.ms.lone S).map iV)) hD2)
   exact k _ D2 s4 (none_of (s2.trans s3) hD2) kad
inductive kek (CS:Addr) (vs:List V) (H:Hp) (Q:VK) (E_:XK):Prop
 |ct (x g:Addr)(S:Stnd)(is:List Nat)(_:vs=[.ref x, .ref g])(_:StndIs CS H x S)(_:H g=some (.lst (is.map iV)))(_:(∀i∈is,i<S.pr.length))(_:is.length≤720)(_:∀p,H p=none→Q (.ref p) (upd H p (.lst ((qs S.pr is).map V.int)))):kek CS vs H Q E_
theorem kfk:kao ["standing","pieces"] ["standing","pieces"] (kah kb0):=by ac_rfl
theorem kdo(W:WB K mg d base):FO P w W 1 d.Xr d.Xs ["standing","pieces"] (kek d.qc):=by
 exists W.Qu.F,kfk
 ·obtain⟨x,g,S,is,rfl,⟨o,p,mk,⟨dxs,fss,hx,l1,l2,l3,l4,l5⟩,ho,hp,hmk⟩,hg,hi,hl,k⟩:=h
  refine⟨_,kag (kan (kbi (N:=["piece","standing"]) (CompScope.of (N:=["piece","standing"]) (cap:=[none,some 0]) (kah kb0).names ["standing","pieces"] rfl rfl (by decide +kernel)) rfl (kaF (K:=K) (pv 1)) (fun _ _ _ _=>pgn (i:=0) (show(["piece","standing"]:List Str).Nodup by decide +kernel)) (fun _ _ _ _=>(pe_ix (r:=rIxL K) kay (kam (K:=K) (pv 1) rfl) (pv 0) (fun _ _=>rfl))))),?_⟩
  refine⟨_,rfl,g,rfl,⟨_,SqL.of hg⟩,kaV (xs:=is.map iV) (fun j σ ys H'=>H'=H∧ys=(qs S.pr (is.take j)).map V.int∧∃v,σ=[v,some (.ref x)]) ⟨rfl,rfl,none,rfl⟩ ?_ ?_ ?_ ?_⟩
  ·rw[Uu]
   exact UI (kap (by omega))
  ·rintro j σ ys H' hj ⟨rfl,rfl,_⟩
   exact⟨SqL.of hg,by rw[Uu,kbq,UP];rw[Uu] at hj;omega⟩
  ·rintro j y σ ys H' hy ⟨rfl,rfl,v,rfl⟩
   obtain⟨n,en,rfl⟩:∃n,is[j]?=some n∧y=iV n:=kbl hy
   obtain⟨z,ez⟩:=at_of (hi n (UE en))
   refine⟨_,rfl,x,d.qc,dxs,fss,_,rfl,hx,W.qc.cl,W.qw,l2,_,rfl,p,_,_,_,rfl,rfl,SqL.of hp,kaQ (by rw[UD,ez];rfl),rfl,?_,_,rfl⟩
   rw[JA,en]
   simp[qs,ez]
  ·rintro σ ys H' ⟨rfl,rfl,v,rfl⟩ D hD
   rw[Uu,U0]
   exact k D hD
inductive khK (CS:Addr) (vs:List V) (H:Hp) (Q:VK) (E_:XK):Prop
 |ct (x g:Addr)(S:Stnd)(is:List Nat)(_:vs=[.ref x, .ref g])(_:StndIs CS H x S)(_:H g=some (.lst (is.map iV)))(_:(∀i∈is,i<S.pr.length))(_:is.length≤720)(_:∀H',Same H H'→Q (.int (qs S.pr is).sum) H'):khK CS vs H Q E_
theorem kdx:kao ["standing","pieces"] ["standing","pieces"] (kah kbD):=by ac_rfl
theorem kb9(W:WB K mg d base):FO P w W 2 d.Xt d.Xu ["standing","pieces"] (khK d.qc):=by
 exists W.qL.F,kdx
 ·obtain⟨x,g,S,is,rfl,hS,hg,hi,hl,k⟩:=h
  exists QQ,kdo,W
  refine⟨_,kag (kan (kat (r:=rSum K) (kb8 rfl) (by rfl) W.B.sum b_sum (kaa (pcl QQ hr W.Qu (kaa (pv 0) (kaa (pv 1) kae))) kae))),?_⟩
  exact⟨_,rfl,_,rfl,x,g,S,is,rfl,hS,hg,hi,hl,fun p hp=>⟨p,_,rfl,SqL.of kad,k _ (kak hp)⟩⟩
theorem QR:kao ["voucher","parents","basket","standing","marks","pieces"] ["voucher","parents","basket","standing"] (kah kcF):=by ac_rfl
theorem kfs(W:WB K mg d base):FO P w W 4 d.Xc d.Xd ["voucher","parents","basket","standing"] (kjS K d):=by
 exists W.YD.F,QR
 ·obtain⟨v,a,b,x,Vc,ps,B,S,rfl,hV,hA,hB,hS,wf,vo,k⟩:=h
  obtain⟨mA,dxv,fsv,hv,lvm,_,hM,hh,htb⟩:=id hV
  obtain⟨dxm,fsm,hm,m1,m2,m3,m4,m5,m6⟩:=id hM
  obtain⟨l,ls,⟨dxb,fsb,hb,lb1,lb2,lb3⟩,hl,hL⟩:=id hB
  exists QS,kgQ,W
  exists qS,kb9,W
  exists hr2,2,hr,0
  refine⟨_,kab (psl (i:=4) QR.nd (kam (K:=K) (pv 0) rfl))
   (kab (kcm (ps_if (PW.pt (ka8 (kaS (kam (K:=K) (pv 4) rfl)) (ka0 (kfo (kaS (kam (K:=K) (pv 2) rfl)))))) (kag (kan kau)) (kas)))
   (kab (psl (i:=5) QR.nd (pcl QS hr W.Qs (kaa (pv 0) (kaa (pv 1) (kaa (pv 2) (kaa (pv 3) kae))))))
   (kab (ps_if (kar op_eq (kat (r:=kbz K) kaJ (by rfl) W.B.len b_len (kaa (pv 5) kae)) kaf (kav _)) (kag (kan kau)) (kas))
   (kab (ps_if (kar op_lt (pcl qS hr2 W.qL (kaa (pv 3) (kaa (pv 5) kae))) (kam (K:=K) (pv 4) rfl) (kav _)) (kag (kan kau)) (kas))
   (kag (kan kaT)))))),?_⟩
  have np:=wf.np
  have habl:∀i∈abt ps (kds B) Vc.ms.kind Vc.ms.lone S,i<S.pr.length:=fun i hi=>by rw[wf.lp];exact keA hi
  have lab:(abt ps (kds B) Vc.ms.kind Vc.ms.lone S).length≤720:=UA (kcM _ _ _ _ _) np
  refine⟨_,rfl,v,clsOf d Vc.so,dxv,fsv,_,rfl,hv,cl_of W hh,na_of W hh,lvm,?_⟩
  refine⟨fun σ' H'=>σ'=[some (.ref v),some (.ref a),some (.ref b),some (.ref x),some (.ref mA),none]∧H'=H∧(Vc.ms.member&& !B.m)=false,⟨_,rfl,mA,d.qd,dxm,fsm,_,rfl,hm,W.qd.cl,W.Y5,m4,Vc.ms.member,rfl,?_⟩,?_⟩
  ·cases e:Vc.ms.member with
   |false=>exact iteF (iteF ⟨rfl,rfl,rfl⟩)
   | true=>
    refine iteT ⟨_,rfl,b,d.qg,dxb,fsb,_,rfl,hb,W.qg.cl,W.QH,lb3,B.m,rfl,?_⟩
    cases e2:B.m with
    |true=>exact iteF ⟨rfl,rfl,rfl⟩
    |false=>
     refine iteT ?_
     have z:=k H (Same.refl _)
     unfold hindM at z
     rw[e,e2,if_pos (by decide)] at z
     exact z
  ·rintro σ' H' ⟨rfl,rfl,hh2⟩
   refine⟨_,rfl,_,rfl,_,rfl,_,rfl,v,a,b,x,Vc,ps,B,S,rfl,hV,hA,hB,hS,wf,vo,fun H1 pa s1 f1 h1=>?_⟩
   refine⟨_,rfl,pa,_,rfl, .inl (SqL.of h1),rfl,_,rfl,?_⟩
   have ed:decide (V.int (((abt ps (kds B) Vc.ms.kind Vc.ms.lone S).map iV).length:Nat)=V.int 0)=decide ((abt ps (kds B) Vc.ms.kind Vc.ms.lone S).length=0):=by
    rw[Uu]
    by_cases h0:(abt ps (kds B) Vc.ms.kind Vc.ms.lone S).length=0
    ·rw[h0]
     rfl
    ·rw[decide_eq_false h0]
     refine decide_eq_false fun z=>h0 ?_
     injection z with z
     omega
   show if decide (V.int (((abt ps (kds B) Vc.ms.kind Vc.ms.lone S).map iV).length:Nat)=V.int 0)=true then _ else _
   rw[ed]
   by_cases h0:(abt ps (kds B) Vc.ms.kind Vc.ms.lone S).length=0
   ·rw[decide_eq_true h0]
    refine iteT ?_
    have z:=k H1 s1
    unfold hindM at z
    rw[hh2,if_neg (by decide),if_pos h0] at z
    exact z
   ·rw[decide_eq_false h0]
    refine iteF ⟨_,rfl,_,rfl,x,pa,S,_,rfl,hS.same s1,h1,habl,lab,fun H2 s2=>?_⟩
    have z:=k H2 (s1.trans s2)
    unfold hindM at z
    rw[hh2,if_neg (by decide),if_neg h0] at z
    refine⟨_,rfl,mA,d.qd,dxm,fsm,_,rfl,(s1.trans s2) _ _ hm,W.qd.cl,W.Y3,m2,_,_,rfl,rfl,_,rfl,?_⟩
    by_cases h2:(qs S.pr (abt ps (kds B) Vc.ms.kind Vc.ms.lone S)).sum<Vc.ms.needs
    ·rw[if_pos h2] at z
     rw[decide_eq_true h2]
     exact iteT z
    ·rw[if_neg h2] at z
     rw[decide_eq_false h2]
     exact iteF z
inductive kgB (vs:List V) (H:Hp) (Q:VK) (E_:XK):Prop
 |ct (m:Option Int)(n:Int)(_:vs=[oV m, .int n])(_:Q (.int (atM m n)) H):kgB vs H Q E_
theorem khb:kao ["most","number"] ["most","number"] (kah kdM):=by ac_rfl
theorem khg(W:WB K mg d base):FO P w W 1 d.Xv d.Xw ["most","number"] kgB:=by
 exists W.YK.F,khb
 ·obtain⟨m,n,rfl,k⟩:=h
  refine⟨_,kab (ps_if (kar kdV (pv 0) kaT (kav _)) (kag (kan (pv 1))) (kas))
   (kag (kan (kat (kc6 rfl) (by rfl) W.B.min b_min (kaa (pv 0) (kaa (pv 1) kae))))),?_⟩
  cases m with
  |none=>
   refine⟨_,rfl,rfl,_,rfl,?_⟩
   show if decide (V.non=V.non)=true then _ else _
   rw[show decide (V.non=V.non)=true by simp]
   exact iteT ⟨_,rfl,k⟩
  | some z=>
   refine⟨_,rfl,rfl,_,rfl,?_⟩
   show if decide (V.int z=V.non)=true then _ else _
   rw[show decide (V.int z=V.non)=false by simp]
   refine iteF ⟨_,rfl,_,rfl,_,_,rfl,?_⟩
   have e:atM (some z) n=if n<z then n else z:=by
    show min z n=_
    split <;> omega
   rw[e] at k
   exact k
inductive kff (d:D) (vs:List V) (H:Hp) (Q:VK) (E_:XK):Prop
 |ct (v x:Addr)(V:Vch)(S:Stnd)(_:vs=[.ref v, .ref x])(_:VchIs d H v V)(_:StndIs d.qc H x S)(_:Q (.int (if kbv V.so=true then atM V.ms.most S.cg else 0)) H):kff d vs H Q E_
theorem kcO:kao ["voucher","standing"] ["voucher","standing"] (kah kbn):=by ac_rfl
theorem kcV(W:WB K mg d base):FO P w W 2 d.Xi d.Xj ["voucher","standing"] (kff d):=by
 exists W.YG.F,kcO
 ·obtain⟨v,x,Vc,S,rfl,⟨mA,dxv,fsv,hv,lvm,_,⟨dxm,fsm,hm,m1,m2,m3,m4,m5,m6⟩,hh,htb⟩,⟨o,p,mk,⟨dxs,fss,hx,l1,l2,l3,l4,l5⟩,ho,hp,hmk⟩,k⟩:=h
  exists ZZ,khg,W
  refine⟨_,kab (ps_if (kaS (kat (r:=rIsi K) kaE (by rfl) W.B.isi b_isi (kaa (pv 0) (kaa (kdf (v:=.ref d.qi) (by rfl) W.Zz rfl) kae)))) (kag (kan (pcl ZZ hr W.YK (kaa (kam (K:=K) (kam (K:=K) (pv 0) rfl) rfl) (kaa (kam (K:=K) (pv 1) rfl) kae))))) (kas))
   (kag (kan kaf)),?_⟩
  have I:=kka W hh
  refine⟨_,rfl,_,_,_,_,rfl, .inr ⟨_,rfl⟩,TyOf.ins hv (cl_of W hh) I.ha I.hn I.ht I.hm,kfC W hh,_,rfl,?_⟩
  cases e:kbv Vc.so with
  |false=>
   rw[e,if_neg UB] at k
   exact iteF k
  |true=>
   rw[e,if_pos rfl] at k
   exact iteT ⟨_,rfl,v,clsOf d Vc.so,dxv,fsv,_,rfl,hv,cl_of W hh,na_of W hh,lvm,mA,d.qd,dxm,fsm,_,rfl,hm,W.qd.cl,W.Qw,m3,_,rfl,x,d.qc,dxs,fss,_,rfl,hx,W.qc.cl,W.qZ,l3,_,_,rfl,k⟩
noncomputable def kvOf(G:List (Nat×List Nat))(gl:List Addr):List (Key×V):=US (fun p r=>(Sum.inl (p.1:Int),V.ref r)) G gl
theorem kgY:∀{G:List (Nat×List Nat)}{gl:List Addr},gl.length=G.length→(kvOf G gl).map Prod.snd=gl.map V.ref
 |[],[],_=>rfl
 |[],r::gl,h=>by cases h
 |p::G,[],h=>by cases h
 |p::G,r::gl,h=>by
  have ih:=kgY (G:=G) (gl:=gl) (by simpa using h)
  show V.ref r::(kvOf G gl).map Prod.snd=V.ref r::gl.map V.ref
  rw[ih]
theorem kgf:∀{G:List (Nat×List Nat)}{gl:List Addr}(o a:Nat),gl.length=G.length→
  (atK (kvOf G gl) (Sum.inl (o:Int))=none∧ins G o a=G++[(o,[a])])∨∃(j:Nat)(g:List Nat)(r:Addr),G[j]?=some (o,g)∧gl[j]?=some r∧atK (kvOf G gl) (Sum.inl (o:Int))=some (.ref r)∧ins G o a=G.set j (o,g++[a])
 |[],gl,o,a,h=>.inl ⟨rfl,rfl⟩
 |(l,g)::G,[],o,a,h=>by cases h
 | (l,g)::G,r::gl,o,a,h=>by
  have hl:gl.length=G.length:=by simpa using h
  unfold ins
  by_cases e:l=o
  ·subst e
   exact .inr ⟨0,g,r,rfl,rfl,by simp[kvOf,atK],by rw[if_pos rfl];rfl⟩
  ·rw[if_neg e]
   have e':¬((l:Int)=(o:Int)):=fun z=>e (by omega)
   have ea:atK (kvOf ((l,g)::G) (r::gl)) (Sum.inl (o:Int))=atK (kvOf G gl) (Sum.inl (o:Int)):=by
    simp[kvOf,atK,Jp,e']
   rcases kgf o a hl with⟨h1,h2⟩|⟨j,g',r',h1,h2,h3,h4⟩
   ·exact .inl ⟨by rw[ea];exact h1,by rw[h2];rfl⟩
   ·exact .inr ⟨j+1,g',r',by simpa using h1,by simpa using h2,by rw[ea];exact h3,by rw[h4];rfl⟩
theorem kjs{G:List (Nat×List Nat)}{gl:List Addr}{j o:Nat}{g g':List Nat}(h:G[j]?=some (o,g)):kvOf (G.set j (o,g')) gl=kvOf G gl:=by
 unfold kvOf
 apply JC
 intro i
 rw[JK,JK]
 by_cases e:j=i
 ·subst e
  have hj:=at_lt h
  rw[JN hj,h]
  cases gl[j]? <;> rfl
 ·rw[JO e]
theorem kio{G:List (Nat×List Nat)}{gl:List Addr}{o:Nat}{g:List Nat}{e:Addr}(h:gl.length=G.length):kvOf (G++[(o,g)]) (gl++[e])=kvOf G gl++[(Sum.inl (o:Int), .ref e)]:=by
 unfold kvOf
 rw[List.zipWith_append h.symm]
 rfl
structure Ptd (H H':Hp) (dd:Addr) (gl:List Addr) (G:List (Nat×List Nat)):Prop where
 sm:Same H H'
 nd:gl.Nodup
 fg:∀r∈gl,H r=none∧r≠dd
 dk:H' dd=some (.dK (kvOf G gl))
 ls:P2 (fun r p=>H' r=some (.lst (p.2.map iV))) gl G
theorem Ptd.more{H H':Hp}{dd e:Addr}{gl:List Addr}{G:List (Nat×List Nat)}(h:Ptd H H' dd gl G)(fd:H dd=none)(he:H' e=none){o a:Nat}:
  Ptd H (upd (upd (upd H' e (.lst [])) dd (.dK (kvOf G gl++[(Sum.inl (o:Int), .ref e)]))) e (.lst [iV a])) dd (gl++[e]) (G++[(o,[a])]):=by
 have e0:H e=none:=none_of h.sm he
 have ned:e≠dd:=fun z=>by rw[z,h.dk] at he;cases he
 refine⟨kaq e0 (kaq fd (h.sm.trans (kak he)) (kcD (nx h.dk)))  (kcD (nx kad)),?_,fun r hr=>?_,?_,?_⟩
 ·refine Md.mpr ⟨h.nd,by simp,fun x hx y hy z=>?_⟩
  rw[Jq] at hy
  subst hy z
  obtain⟨i,hi⟩:=JU.mp hx
  obtain⟨p,_,hp⟩:=h.ls.at hi
  rw[hp] at he
  cases he
 ·rcases Jg.mp hr with hr|hr
  ·exact h.fg r hr
  ·rw[Jq] at hr
   subst hr
   exact⟨e0,ned⟩
 ·rw[kaj ned.symm,kad,kio h.ls.len]
 ·refine P2.snoc (P2.of h.ls.len fun i r p e1 e2=>?_) kad
  have hp:=h.ls.get e1 e2
  rw[kaj (kai hp he),kaj (h.fg r (UE e1)).2,kaj (kai hp he)]
  exact hp
theorem Ptd.put{H H':Hp}{dd e r:Addr}{gl:List Addr}{G:List (Nat×List Nat)}(h:Ptd H H' dd gl G)(he:H' e=none){j o a:Nat}{g:List Nat}(h1:G[j]?=some (o,g))(h2:gl[j]?=some r):
  Ptd H (upd (upd H' e (.lst [])) r (.lst (g.map iV++[iV a]))) dd gl (G.set j (o,g++[a])):=by
 have hr:=h.fg r (UE h2)
 have hrv:=h.ls.get h2 h1
 refine⟨kaq hr.1 (h.sm.trans (kak he)),h.nd,h.fg,?_,P2.of (by rw[NW];exact h.ls.len) fun i r' p e1 e2=>?_⟩
 ·rw[kaj hr.2.symm,kaj (kai h.dk he),h.dk,kjs h1]
 ·by_cases eji:j=i
  ·subst eji
   rw[h2] at e1
   cases e1
   rw[JN (at_lt h1)] at e2
   cases e2
   rw[kad,UH]
   rfl
  ·rw[JO eji] at e2
   have hp:=h.ls.get e1 e2
   have hne:r'≠r:=fun z=>by
    subst z
    exact eji ((List.getElem?_inj (at_lt h2) h.nd).mp (h2.trans e1.symm))
   rw[kaj hne,kaj (kai hp he)]
   exact hp
inductive kgy (CS:Addr) (vs:List V) (H:Hp) (Q:VK) (E_:XK):Prop
 |ct (x pa:Addr)(S:Stnd)(is:List Nat)(_:vs=[.ref x, .ref pa])(_:StndIs CS H x S)(_:H pa=some (.lst (is.map iV)))(_:(∀i∈is,i<S.ow.length))(_:is.length≤720)(_:∀(H':Hp)(p:Addr)(gl:List Addr),Same H H'→H p=none→H' p=some (.lst (gl.map V.ref))→P2 (fun r g=>H' r=some (.lst (g.map iV))) gl ((parted (fun i=>S.ow.getD i 0) is).map Prod.snd)→(∀r∈gl,H r=none)→Q (.ref p) H'):kgy CS vs H Q E_
theorem P2.mapR{α β γ:Type}{R: α→γ→Prop}{f: β→γ}{as:List α}{bs:List β}(h:P2 (fun a b=>R a (f b)) as bs):P2 R as (bs.map f):=by
 induction h with
 |nil=>exact .nil
 |cons r t ih=>exact .cons r ih
theorem QT:kao ["standing","pieces","by_line","piece"] ["standing","pieces"] (kah kbx):=by ac_rfl
theorem kdh(W:WB K mg d base):FO P w W 1 d.Xm d.Xn ["standing","pieces"] (kgy d.qc):=by
 exists W.YI.F,QT
 ·obtain⟨x,pa,S,is,rfl,⟨o,p,mk,⟨dxs,fss,hx,l1,l2,l3,l4,l5⟩,ho,hp,hmk⟩,hpa,hi,hl,k⟩:=h
  refine⟨_,kab (psl (i:=2) QT.nd kjd)
   (kab (kbe PassesOwn.never rfl (kaF (K:=K) (pv 1)) (pgn (i:=3) QT.nd)
   (kag (ka3 (pe_bm Jd Jr Js ka4 (pe_bm Mn Mm PySem.F.type_dict_setdefault ke1 (pv 2) (kaa (pe_ix (r:=rIxL K) kay (kam (K:=K) (pv 0) rfl) (pv 3) (fun _ _=>rfl)) (kaa (kaM kae) kae))) (kaa (pv 3) kae)))))
   (kag (kan (kf6 rfl (by rfl) W.B.list (pv 2))))),?_⟩
  refine fun dd hd=>?_
  have s1:=kak (o:=.dK []) hd
  refine⟨_,rfl,pa,rfl,⟨_,SqL.of (s1 _ _ hpa)⟩,kbp (K:=K) (a:=pa) (xs:=is.map iV) (fun i σ H'=>(∃v3:Option V,σ=[some (.ref x),some (.ref pa),some (.ref dd),v3])∧∃gl,Ptd H H' dd gl (parted (fun i=>S.ow.getD i 0) (is.take i)))
   ⟨⟨none,rfl⟩,[],s1,by simp,fun r hr=>by simp at hr,kad, .nil⟩ (fun i σ H' _ h=>SqL.of (h.2.choose_spec.sm _ _ hpa)) ?_ ?_⟩
  ·rintro i y σ H1 hy ⟨⟨v3,rfl⟩,gl,Z⟩
   obtain⟨a,ea,rfl⟩:=kbl hy
   have hil:=at_lt ea
   obtain⟨ln,eln⟩:=at_of (hi a (UE ea))
   have eg:S.ow.getD a 0=ln:=by rw[UF,eln];rfl
   have enext:parted (fun i=>S.ow.getD i 0) (is.take (i+1))=ins (parted (fun i=>S.ow.getD i 0) (is.take i)) ln a:=by
    rw[kbR ea,kdT,eg]
   have lenG:=keq (fun i=>S.ow.getD i 0) (is.take i)
   rw[UP] at lenG
   have lenK:(kvOf (parted (fun i=>S.ow.getD i 0) (is.take i)) gl).length<sizeLine:=by
    refine kap ?_
    unfold kvOf
    rw[Nf]
    omega
   refine⟨_,rfl, .inr (.inr (.inl ⟨rfl, .inl ⟨_,Z.dk⟩⟩)),_,rfl,x,d.qc,dxs,fss,_,rfl,Z.sm _ _ hx,W.qc.cl,W.qC,l1,_,rfl,o,_,_,_,rfl,rfl,SqL.of (Z.sm _ _ ho),kaQ (v:=.int (ln:Nat)) (by rw[UD,eln];rfl),by decide,fun e he=>?_⟩
   have ned:dd≠e:=kai Z.dk he
   refine⟨dd,kvOf (parted (fun i=>S.ow.getD i 0) (is.take i)) gl,(ln:Nat), .ref e,rfl,rfl,by rw[kaj ned];exact Z.dk,lenK,fun v hv=>?_,fun hn=>?_⟩
   ·rcases kgf (G:=parted (fun i=>S.ow.getD i 0) (is.take i)) ln a Z.ls.len with⟨h1,_⟩|⟨j,g,r,h1,h2,h3,h4⟩
    ·rw[h1] at hv
     cases hv
    ·rw[h3] at hv
     cases hv
     have hrv:=Z.ls.get h2 h1
     have gl20:g.length≤720:=by
      have eg':=(kco (fun i=>S.ow.getD i 0) (is.take i)).gs ln g (UE h1)
      rw[eg']
      refine UA (Nd _ _) ?_
      rw[UP]
      omega
     have hr2:(upd H1 e (.lst [])) r=some (.lst (g.map iV)):=by rw[kaj (kai hrv he)];exact hrv
     refine⟨.inl ⟨rfl,_,SqL.of hr2⟩,_,rfl,r,_,_,rfl,rfl,hr2,kap (by rw[Uu];omega),⟨_,rfl⟩,gl,?_⟩
     rw[enext,h4]
     exact Z.put he h1 h2
   ·rcases kgf (G:=parted (fun i=>S.ow.getD i 0) (is.take i)) ln a Z.ls.len with⟨_,h4⟩|⟨j,g,r,h1,h2,h3,h4⟩
    ·have he2:(upd (upd H1 e (.lst [])) dd (.dK (kvOf (parted (fun i=>S.ow.getD i 0) (is.take i)) gl++[(Sum.inl ((ln:Nat):Int), .ref e)]))) e=some (.lst []):=by rw[kaj ned.symm,kad]
     refine⟨.inl ⟨rfl,_,SqL.of he2⟩,_,rfl,e,[],_,rfl,rfl,he2,by decide,⟨_,rfl⟩,gl++[e],?_⟩
     rw[enext,h4]
     exact Z.more hd he
    ·rw[h3] at hn
     cases hn
  ·rintro σ H1 ⟨⟨v3,rfl⟩,gl,Z⟩
   rw[Uu,U0] at Z
   refine⟨_,rfl,dd,_,rfl,Z.dk,fun l hl2=>?_⟩
   rw[kgY Z.ls.len]
   refine k _ l gl (Z.sm.trans (kak hl2)) (none_of Z.sm hl2) kad (P2.mapR (f:=Prod.snd) (R:=fun r g=>(upd H1 l (.lst (gl.map V.ref))) r=some (.lst (g.map iV))) (Z.ls.mono fun r p h=>kak hl2 _ _ h)) fun r hr=>(Z.fg r hr).1
inductive kfe (d:D) (vs:List V) (H:Hp) (Q:VK) (E_:XK):Prop
 |ct (x pa:Addr)(S:Stnd)(is:List Nat)(m:Nat)(_:vs=[.ref x, .ref pa, .int m])(_:StndIs d.qc H x S)(_:H pa=some (.lst (is.map iV)))(_:is.Pairwise (· < ·))(_:(∀i∈is,i<S.pr.length))(_:is.length<64)(_:2≤m)(_:m≤20)(_:Tbs d H)(_:∀(H':Hp)(p:Addr)(gl:List Addr),Same H H'→H p=none→H' p=some (.lst (gl.map V.ref))→P2 (fun r g=>H' r=some (.lst (g.map iV))) gl (grp m (fallP S.pr is))→(∀r∈gl,H r=none)→Q (.ref p) H'):kfe d vs H Q E_
theorem kkN{pr:List Int}{is:List Nat}{ms:List Int}(hs:is.Pairwise (· < ·))(hp:ms.Perm (is.map fun(i:Nat)=>(i:Int)))(hk:ms.Pairwise fun a b=> -(pr.getD a.toNat 0)< -(pr.getD b.toNat 0)∨(-(pr.getD a.toNat 0)= -(pr.getD b.toNat 0)∧a<b)):ms.map V.int=(fallP pr is).map iV:=by
 have e:ms=(ms.map Int.toNat).map fun(i:Nat)=>(i:Int):=by
  rw[UR]
  conv=>lhs;rw[←List.map_id ms]
  refine Jj fun z hz=>?_
  obtain⟨i,_,rfl⟩:=UX.mp (hp.mem_iff.mp hz)
  simp
 have hp2:(ms.map Int.toNat).Perm is:=by
  have:=hp.map Int.toNat
  rw[UR] at this
  have e2:is.map (Int.toNat∘fun(i:Nat)=>(i:Int))=is:=by
   conv=>rhs;rw[←List.map_id is]
   exact Jj fun i _=>rfl
  rwa [e2] at this
 have hk2:(ms.map Int.toNat).Pairwise (befP pr):=by
  rw[Me]
  refine hk.imp_of_mem fun {a b} ha hb h=>?_
  obtain⟨i,_,rfl⟩:=UX.mp (hp.mem_iff.mp ha)
  obtain⟨j,_,rfl⟩:=UX.mp (hp.mem_iff.mp hb)
  unfold befP
  simp only[Int.toNat_natCast] at h⊢
  omega
 rw[e,khn hs hp2 hk2,UR]
 rfl
theorem Zi:kao ["standing","pieces","many","falling"] ["standing","pieces","many"] (kah kaz):=by ac_rfl
theorem kdi(W:WB K mg d base):FO P w W 1 d.Xo d.Qk ["standing","pieces","many"] (kfe d):=by
 refine FunD.okC W.Qt.F Zi (fun vs H Q E h=>?_) (fun A outer s H vs Q E hr h=>?_)
 ·obtain⟨x,pa,S,is,m,rfl,_⟩:=h
  rfl
 ·obtain⟨x,pa,S,is,m,rfl,hS,hpa,hs,hi,h64,hm2,hm20,htb,k⟩:=h
  obtain⟨o,p,mk,⟨dxs,fss,hx,l1,l2,l3,l4,l5⟩,ho,hp,hmk⟩:=id hS
  refine⟨_,kab (psl (i:=3) Zi.nd (khd (N:=["piece","standing"]) (cap:=[some 0]) (pv 1) ⟨CompScope.of (N:=["piece","standing"]) (cap:=[none,some 0]) (kah kaz).names ["standing","pieces","many","falling"] rfl rfl (by decide +kernel),rfl,rfl,rfl,rfl,by decide +kernel⟩ rfl hr.depth W.code_falling_groups W.ck_falling_groups W.blt (by rfl) W.B.sorted (fun _ _ _ _ _=>rfl) (fun _ _ _ _ _=>(pe_un kjN (pe_ix (r:=rIxL K) kay (kam (K:=K) (pv 1) rfl) (pv 0) (fun _ _=>rfl)))) (by rfl)))
   (kag (kan (kbi (N:=["start","falling","many"]) (CompScope.of (N:=["start","falling","many"]) (cap:=[none,some 3,some 2]) (kah kaz).names ["standing","pieces","many","falling"] rfl rfl (by decide +kernel)) rfl (khc rfl W.B.range (kaa kaf (kaa (pe_op kbs (pe_op kbJ (kat (r:=kbz K) kaJ (by rfl) W.B.len b_len (kaa (pv 3) kae)) (pv 2)) kaf) (kaa (pv 2) kae)))) (fun _ _ _ _=>pgn (i:=0) (show(["start","falling","many"]:List Str).Nodup by decide +kernel)) (fun _ _ _ _=>(kcy (r:=rSlL K) kdb (pv 1) (kcn (pv 0)) (kcn (pe_op kbs (pv 0) (pv 2)))))))),?_⟩
  have htb':TbAt d.tP_falling_groups H:=htb
  obtain⟨qs0,eT,_⟩:=id htb'
  have npT:∀{b:Addr}{u:HO},H b=some u→(∀ps,u≠.tbl ps)→b≠d.tP_falling_groups:=fun {b u} e hn z=>by
   rw[z,eT] at e
   cases e
   exact hn _ rfl
  have ei:is.map iV=(is.map fun(i:Nat)=>(i:Int)).map V.int:=by rw[UR];rfl
  refine⟨_,rfl,pa,is.map fun(i:Nat)=>(i:Int),fun a=> -(S.pr.getD a.toNat 0),rfl,SqL.of (by rw[←ei];exact hpa),by rw[Uu];exact h64,?_,htb',npT hpa (fun ps z=>by cases z),fun H2 G n hn=>?_,fun H2 l ms G f1 f2 hpm hpw=>?_⟩
  ·rw[Me]
   exact hs.imp fun {a b} h=>by omega
  ·obtain⟨i,hin,rfl⟩:=UX.mp hn
   obtain⟨z,ez⟩:=at_of (hi i hin)
   have hx2:=G.kp _ _ (npT hx (fun ps z=>by cases z)) hx
   have hp2:=G.kp _ _ (npT hp (fun ps z=>by cases z)) hp
   refine⟨_,rfl,x,d.qc,dxs,fss,_,rfl,hx2,W.qc.cl,W.qw,l2,_,rfl,p,_,_,_,rfl,rfl,SqL.of hp2,kaQ (v:=.int z) (by rw[UD,ez];rfl),_,rfl,?_,rfl⟩
   show V.int (-z)=V.int (-(S.pr.getD ((i:Int)).toNat 0))
   rw[Int.toNat_natCast,UF,ez]
   rfl
  have s2:=G.same htb'
  rw[kkN hs hpm hpw]
  have lf:(fallP S.pr is).length=is.length:=(kbo S.pr is).length_eq
  have s3:=s2.trans (kak (o:=.lst ((fallP S.pr is).map iV)) f2)
  have el:(upd H2 l (.lst ((fallP S.pr is).map iV))) l=some (.lst ((fallP S.pr is).map iV)):=kad
  generalize upd H2 l (.lst ((fallP S.pr is).map iV))=H3 at *
  have ecnt:(Builtin.Range.rangeSize 0 ((((fallP S.pr is).map iV).length:Int)-(m:Int)+1) (m:Int)).toNat=(fallP S.pr is).length/m:=by
   rw[Uu]
   exact kfV (by omega)
  have lg:=kgg m (fallP S.pr is)
  refine⟨_,rfl,l,_,rfl, .inl (SqL.of el),_,rfl,_,_,rfl,rfl,_,_,rfl,rfl,_,rfl,0,_,_,rfl,by omega,?_,by omega,by omega,?_⟩
  ·rw[Uu]
   omega
  rw[ecnt]
  refine kiN (n:=(fallP S.pr is).length/m) (fun i σ ys H'=>Same H3 H'∧(∃v0:Option V,σ=[v0,some (.ref l),some (.int m)])∧∃gl,ys=gl.map V.ref∧P2 (fun r g=>H' r=some (.lst (g.map iV))) gl ((grp m (fallP S.pr is)).take i)∧∀r∈gl,H r=none)
   ⟨Same.refl _,⟨none,rfl⟩,[],rfl, .nil,fun r hr=>by simp at hr⟩ ?_ ?_ ?_ ?_
  ·have:(grp m (fallP S.pr is)).length=(fallP S.pr is).length/m:=by simp[grp]
   exact UI (kap (by omega))
  ·rintro i σ ys H' hi' ⟨_,_,gl,rfl,hP,_⟩
   rw[Uu,hP.len,UP]
   have:(grp m (fallP S.pr is)).length=(fallP S.pr is).length/m:=by simp[grp]
   omega
  ·rintro i σ ys H' hi' ⟨s4,⟨v0,rfl⟩,gl,rfl,hP,hfr⟩
   have eg:(grp m (fallP S.pr is))[i]?=some (((fallP S.pr is).drop (i*m)).take m):=by
    unfold grp
    rw[UD,JT hi']
    rfl
   have ecut:cutV ((fallP S.pr is).map iV) (some (0+(i:Int)*(m:Int))) (some (0+(i:Int)*(m:Int)+(m:Int)))=(((fallP S.pr is).drop (i*m)).take m).map iV:=by
    have:=kkU ((fallP S.pr is).map iV) (i*m) m
    rw[show(0:Int)+(i:Int)*(m:Int)=((i*m:Nat):Int) by rw[Int.zero_add,Int.natCast_mul],show((i*m:Nat):Int)+(m:Int)=((i*m+m:Nat):Int) by rw[Int.natCast_add],this,JH,N2]
   refine⟨_,rfl,_,rfl,_,rfl,_,rfl,_,rfl,_,_,rfl,rfl,_,rfl,l,_,rfl,SqL.of (s4 _ _ el),fun r hr=>?_⟩
   refine⟨s4.trans (kak hr),⟨_,rfl⟩,gl++[r],by rw[UH];rfl,?_,fun r' hr'=>?_⟩
   ·rw[kbR eg,ecut]
    exact P2.snoc (hP.mono fun r' g e=>kak hr _ _ e) kad
   ·rcases Jg.mp hr' with h|h
    ·exact hfr r' h
    ·rw[Jq] at h
     rw[h]
     exact(s3.trans s4).free hr
  ·rintro σ ys H' ⟨s4,⟨v0,rfl⟩,gl,rfl,hP,hfr⟩ D hD
   have el2:(grp m (fallP S.pr is)).length=(fallP S.pr is).length/m:=by simp[grp]
   rw[Jw (by omega)] at hP
   exact k _ D gl ((s3.trans s4).trans (kak hD)) ((s3.trans s4).free hD) kad (hP.mono fun r g e=>kak hD _ _ e) hfr
theorem Qd:kao ["voucher","standing","pieces","groups","lasts"] ["voucher","standing","pieces"] (kah ka6):=by ac_rfl
theorem kef(W:WB K mg d base):FO P w W 3 d.Xk d.Xl ["voucher","standing","pieces"] (kgw d):=by
 exists W.YH.F,Qd
 ·obtain⟨v,x,pa,⟨so,ms⟩,ps,B,S,rfl,⟨mA,dxv,fsv,hv,lvm,hso,hM,hh,htb⟩,hS,hpa,wf,vo,k⟩:=h
  exists qS,kb9,W
  exists Z9,kdh,W
  exists Zj,kdi,W
  exists hr1,1,hr,0
  refine⟨_,kab (ps_if (kaS (kat (r:=rIsi K) kaE (by rfl) W.B.isi b_isi (kaa (pv 0) (kaa (kdf (v:=.ref d.c_Off) (by rfl) W.g_Off rfl) kae)))) (kag (kan (kaM (kaa (kbH (kaa (kat (kc6 rfl) (by rfl) W.B.min b_min (kaa (kam (K:=K) (pv 0) rfl) (kaa (pcl qS hr W.qL (kaa (pv 1) (kaa (pv 2) kae))) kae))) (kaa (pv 2) kae))) kae)))) (kas))
   (kab (ps_if (kaS (kat (r:=rIsi K) kaE (by rfl) W.B.isi b_isi (kaa (pv 0) (kaa (kdf (v:=.ref d.qh) (by rfl) W.Zr rfl) kae)))) (kab (psl (i:=3) Qd.nd (klb (kgN (kaS (kam (K:=K) (pv 0) rfl)) (pcl Z9 hr1 W.YI (kaa (pv 1) (kaa (pv 2) kae))) (kaM (kaa (pv 2) kae)))))
   (kag (kan (kbi (N:=["group","standing","voucher"]) (CompScope.of (N:=["group","standing","voucher"]) (cap:=[none,some 1,some 0]) (kah ka6).names ["voucher","standing","pieces","groups","lasts"] rfl rfl (by decide +kernel)) rfl (kaF (K:=K) (pv 3)) (fun _ _ _ _=>pgn (i:=0) (show(["group","standing","voucher"]:List Str).Nodup by decide +kernel)) (fun _ _ _ _=>(kbH (kaa (pe_op kaH (pe_op kcT (pcl qS hr W.qL (kaa (pv 1) (kaa (pv 0) kae))) (kam (K:=K) (pv 2) rfl)) kaf) (kaa (pv 0) kae)))))))) (kas))
   (kab (ps_if (kaS (kat (r:=rIsi K) kaE (by rfl) W.B.isi b_isi (kaa (pv 0) (kaa (kdf (v:=.ref d.qk) (by rfl) W.Zs rfl) kae)))) (kab (keO (N:=["group"]) (CompScope.plain rfl (by decide +kernel) (by decide +kernel) (by decide +kernel) (nd1 _)) rfl (kaF (K:=K) (pcl Zj hr1 W.Qt (kaa (pv 1) (kaa (pv 2) (kaa (kam (K:=K) (pv 0) rfl) kae))))) (fun _ _ _ _=>pgn (i:=0) (nd1 _)) (fun _ _ _ _=>(pe_ix (r:=rIxL K) kay (pv 0) (pe_un kjN kaf) (fun _ _=>rfl))) (pgn (i:=4) Qd.nd))
   (kag (kan (kbi (N:=["last","standing"]) (CompScope.of (N:=["last","standing"]) (cap:=[none,some 1]) (kah ka6).names ["voucher","standing","pieces","groups","lasts"] rfl rfl (by decide +kernel)) rfl (kaF (K:=K) (pv 4)) (fun _ _ _ _=>pgn (i:=0) (show(["last","standing"]:List Str).Nodup by decide +kernel)) (fun _ _ _ _=>(kbH (kaa (pe_ix (r:=rIxL K) kay (kam (K:=K) (pv 1) rfl) (pv 0) (fun _ _=>rfl)) (kaa (kaM (kaa (pv 0) kae)) kae)))))))) (kas))
   (kab (ps_if (kaS (kat (r:=rIsi K) kaE (by rfl) W.B.isi b_isi (kaa (pv 0) (kaa (kdf (v:=.ref d.qj) (by rfl) W.Zv rfl) kae)))) (kab (psl (i:=3) Qd.nd (pcl Zj hr1 W.Qt (kaa (pv 1) (kaa (pv 2) (kaa (kam (K:=K) (pv 0) rfl) kae)))))
   (kag (kan (kbi (N:=["group","standing","voucher"]) (CompScope.of (N:=["group","standing","voucher"]) (cap:=[none,some 1,some 0]) (kah ka6).names ["voucher","standing","pieces","groups","lasts"] rfl rfl (by decide +kernel)) rfl (kaF (K:=K) (pv 3)) (fun _ _ _ _=>pgn (i:=0) (show(["group","standing","voucher"]:List Str).Nodup by decide +kernel)) (fun _ _ _ _=>(kbH (kaa (kat (kiS rfl) (by rfl) W.B.max b_max (kaa (pe_op kbJ (pcl qS hr W.qL (kaa (pv 1) (kaa (pv 0) kae))) (kam (K:=K) (pv 2) rfl)) (kaa kaf kae))) (kaa (pv 0) kae)))))))) (kas))
   (kag (kan (kaM kae)))))),?_⟩
  have I:=kka W hh
  exists Y4
  refine⟨_,rfl,_,_,_,_,rfl, .inr ⟨_,rfl⟩,TyOf.ins hv (cl_of W hh) I.ha I.hn I.ht I.hm,kkL W hh,_,rfl,?_⟩
  have lp:=wf.lp
  have np:=wf.np
  have habl:∀i∈abt ps (kds B) ms.kind ms.lone S,i<S.pr.length:=fun i hi=>by rw[lp];exact keA hi
  have habo:∀i∈abt ps (kds B) ms.kind ms.lone S,i<S.ow.length:=fun i hi=>keA hi
  have hand:=ked ps (kds B) ms.kind ms.lone S
  have lab:(abt ps (kds B) ms.kind ms.lone S).length≤720:=UA (kcM _ _ _ _ _) np
  cases so with
  | off am=>
   have qn:=kbk (qs_nn wf.nn (abt ps (kds B) ms.kind ms.lone S))
   have ha:0≤am∧am≤1000000000000:=vo.so
   refine iteT ?_
   symm
   exists Y6
   refine⟨_,rfl,v,d.c_Off,dxv,fsv,_,rfl,hv,W.c_Off.cl,W.Y9,hso,_,rfl,_,rfl,x,pa,S,_,rfl,hS,hpa,habl,lab,fun H1 s1=>?_⟩
   nofun
   exists Y6
   refine⟨_,_,rfl,_,rfl,(by show 2≤sizeLine;decide),fun t ht=>⟨(by show 1≤sizeLine;decide),fun l hl=>?_⟩⟩
   have emin:(if(qs S.pr (abt ps (kds B) ms.kind ms.lone S)).sum<am then(qs S.pr (abt ps (kds B) ms.kind ms.lone S)).sum else am)=min am (qs S.pr (abt ps (kds B) ms.kind ms.lone S)).sum:=by
    split <;> omega
   rw[emin] at hl⊢
   have s2:=s1.trans (kak (o:=.tup [.int (min am (qs S.pr (abt ps (kds B) ms.kind ms.lone S)).sum), .ref pa]) ht)
   have s3:=s2.trans (kak (o:=.lst [.ref t]) hl)
   nofun
   refine k _ l [t] [(min am (qs S.pr (abt ps (kds B) ms.kind ms.lone S)).sum,abt ps (kds B) ms.kind ms.lone S)] s3 (none_of s2 hl) kad (.cons ⟨pa,kak hl _ _ kad,s3 _ _ hpa, .inl rfl⟩ .nil) ?_ ?_ ?_ (by simp) ?_
   ·intro c g hc
    rw[Jq] at hc
    cases hc
    nofun
    exact⟨by omega,by omega,lab⟩
   ·simpa using hand
   ·simpa using habl
   ·simp[want]
  | share sh bl=>
   have hsh:1≤sh∧sh≤1000:=vo.so
   refine iteF ?_
   symm
   exists Y6
   refine⟨_,rfl,_,_,_,_,rfl, .inr ⟨_,rfl⟩,TyOf.ins hv (cl_of W hh) I.ha I.hn I.ht I.hm,kc3 W hh,_,rfl,iteT ?_⟩
   nofun
   exists Y6
   refine⟨fun gv H1=>∃(gp:Addr)(gl:List Addr)(gs:List (List Nat)),gv=.ref gp∧Same H H1∧H gp=none∧H1 gp=some (.lst (gl.map V.ref))∧P2 (fun r g=>H1 r=some (.lst (g.map iV))) gl gs∧(∀r∈gl,r=pa∨H r=none)∧gs.length≤720∧(∀g∈gs,g.length≤720)∧gs.flatten.Nodup∧(∀i∈gs.flatten,i<S.pr.length)∧
    spr S.pr.length gs.flatten (gs.map fun g=>dl ((qs S.pr g).sum*sh/1000) (qs S.pr g)).flatten=spr S.pr.length (abt ps (kds B) ms.kind ms.lone S) (want (.share sh bl) S.mkd.length ((abt ps (kds B) ms.kind ms.lone S).map fun i=>S.ow.getD i 0) (qs S.pr (abt ps (kds B) ms.kind ms.lone S))),?_,?_⟩
   ·refine⟨_,rfl,v,d.qh,dxv,fsv,_,rfl,hv,W.qh.cl,W.Zc,hso.2,bl,rfl,?_⟩
    cases bl with
    | true=>
     refine iteT ?_
     nofun
     exists Y10
     refine⟨_,rfl,_,rfl,x,pa,S,_,rfl,hS,hpa,habo,lab,fun H1 p gl s1 f1 h1 hP hg=>⟨p,gl,_,rfl,s1,f1,h1,hP,fun r hr=>.inr (hg r hr),?_,?_,?_,?_,?_⟩⟩
     ·rw[Uu]
      exists 4
      exact UA (keq _ _) lab
     ·intro g hg'
      rw[(kco (fun i=>S.ow.getD i 0) (abt ps (kds B) ms.kind ms.lone S)).snds] at hg'
      obtain⟨l,_,rfl⟩:=UX.mp hg'
      exists 4
      exact UA (Nd _ _) lab
     ·have ok:=kco (fun i=>S.ow.getD i 0) (abt ps (kds B) ms.kind ms.lone S)
      rw[ok.snds]
      exists 4
      exact kdS (f:=fun i=>S.ow.getD i 0) hand ok.nd
     ·intro i hi
      rw[(kco (fun i=>S.ow.getD i 0) (abt ps (kds B) ms.kind ms.lone S)).snds] at hi
      obtain⟨g,hg',hi'⟩:=Jx.mp hi
      obtain⟨l,_,rfl⟩:=UX.mp hg'
      exists 4
      exact habl i (Ju.mp hi').1
     ·refine khf (fun z=>z*sh/1000) hand fun i hi=>?_
      obtain⟨ln,eln⟩:=at_of (habo i hi)
      rw[UF,eln,wf.lm]
      exists 4
      exact wf.line eln
    |false=>
     refine iteF ?_
     nofun
     exists Y10
     refine⟨_,rfl,(by show 1≤sizeLine;decide),fun p hp=>⟨p,[pa],[abt ps (kds B) ms.kind ms.lone S],rfl,kak hp,hp,kad, .cons (kak hp _ _ hpa) .nil,fun r hr=>.inl (by simpa using hr),by simp,fun g hg=>?_,by simpa using hand,by simpa using habl,by simp[want]⟩⟩
     rw[Jq] at hg
     rw[hg]
     exists 4
     exact lab
   rintro gv H1 ⟨gp,gl,gs,rfl,s1,f1,h1,hP,hor,lgs,lg,gnd,glt,gsp⟩
   have lgl:=hP.len
   have gok:∀g∈gs,∀i∈g,i<S.pr.length:=fun g hg i hi=>glt i (Jx.mpr ⟨g,hg,hi⟩)
   nofun
   exists Y6
   refine⟨_,rfl,gp,rfl,⟨_,SqL.of h1⟩,kaV (xs:=gl.map V.ref) (fun i σ ys H'=>Same H1 H'∧(∃v0:Option V,σ=[v0,some (.ref x),some (.ref v)])∧∃tl,ys=tl.map V.ref∧P2 (GrpAt H H' pa) tl ((gs.take i).map fun g=>((qs S.pr g).sum*sh/1000,g)))
    ⟨Same.refl _,⟨none,rfl⟩,[],rfl, .nil⟩ (by rw[Uu];exact UI (kap (by omega))) ?_ ?_ ?_⟩
   ·rintro i σ ys H2 hi ⟨s2,_,tl,rfl,hT⟩
    nofun
    exists Y8
    refine⟨SqL.of (s2 _ _ h1),?_⟩
    rw[Uu,hT.len,Uu,UP]
    rw[Uu] at hi
    omega
   ·rintro i y σ ys H2 hy ⟨s2,⟨v0,rfl⟩,tl,rfl,hT⟩
    obtain⟨r,er,rfl⟩:=kbZ hy
    obtain⟨g,eg,hr⟩:=hP.at er
    have s12:=s1.trans s2
    have hg:=UE eg
    have sn:=kbk (qs_nn wf.nn g)
    have sl:=kgH wf (lg g hg) (gok g hg)
    exists 3
    exists Y8
    refine⟨_,rfl,_,rfl,x,r,S,g,rfl,hS.same s12,s2 _ _ hr,gok g hg,lg g hg,fun H3 s3=>?_⟩
    have s13:=s12.trans s3
    exists 3
    exists Y8
    refine⟨_,rfl,v,d.qh,dxv,fsv,_,rfl,s13 _ _ hv,W.qh.cl,W.Zb,hso.1,_,_,rfl,rfl, .inl ⟨by omega,by omega⟩,_,_,rfl,rfl,⟨by decide,by decide⟩,_,rfl,(by show 2≤sizeLine;decide),fun t ht=>?_⟩
    have s4:=kak (o:=.tup [.int ((qs S.pr g).sum*sh/1000), .ref r]) ht
    exists 3
    exists Y8
    refine⟨(s2.trans s3).trans s4,⟨_,rfl⟩,tl++[t],by rw[UH];rfl,?_⟩
    rw[kbR eg,UH]
    exists 3
    refine P2.snoc (hT.mono fun t' q ⟨ga,a1,a2,a3⟩=>⟨ga,(s3.trans s4) _ _ a1,(s3.trans s4) _ _ a2,a3⟩) ⟨r,kad,((s2.trans s3).trans s4) _ _ hr,hor r (UE er)⟩
   ·rintro σ ys H2 ⟨s2,⟨v0,rfl⟩,tl,rfl,hT⟩ D hD
    rw[Uu,lgl,U0] at hT
    have s3:=kak (o:=.lst (tl.map V.ref)) hD
    have e1:(gs.map fun g=>((qs S.pr g).sum*sh/1000,g)).map Prod.snd=gs:=by
     rw[UR]
     exists 3
     exact List.map_id' gs
    exists 3
    refine k _ D tl _ ((s1.trans s2).trans s3) (none_of (s1.trans s2) hD) kad (hT.mono fun t' q ⟨ga,a1,a2,a3⟩=>⟨ga,s3 _ _ a1,s3 _ _ a2,a3⟩) ?_ (by rw[e1];exact gnd) (by rw[e1];exact glt) (by rw[Uu];exact lgs) ?_
    ·intro c g hc
     obtain⟨g',hg',e⟩:=UX.mp hc
     cases e
     have sn:=kbk (qs_nn wf.nn g)
     have:=kdE sn hsh.1 hsh.2
     exists 3
     exact⟨this.1,this.2,lg g hg'⟩
    ·rw[e1,UR]
     exists 3
     exact gsp
  | cheap n=>
   have hn:2≤n∧n≤20:=vo.so
   obtain⟨m,rfl⟩:∃m:Nat,n=m:=⟨n.toNat,by omega⟩
   refine iteF ?_
   symm
   refine⟨_,rfl,_,_,_,_,rfl, .inr ⟨_,rfl⟩,TyOf.ins hv (cl_of W hh) I.ha I.hn I.ht I.hm,kc3 W hh,_,rfl,iteF ⟨_,rfl,_,_,_,_,rfl, .inr ⟨_,rfl⟩,TyOf.ins hv (cl_of W hh) I.ha I.hn I.ht I.hm,kcs W hh,_,rfl,iteT ?_⟩⟩
   have hpw:(abt ps (kds B) ms.kind ms.lone S).Pairwise (· < ·):=JY.filter _ Mc
   have l64:(abt ps (kds B) ms.kind ms.lone S).length<64:=Jv (kcM _ _ _ _ _) wf.n64
   symm
   exists Y6
   refine⟨_,rfl,_,rfl,_,rfl,v,d.qk,dxv,fsv,_,rfl,hv,W.qk.cl,W.Zt,hso,x,pa,S,_,m,rfl,hS,hpa,hpw,habl,l64,by omega,by omega,htb,fun H1 gp gl s1 f1 h1 hP0 hg=>?_⟩
   have hP:P2 (fun r g=>H1 r=some (.lst (g.map iV))) gl (grp m (fallP S.pr (abt ps (kds B) ms.kind ms.lone S))):=hP0
   clear hP0
   have lgl:=hP.len
   have lG:=kgg m (fallP S.pr (abt ps (kds B) ms.kind ms.lone S))
   have lf:(fallP S.pr (abt ps (kds B) ms.kind ms.lone S)).length=(abt ps (kds B) ms.kind ms.lone S).length:=(kbo _ _).length_eq
   have hgr:∀{i:Nat}{g:List Nat},(grp m (fallP S.pr (abt ps (kds B) ms.kind ms.lone S)))[i]?=some g→0<g.length∧g[g.length-1]?=some (g.getLastD 0)∧g.getLastD 0∈abt ps (kds B) ms.kind ms.lone S:=fun {i g} eg=>by
    obtain⟨h1,h2,h3⟩:=kg0 eg
    have h4:=kge (by omega) eg
    nofun
    exists Y8
    refine⟨by omega,?_,(kbo _ _).mem_iff.mp (UE h4)⟩
    rw[h2,h3 _ (by omega)]
    exists 3
    exact h4
   have hla:∀a∈lasts (grp m (fallP S.pr (abt ps (kds B) ms.kind ms.lone S))),a∈abt ps (kds B) ms.kind ms.lone S:=fun a ha=>by
    obtain⟨g,hg',rfl⟩:=UX.mp ha
    obtain⟨j,hj⟩:=JU.mp hg'
    nofun
    exact(hgr hj).2.2
   nofun
   exists Y6
   refine⟨gp,rfl,⟨_,SqL.of h1⟩,kaV (xs:=gl.map V.ref) (fun i σ ys H'=>Same H1 H'∧(∃v0:Option V,σ=[v0])∧ys=((lasts (grp m (fallP S.pr (abt ps (kds B) ms.kind ms.lone S)))).take i).map iV)
    ⟨Same.refl _,⟨none,rfl⟩,rfl⟩ (by rw[Uu];exact UI (kap (by omega))) ?_ ?_ ?_⟩
   ·rintro i σ ys H2 hi ⟨s2,_,rfl⟩
    nofun
    exists Y8
    refine⟨SqL.of (s2 _ _ h1),?_⟩
    rw[Uu,UP,kc2]
    rw[Uu] at hi
    omega
   ·rintro i y σ ys H2 hy ⟨s2,⟨v0,rfl⟩,rfl⟩
    obtain⟨r,er,rfl⟩:=kbZ hy
    obtain⟨g,eg,hr⟩:=hP.at er
    obtain⟨g0,g1,g2⟩:=hgr eg
    have al:atI (g.map iV) (-1)=some (iV (g.getLastD 0)):=kiW (by rw[Uu,UD,g1];rfl) (by rw[Uu];exact g0)
    exists 3
    exists Y8
    refine⟨_,rfl,1,rfl,r,_,_,_,rfl,rfl,SqL.of (s2 _ _ hr),al,s2,⟨_,rfl⟩,?_⟩
    rw[kbR (r:=g.getLastD 0) (by unfold lasts;rw[UD,eg];rfl),UH]
    rfl
   rintro σ ys H2 ⟨s2,⟨v0,rfl⟩,rfl⟩ D hD
   rw[Uu,lgl,Jw (by rw[kc2];exact Ux _)]
   have s3:=s2.trans (kak (o:=.lst ((lasts (grp m (fallP S.pr (abt ps (kds B) ms.kind ms.lone S)))).map iV)) hD)
   have fD:H D=none:=none_of (s1.trans s2) hD
   have eD:(upd H2 D (.lst ((lasts (grp m (fallP S.pr (abt ps (kds B) ms.kind ms.lone S)))).map iV))) D=some (.lst ((lasts (grp m (fallP S.pr (abt ps (kds B) ms.kind ms.lone S)))).map iV)):=kad
   generalize upd H2 D (.lst ((lasts (grp m (fallP S.pr (abt ps (kds B) ms.kind ms.lone S)))).map iV))=H3 at *
   obtain⟨o,p,mk,⟨dxs,fss,hx,l1,l2,l3,l4,l5⟩,ho,hp,hmk⟩:=id hS
   have s13:=s1.trans s3
   have lL:=kc2 (grp m (fallP S.pr (abt ps (kds B) ms.kind ms.lone S)))
   nofun
   exists Y6
   refine⟨_,rfl,D,rfl,⟨_,SqL.of eD⟩,kaV (xs:=(lasts (grp m (fallP S.pr (abt ps (kds B) ms.kind ms.lone S)))).map iV) (fun i σ ys H'=>Same H3 H'∧(∃v0:Option V,σ=[v0,some (.ref x)])∧∃tl,ys=tl.map V.ref∧P2 (GrpAt H H' pa) tl (((lasts (grp m (fallP S.pr (abt ps (kds B) ms.kind ms.lone S)))).take i).map fun a=>(S.pr.getD a 0,[a])))
    ⟨Same.refl _,⟨none,rfl⟩,[],rfl, .nil⟩ (by rw[Uu];exact UI (kap (by omega))) ?_ ?_ ?_⟩
   ·rintro i σ ys H4 hi ⟨s4,_,tl,rfl,hT⟩
    nofun
    exists Y8
    refine⟨SqL.of (s4 _ _ eD),?_⟩
    rw[Uu,hT.len,Uu,UP]
    rw[Uu] at hi
    omega
   ·rintro i y σ ys H4 hy ⟨s4,⟨v0,rfl⟩,tl,rfl,hT⟩
    obtain⟨a,ea,rfl⟩:=kbl hy
    have ha:=hla a (UE ea)
    obtain⟨z,ez⟩:=at_of (habl a ha)
    have ez':S.pr.getD a 0=z:=by rw[UF,ez];rfl
    have s14:=s13.trans s4
    exists 3
    exists Y8
    refine⟨_,rfl,x,d.qc,dxs,fss,_,rfl,s14 _ _ hx,W.qc.cl,W.qw,l2,_,rfl,p,_,_,_,rfl,rfl,SqL.of (s14 _ _ hp),kaQ (v:=.int z) (by rw[UD,ez];rfl),_,rfl,(by show 1≤sizeLine;decide),fun q hq=>⟨(by show 2≤sizeLine;decide),fun t ht=>?_⟩⟩
    have s5:=(kak (o:=.lst [iV a]) hq).trans (kak (o:=.tup [.int z, .ref q]) ht)
    exists 3
    exists Y8
    refine⟨s4.trans s5,⟨_,rfl⟩,tl++[t],by rw[UH];rfl,?_⟩
    rw[kbR ea,UH]
    exists 3
    exact P2.snoc (hT.mono fun t' q' ⟨ga,a1,a2,a3⟩=>⟨ga,s5 _ _ a1,s5 _ _ a2,a3⟩) ⟨q,by show upd _ _ _ _=some (.tup [.int (S.pr.getD a 0), .ref q]);rw[ez'];exact kad,kak ht _ _ kad, .inr (none_of s14 hq)⟩
   ·rintro σ ys H4 ⟨s4,⟨v0,rfl⟩,tl,rfl,hT⟩ D2 hD2
    rw[Uu,U0] at hT
    have s5:=kak (o:=.lst (tl.map V.ref)) hD2
    have e1:((lasts (grp m (fallP S.pr (abt ps (kds B) ms.kind ms.lone S)))).map fun a=>(S.pr.getD a 0,[a])).map Prod.snd=(lasts (grp m (fallP S.pr (abt ps (kds B) ms.kind ms.lone S)))).map fun a=>[a]:=by
     rw[UR]
     rfl
    have e2:=khW (fun i=>S.pr.getD i 0) (lasts (grp m (fallP S.pr (abt ps (kds B) ms.kind ms.lone S))))
    exists 3
    refine k _ D2 tl _ ((s13.trans s4).trans s5) (none_of (s13.trans s4) hD2) kad (hT.mono fun t' q ⟨ga,a1,a2,a3⟩=>⟨ga,s5 _ _ a1,s5 _ _ a2,a3⟩) ?_ (by rw[e1,e2.1];exact kgd (by omega) (kd8 hand)) (by rw[e1,e2.1];exact fun i hi=>habl i (hla i hi)) (by rw[Uu];omega) ?_
    ·intro c g hc
     obtain⟨a,ha,e⟩:=UX.mp hc
     cases e
     have q0:(qs S.pr [a]).sum=S.pr.getD a 0:=by simp[qs]
     have q1:=kbk (qs_nn wf.nn [a])
     rw[q0] at q1⊢
     exists 3
     exact⟨q1,Int.le_refl _,by simp⟩
    ·rw[e1,e2.1,UR]
     have e3:(lasts (grp m (fallP S.pr (abt ps (kds B) ms.kind ms.lone S)))).map ((fun p=>dl p.1 (qs S.pr p.2))∘fun a=>(S.pr.getD a 0,[a]))=(lasts (grp m (fallP S.pr (abt ps (kds B) ms.kind ms.lone S)))).map fun a=>[S.pr.getD a 0]:=
      Jj fun a _=>kln _
     rw[e3,e2.2]
     exists 3
     exact(kiQ (by omega) hand).symm
  | bund n pc=>
   have hn:2≤n∧n≤20∧0≤pc∧pc≤1000000000000:=vo.so
   obtain⟨m,rfl⟩:∃m:Nat,n=m:=⟨n.toNat,by omega⟩
   refine iteF ?_
   symm
   refine⟨_,rfl,_,_,_,_,rfl, .inr ⟨_,rfl⟩,TyOf.ins hv (cl_of W hh) I.ha I.hn I.ht I.hm,kc3 W hh,_,rfl,iteF ⟨_,rfl,_,_,_,_,rfl, .inr ⟨_,rfl⟩,TyOf.ins hv (cl_of W hh) I.ha I.hn I.ht I.hm,kcs W hh,_,rfl,iteF ⟨_,rfl,_,_,_,_,rfl, .inr ⟨_,rfl⟩,TyOf.ins hv (cl_of W hh) I.ha I.hn I.ht I.hm,ket W hh,_,rfl,iteT ?_⟩⟩⟩
   have hpw:(abt ps (kds B) ms.kind ms.lone S).Pairwise (· < ·):=JY.filter _ Mc
   have l64:(abt ps (kds B) ms.kind ms.lone S).length<64:=Jv (kcM _ _ _ _ _) wf.n64
   symm
   exists Y6
   refine⟨_,rfl,_,rfl,_,rfl,v,d.qj,dxv,fsv,_,rfl,hv,W.qj.cl,W.Zw,hso.1,x,pa,S,_,m,rfl,hS,hpa,hpw,habl,l64,by omega,by omega,htb,fun H1 gp gl s1 f1 h1 hP0 hg=>?_⟩
   have hP:P2 (fun r g=>H1 r=some (.lst (g.map iV))) gl (grp m (fallP S.pr (abt ps (kds B) ms.kind ms.lone S))):=hP0
   clear hP0
   have lgl:=hP.len
   have lG:=kgg m (fallP S.pr (abt ps (kds B) ms.kind ms.lone S))
   have lf:(fallP S.pr (abt ps (kds B) ms.kind ms.lone S)).length=(abt ps (kds B) ms.kind ms.lone S).length:=(kbo _ _).length_eq
   have gin:∀g∈grp m (fallP S.pr (abt ps (kds B) ms.kind ms.lone S)),∀i∈g,i∈abt ps (kds B) ms.kind ms.lone S:=fun g hg' i hi=>(kbo _ _).mem_iff.mp (kiz hg' i hi)
   have gok:∀g∈grp m (fallP S.pr (abt ps (kds B) ms.kind ms.lone S)),∀i∈g,i<S.pr.length:=fun g hg' i hi=>habl i (gin g hg' i hi)
   have lg:∀g∈grp m (fallP S.pr (abt ps (kds B) ms.kind ms.lone S)),g.length≤720:=fun g hg'=>by
    obtain⟨j,hj⟩:=JU.mp hg'
    have:=(kg0 hj).2.1
    omega
   generalize egs:grp m (fallP S.pr (abt ps (kds B) ms.kind ms.lone S))=gs at *
   nofun
   exists Y6
   refine⟨_,rfl,gp,rfl,⟨_,SqL.of h1⟩,kaV (xs:=gl.map V.ref) (fun i σ ys H'=>Same H1 H'∧(∃v0:Option V,σ=[v0,some (.ref x),some (.ref v)])∧∃tl,ys=tl.map V.ref∧P2 (GrpAt H H' pa) tl ((gs.take i).map fun g=>(max 0 ((qs S.pr g).sum-pc),g)))
    ⟨Same.refl _,⟨none,rfl⟩,[],rfl, .nil⟩ (by rw[Uu];exact UI (kap (by omega))) ?_ ?_ ?_⟩
   ·rintro i σ ys H2 hi ⟨s2,_,tl,rfl,hT⟩
    nofun
    exists Y8
    refine⟨SqL.of (s2 _ _ h1),?_⟩
    rw[Uu,hT.len,Uu,UP]
    rw[Uu] at hi
    omega
   ·rintro i y σ ys H2 hy ⟨s2,⟨v0,rfl⟩,tl,rfl,hT⟩
    obtain⟨r,er,rfl⟩:=kbZ hy
    obtain⟨g,eg,hr⟩:=hP.at er
    have s12:=s1.trans s2
    have hg':=UE eg
    have sn:=kbk (qs_nn wf.nn g)
    exists 3
    exists Y8
    refine⟨_,rfl,_,rfl,x,r,S,g,rfl,hS.same s12,s2 _ _ hr,gok g hg',lg g hg',fun H3 s3=>?_⟩
    have s13:=s12.trans s3
    exists 3
    exists Y8
    refine⟨_,rfl,v,d.qj,dxv,fsv,_,rfl,s13 _ _ hv,W.qj.cl,W.Zx,hso.2,_,_,rfl,rfl,?_⟩
    exists 3
    exists Y8
    refine⟨_,_,rfl,_,rfl,(by show 2≤sizeLine;decide),fun t ht=>?_⟩
    have emax:(if(0:Int) > (qs S.pr g).sum-pc then 0 else(qs S.pr g).sum-pc)=max 0 ((qs S.pr g).sum-pc):=by
     split <;> omega
    rw[emax]
    have s4:=kak (o:=.tup [.int (max 0 ((qs S.pr g).sum-pc)), .ref r]) ht
    exists 3
    exists Y8
    refine⟨(s2.trans s3).trans s4,⟨_,rfl⟩,tl++[t],by rw[UH];rfl,?_⟩
    rw[kbR eg,UH]
    exists 3
    refine P2.snoc (hT.mono fun t' q ⟨ga,a1,a2,a3⟩=>⟨ga,(s3.trans s4) _ _ a1,(s3.trans s4) _ _ a2,a3⟩) ⟨r,kad,((s2.trans s3).trans s4) _ _ hr, .inr (hg r (UE er))⟩
   ·rintro σ ys H2 ⟨s2,⟨v0,rfl⟩,tl,rfl,hT⟩ D hD
    rw[Uu,lgl,U0] at hT
    have s3:=kak (o:=.lst (tl.map V.ref)) hD
    have e1:(gs.map fun g=>(max 0 ((qs S.pr g).sum-pc),g)).map Prod.snd=gs:=by
     rw[UR]
     exists 3
     exact List.map_id' gs
    exists 3
    refine k _ D tl _ ((s1.trans s2).trans s3) (none_of (s1.trans s2) hD) kad (hT.mono fun t' q ⟨ga,a1,a2,a3⟩=>⟨ga,s3 _ _ a1,s3 _ _ a2,a3⟩) ?_ (by rw[e1,←egs];exact kiy (kd8 hand)) (by rw[e1];intro i hi;obtain⟨g,hg',hi'⟩:=Jx.mp hi;exact gok g hg' i hi') (by rw[Uu];omega) ?_
    ·intro c g hc
     obtain⟨g',hg',e⟩:=UX.mp hc
     cases e
     have sn:=kbk (qs_nn wf.nn g)
     exists 3
     exact⟨by omega,by omega,lg g hg'⟩
    ·rw[e1,UR,←egs]
     exists 3
     exact(kjI (fun z=>max 0 (z-pc)) hand).symm
  |carr=>
   refine iteF ?_
   symm
   refine⟨_,rfl,_,_,_,_,rfl, .inr ⟨_,rfl⟩,TyOf.ins hv (cl_of W hh) I.ha I.hn I.ht I.hm,kc3 W hh,_,rfl,iteF ⟨_,rfl,_,_,_,_,rfl, .inr ⟨_,rfl⟩,TyOf.ins hv (cl_of W hh) I.ha I.hn I.ht I.hm,kcs W hh,_,rfl,iteF ⟨_,rfl,_,_,_,_,rfl, .inr ⟨_,rfl⟩,TyOf.ins hv (cl_of W hh) I.ha I.hn I.ht I.hm,ket W hh,_,rfl,iteF ?_⟩⟩⟩
   symm
   refine⟨by decide,fun l hl=>?_⟩
   symm
   refine k _ l [] [] (kak hl) hl kad .nil (fun c g hc=>by simp at hc) (by simp) (by simp) (by simp) ?_
   symm
   exact(spr_zero (k:=0)).trans spr_zero.symm
inductive khS (K:Uv) (d:D) (vs:List V) (H:Hp) (Q:VK) (E_:XK):Prop
 |ct (v a b x:Addr)(V:Vch)(ps:List (Option Nat))(B:Bask)(S:Stnd)(_:vs=[.ref v, .ref a, .ref b, .ref x])(_:VchIs d H v V)(_:SqL K H a (ps.map pV))(_:BaskIs d.qf d.qg H b B)(_:StndIs d.qc H x S)(_:Wf ps B S)(_:VchOk ps V)(_:∀(H':Hp)(p:Addr),Same H H'→H p=none→H' p=some (.lst ((cutM V ps (kds B) S).1.map L2.V.int))→Q (.ref p) H'):khS K d vs H Q E_
theorem qy:kao ["voucher","parents","basket","standing","pieces","wanted","cut","group","piece","part","most"] ["voucher","parents","basket","standing"] (kah kby):=by ac_rfl
theorem kdj(W:WB K mg d base):FO P w W 4 d.Xg d.Xh ["voucher","parents","basket","standing"] (khS K d):=by
 exists W.YF.F,qy
 ·obtain⟨v,a,b,x,Vc,ps,B,S,rfl,hV,hA,hB,hS,wf,vo,k⟩:=h
  exists QS,kgQ,W
  exists Va,kef,W
  exists Zk,kjk,W
  exists QQ,kdo,W
  exists hr1,1,hr,0
  refine⟨_,kab (psl (i:=4) qy.nd (pcl QS hr W.Qs (kaa (pv 0) (kaa (pv 1) (kaa (pv 2) (kaa (pv 3) kae))))))
   (kab (keO (N:=["price"]) (CompScope.plain rfl (by decide +kernel) (by decide +kernel) (by decide +kernel) (nd1 _)) rfl (kaF (K:=K) (kam (K:=K) (pv 3) rfl)) (fun _ _ _ _=>pgn (i:=0) (nd1 _)) (fun _ _ _ _=>kaf) (pgn (i:=5) qy.nd))
   (kab (kbe PassesOwn.never rfl (kaF (K:=K) (pcl Va hr W.YH (kaa (pv 0) (kaa (pv 3) (kaa (pv 4) kae))))) (kbb (K:=K) (n:=2) rfl (kaw (pgn (i:=6) qy.nd) (kaw (pgn (i:=7) qy.nd) kba)))
   (kag (kbe PassesOwn.never rfl (keS rfl W.B.zip (kaa (pv 7) (kaa (pcl Zk hr1 W.Qr (kaa (pv 6) (kaa (pcl QQ hr1 W.Qu (kaa (pv 3) (kaa (pv 7) kae))) kae))) kae))) (kbb (K:=K) (n:=2) rfl (kaw (pgn (i:=8) qy.nd) (kaw (pgn (i:=9) qy.nd) kba)))
   (kag (kem (pv 9) (ken (pv 5) (pv 8) set_list))))))
   (kab (psl (i:=10) qy.nd (kam (K:=K) (kam (K:=K) (pv 0) rfl) rfl))
   (kab (ps_if (PW.pt (ka8 (kar kb5 (pv 10) kaT (kav _)) (ka0 (kar op_gt (kat (r:=rSum K) (kb8 rfl) (by rfl) W.B.sum b_sum (kaa (pv 5) kae)) (pv 10) (kav _))))) (kag (kan (pcl Zk hr1 W.Qr (kaa (pv 10) (kaa (pv 5) kae))))) (kas))
   (kag (kan (pv 5))))))),?_⟩
  have np:=wf.np
  have lp:=wf.lp
  exists Y4
  refine⟨_,rfl,_,rfl,_,rfl,_,rfl,v,a,b,x,Vc,ps,B,S,rfl,hV,hA,hB,hS,wf,vo,fun H1 pa s1 f1 h1=>?_⟩
  have habl:∀i∈abt ps (kds B) Vc.ms.kind Vc.ms.lone S,i<S.pr.length:=fun i hi=>by rw[lp];exact keA hi
  have hand:=ked ps (kds B) Vc.ms.kind Vc.ms.lone S
  have lab:(abt ps (kds B) Vc.ms.kind Vc.ms.lone S).length≤720:=UA (kcM _ _ _ _ _) np
  obtain⟨o,p,mk,⟨dxs,fss,hx,l1,l2,l3,l4,l5⟩,ho,hp,hmk⟩:=id (hS.same s1)
  symm
  exists Y4
  refine⟨_,rfl,x,d.qc,dxs,fss,_,rfl,hx,W.qc.cl,W.qw,l2,p,rfl,⟨_,SqL.of hp⟩,kaV (xs:=S.pr.map V.int) (fun i σ ys H'=>H'=H1∧ys=(Uw i (0:Int)).map V.int∧∃v,σ=[v]) ⟨rfl,rfl,none,rfl⟩ ?_ ?_ ?_ ?_⟩
  ·rw[Uu]
   symm
   exact UI (kap (by omega))
  ·rintro i σ ys H' hi ⟨rfl,rfl,_⟩
   symm
   exact⟨SqL.of hp,by simp⟩
  ·rintro i y σ ys H' hy ⟨rfl,rfl,v,rfl⟩
   symm
   exact⟨rfl,by rw[JM,UH];rfl,_,rfl⟩
  rintro σ ys H' ⟨rfl,rfl,v0,rfl⟩ w hw
  rw[Uu]
  have s2:=s1.trans (kak (o:=.lst ((Uw S.pr.length (0:Int)).map V.int)) hw)
  have hw0:H w=none:=none_of s1 hw
  have ew:(upd H' w (.lst ((Uw S.pr.length (0:Int)).map V.int))) w=some (.lst ((Uw S.pr.length (0:Int)).map V.int)):=kad
  have h1o:=h1
  have h1:=kak (o:=.lst ((Uw S.pr.length (0:Int)).map V.int)) hw _ _ h1
  have nw:pa≠w:=kai h1o hw
  generalize upd H' w (.lst ((Uw S.pr.length (0:Int)).map V.int))=H2 at *
  symm
  exists Y4
  refine⟨_,rfl,_,rfl,_,rfl,v,x,pa,Vc,ps,B,S,rfl,hV.same s2,hS.same s2,h1,wf,vo,fun H3 gp tl gl s3 f3 h3 hP hc hnd hlt hgl hsp=>?_⟩
  have s03:=s2.trans s3
  have e3:=s3 _ _ ew
  have ngw:gp≠w:=fun e=>by rw[e,ew] at f3;cases f3
  symm
  exists Y4
  refine⟨gp,rfl,⟨_,SqL.of h3⟩,kbp (K:=K) (a:=gp) (xs:=tl.map V.ref) (fun i σ H'=>(∃v8 v9 v10 v11 v12:Option V,σ=[some (.ref v),some (.ref a),some (.ref b),some (.ref x),some (.ref pa),some (.ref w),v8,v9,v10,v11,v12])∧But w H3 H'∧
    H' w=some (.lst ((spr S.pr.length ((gl.take i).map Prod.snd).flatten ((gl.take i).map fun p=>dl p.1 (qs S.pr p.2)).flatten).map V.int)))
   ⟨⟨none,none,none,none,none,rfl⟩,But.refl,by rw[e3];simp[khG]⟩ (fun i σ H' _ h=>SqL.of (h.2.1 _ _ ngw h3)) ?_ ?_⟩
  ·rintro i y σ H4 hy ⟨⟨v8,v9,v10,v11,v12,rfl⟩,b4,h4⟩
   obtain⟨t,et,rfl⟩:=kbZ hy
   obtain⟨⟨c,g⟩,eg,ga,ht,hga,hor⟩:=hP.at et
   have hcg:=hc c g (UE eg)
   have hgl':∀i∈g,i<S.pr.length:=fun j hj=>hlt j (Jx.mpr ⟨g,UX.mpr ⟨(c,g),UE eg,rfl⟩,hj⟩)
   have ngaw:ga≠w:=by
    rcases hor with rfl|hor
    ·exact nw
    ·exact fun e=>by rw[e,ew] at hor;cases hor
   have ntw:t≠w:=ne_of ht e3 (by intro z;cases z)
   have htt:H4 t=some (.tup [.int c, .ref ga]):=b4 _ _ ntw ht
   have hgg:H4 ga=some (.lst (g.map iV)):=b4 _ _ ngaw hga
   symm
   exists Y6
   refine⟨t,_,rfl,SqT.of htt,rfl,_,_,rfl,_,_,rfl,rfl,?_⟩
   have hS4:StndIs d.qc H4 x S:=by
    nofun
    exact StndIs.same (H:=H) (kgD hw0 s03 b4) hS
   have gnn:=qs_nn wf.nn g
   have gsum:=kgH wf hcg.2.2 hgl'
   have hg720:=hcg.2.2
   nofun
   exists Y6
   refine⟨_,rfl,_,rfl,_,rfl,_,rfl,x,ga,S,g,rfl,hS4,hgg,hgl',hg720,fun p5 hp5=>?_⟩
   have s5:=kak (o:=.lst ((qs S.pr g).map V.int)) hp5
   nofun
   exists Y6
   refine⟨c,p5,qs S.pr g,rfl,SqL.of kad,gnn,by omega,hcg.1,by omega,by rw[kbq];omega,fun p6 hp6=>?_⟩
   have s6:=s5.trans (kak (o:=.lst ((dl c (qs S.pr g)).map V.int)) hp6)
   have h6:(upd (upd H4 p5 (.lst ((qs S.pr g).map V.int))) p6 (.lst ((dl c (qs S.pr g)).map V.int))) p6=some (.lst ((dl c (qs S.pr g)).map V.int)):=kad
   have n6:H4 p6=none:=none_of s5 hp6
   generalize upd (upd H4 p5 (.lst ((qs S.pr g).map V.int))) p6 (.lst ((dl c (qs S.pr g)).map V.int))=H6 at *
   have b6:=b4.same s6
   have w6:=s6 _ _ h4
   have n6w:p6≠w:=fun e=>by rw[e,h4] at n6;cases n6
   have ldl:(dl c (qs S.pr g)).length=g.length:=by rw[kc5,kbq]
   have emin:min (g.map iV).length ((dl c (qs S.pr g)).map V.int).length=g.length:=by rw[Uu,Uu,ldl,JS]
   have ndt:∀(j n:Nat),g[j]?=some n→(((gl.take i).map Prod.snd).flatten++g.take j++[n]).Nodup:=fun j n hj=>by
    rw[JH]
    nofun
    exact kdJ hnd (i:=i) (by rw[UD,eg];rfl) hj
   have lfl:((gl.take i).map Prod.snd).flatten.length=((gl.take i).map fun p=>dl p.1 (qs S.pr p.2)).flatten.length:=by
    rw[List.length_flatten,List.length_flatten,UR,UR]
    congr 1
    nofun
    refine Jj fun q _=>?_
    show q.2.length=(dl q.1 (qs S.pr q.2)).length
    rw[kc5,kbq]
   nofun
   exists Y6
   refine⟨ga,p6,_,_,rfl,s6 _ _ hgg,h6,kiE (xs:=g.map iV) (ys:=(dl c (qs S.pr g)).map V.int) (fun j σ H'=>(∃v8 v9 v10 v11 v12:Option V,σ=[some (.ref v),some (.ref a),some (.ref b),some (.ref x),some (.ref pa),some (.ref w),v8,v9,v10,v11,v12])∧But w H3 H'∧H' ga=some (.lst (g.map iV))∧H' p6=some (.lst ((dl c (qs S.pr g)).map V.int))∧
     H' w=some (.lst ((spr S.pr.length (((gl.take i).map Prod.snd).flatten++g.take j) (((gl.take i).map fun p=>dl p.1 (qs S.pr p.2)).flatten++(dl c (qs S.pr g)).take j)).map V.int)))
    ⟨⟨_,_,_,_,_,rfl⟩,b6,s6 _ _ hgg,h6,by rw[w6];simp⟩ (fun j σ H' _ h=>⟨h.2.2.1,h.2.2.2.1⟩) ?_ ?_⟩
   ·rintro j y1 y2 t2 σ H7 hy1 hy2 ⟨⟨v8,v9,v10,v11,v12,rfl⟩,b7,g7,d7,w7⟩ ht2
    obtain⟨n,en,rfl⟩:=kbl hy1
    obtain⟨z,ez,rfl⟩:=kbl hy2
    have hn:=hgl' n (UE en)
    have s8:=kak (o:=.tup [iV n,V.int z]) ht2
    nofun
    exists Y8
    refine⟨t2,_,rfl,SqT.of kad,rfl,_,_,rfl,_,_,rfl,rfl,?_⟩
    exists 3
    exists Y8
    refine⟨_,rfl,_,rfl,_,rfl,w,_,_,n,rfl,rfl,s8 _ _ w7,kdl (by rw[Uu,kcd];exact hn),⟨_,_,_,_,_,rfl⟩,(b7.same s8).trans kax,?_,?_,?_⟩
    ·rw[kaj ngaw]
     exists 3
     exact s8 _ _ g7
    ·rw[kaj n6w]
     exists 3
     exact s8 _ _ d7
    ·rw[kad,←J0,kbR en,kbR ez,←JG,←JG]
     rw[ki6 (by rw[UY,UY,lfl,UP,UP,ldl]) (ndt j n en) hn]
   ·rintro σ H7 ⟨⟨v8,v9,v10,v11,v12,rfl⟩,b7,g7,d7,w7⟩
    exists 3
    exists Y8
    refine⟨⟨_,_,_,_,_,rfl⟩,b7,?_⟩
    rw[w7,emin,U0,Jw (Nl ldl),kbR eg]
    simp
  rintro σ H4 ⟨⟨v8,v9,v10,v11,v12,rfl⟩,b4,h4⟩
  have ltl:(tl.map V.ref).length=gl.length:=by rw[Uu,hP.len]
  rw[ltl,U0,hsp] at h4
  have s04:Same H H4:=kgD hw0 s03 b4
  obtain⟨mA,dxv,fsv,hv,lvm,_,⟨dxm,fsm,hm,m1,m2,m3,m4,m5,m6⟩,hh,htb⟩:=id (hV.same s04)
  symm
  exists Y4
  refine⟨_,rfl,v,clsOf d Vc.so,dxv,fsv,_,rfl,hv,cl_of W hh,na_of W hh,lvm,mA,d.qd,dxm,fsm,_,rfl,hm,W.qd.cl,W.Qw,m3,?_⟩
  have wle:=kht (so:=Vc.so) (n:=S.mkd.length) (lines:=(abt ps (kds B) Vc.ms.kind Vc.ms.lone S).map fun i=>S.ow.getD i 0) (qs_nn wf.nn (abt ps (kds B) Vc.ms.kind Vc.ms.lone S)) vo.so
  have cn:=kg4 (V:=Vc) (ps:=ps) (kk:=kds B) (S:=S)
  have cs:=fun(m:Int)(e:Vc.ms.most=some m)(h0:0≤m)=>kjD (V:=Vc) (ps:=ps) (kk:=kds B) (S:=S) lp wle e h0
  have sabs:=kgH wf lab habl
  generalize ewant:want Vc.so S.mkd.length ((abt ps (kds B) Vc.ms.kind Vc.ms.lone S).map fun i=>S.ow.getD i 0) (qs S.pr (abt ps (kds B) Vc.ms.kind Vc.ms.lone S))=wn at *
  have fnn:Nn (spr S.pr.length (abt ps (kds B) Vc.ms.kind Vc.ms.lone S) wn):=(kfb wf.nn wle).nn
  have fsum:(spr S.pr.length (abt ps (kds B) Vc.ms.kind Vc.ms.lone S) wn).sum≤720000000000000:=by
   have h:=(kfb wf.nn wle).sum
   have h2:=kc9 (b:=1000000000000) (q:=S.pr) fun z hz=>(wf.pr z hz).2
   omega
  cases em:Vc.ms.most with
  |none=>
   symm
   refine⟨_,rfl,rfl,_,rfl,?_⟩
   show if(!decide (V.non=V.non))=true then _ else _
   rw[ker]
   refine iteF (iteF ⟨_,rfl,k _ w s04 hw0 ?_⟩)
   rw[h4,cn em]
  | some m=>
   have hm0:=vo.ms.most m em
   symm
   refine⟨_,rfl,rfl,_,rfl,?_⟩
   show if(!decide (V.int m=V.non))=true then _ else _
   rw[kfy]
   refine iteT ?_
   symm
   exists Y6
   refine⟨_,rfl,w,_,rfl,SqL.of h4,_,rfl,_,_,rfl,rfl,_,rfl,?_⟩
   by_cases hgt:(spr S.pr.length (abt ps (kds B) Vc.ms.kind Vc.ms.lone S) wn).sum > m
   ·rw[decide_eq_true hgt]
    refine iteT ?_
    nofun
    exists Y8
    refine⟨_,rfl,_,rfl,m,w,_,rfl,SqL.of h4,fnn,by omega,hm0.1,by omega,by rw[kcd];omega,fun p7 hp7=>?_⟩
    exists 3
    refine k _ p7 (s04.trans (kak hp7)) (none_of s04 hp7) ?_
    rw[kad,cs m em hm0.1,if_pos hgt]
   ·rw[decide_eq_false hgt]
    refine iteF ?_
    exists 3
    refine⟨_,rfl,k _ w s04 hw0 ?_⟩
    rw[h4,cs m em hm0.1,if_neg hgt]
theorem kjL{l:List Nat}{f g:Nat→Bool}(h:∀x∈l,f x=g x):l.any f=l.any g:=by
 induction l with
 |nil=>rfl
 |cons a l ih=>rw[Jo,Jo,h a UW,ih fun x hx=>h x (UV _ hx)]
theorem kgn{ow:List Nat}{cs:List Int}{i o l:Nat}(h:ow[i]?=some o):kbu (ow.take (i+1)) cs l=(kbu (ow.take i) cs l||(o==l&&decide (0<cs.getD i 0))):=by
 have hi:=at_lt h
 unfold kbu
 rw[UP,UP,NJ (by omega),NJ (by omega),JB,List.any_append]
 congr 1
 ·refine kjL fun j hj=>?_
  have hj':j<i:=by simpa using hj
  simp only[UF,List.getElem?_take]
  rw[if_pos (by omega),if_pos hj']
 ·simp only[Jo,List.any_nil,Nh]
  rw[UF,List.getElem?_take,if_pos (by omega),h]
  rfl
inductive kcB (d:D) (vs:List V) (H:Hp) (Q:VK) (E_:XK):Prop
 |ct (v x c:Addr)(V:Vch)(S:Stnd)(cs:List Int)(_:vs=[.ref v, .ref x, .ref c])(_:VchIs d H v V)(_:StndIs d.qc H x S)(_:H c=some (.lst (cs.map L2.V.int)))(_:cs.length=S.ow.length)(_:S.ow.length≤720)(_:S.mkd.length≤12)(_:(∀l∈S.ow,l<S.mkd.length))(_:∀(H':Hp)(p:Addr),Same H H'→H p=none→H' p=some (.lst (((Uz S.mkd.length).map fun l=>S.mkd.getD l false||(V.ms.lone&&kbu S.ow cs l)).map L2.V.bl))→Q (.ref p) H'):kcB d vs H Q E_
theorem Qe:kao ["voucher","standing","piece_cuts","marked","owner","cut"] ["voucher","standing","piece_cuts"] (kah kbE):=by ac_rfl
theorem kdB(W:WB K mg d base):FO P w W 1 d.Xp d.Xq ["voucher","standing","piece_cuts"] (kcB d):=by
 exists W.YJ.F,Qe
 ·obtain⟨v,x,c,Vc,S,cs,rfl,⟨mA,dxv,fsv,hv,lvm,_,⟨dxm,fsm,hm,m1,m2,m3,m4,m5,m6⟩,hh,htb⟩,⟨o,p,mk,⟨dxs,fss,hx,l1,l2,l3,l4,l5⟩,ho,hp,hmk⟩,hc,lc,lo,lmk,hw,k⟩:=h
  refine⟨_,kab (psl (i:=3) Qe.nd (kbr (r:=kcJ K) ka5 (by rfl) W.B.list kcw (kaa (kam (K:=K) (pv 1) rfl) kae)))
   (kab (ps_if (kaS (kam (K:=K) (kam (K:=K) (pv 0) rfl) rfl)) (kag (kbe PassesOwn.never rfl (keS rfl W.B.zip (kaa (kam (K:=K) (pv 1) rfl) (kaa (pv 2) kae))) (kbb (K:=K) (n:=2) rfl (kaw (pgn (i:=4) Qe.nd) (kaw (pgn (i:=5) Qe.nd) kba)))
   (kag (ps_if (kar op_gt (pv 5) kaf (kav _)) (kag (kem pe_bl (ken (pv 3) (pv 4) set_list))) (kas))))) (kas))
   (kag (kan (pv 3)))),?_⟩
  have e0:S.mkd.map V.bl=((Uz S.mkd.length).map fun l=>S.mkd.getD l false||kbu (S.ow.take 0) cs l).map V.bl:=by
   congr 1
   apply JJ
   ·simp
   ·intro j h1 h2
    simp[kbu,h1]
  exists Y4
  refine⟨_,rfl,x,d.qc,dxs,fss,_,rfl,hx,W.qc.cl,W.qN,l4,mk,_,rfl, .inl (SqL.of hmk),fun q hq=>?_⟩
  have s1:=kak (o:=.lst (S.mkd.map V.bl)) hq
  symm
  exists Y4
  refine⟨_,rfl,v,clsOf d Vc.so,dxv,fsv,_,rfl,s1 _ _ hv,cl_of W hh,na_of W hh,lvm,mA,d.qd,dxm,fsm,_,rfl,s1 _ _ hm,W.qd.cl,W.Qx,m6,_,rfl,?_⟩
  cases e:Vc.ms.lone with
  |false=>
   refine iteF ?_
   symm
   exists Y6
   refine⟨_,rfl,k _ q s1 hq ?_⟩
   rw[e0]
   simp only[e,JP,Nh]
   rw[kad]
   congr 2
   simp[kbu]
  | true=>
   refine iteT ?_
   have emin:min (S.ow.map iV).length (cs.map V.int).length=S.ow.length:=by rw[Uu,Uu,lc,JS]
   symm
   exists Y6
   refine⟨_,rfl,x,d.qc,dxs,fss,_,rfl,s1 _ _ hx,W.qc.cl,W.qC,l1,_,rfl,o,c,_,_,rfl,s1 _ _ ho,s1 _ _ hc,
    kiE (xs:=S.ow.map iV) (ys:=cs.map V.int) (fun i σ H'=>(∃v4 v5:Option V,σ=[some (.ref v),some (.ref x),some (.ref c),some (.ref q),v4,v5])∧But q H H'∧H' q=some (.lst (((Uz S.mkd.length).map fun l=>S.mkd.getD l false||kbu (S.ow.take i) cs l).map V.bl)))
     ⟨⟨none,none,rfl⟩,But.of_same s1,by rw[kad,e0]⟩ (fun i σ H' _ h=>⟨h.2.1 _ _ (kai ho hq) ho,h.2.1 _ _ (kai hc hq) hc⟩) ?_ ?_⟩
   ·rintro i y z t σ H1 hy hz ⟨⟨v4,v5,rfl⟩,b1,h1⟩ ht
    obtain⟨ln,eln,rfl⟩:=kbl hy
    obtain⟨cz,ecz,rfl⟩:=kbl hz
    have hln:=hw ln (UE eln)
    have st:=fun l=>kgn (cs:=cs) (l:=l) eln
    have eg:cs.getD i 0=cz:=by rw[UF,ecz];rfl
    have tq:q≠t:=kai h1 ht
    have b2:=b1.same (kak (o:=.tup [iV ln,V.int cz]) ht)
    have h2:=kak (o:=.tup [iV ln,V.int cz]) ht _ _ h1
    nofun
    exists Y8
    refine⟨t,_,rfl,SqT.of kad,rfl,_,_,rfl,_,_,rfl,rfl,?_⟩
    exists 3
    exists Y8
    refine⟨_,rfl,_,_,rfl,rfl,_,rfl,?_⟩
    by_cases hc0:cz > 0
    ·rw[decide_eq_true hc0]
     refine iteT ?_
     exists 3
     exists Y10
     refine⟨_,rfl,_,rfl,q,_,_,ln,rfl,rfl,h2,kdl (by simpa using hln),⟨_,_,rfl⟩,b2.trans kax,?_⟩
     rw[kad,←J0]
     congr 3
     apply JJ
     ·simp
     ·intro j g1 g2
      have hj:j<S.mkd.length:=by simpa using g1
      rw[List.getElem_set]
      simp only[Na,NF]
      rw[st j,eg]
      by_cases hjl:ln=j
      ·subst hjl
       simp[hc0]
      ·rw[if_neg hjl,show(ln==j)=false by simpa using hjl]
       simp
    ·rw[decide_eq_false hc0]
     refine iteF ?_
     try first|apply Y10|apply Y8|apply Y6|apply Y4
     exists Y10
     refine⟨⟨_,_,rfl⟩,b2,?_⟩
     rw[h2]
     congr 3
     try first|apply Y10|apply Y8|apply Y6|apply Y4
     refine Jj fun l _=>?_
     rw[st l,eg,show decide (0<cz)=false by simpa using hc0]
     simp
   ·rintro σ H1 ⟨⟨v4,v5,rfl⟩,b1,h1⟩
    rw[emin,U0] at h1
    exists 3
    exists Y8
    refine⟨_,rfl,k _ q (kiU b1 hq) hq ?_⟩
    rw[h1]
    simp only[e,Ni]
theorem QU:kao ["voucher","parents","basket","standing","piece_cuts","left"] ["voucher","parents","basket","standing"] (kah kf1):=by ac_rfl
theorem kjl(W:WB K mg d base):FO P w W 5 d.Xe d.Xf ["voucher","parents","basket","standing"] (khU K d):=by
 exists W.YE.F,QU
 ·obtain⟨v,a,b,x,Vc,ps,B,S,rfl,hV,hA,hB,hS,wf,vo,k⟩:=h
  exists Vb,kdj,W
  exists QV,kca,W
  exists Vd,kcV,W
  exists Ve,kdB,W
  exists hr1,1,hr,0
  exists hr2,2,hr,0
  exists hr3,3,hr,0
  refine⟨_,kab (psl (i:=4) QU.nd (pcl Vb hr W.YF (kaa (pv 0) (kaa (pv 1) (kaa (pv 2) (kaa (pv 3) kae))))))
   (kab (psl (i:=5) QU.nd (kbI (W.qO.mk' W.qc) QV hr3 rfl W.qc.m W.qO.b .nil pass0 (kaa (pv 2) kae)))
   (kab (kaK (pv 5) (kbr (r:=kcJ K) ka5 (by rfl) W.B.list kcw (kaa (kam (K:=K) (pv 3) rfl) kae)) rfl)
   (kab (kaK (pv 5) (kbi (N:=["price","cut"]) (CompScope.plain rfl (by decide +kernel) (by decide +kernel) (by decide +kernel) (show(["price","cut"]:List Str).Nodup by decide +kernel)) rfl (keS rfl W.B.zip (kaa (kam (K:=K) (pv 3) rfl) (kaa (pv 4) kae))) (fun _ _ _ _=>kbb (K:=K) (n:=2) rfl (kaw (pgn (i:=0) (show(["price","cut"]:List Str).Nodup by decide +kernel)) (kaw (pgn (i:=1) (show(["price","cut"]:List Str).Nodup by decide +kernel)) kba))) (fun _ _ _ _=>(pe_op kbJ (pv 0) (pv 1)))) rfl)
   (kab (kaK (pv 5) (pe_op kbJ (kam (K:=K) (pv 3) rfl) (pcl Vd hr2 W.YG (kaa (pv 0) (kaa (pv 3) kae)))) rfl)
   (kab (kaK (pv 5) (pcl Ve hr1 W.YJ (kaa (pv 0) (kaa (pv 3) (kaa (pv 4) kae)))) rfl)
   (kag (kan (pv 5)))))))),?_⟩
  have np:=wf.np
  have lp:=wf.lp
  have lcut:(cutM Vc ps (kds B) S).1.length=S.pr.length:=(kkg wf.nn wf.cg.1 vo.so fun m e=>(vo.ms.most m e).1).1.1
  exists Y4
  refine⟨_,rfl,_,rfl,_,rfl,_,rfl,v,a,b,x,Vc,ps,B,S,rfl,hV,hA,hB,hS,wf,vo,fun H1 pc s1 f1 h1=>?_⟩
  obtain⟨l,ls,hb1,hl1,hL1⟩:=id (hB.same s1)
  symm
  exists Y4
  refine⟨_,rfl,kig hb1 hl1 hL1 wf.nl wf.ok fun H2 y s2 f2 dxy fsy hy ly lyw=>?_⟩
  have fy:H y=none:=none_of s1 f2
  have s02:=s1.trans s2
  obtain⟨o,p,mk,⟨dxs,fss,hx,l1,l2,l3,l4,l5⟩,ho,hp,hmk⟩:=id hS
  symm
  exists Y4
  refine⟨_,rfl,x,d.qc,dxs,fss,_,rfl,s02 _ _ hx,W.qc.cl,W.qC,l1,o,_,rfl, .inl (SqL.of (s02 _ _ ho)),fun q1 hq1=>?_⟩
  have n1:q1≠y:=(kai hy hq1).symm
  symm
  exists Y4
  refine⟨_,rfl,y,d.qc,dxy,fsy,rfl,kak hq1 _ _ hy,W.qc.cl,W.qC,few (by omega),?_⟩
  have s3:Same H (upd (upd H2 q1 (.lst (S.ow.map iV))) y (.ins d.qc dxy (putF "owners" (.ref q1) fsy))):=kaq fy (s02.trans (kak hq1))
  have e3:(upd (upd H2 q1 (.lst (S.ow.map iV))) y (.ins d.qc dxy (putF "owners" (.ref q1) fsy))) q1=some (.lst (S.ow.map iV)):=by rw[kaj n1,kad]
  have y3:(upd (upd H2 q1 (.lst (S.ow.map iV))) y (.ins d.qc dxy (putF "owners" (.ref q1) fsy))) y=some (.ins d.qc dxy (putF "owners" (.ref q1) fsy)):=kad
  have c3:(upd (upd H2 q1 (.lst (S.ow.map iV))) y (.ins d.qc dxy (putF "owners" (.ref q1) fsy))) pc=some (.lst ((cutM Vc ps (kds B) S).1.map V.int)):=by
   rw[kaj (kai h1 f2)]
   symm
   exact kak hq1 _ _ (s2 _ _ h1)
  have f3:=UA (kal (f:="owners") (v:=.ref q1) ly) (by decide:11≤20)
  generalize upd (upd H2 q1 (.lst (S.ow.map iV))) y (.ins d.qc dxy (putF "owners" (.ref q1) fsy))=H3 at *
  have emin:min (S.pr.map V.int).length ((cutM Vc ps (kds B) S).1.map V.int).length=S.pr.length:=by rw[Uu,Uu,lcut,JS]
  symm
  exists Y4
  refine⟨_,rfl,x,d.qc,dxs,fss,_,rfl,s3 _ _ hx,W.qc.cl,W.qw,l2,_,rfl,p,pc,_,_,rfl,s3 _ _ hp,c3,
   ke5 (xs:=S.pr.map V.int) (ys:=(cutM Vc ps (kds B) S).1.map V.int) (fun i σ zs H'=>Same H3 H'∧zs=((US (· - ·) S.pr (cutM Vc ps (kds B) S).1).take i).map V.int∧∃v0 v1:Option V,σ=[v0,v1])
    ⟨Same.refl _,rfl,none,none,rfl⟩ (by rw[emin];exact UI (kap (by omega))) (fun i σ zs H' hi h=>⟨h.1 _ _ (s3 _ _ hp),h.1 _ _ c3,by rw[h.2.1,Uu,UP,Nf,lcut];rw[emin] at hi;omega⟩) ?_ ?_⟩
  ·rintro i y1 y2 t σ zs H4 hy1 hy2 ⟨s4,rfl,v0,v1,rfl⟩ ht
   obtain⟨z1,ez1,rfl⟩:=kbl hy1
   obtain⟨z2,ez2,rfl⟩:=kbl hy2
   symm
   exists Y6
   refine⟨t,_,rfl,SqT.of kad,rfl,_,_,rfl,_,_,rfl,rfl,_,rfl,_,rfl,_,_,rfl,rfl,s4.trans (kak ht),?_,_,_,rfl⟩
   rw[kbR (r:=z1-z2) (by rw[JK,ez1,ez2]),UH]
   rfl
  rintro σ zs H4 ⟨s4,rfl,v0,v1,rfl⟩ q2 hq2
  rw[emin,Jw (by rw[Nf,lcut];omega)]
  have n2:q2≠y:=(kai (s4 _ _ y3) hq2).symm
  have n12:q1≠q2:=kai (s4 _ _ e3) hq2
  have s5:=kak (o:=.lst ((US (· - ·) S.pr (cutM Vc ps (kds B) S).1).map V.int)) hq2
  symm
  exists Y4
  refine⟨_,rfl,y,d.qc,dxy,_,rfl,s5 _ _ (s4 _ _ y3),W.qc.cl,W.qw,few f3,?_⟩
  have s6:Same H (upd (upd H4 q2 (.lst ((US (· - ·) S.pr (cutM Vc ps (kds B) S).1).map V.int))) y (.ins d.qc dxy (putF "prices" (.ref q2) (putF "owners" (.ref q1) fsy)))):=kaq fy ((s3.trans s4).trans s5) (nx (s5 _ _ (s4 _ _ y3)))
  have e6:(upd (upd H4 q2 (.lst ((US (· - ·) S.pr (cutM Vc ps (kds B) S).1).map V.int))) y (.ins d.qc dxy (putF "prices" (.ref q2) (putF "owners" (.ref q1) fsy)))) q1=some (.lst (S.ow.map iV)):=by
   rw[kaj n1]
   symm
   exact s5 _ _ (s4 _ _ e3)
  have p6:(upd (upd H4 q2 (.lst ((US (· - ·) S.pr (cutM Vc ps (kds B) S).1).map V.int))) y (.ins d.qc dxy (putF "prices" (.ref q2) (putF "owners" (.ref q1) fsy)))) q2=some (.lst ((US (· - ·) S.pr (cutM Vc ps (kds B) S).1).map V.int)):=by rw[kaj n2,kad]
  have y6:(upd (upd H4 q2 (.lst ((US (· - ·) S.pr (cutM Vc ps (kds B) S).1).map V.int))) y (.ins d.qc dxy (putF "prices" (.ref q2) (putF "owners" (.ref q1) fsy)))) y=some (.ins d.qc dxy (putF "prices" (.ref q2) (putF "owners" (.ref q1) fsy))):=kad
  have c6:(upd (upd H4 q2 (.lst ((US (· - ·) S.pr (cutM Vc ps (kds B) S).1).map V.int))) y (.ins d.qc dxy (putF "prices" (.ref q2) (putF "owners" (.ref q1) fsy)))) pc=some (.lst ((cutM Vc ps (kds B) S).1.map V.int)):=by
   rw[kaj (kai h1 f2)]
   symm
   exact s5 _ _ (s4 _ _ c3)
  have f6:=UA (kal (f:="prices") (v:=.ref q2) (kal (f:="owners") (v:=.ref q1) ly)) (by decide:12≤20)
  generalize upd (upd H4 q2 (.lst ((US (· - ·) S.pr (cutM Vc ps (kds B) S).1).map V.int))) y (.ins d.qc dxy (putF "prices" (.ref q2) (putF "owners" (.ref q1) fsy)))=H6 at *
  symm
  exists Y4
  refine⟨_,rfl,x,d.qc,dxs,fss,_,rfl,s6 _ _ hx,W.qc.cl,W.qZ,l3,_,rfl,_,rfl,v,x,Vc,S,rfl,hV.same s6,hS.same s6,_,_,rfl,rfl,?_⟩
  rw[←kkR (ps:=ps) (kk:=kds B) (S:=S) vo]
  symm
  exists Y4
  refine⟨_,rfl,y,d.qc,dxy,_,rfl,y6,W.qc.cl,W.qZ,few f6,?_⟩
  have s7:Same H (upd H6 y (.ins d.qc dxy (putF "carriage" (.int (S.cg-(cutM Vc ps (kds B) S).2)) (putF "prices" (.ref q2) (putF "owners" (.ref q1) fsy))))):=kaq fy s6
  have e7:(upd H6 y (.ins d.qc dxy (putF "carriage" (.int (S.cg-(cutM Vc ps (kds B) S).2)) (putF "prices" (.ref q2) (putF "owners" (.ref q1) fsy))))) q1=some (.lst (S.ow.map iV)):=by rw[kaj n1];exact e6
  have p7:(upd H6 y (.ins d.qc dxy (putF "carriage" (.int (S.cg-(cutM Vc ps (kds B) S).2)) (putF "prices" (.ref q2) (putF "owners" (.ref q1) fsy))))) q2=some (.lst ((US (· - ·) S.pr (cutM Vc ps (kds B) S).1).map V.int)):=by rw[kaj n2];exact p6
  have y7:(upd H6 y (.ins d.qc dxy (putF "carriage" (.int (S.cg-(cutM Vc ps (kds B) S).2)) (putF "prices" (.ref q2) (putF "owners" (.ref q1) fsy))))) y=some (.ins d.qc dxy (putF "carriage" (.int (S.cg-(cutM Vc ps (kds B) S).2)) (putF "prices" (.ref q2) (putF "owners" (.ref q1) fsy)))):=kad
  have c7:(upd H6 y (.ins d.qc dxy (putF "carriage" (.int (S.cg-(cutM Vc ps (kds B) S).2)) (putF "prices" (.ref q2) (putF "owners" (.ref q1) fsy))))) pc=some (.lst ((cutM Vc ps (kds B) S).1.map V.int)):=by rw[kaj (kai h1 f2)];exact c6
  have f7:=UA (kal (f:="carriage") (v:=.int (S.cg-(cutM Vc ps (kds B) S).2)) (kal (f:="prices") (v:=.ref q2) (kal (f:="owners") (v:=.ref q1) ly))) (by decide:13≤20)
  generalize upd H6 y (.ins d.qc dxy (putF "carriage" (.int (S.cg-(cutM Vc ps (kds B) S).2)) (putF "prices" (.ref q2) (putF "owners" (.ref q1) fsy))))=H7 at *
  symm
  exists Y4
  refine⟨_,rfl,_,rfl,_,rfl,v,x,pc,Vc,S,_,rfl,hV.same s7,hS.same s7,c7,by rw[lcut,lp],np,by rw[wf.lm];exact wf.nl,fun l hl=>?_,fun H8 q3 s8 f8 h8=>?_⟩
  ·obtain⟨i,hi⟩:=JU.mp hl
   rw[wf.lm]
   symm
   exact wf.line hi
  have n3:q3≠y:=(kai y7 f8).symm
  symm
  exists Y4
  refine⟨_,rfl,y,d.qc,dxy,_,rfl,s8 _ _ y7,W.qc.cl,W.qN,few f7,?_⟩
  symm
  exists Y4
  refine⟨_,rfl,k _ y (kaq fy (s7.trans s8) (nx (s8 _ _ y7))) fy ⟨q1,q2,q3,⟨dxy,_,kad,?_,?_,?_,?_,?_⟩,?_,?_,?_⟩⟩
  ·ac_nf
  ·ac_nf
  ·ac_nf
   rfl
  ·ac_nf
  ·rw[kac,if_neg (by decide +kernel),kac,if_neg (by decide +kernel),kac,if_neg (by decide +kernel),kac,if_neg (by decide +kernel)]
   symm
   exact lyw
  ·rw[kaj n1]
   symm
   exact s8 _ _ e7
  ·rw[kaj n2]
   symm
   exact s8 _ _ p7
  ·rw[kaj n3]
   symm
   exact h8
inductive kfR (d:D) (vs:List V) (H:Hp) (Q:VK) (E_:XK):Prop
 |ct (H0:Hp)(x dx p vl rl:Addr)(ps vs' rs:List V)(bk:Str)(_:vs=[.ref x, .ref p, .ref vl, .ref rl, .str bk])(_:H0 x=none)(_:Same H0 H)(_:H x=some (.ins d.qe dx []))(_:H0 p=some (.lst ps))(_:H0 vl=some (.lst vs'))(_:H0 rl=some (.lst rs))(_:∀(H':Hp)(p' vl' rl':Addr)(fs:List (Str×V)),Same H0 H'→H0 p'=none→H0 vl'=none→H0 rl'=none→H' p'=some (.lst ps)→H' vl'=some (.lst vs')→H' rl'=some (.lst rs)→H' x=some (.ins d.qe dx fs)→fs.lookup ("parents" :Str)=some (.ref p')→fs.lookup ("vouchers" :Str)=some (.ref vl')→fs.lookup ("rules" :Str)=some (.ref rl')→fs.lookup ("back" :Str)=some (.str bk)→Q .non H'):kfR d vs H Q E_
theorem kfm:kao ["self","parents","vouchers","rules","back"] ["self","parents","vouchers","rules","back"] (kah ka1):=by ac_rfl
theorem kfw(W:WB K mg d base):FO P w W 1 d.Yz d.Qq ["self","parents","vouchers","rules","back"] (kfR d):=by
 exists W.Zg.F,kfm
 ·obtain⟨H0,x,dx,p,vl,rl,ps,vs',rs,bk,rfl,fx,s0,hx,hp,hvl,hrl,k⟩:=h
  refine⟨_,kab (kaK (pv 0) (kbr (r:=kcJ K) ka5 (by rfl) W.B.list kcw (kaa (pv 1) kae)) rfl)
   (kab (kaK (pv 0) (kbr (r:=kcJ K) ka5 (by rfl) W.B.list kcw (kaa (pv 2) kae)) rfl)
   (kab (kaK (pv 0) (kbr (r:=kcJ K) ka5 (by rfl) W.B.list kcw (kaa (pv 3) kae)) rfl)
   (kag (kaK (pv 0) (pv 4) rfl)))),?_⟩
  exists Y4
  refine⟨_,rfl,p,_,rfl, .inl (SqL.of (s0 _ _ hp)),fun p' hp'=>?_⟩
  have n1:=kak (o:=.lst ps) hp'
  have fp:=s0.free hp'
  have np:p'≠x:=(kai hx hp').symm
  have e1:(upd H p' (.lst ps)) p'=some (.lst ps):=kad
  have s1:=s0.trans n1
  have hx1:=n1 _ _ hx
  clear n1
  generalize upd H p' (.lst ps)=H1 at *
  symm
  exists Y4
  refine⟨_,rfl,x,d.qe,dx,[],rfl,hx1,W.qe.cl,W.QM,by decide,?_⟩
  have s2:Same H0 (upd H1 x (.ins d.qe dx (putF "parents" (.ref p') []))):=kaq fx s1 (nx hx1)
  have e2:(upd H1 x (.ins d.qe dx (putF "parents" (.ref p') []))) p'=some (.lst ps):=by rw[kaj np];exact e1
  have hx2:(upd H1 x (.ins d.qe dx (putF "parents" (.ref p') []))) x=some (.ins d.qe dx (putF "parents" (.ref p') [])):=kad
  generalize upd H1 x (.ins d.qe dx (putF "parents" (.ref p') []))=H2 at *
  symm
  exists Y4
  refine⟨_,rfl,vl,_,rfl, .inl (SqL.of (s2 _ _ hvl)),fun v' hv'=>?_⟩
  have n3:=kak (o:=.lst vs') hv'
  have fv:=s2.free hv'
  have nv:v'≠x:=(kai hx2 hv').symm
  have s3:=s2.trans n3
  have e3:=n3 _ _ e2
  have ev3:(upd H2 v' (.lst vs')) v'=some (.lst vs'):=kad
  have hx3:=n3 _ _ hx2
  clear n3
  generalize upd H2 v' (.lst vs')=H3 at *
  symm
  exists Y4
  refine⟨_,rfl,x,d.qe,dx,_,rfl,hx3,W.qe.cl,W.Qb,few (UA (kal (n:=0) (Ux _)) (by decide)),?_⟩
  have s4:Same H0 (upd H3 x (.ins d.qe dx (putF "vouchers" (.ref v') (putF "parents" (.ref p') [])))):=kaq fx s3 (nx hx3)
  have e4:(upd H3 x (.ins d.qe dx (putF "vouchers" (.ref v') (putF "parents" (.ref p') [])))) p'=some (.lst ps):=by rw[kaj np];exact e3
  have ev4:(upd H3 x (.ins d.qe dx (putF "vouchers" (.ref v') (putF "parents" (.ref p') [])))) v'=some (.lst vs'):=by rw[kaj nv];exact ev3
  have hx4:(upd H3 x (.ins d.qe dx (putF "vouchers" (.ref v') (putF "parents" (.ref p') [])))) x=some (.ins d.qe dx (putF "vouchers" (.ref v') (putF "parents" (.ref p') []))):=kad
  generalize upd H3 x (.ins d.qe dx (putF "vouchers" (.ref v') (putF "parents" (.ref p') [])))=H4 at *
  symm
  exists Y4
  refine⟨_,rfl,rl,_,rfl, .inl (SqL.of (s4 _ _ hrl)),fun r' hr'=>?_⟩
  have n5:=kak (o:=.lst rs) hr'
  have fr:=s4.free hr'
  have nr:r'≠x:=(kai hx4 hr').symm
  have s5:=s4.trans n5
  have e5:=n5 _ _ e4
  have ev5:=n5 _ _ ev4
  have er5:(upd H4 r' (.lst rs)) r'=some (.lst rs):=kad
  have hx5:=n5 _ _ hx4
  clear n5
  generalize upd H4 r' (.lst rs)=H5 at *
  symm
  exists Y4
  refine⟨_,rfl,x,d.qe,dx,_,rfl,hx5,W.qe.cl,W.qF,few (UA (kal (kal (n:=0) (Ux _))) (by decide)),?_⟩
  have s6:Same H0 (upd H5 x (.ins d.qe dx (putF "rules" (.ref r') (putF "vouchers" (.ref v') (putF "parents" (.ref p') []))))):=kaq fx s5 (nx hx5)
  have hx6:(upd H5 x (.ins d.qe dx (putF "rules" (.ref r') (putF "vouchers" (.ref v') (putF "parents" (.ref p') []))))) x=some (.ins d.qe dx (putF "rules" (.ref r') (putF "vouchers" (.ref v') (putF "parents" (.ref p') [])))):=kad
  symm
  exists Y4
  refine⟨_,rfl,_,rfl,x,d.qe,dx,_,rfl,hx6,W.qe.cl,W.ZA,few (UA (kal (kal (kal (n:=0) (Ux _)))) (by decide)),?_⟩
  symm
  refine k _ p' v' r' _ (kaq fx s6 (nx hx6)) fp fv fr ?_ ?_ ?_ kad ?_ ?_ ?_ ?_
  ·rw[kaj np,kaj np];exact e5
  ·rw[kaj nv,kaj nv];exact ev5
  ·rw[kaj nr,kaj nr];exact er5
  ·ac_nf
  ·ac_nf
  ·ac_nf
  ·ac_nf
theorem kkG{d:D}{H:Hp}{p vl rl:Addr}{T:TillD}{va ra:List Addr}{R:Addr→Hp→Prop}{E:XK}(hp:H p=some (.lst (T.ps.map pV)))(hvl:H vl=some (.lst (va.map V.ref)))(hv:P2 (fun a V=>VchIs d H a V) va T.vs)(hrl:H rl=some (.lst (ra.map V.ref)))(hr:P2 (fun a r=>RulIs H a r) ra T.rs)
  (k:∀(H':Hp)(x:Addr),Same H H'→H x=none→TillIs d H' x T→R x H'):
  ∀x dx,H x=none→H dx=none→dx≠x→kfR d [.ref x, .ref p, .ref vl, .ref rl, .str T.bk] (upd (upd H dx (.own x)) x (.ins d.qe dx [])) (fun v H2=>v=.non∧R x H2) E:=
 fun x dx nx nd _=>⟨H,x,dx,p,vl,rl,_,_,_,_,rfl,nx,kbf nx nd,kad,hp,hvl,hrl,fun H' p' vl' rl' fs s f1 f2 f3 h1 h2 h3 hx l1 l2 l3 l4=>⟨rfl,k H' x s nx ⟨dx,fs,p',vl',rl',va,ra,hx,l1,l2,l3,l4,h1,h2,hv.mono fun a V h=>h.same s,h3,hr.mono fun a r h=>s _ _ h⟩⟩⟩
inductive kfS (f:List Rul→List Nat→Nat→Bool) (vs:List V) (H:Hp) (Q:VK) (E_:XK):Prop
 |ct (rl u:Addr)(ra:List Addr)(rs:List Rul)(used:List Nat)(n:Nat)(_:vs=[.ref rl, .ref u,iV n])(_:H rl=some (.lst (ra.map V.ref)))(_:P2 (fun a r=>RulIs H a r) ra rs)(_:H u=some (.lst (used.map iV)))(_:Q (.bl (f rs used n)) H):kfS f vs H Q E_
theorem kiZ{f:Rul→Bool}{rs:List Rul}{i:Nat}{r:Rul}(e:rs[i]?=some r)(h:f r=true):rs.any f=true:=NK.mpr ⟨r,UE e,h⟩
theorem kkk{f:Rul→Bool}{rs:List Rul}{n:Nat}(hn:n=rs.length)(h:∀r∈rs.take n,f r=false):rs.any f=false:=by
 rw[hn,U0] at h
 cases e:rs.any f with
 |false=>rfl
 |true=>
  obtain⟨r,hr,e2⟩:=NK.mp e
  rw[h r hr] at e2
  cases e2
theorem kbM{f:Rul→Bool}{rs:List Rul}{i:Nat}{r:Rul}(e:rs[i]?=some r)(h:∀q∈rs.take i,f q=false)(hr:f r=false):∀q∈rs.take (i+1),f q=false:=fun q hq=>by
 rw[JA,e] at hq
 rcases Jg.mp hq with z|z
 ·exact h q z
 ·have e2:q=r:=by simpa using z
  rw[e2]
  exact hr
theorem Qf:kao ["rules","used","number","word","one","other"] ["rules","used","number"] (kah kbS):=by ac_rfl
theorem kdW(W:WB K mg d base):FO P w W 1 d.XD d.XE ["rules","used","number"] (kfS kdp):=by
 exists W.YO.F,Qf
 ·obtain⟨rl,u,ra,rs,used,n,rfl,hrl,hr,hu,k⟩:=h
  refine⟨_,kab (kbe PassesOwn.never rfl (kaF (K:=K) (pv 0)) (kbb (K:=K) (n:=3) rfl (kaw (pgn (i:=3) Qf.nd) (kaw (pgn (i:=4) Qf.nd) (kaw (pgn (i:=5) Qf.nd) kba))))
   (kag (ps_if (PW.pt (ka8 (kar op_eq (pv 3) kau (kav _)) (ka0 (PW.pt (pw_or (PW.pt (ka8 (kar op_eq (pv 4) (pv 2) (kav _)) (ka0 (kar kbK (pv 5) (pv 1) (by with_unfolding_all rfl))))) (kj0 (PW.pt (ka8 (kar op_eq (pv 5) (pv 2) (kav _)) (ka0 (kar kbK (pv 4) (pv 1) (by with_unfolding_all rfl))))))))))) (kag (kan pe_bl)) (kas))))
   (kag (kan pe_bl)),?_⟩
  refine⟨_,rfl,rl,rfl,⟨_,SqL.of hrl⟩,kbp (xs:=ra.map V.ref) (fun i σ H'=>H'=H∧(∀r∈rs.take i,nevR used n r=false)∧∃v3 v4 v5:Option V,σ=[some (.ref rl),some (.ref u),some (iV n),v3,v4,v5])
   ⟨rfl,(fun r hr=>by simp at hr),none,none,none,rfl⟩ (fun i σ H' _ h=>by rw[h.1];exact SqL.of hrl) ?_ ?_⟩
  ·rintro i y σ H' hy ⟨rfl,hno,v3,v4,v5,rfl⟩
   obtain⟨a,ea,rfl⟩:=kbZ hy
   obtain⟨r,er,hra⟩:=hr.at ea
   have yes:nevR used n r=true→Q (.bl true) H':=fun e=>by
    have z:=kiZ (f:=nevR used n) er e
    unfold kdp at k
    rw[z] at k
    exact k
   refine⟨a,_,rfl,SqT.of hra,rfl,_,_,rfl,_,_,rfl,_,_,rfl,rfl,?_⟩
   refine⟨_,rfl,rfl,_,rfl,?_⟩
   show if decide (V.str r.w=V.str "never")=true then _ else _
   rw[eq_str]
   by_cases hw:r.w=("never" :Str)
   ·rw [decide_eq_true hw]
    refine iteT ⟨_,rfl,_,rfl,rfl,_,rfl,?_⟩
    show if decide (iV r.a=iV n)=true then _ else _
    rw[kev]
    by_cases ha:r.a=n
    ·rw[decide_eq_true ha]
     refine iteT ⟨_,rfl,_,rfl,u,_,rfl, .inl (SqL.of hu),rfl,kbY _,_,rfl,?_⟩
     rw[if_neg UB,kbX]
     cases hb:used.contains r.b with
     |true=>exact iteT (iteT (yes (by unfold nevR;rw[decide_eq_true hw,decide_eq_true ha,hb];rfl)))
     | false=>
      refine iteF ⟨_,rfl,_,rfl,rfl,_,rfl,?_⟩
      show if decide (iV r.b=iV n)=true then _ else _
      rw[kev]
      by_cases hc:r.b=n
      ·rw[decide_eq_true hc]
       refine iteT ⟨_,rfl,_,rfl,u,_,rfl, .inl (SqL.of hu),rfl,kbY _,_,rfl,?_⟩
       rw[if_neg UB,kbX]
       cases hd:used.contains r.a with
       |true=>exact iteT (yes (by unfold nevR;rw[decide_eq_true hw,decide_eq_true ha,hb,decide_eq_true hc,hd];rfl))
       |false=>exact iteF ⟨rfl,kbM er hno (by unfold nevR;rw[decide_eq_true hw,decide_eq_true ha,hb,decide_eq_true hc,hd];rfl),_,_,_,rfl⟩
      ·rw[decide_eq_false hc]
       exact iteF (iteF ⟨rfl,kbM er hno (by unfold nevR;rw[decide_eq_true hw,decide_eq_true ha,hb,decide_eq_false hc];rfl),_,_,_,rfl⟩)
    ·rw[decide_eq_false ha]
     refine iteF (iteF ⟨_,rfl,_,rfl,rfl,_,rfl,?_⟩)
     show if decide (iV r.b=iV n)=true then _ else _
     rw[kev]
     by_cases hc:r.b=n
     ·rw[decide_eq_true hc]
      refine iteT ⟨_,rfl,_,rfl,u,_,rfl, .inl (SqL.of hu),rfl,kbY _,_,rfl,?_⟩
      rw[if_neg UB,kbX]
      cases hd:used.contains r.a with
      |true=>exact iteT (yes (by unfold nevR;rw[decide_eq_true hw,decide_eq_false ha,decide_eq_true hc,hd];rfl))
      |false=>exact iteF ⟨rfl,kbM er hno (by unfold nevR;rw[decide_eq_true hw,decide_eq_false ha,decide_eq_true hc,hd];rfl),_,_,_,rfl⟩
     ·rw[decide_eq_false hc]
      exact iteF (iteF ⟨rfl,kbM er hno (by unfold nevR;rw[decide_eq_true hw,decide_eq_false ha,decide_eq_false hc];rfl),_,_,_,rfl⟩)
   ·rw[decide_eq_false hw]
    refine iteF (iteF ⟨rfl,kbM er hno ?_,_,_,_,rfl⟩)
    unfold nevR
    rw[decide_eq_false hw]
    rfl
  ·rintro σ H' ⟨rfl,hno,v3,v4,v5,rfl⟩
   have z:=kkk (by rw[Uu];exact hr.len) hno
   unfold kdp at k
   rw[z] at k
   exact k
theorem Qg:kao ["rules","used","number","word","one","other"] ["rules","used","number"] (kah kbT):=by ac_rfl
theorem kdX(W:WB K mg d base):FO P w W 1 d.XF d.XG ["rules","used","number"] (kfS kdv):=by
 exists W.YQ.F,Qg
 ·obtain⟨rl,u,ra,rs,used,n,rfl,hrl,hr,hu,k⟩:=h
  refine⟨_,kab (kbe PassesOwn.never rfl (kaF (K:=K) (pv 0)) (kbb (K:=K) (n:=3) rfl (kaw (pgn (i:=3) Qg.nd) (kaw (pgn (i:=4) Qg.nd) (kaw (pgn (i:=5) Qg.nd) kba))))
   (kag (ps_if (PW.pt (ka8 (kar op_eq (pv 3) kau (kav _)) (ka8 (kar op_eq (pv 4) (pv 2) (kav _)) (ka0 (kar kbK (pv 5) (pv 1) (by with_unfolding_all rfl)))))) (kag (kan pe_bl)) (kas))))
   (kag (kan pe_bl)),?_⟩
  refine⟨_,rfl,rl,rfl,⟨_,SqL.of hrl⟩,kbp (xs:=ra.map V.ref) (fun i σ H'=>H'=H∧(∀r∈rs.take i,ahdR used n r=false)∧∃v3 v4 v5:Option V,σ=[some (.ref rl),some (.ref u),some (iV n),v3,v4,v5])
   ⟨rfl,(fun r hr=>by simp at hr),none,none,none,rfl⟩ (fun i σ H' _ h=>by rw[h.1];exact SqL.of hrl) ?_ ?_⟩
  ·rintro i y σ H' hy ⟨rfl,hno,v3,v4,v5,rfl⟩
   obtain⟨a,ea,rfl⟩:=kbZ hy
   obtain⟨r,er,hra⟩:=hr.at ea
   have yes:ahdR used n r=true→Q (.bl true) H':=fun e=>by
    have z:=kiZ (f:=ahdR used n) er e
    unfold kdv at k
    rw[z] at k
    exact k
   refine⟨a,_,rfl,SqT.of hra,rfl,_,_,rfl,_,_,rfl,_,_,rfl,rfl,?_⟩
   refine⟨_,rfl,rfl,_,rfl,?_⟩
   show if decide (V.str r.w=V.str "ahead")=true then _ else _
   rw[eq_str]
   by_cases hw:r.w=("ahead" :Str)
   ·rw[decide_eq_true hw]
    refine iteT ⟨_,rfl,_,rfl,rfl,_,rfl,?_⟩
    show if decide (iV r.a=iV n)=true then _ else _
    rw[kev]
    by_cases ha:r.a=n
    ·rw[decide_eq_true ha]
     refine iteT ⟨_,rfl,_,rfl,u,_,rfl, .inl (SqL.of hu),rfl,kbY _,_,rfl,?_⟩
     rw[if_neg UB,kbX]
     cases hb:used.contains r.b with
     |true=>exact iteT (yes (by unfold ahdR;rw[decide_eq_true hw,decide_eq_true ha,hb];rfl))
     |false=>exact iteF ⟨rfl,kbM er hno (by unfold ahdR;rw[decide_eq_true hw,decide_eq_true ha,hb];rfl),_,_,_,rfl⟩
    ·rw[decide_eq_false ha]
     exact iteF (iteF ⟨rfl,kbM er hno (by unfold ahdR;rw[decide_eq_true hw,decide_eq_false ha];rfl),_,_,_,rfl⟩)
   ·rw[decide_eq_false hw]
    refine iteF (iteF ⟨rfl,kbM er hno ?_,_,_,_,rfl⟩)
    unfold ahdR
    rw[decide_eq_false hw]
    rfl
  ·rintro σ H' ⟨rfl,hno,v3,v4,v5,rfl⟩
   have z:=kkk (by rw[Uu];exact hr.len) hno
   unfold kdv at k
   rw[z] at k
   exact k
inductive kfg (vs:List V) (H:Hp) (Q:VK) (E_:XK):Prop
 |ct (rl u:Addr)(ra:List Addr)(rs:List Rul)(order:List Nat)(_:vs=[.ref rl, .ref u])(_:H rl=some (.lst (ra.map V.ref)))(_:P2 (fun a r=>RulIs H a r) ra rs)(_:H u=some (.lst (order.map iV)))(_:Q (pV (onlyM rs order)) H):kfg vs H Q E_
theorem kg1{f:Rul→Bool}:∀{rs:List Rul}{i:Nat}{r:Rul},rs[i]?=some r→f r=true→(∀q∈rs.take i,f q=false)→rs.find? f=some r
 |[],i,r,e,_,_=>by simp at e
 |q::rs,0,r,e,h,_=>by
  have e2:q=r:=by simpa using e
  subst e2
  simp[h]
 |q::rs,i+1,r,e,h,hno=>by
  have h1:=hno q (by simp)
  rw[List.find?_cons_of_neg (by rw[h1];simp)]
  exact kg1 (by simpa using e) h fun z hz=>hno z (by simp[hz])
theorem kkQ{f:Rul→Bool}{rs:List Rul}{n:Nat}(hn:n=rs.length)(h:∀r∈rs.take n,f r=false):rs.find? f=none:=by
 rw[hn,U0] at h
 exact List.find?_eq_none.mpr fun r hr=>by rw[h r hr];simp
theorem Qh:kao ["rules","order","word","one","other"] ["rules","order"] (kah kbm):=by ac_rfl
theorem kcU(W:WB K mg d base):FO P w W 1 d.XH d.XI ["rules","order"] kfg:=by
 exists W.YR.F,Qh
 ·obtain⟨rl,u,ra,rs,order,rfl,hrl,hr,hu,k⟩:=h
  refine⟨_,kab (kbe PassesOwn.never rfl (kaF (K:=K) (pv 0)) (kbb (K:=K) (n:=3) rfl (kaw (pgn (i:=2) Qh.nd) (kaw (pgn (i:=3) Qh.nd) (kaw (pgn (i:=4) Qh.nd) kba))))
   (kag (ps_if (PW.pt (ka8 (kar op_eq (pv 2) kau (kav _)) (ka8 (kar kbK (pv 3) (pv 1) (by with_unfolding_all rfl)) (ka0 (kar kfr (pv 4) (pv 1) (by with_unfolding_all rfl)))))) (kag (kan (pv 3))) (kas))))
   (kag (kan kaT)),?_⟩
  refine⟨_,rfl,rl,rfl,⟨_,SqL.of hrl⟩,kbp (xs:=ra.map V.ref) (fun i σ H'=>H'=H∧(∀r∈rs.take i,loneM order r=false)∧∃v3 v4 v5:Option V,σ=[some (.ref rl),some (.ref u),v3,v4,v5])
   ⟨rfl,(fun r hr=>by simp at hr),none,none,none,rfl⟩ (fun i σ H' _ h=>by rw[h.1];exact SqL.of hrl) ?_ ?_⟩
  ·rintro i y σ H' hy ⟨rfl,hno,v3,v4,v5,rfl⟩
   obtain⟨a,ea,rfl⟩:=kbZ hy
   obtain⟨r,er,hra⟩:=hr.at ea
   refine⟨a,_,rfl,SqT.of hra,rfl,_,_,rfl,_,_,rfl,_,_,rfl,rfl,?_⟩
   refine⟨_,rfl,rfl,_,rfl,?_⟩
   show if decide (V.str r.w=V.str "only")=true then _ else _
   rw[eq_str]
   by_cases hw:r.w=("only" :Str)
   ·rw[decide_eq_true hw]
    refine iteT ⟨_,rfl,_,rfl,u,_,rfl, .inl (SqL.of hu),rfl,kbY _,_,rfl,?_⟩
    rw[if_neg UB,kbX]
    cases ha:order.contains r.a with
    | true=>
     refine iteT ⟨_,rfl,_,rfl,u,_,rfl, .inl (SqL.of hu),rfl,kbY _,_,rfl,?_⟩
     rw[if_pos rfl,kbX]
     cases hb:order.contains r.b with
     |true=>exact iteF ⟨rfl,kbM er hno (by unfold loneM;rw[decide_eq_true hw,ha,hb];rfl),_,_,_,rfl⟩
     |false=>
      refine iteT ⟨_,rfl,?_⟩
      have z:=kg1 (f:=loneM order) er (by unfold loneM;rw[decide_eq_true hw,ha,hb];rfl) hno
      unfold onlyM at k
      rw[z] at k
      exact k
    |false=>exact iteF (iteF ⟨rfl,kbM er hno (by unfold loneM;rw[decide_eq_true hw,ha];rfl),_,_,_,rfl⟩)
   ·rw[decide_eq_false hw]
    refine iteF (iteF ⟨rfl,kbM er hno ?_,_,_,_,rfl⟩)
    unfold loneM
    rw[decide_eq_false hw]
    rfl
  ·rintro σ H' ⟨rfl,hno,v3,v4,v5,rfl⟩
   have z:=kkQ (by rw[Uu];exact hr.len) hno
   unfold onlyM at k
   rw[z] at k
   exact k
inductive kgv (d:D) (vs:List V) (H:Hp) (Q:VK) (E_:XK):Prop
 |ct (t h u:Addr)(T:TillD)(hand:List Int)(used:List Nat)(n:Nat)(V:Vch)(_:vs=[.ref t, .ref h, .ref u,iV n])(_:TillIs d H t T)(_:H h=some (.lst (hand.map L2.V.int)))(_:H u=some (.lst (used.map iV)))(_:T.vs[n]?=some V)(_:hand.length=T.vs.length)(_:Q (sV (wordM V T.rs hand used n)) H):kgv d vs H Q E_
theorem kdw:kao ["till","hand","used","number"] ["till","hand","used","number"] (kah kbC):=by ac_rfl
theorem kdA(W:WB K mg d base):FO P w W 2 d.XB d.XC ["till","hand","used","number"] (kgv d):=by
 exists W.YN.F,kdw
 ·obtain⟨t,h,u,T,hand,used,n,Vc,rfl,hT,hh,hu,hn,hl,k⟩:=h
  obtain⟨dx,fs,p,vl,rl,va,ra,ht,t1,t2,t3,t4,hp,hvl,hva,hrl,hra⟩:=hT
  exists Vf,kdW,W
  exists Vg,kdX,W
  refine⟨_,kab (ps_if (kar op_gt (pe_op kbs (pe_bm Jd Mv Mw kgT (pv 2) (kaa (pv 3) kae)) kaf) (pe_ix (r:=rIxL K) kay (pv 1) (pv 3) (fun _ _=>rfl)) (kav _)) (kag (kan kau)) (kas))
   (kab (ps_if (PW.pt (ka8 (kaS (kam (K:=K) (kam (K:=K) (pe_ix (r:=rIxL K) kay (kam (K:=K) (pv 0) rfl) (pv 3) (fun _ _=>rfl)) rfl) rfl)) (ka0 (kar kbK (pv 3) (pv 2) (by with_unfolding_all rfl))))) (kag (kan kau)) (kas))
   (kab (ps_if (kaS (pcl Vf hr W.YO (kaa (kam (K:=K) (pv 0) rfl) (kaa (pv 2) (kaa (pv 3) kae))))) (kag (kan kau)) (kas))
   (kab (ps_if (kaS (pcl Vg hr W.YQ (kaa (kam (K:=K) (pv 0) rfl) (kaa (pv 2) (kaa (pv 3) kae))))) (kag (kan kau)) (kas))
   (kag (kan kaT))))),?_⟩
  obtain⟨v,ev⟩:=at_of (xs:=va) (i:=n) (by rw[hva.len];exact at_lt hn)
  obtain⟨Vc',eV',hV⟩:=hva.at ev
  rw[hn] at eV'
  cases eV'
  obtain⟨mA,dxv,fsv,hv,lvm,_,⟨dxm,fsm,hm,m1,m2,m3,m4,m5,m6⟩,hh',_⟩:=id hV
  obtain⟨z,ez⟩:=at_of (xs:=hand) (i:=n) (by rw[hl];exact at_lt hn)
  have eu:H u=some (.lst ((used.map fun(i:Nat)=>(i:Int)).map V.int)):=by rw[hu,UR];rfl
  have eg:hand.getD n 0=z:=by rw[UF,ez];rfl
  refine⟨_,rfl, .inl ⟨rfl,_,SqL.of hu⟩,_,rfl,u,_,_,rfl,rfl,eu,_,_,rfl,rfl,_,rfl,_,rfl,h,_,_,_,rfl,rfl,SqL.of hh,kaQ (v:=.int z) (by rw[UD,ez];rfl),_,_,rfl,rfl,_,rfl,?_⟩
  rw[kiP]
  unfold wordM at k
  rw[eg] at k
  by_cases c1:z<(used.count n:Int)+1
  ·rw[if_pos c1] at k
   rw[show decide ((used.count n:Int)+1 > z)=true from decide_eq_true c1]
   exact iteT k
  rw[if_neg c1] at k
  rw[show decide ((used.count n:Int)+1 > z)=false from decide_eq_false c1]
  refine iteF ?_
  refine⟨_,rfl,t,d.qe,dx,fs,_,rfl,ht,W.qe.cl,W.Qb,t2,_,rfl,vl,_,_,_,rfl,rfl,SqL.of hvl,kaQ (v:=.ref v) (by rw[UD,ev];rfl),v,clsOf d Vc.so,dxv,fsv,_,rfl,hv,cl_of W hh',na_of W hh',lvm,mA,d.qd,dxm,fsm,_,rfl,hm,W.qd.cl,W.Y7,m5,Vc.ms.once,rfl,?_⟩
  cases ho:Vc.ms.once with
  | true=>
   rw[ho,Ni] at k
   refine iteT ⟨_,rfl,_,rfl,u,_,rfl, .inl (SqL.of hu),rfl,kbY _,_,rfl,?_⟩
   rw[if_neg UB,kbX]
   cases hc:used.contains n with
   |true=>
    rw[hc,if_pos rfl] at k
    exact iteT k
   | false=>
    rw[hc,if_neg UB] at k
    refine iteF ?_
    refine⟨_,rfl,t,d.qe,dx,fs,_,rfl,ht,W.qe.cl,W.qF,t3,_,rfl,_,rfl,rl,u,ra,T.rs,used,n,rfl,hrl,hra,hu,_,rfl,?_⟩
    cases h1:kdp T.rs used n with
    |true=>
     rw[h1,if_pos rfl] at k
     exact iteT k
    | false=>
     rw[h1,if_neg UB] at k
     refine iteF ⟨_,rfl,t,d.qe,dx,fs,_,rfl,ht,W.qe.cl,W.qF,t3,_,rfl,_,rfl,rl,u,ra,T.rs,used,n,rfl,hrl,hra,hu,_,rfl,?_⟩
     cases h2:kdv T.rs used n with
     |true=>
      rw[h2,if_pos rfl] at k
      exact iteT k
     |false=>
      rw[h2,if_neg UB] at k
      exact iteF k
  | false=>
   rw[ho,JP,if_neg UB] at k
   refine iteF (iteF ?_)
   refine⟨_,rfl,t,d.qe,dx,fs,_,rfl,ht,W.qe.cl,W.qF,t3,_,rfl,_,rfl,rl,u,ra,T.rs,used,n,rfl,hrl,hra,hu,_,rfl,?_⟩
   cases h1:kdp T.rs used n with
   |true=>
    rw[h1,if_pos rfl] at k
    exact iteT k
   | false=>
    rw[h1,if_neg UB] at k
    refine iteF ⟨_,rfl,t,d.qe,dx,fs,_,rfl,ht,W.qe.cl,W.qF,t3,_,rfl,_,rfl,rl,u,ra,T.rs,used,n,rfl,hrl,hra,hu,_,rfl,?_⟩
    cases h2:kdv T.rs used n with
    |true=>
     rw[h2,if_pos rfl] at k
     exact iteT k
    |false=>
     rw[h2,if_neg UB] at k
     exact iteF k
inductive khH (d:D) (vs:List V) (H:Hp) (Q:VK) (E_:XK):Prop
 |ct (H0:Hp)(w dx t b h:Addr)(hand:List Int)(B:Bask)(_:vs=[.ref w, .ref t, .ref b, .ref h])(_:H0 w=none)(_:Same H0 H)(_:H w=some (.ins d.c_Way dx []))(_:H0 h=some (.lst (hand.map V.int)))(_:BaskIs d.qf d.qg H0 b B)(_:B.rs.length≤12)(_:(∀r∈B.rs,r.Ok))(_:∀(H':Hp)(x:Addr),Same H0 H'→H0 x=none→WayAt d 5 H' w t b x hand []→StndIs d.qc H' x (stnd0 B)→Q .non H'):khH d vs H Q E_
theorem kfW:kao ["self","till","basket","hand"] ["self","till","basket","hand"] (kah kde):=by ac_rfl
theorem kd0(W:WB K mg d base):FO P w W 4 d.Yr d.Ys ["self","till","basket","hand"] (khH d):=by
 exists W.qP.F,kfW
 ·obtain⟨H0,wy,dx,t,b,h,hand,B,rfl,fw,s0,hw,hh,hb,hB,hok,k⟩:=h
  exists QV,kca,W
  refine⟨_,kab (kaK (pv 0) (pv 1) rfl)
   (kab (kaK (pv 0) (pv 2) rfl)
   (kab (kaK (pv 0) (kbr (r:=kcJ K) ka5 (by rfl) W.B.list kcw (kaa (pv 3) kae)) rfl)
   (kab (kaK (pv 0) (kaM kae) rfl)
   (kag (kaK (pv 0) (kbI (W.qO.mk' W.qc) QV hr rfl W.qc.m W.qO.b .nil pass0 (kaa (pv 2) kae)) rfl))))),?_⟩
  exists Y4
  refine⟨_,rfl,_,rfl,wy,d.c_Way,dx,[],rfl,hw,W.c_Way.cl,W.qx,by decide,?_⟩
  have s1:Same H0 (upd H wy (.ins d.c_Way dx (putF "till" (.ref t) []))):=kaq fw s0 (nx hw)
  have hw1:(upd H wy (.ins d.c_Way dx (putF "till" (.ref t) []))) wy=some (.ins d.c_Way dx (putF "till" (.ref t) [])):=kad
  generalize upd H wy (.ins d.c_Way dx (putF "till" (.ref t) []))=H1 at *
  symm
  exists Y4
  refine⟨_,rfl,_,rfl,wy,d.c_Way,dx,_,rfl,hw1,W.c_Way.cl,W.q9,few (UA (kal (n:=0) (Ux _)) (by decide)),?_⟩
  have s2:Same H0 (upd H1 wy (.ins d.c_Way dx (putF "basket" (.ref b) (putF "till" (.ref t) [])))):=kaq fw s1 (nx hw1)
  have hw2:(upd H1 wy (.ins d.c_Way dx (putF "basket" (.ref b) (putF "till" (.ref t) [])))) wy=some (.ins d.c_Way dx (putF "basket" (.ref b) (putF "till" (.ref t) []))):=kad
  generalize upd H1 wy (.ins d.c_Way dx (putF "basket" (.ref b) (putF "till" (.ref t) [])))=H2 at *
  symm
  exists Y4
  refine⟨_,rfl,h,_,rfl, .inl (SqL.of (s2 _ _ hh)),fun h' hh'=>?_⟩
  have n3:=kak (o:=.lst (hand.map V.int)) hh'
  have nh:h'≠wy:=(kai hw2 hh').symm
  have s3:=s2.trans n3
  have e3:(upd H2 h' (.lst (hand.map V.int))) h'=some (.lst (hand.map V.int)):=kad
  have hw3:=n3 _ _ hw2
  clear n3
  generalize upd H2 h' (.lst (hand.map V.int))=H3 at *
  symm
  exists Y4
  refine⟨_,rfl,wy,d.c_Way,dx,_,rfl,hw3,W.c_Way.cl,W.QJ,few (UA (kal (kal (n:=0) (Ux _))) (by decide)),?_⟩
  have s4:Same H0 (upd H3 wy (.ins d.c_Way dx (putF "hand" (.ref h') (putF "basket" (.ref b) (putF "till" (.ref t) []))))):=kaq fw s3 (nx hw3)
  have e4:(upd H3 wy (.ins d.c_Way dx (putF "hand" (.ref h') (putF "basket" (.ref b) (putF "till" (.ref t) []))))) h'=some (.lst (hand.map V.int)):=by rw[kaj nh];exact e3
  have hw4:(upd H3 wy (.ins d.c_Way dx (putF "hand" (.ref h') (putF "basket" (.ref b) (putF "till" (.ref t) []))))) wy=some (.ins d.c_Way dx (putF "hand" (.ref h') (putF "basket" (.ref b) (putF "till" (.ref t) [])))):=kad
  generalize upd H3 wy (.ins d.c_Way dx (putF "hand" (.ref h') (putF "basket" (.ref b) (putF "till" (.ref t) []))))=H4 at *
  symm
  exists Y4
  refine⟨by decide,fun u hu=>?_⟩
  have n5:=kak (o:=.lst []) hu
  have nu:u≠wy:=(kai hw4 hu).symm
  have s5:=s4.trans n5
  have e5:=n5 _ _ e4
  have eu5:(upd H4 u (.lst [])) u=some (.lst (([]:List Nat).map iV)):=kad
  have hw5:=n5 _ _ hw4
  clear n5
  generalize upd H4 u (.lst [])=H5 at *
  symm
  exists Y4
  refine⟨_,rfl,wy,d.c_Way,dx,_,rfl,hw5,W.c_Way.cl,W.qE,few (UA (kal (kal (kal (n:=0) (Ux _)))) (by decide)),?_⟩
  have s6:Same H0 (upd H5 wy (.ins d.c_Way dx (putF "used" (.ref u) (putF "hand" (.ref h') (putF "basket" (.ref b) (putF "till" (.ref t) [])))))):=kaq fw s5 (nx hw5)
  have e6:(upd H5 wy (.ins d.c_Way dx (putF "used" (.ref u) (putF "hand" (.ref h') (putF "basket" (.ref b) (putF "till" (.ref t) [])))))) h'=some (.lst (hand.map V.int)):=by rw[kaj nh];exact e5
  have eu6:(upd H5 wy (.ins d.c_Way dx (putF "used" (.ref u) (putF "hand" (.ref h') (putF "basket" (.ref b) (putF "till" (.ref t) [])))))) u=some (.lst (([]:List Nat).map iV)):=by rw[kaj nu];exact eu5
  have hw6:(upd H5 wy (.ins d.c_Way dx (putF "used" (.ref u) (putF "hand" (.ref h') (putF "basket" (.ref b) (putF "till" (.ref t) [])))))) wy=some (.ins d.c_Way dx (putF "used" (.ref u) (putF "hand" (.ref h') (putF "basket" (.ref b) (putF "till" (.ref t) []))))):=kad
  generalize upd H5 wy (.ins d.c_Way dx (putF "used" (.ref u) (putF "hand" (.ref h') (putF "basket" (.ref b) (putF "till" (.ref t) [])))))=H6 at *
  symm
  exists Y4
  refine⟨_,rfl,kkH (hb.same s6) hB hok fun H7 x s7 f7 hx=>?_⟩
  have hw7:=s7 _ _ hw6
  have fx:H0 x=none:=s6.free f7
  have nxw:x≠wy:=(kai hw6 f7).symm
  symm
  exists Y4
  refine⟨_,rfl,wy,d.c_Way,dx,_,rfl,hw7,W.c_Way.cl,W.Qa,few (UA (kal (kal (kal (kal (n:=0) (Ux _))))) (by decide)),?_⟩
  symm
  refine k _ x (kaq fw (s6.trans s7) (nx hw7)) fx ⟨dx,_,h',u,kad,?_,?_,?_,?_,?_,?_,?_,?_,?_,?_,?_,?_⟩ ?_
  ·ac_nf
  ·ac_nf
  ·ac_nf
  ·ac_nf
  ·ac_nf
  ·ac_nf
   rfl
  ·ac_nf
   rfl
  ·ac_nf
   rfl
  ·ac_nf
   rfl
  ·exact UA (kal (kal (kal (kal (kal (n:=0) (Ux _)))))) (by decide)
  ·rw[kaj nh];exact s7 _ _ e6
  ·rw[kaj nu];exact s7 _ _ eu6
  ·obtain⟨o,pp,mm,⟨dxs,fss,hxs,q⟩,ho,hpp,hmm⟩:=hx
   symm
   exact⟨o,pp,mm,⟨dxs,fss,by rw[kaj nxw];exact hxs,q⟩,by rw[kaj (ne_of ho hw7 (by intro z;cases z))];exact ho,by rw[kaj (ne_of hpp hw7 (by intro z;cases z))];exact hpp,by rw[kaj (ne_of hmm hw7 (by intro z;cases z))];exact hmm⟩
theorem kj6{d:D}{H:Hp}{t b h:Addr}{hand:List Int}{B:Bask}{R:Addr→Hp→Prop}{E:XK}(hh:H h=some (.lst (hand.map V.int)))(hb:BaskIs d.qf d.qg H b B)(hB:B.rs.length≤12)(hok:∀r∈B.rs,r.Ok)
  (k:∀(H':Hp)(w x:Addr),Same H H'→H w=none→H x=none→WayAt d 5 H' w t b x hand []→StndIs d.qc H' x (stnd0 B)→R w H'):
  ∀w dx,H w=none→H dx=none→dx≠w→khH d [.ref w, .ref t, .ref b, .ref h] (upd (upd H dx (.own w)) w (.ins d.c_Way dx [])) (fun v H2=>v=.non∧R w H2) E:=
 fun w dx nw nd _=>⟨H,w,dx,t,b,h,hand,B,rfl,nw,kbf nw nd,kad,hh,hb,hB,hok,fun H' x s f hW hx=>⟨rfl,k H' w x s nw f hW hx⟩⟩
inductive kfc (d:D) (vs:List V) (H:Hp) (Q:VK) (E_:XK):Prop
 |ct (wy t b x:Addr)(T:TillD)(B:Bask)(S:Stnd)(hand:List Int)(used:List Nat)(n:Nat)(V:Vch)(_:vs=[.ref wy,iV n])(_:WayIs d H wy t b x hand used)(_:TillIs d H t T)(_:BaskIs d.qf d.qg H b B)(_:StndIs d.qc H x S)(_:Wf T.ps B S)(_:VchOk T.ps V)(_:T.vs[n]?=some V)(_:hand.length=T.vs.length)(_:∀(H':Hp),Same H H'→Q (dueM V T B hand used S n) H'):kfc d vs H Q E_
theorem Zl:kao ["self","number","word"] ["self","number"] (kah kbW):=by ac_rfl
theorem kcp(W:WB K mg d base):FO P w W 5 d.Yt d.Yu ["self","number"] (kfc d):=by
 exists W.qQ.F,Zl
 ·obtain⟨wy,t,b,x,T,B,S,hand,used,n,Vc,rfl,hW,hT,hB,hS,wf,vo,hn,hl,k⟩:=h
  obtain⟨dxw,fsw,h,u,hw,w1,w2,w3,w4,w5,w6,w7,w8,w9,w10,hh,hu⟩:=id hW
  obtain⟨dx,fs,p,vl,rl,va,ra,ht,t1,t2,t3,t4,hp,hvl,hva,hrl,hra⟩:=id hT
  exists Vh,kdA,W
  exists Vi,kfs,W
  exists hr2,2,hr,0
  refine⟨_,kab (psl (i:=2) Zl.nd (pcl Vh hr2 W.YN (kaa (kam (K:=K) (pv 0) rfl) (kaa (kam (K:=K) (pv 0) rfl) (kaa (kam (K:=K) (pv 0) rfl) (kaa (pv 1) kae))))))
   (kab (ps_if (kar kb5 (pv 2) kaT (kav _)) (kag (kan (pv 2))) (kas))
   (kag (kan (pcl Vi hr W.YD (kaa (pe_ix (r:=rIxL K) kay (kam (K:=K) (kam (K:=K) (pv 0) rfl) rfl) (pv 1) (fun _ _=>rfl)) (kaa (kam (K:=K) (kam (K:=K) (pv 0) rfl) rfl) (kaa (kam (K:=K) (pv 0) rfl) (kaa (kam (K:=K) (pv 0) rfl) kae)))))))),?_⟩
  obtain⟨v,ev⟩:=at_of (xs:=va) (i:=n) (by rw[hva.len];exact at_lt hn)
  obtain⟨Vc',eV',hV⟩:=hva.at ev
  rw[hn] at eV'
  cases eV'
  refine⟨_,rfl,wy,d.c_Way,dxw,fsw,_,rfl,hw,W.c_Way.cl,W.qx,w1,_,rfl,wy,d.c_Way,dxw,fsw,_,rfl,hw,W.c_Way.cl,W.QJ,w3,_,rfl,wy,d.c_Way,dxw,fsw,_,rfl,hw,W.c_Way.cl,W.qE,w4,_,rfl,t,h,u,T,hand,used,n,Vc,rfl,hT,hh,hu,hn,hl,?_⟩
  unfold dueM at k
  cases e:wordM Vc T.rs hand used n with
  |some z=>
   rw[e] at k
   refine⟨_,rfl,rfl,_,rfl,?_⟩
   show if(!decide (V.str z=V.non))=true then _ else _
   rw[show(!decide (V.str z=V.non))=true by simp]
   exact iteT ⟨_,rfl,k H (Same.refl _)⟩
  |none=>
   rw[e] at k
   refine⟨_,rfl,rfl,_,rfl,?_⟩
   show if(!decide (V.non=V.non))=true then _ else _
   rw[show(!decide (V.non=V.non))=false by simp]
   refine iteF ⟨_,rfl,wy,d.c_Way,dxw,fsw,_,rfl,hw,W.c_Way.cl,W.qx,w1,t,d.qe,dx,fs,_,rfl,ht,W.qe.cl,W.Qb,t2,_,rfl,vl,_,_,_,rfl,rfl,SqL.of hvl,kaQ (v:=.ref v) (by rw[UD,ev];rfl),?_⟩
   refine⟨_,rfl,wy,d.c_Way,dxw,fsw,_,rfl,hw,W.c_Way.cl,W.qx,w1,t,d.qe,dx,fs,_,rfl,ht,W.qe.cl,W.QM,t1,_,rfl,wy,d.c_Way,dxw,fsw,_,rfl,hw,W.c_Way.cl,W.q9,w2,_,rfl,wy,d.c_Way,dxw,fsw,_,rfl,hw,W.c_Way.cl,W.Qa,w5,?_⟩
   exact⟨v,p,b,x,Vc,T.ps,B,S,rfl,hV,SqL.of hp,hB,hS,wf,vo,k⟩
inductive kgz (d:D) (vs:List V) (H:Hp) (Q:VK) (E_:XK):Prop
 |ct (wy t b x:Addr)(T:TillD)(B:Bask)(S:Stnd)(hand:List Int)(used:List Nat)(n:Nat)(V:Vch)(_:vs=[.ref wy,iV n])(_:WayIs d H wy t b x hand used)(_:TillIs d H t T)(_:BaskIs d.qf d.qg H b B)(_:StndIs d.qc H x S)(_:Wf T.ps B S)(_:VchOk T.ps V)(_:T.vs[n]?=some V)(_:used.length<64)(_:∀(H':Hp)(wy' x':Addr),Same H H'→H wy'=none→WayIs d H' wy' t b x' hand (used++[n])→StndIs d.qc H' x' (aftM V T.ps (kds B) S)→Q (.ref wy') H'):kgz d vs H Q E_
theorem Zm:kao ["self","number","further"] ["self","number"] (kah kcl):=by ac_rfl
theorem keY(W:WB K mg d base):FO P w W 6 d.Yv d.Yw ["self","number"] (kgz d):=by
 exists W.QK.F,Zm
 ·obtain⟨wy,t,b,x,T,B,S,hand,used,n,Vc,rfl,hW,hT,hB,hS,wf,vo,hn,hl,k⟩:=h
  obtain⟨dxw,fsw,h,u,hw,w1,w2,w3,w4,w5,w6,w7,w8,w9,w10,hh,hu⟩:=id hW
  obtain⟨dx,fs,p,vl,rl,va,ra,ht,t1,t2,t3,t4,hp,hvl,hva,hrl,hra⟩:=id hT
  exists QW,kd0,W
  exists Vj,kjl,W
  refine⟨_,kab (psl (i:=2) Zm.nd (kbI (W.qP.mk' W.c_Way) QW hr rfl W.c_Way.m W.qP.b .nil pass0 (kaa (kam (K:=K) (pv 0) rfl) (kaa (kam (K:=K) (pv 0) rfl) (kaa (kam (K:=K) (pv 0) rfl) kae)))))
   (kab (kaK (pv 2) (pe_op kj5 (kam (K:=K) (pv 0) rfl) (kaM (kaa (pv 1) kae))) rfl)
   (kab (kaK (pv 2) (pcl Vj hr W.YE (kaa (pe_ix (r:=rIxL K) kay (kam (K:=K) (kam (K:=K) (pv 0) rfl) rfl) (pv 1) (fun _ _=>rfl)) (kaa (kam (K:=K) (kam (K:=K) (pv 0) rfl) rfl) (kaa (kam (K:=K) (pv 0) rfl) (kaa (kam (K:=K) (pv 0) rfl) kae))))) rfl)
   (kag (kan (pv 2))))),?_⟩
  obtain⟨v,ev⟩:=at_of (xs:=va) (i:=n) (by rw[hva.len];exact at_lt hn)
  obtain⟨Vc',eV',hV⟩:=hva.at ev
  rw[hn] at eV'
  cases eV'
  exists Y4
  refine⟨_,rfl,wy,d.c_Way,dxw,fsw,_,rfl,hw,W.c_Way.cl,W.qx,w1,_,rfl,wy,d.c_Way,dxw,fsw,_,rfl,hw,W.c_Way.cl,W.q9,w2,_,rfl,wy,d.c_Way,dxw,fsw,_,rfl,hw,W.c_Way.cl,W.QJ,w3,kj6 hh hB wf.nl wf.ok fun H1 y x1 s1 fy fx1 hy hx1=>?_⟩
  obtain⟨dxy,fsy,h1,u1,hyy,y1,y2,y3,y4,y5,y6,y7,y8,y9,y10,hh1,hu1⟩:=hy
  symm
  exists Y4
  refine⟨_,rfl,wy,d.c_Way,dxw,fsw,_,rfl,s1 _ _ hw,W.c_Way.cl,W.qE,w4,_,rfl,(by show 1≤sizeLine;decide),fun q1 hq1=>?_⟩
  have n2:=kak (o:=.lst [iV n]) hq1
  have eq1:(upd H1 q1 (.lst [iV n])) q1=some (.lst [iV n]):=kad
  have s2:=s1.trans n2
  have hy2:=n2 _ _ hyy
  have hh2:=n2 _ _ hh1
  clear n2
  generalize upd H1 q1 (.lst [iV n])=H2 at *
  symm
  exists Y4
  refine⟨u,q1,_,_,rfl,rfl,s2 _ _ hu,eq1,UI (kap (by rw[Uu];show _+1≤1000;omega)),fun q2 hq2=>?_⟩
  have n3:=kak (o:=.lst (used.map iV++[iV n])) hq2
  have eq2:(upd H2 q2 (.lst (used.map iV++[iV n]))) q2=some (.lst ((used++[n]).map iV)):=by rw[kad,UH];rfl
  have s3:=s2.trans n3
  have hy3:=n3 _ _ hy2
  have hh3:=n3 _ _ hh2
  have nq2:q2≠y:=(kai hy2 hq2).symm
  clear n3
  generalize upd H2 q2 (.lst (used.map iV++[iV n]))=H3 at *
  have nh1:h1≠y:=ne_of hh3 hy3 (by intro z;cases z)
  symm
  exists Y4
  refine⟨_,rfl,y,d.c_Way,dxy,fsy,rfl,hy3,W.c_Way.cl,W.qE,few (UA y10 (by decide)),?_⟩
  have s4:Same H (upd H3 y (.ins d.c_Way dxy (putF "used" (.ref q2) fsy))):=kaq fy s3 (nx hy3)
  have eq4:(upd H3 y (.ins d.c_Way dxy (putF "used" (.ref q2) fsy))) q2=some (.lst ((used++[n]).map iV)):=by rw[kaj nq2];exact eq2
  have hh4:(upd H3 y (.ins d.c_Way dxy (putF "used" (.ref q2) fsy))) h1=some (.lst (hand.map V.int)):=by rw[kaj nh1];exact hh3
  have hy4:(upd H3 y (.ins d.c_Way dxy (putF "used" (.ref q2) fsy))) y=some (.ins d.c_Way dxy (putF "used" (.ref q2) fsy)):=kad
  generalize upd H3 y (.ins d.c_Way dxy (putF "used" (.ref q2) fsy))=H4 at *
  symm
  exists Y4
  refine⟨_,rfl,wy,d.c_Way,dxw,fsw,_,rfl,s4 _ _ hw,W.c_Way.cl,W.qx,w1,t,d.qe,dx,fs,_,rfl,s4 _ _ ht,W.qe.cl,W.Qb,t2,_,rfl,vl,_,_,_,rfl,rfl,SqL.of (s4 _ _ hvl),kaQ (v:=.ref v) (by rw[UD,ev];rfl),?_⟩
  symm
  exists Y4
  refine⟨_,rfl,wy,d.c_Way,dxw,fsw,_,rfl,s4 _ _ hw,W.c_Way.cl,W.qx,w1,t,d.qe,dx,fs,_,rfl,s4 _ _ ht,W.qe.cl,W.QM,t1,_,rfl,wy,d.c_Way,dxw,fsw,_,rfl,s4 _ _ hw,W.c_Way.cl,W.q9,w2,_,rfl,wy,d.c_Way,dxw,fsw,_,rfl,s4 _ _ hw,W.c_Way.cl,W.Qa,w5,?_⟩
  symm
  exists Y4
  refine⟨v,p,b,x,Vc,T.ps,B,S,rfl,hV.same s4,SqL.of (s4 _ _ hp),hB.same s4,hS.same s4,wf,vo,fun H5 x' s5 f5 hx'=>?_⟩
  have hy5:=s5 _ _ hy4
  have hh5:=s5 _ _ hh4
  have eq5:=s5 _ _ eq4
  have nx':x'≠y:=(kai hy4 f5).symm
  symm
  exists Y4
  refine⟨_,rfl,y,d.c_Way,dxy,_,rfl,hy5,W.c_Way.cl,W.Qa,few (UA (kal y10) (by decide)),?_⟩
  symm
  exists Y4
  refine⟨_,rfl,k _ y x' (kaq fy (s4.trans s5) (nx hy5)) fy ⟨dxy,_,h1,q2,kad,?_,?_,?_,?_,?_,?_,?_,?_,?_,?_,?_,?_⟩ ?_⟩
  ·ac_nf
   symm
   exact y1
  ·ac_nf
   symm
   exact y2
  ·ac_nf
   symm
   exact y3
  ·ac_nf
  ·ac_nf
  ·ac_nf
   symm
   exact y6
  ·ac_nf
   symm
   exact y7
  ·ac_nf
   symm
   exact y8
  ·ac_nf
   symm
   exact y9
  ·exact UA (kal (kal y10)) (by decide)
  ·rw[kaj nh1];exact hh5
  ·rw[kaj nq2];exact eq5
  ·obtain⟨o,pp,mm,⟨dxs,fss,hxs,q⟩,ho,hpp,hmm⟩:=hx'
   symm
   exact⟨o,pp,mm,⟨dxs,fss,by rw[kaj nx'];exact hxs,q⟩,by rw[kaj (ne_of ho hy5 (by intro z;cases z))];exact ho,by rw[kaj (ne_of hpp hy5 (by intro z;cases z))];exact hpp,by rw[kaj (ne_of hmm hy5 (by intro z;cases z))];exact hmm⟩
inductive khP (d:D) (vs:List V) (H:Hp) (Q:VK) (E_:XK):Prop
 |ct (wy t b x:Addr)(T:TillD)(hand:List Int)(used:List Nat)(_:vs=[.ref wy])(_:WayIs d H wy t b x hand used)(_:TillIs d H t T)(_:Q (.bl (onlyM T.rs used).isNone) H):khP d vs H Q E_
theorem kdy:kao ["self"] ["self"] (kah kbF):=by ac_rfl
theorem kdC(W:WB K mg d base):FO P w W 2 d.Yx d.Yy ["self"] (khP d):=by
 exists W.QL.F,kdy
 ·obtain⟨wy,t,b,x,T,hand,used,rfl,hW,hT,k⟩:=h
  obtain⟨dxw,fsw,h,u,hw,w1,w2,w3,w4,w5,w6,w7,w8,w9,w10,hh,hu⟩:=id hW
  obtain⟨dx,fs,p,vl,rl,va,ra,ht,t1,t2,t3,t4,hp,hvl,hva,hrl,hra⟩:=id hT
  exists Vk,kcU,W
  refine⟨_,kag (kan (kbc kdV (pcl Vk hr W.YR (kaa (kam (K:=K) (kam (K:=K) (pv 0) rfl) rfl) (kaa (kam (K:=K) (pv 0) rfl) kae))) kaT (kav _))),?_⟩
  refine⟨_,rfl,wy,d.c_Way,dxw,fsw,_,rfl,hw,W.c_Way.cl,W.qx,w1,t,d.qe,dx,fs,_,rfl,ht,W.qe.cl,W.qF,t3,_,rfl,wy,d.c_Way,dxw,fsw,_,rfl,hw,W.c_Way.cl,W.qE,w4,rl,u,ra,T.rs,used,rfl,hrl,hra,hu,rfl,?_⟩
  cases e:onlyM T.rs used with
  |none=>
   rw[e] at k
   show Q (.bl (decide (V.non=V.non))) H
   rw[show decide (V.non=V.non)=true by simp]
   exact k
  |some z=>
   rw[e] at k
   show Q (.bl (decide (V.int (z:Int)=V.non))) H
   rw[show decide (V.int (z:Int)=V.non)=false by simp]
   exact k
noncomputable def walkM(T:TillD)(B:Bask)(hand:List Int):List Nat→List Nat→Stnd→List Nat×Stnd
 |[],used,S=>(used,S)
 |n::ns,used,S=>match T.vs[n]? with
  |none=>(used,S)
  |some V=>if dueM V T B hand used S n=.non then walkM T B hand ns (used++[n]) (aftM V T.ps (kds B) S) else(used,S)
inductive khI (d:D) (vs:List V) (H:Hp) (Q:VK) (E_:XK):Prop
 |ct (t b h o:Addr)(T:TillD)(B:Bask)(hand:List Int)(order:List Nat)(_:vs=[.ref t, .ref b, .ref h, .ref o])(_:TillIs d H t T)(_:ki1 T)(_:BaskIs d.qf d.qg H b B)(_:Wf T.ps B (stnd0 B))(_:H h=some (.lst (hand.map V.int)))(_:H o=some (.lst (order.map iV)))(_:hand.length=T.vs.length)(_:(∀n∈order,n<T.vs.length))(_:order.length<64)(_:∀(H':Hp)(wy x:Addr),Same H H'→H wy=none→WayIs d H' wy t b x hand (walkM T B hand order [] (stnd0 B)).1→StndIs d.qc H' x (walkM T B hand order [] (stnd0 B)).2→Wf T.ps B (walkM T B hand order [] (stnd0 B)).2→Q (.ref wy) H'):khI d vs H Q E_
theorem Qi:kao ["till","basket","hand","order","way","number"] ["till","basket","hand","order"] (kah keN):=by ac_rfl
theorem kid(W:WB K mg d base):FO P w W 7 d.Xz d.XA ["till","basket","hand","order"] (khI d):=by
 exists W.YM.F,Qi
 ·obtain⟨t,b,h,o,T,B,hand,order,rfl,hT,tok,hB,wf0,hh,ho,hl,hlt,h64,k⟩:=h
  exists QW,kd0,W
  exists QX,kcp,W
  exists Vl,keY,W
  exists hr5,5,hr,0
  refine⟨_,kab (psl (i:=4) Qi.nd (kbI (W.qP.mk' W.c_Way) QW hr5 rfl W.c_Way.m W.qP.b .nil pass0 (kaa (pv 0) (kaa (pv 1) (kaa (pv 2) kae)))))
   (kab (kbe PassesOwn.never rfl (kaF (K:=K) (pv 3)) (pgn (i:=5) Qi.nd)
   (kab (ps_if (kar kb5 (kf5 (pv 4) W.c_Way.cl W.qQ.me QX hr5 W.qQ.b .nil pass0 (kaa (pv 5) kae)) kaT (kav _)) (kag (kan (pv 4))) (kas))
   (kag (psl (i:=4) Qi.nd (kf5 (pv 4) W.c_Way.cl W.QK.me Vl hr W.QK.b .nil pass0 (kaa (pv 5) kae))))))
   (kag (kan (pv 4)))),?_⟩
  generalize eR:walkM T B hand order [] (stnd0 B)=R at k
  exists Y4
  refine⟨_,rfl,_,rfl,_,rfl,kj6 hh hB wf0.nl wf0.ok fun H1 y0 x0 s1 fy0 fx0 hy0 hx0=>?_⟩
  symm
  exists Y4
  refine⟨_,rfl,o,rfl,⟨_,SqL.of (s1 _ _ ho)⟩,kbp (xs:=order.map iV) (fun i σ H'=>Same H H'∧∃(y x:Addr)(used:List Nat)(S:Stnd)(v5:Option V),WayIs d H' y t b x hand used∧H y=none∧StndIs d.qc H' x S∧Wf T.ps B S∧used.length=i∧walkM T B hand (order.drop i) used S=R∧σ=[some (.ref t),some (.ref b),some (.ref h),some (.ref o),some (.ref y),v5])
   ⟨s1,y0,x0,[],_,none,hy0.most (by decide),fy0,hx0,wf0,rfl,eR,rfl⟩ (fun i σ H' _ h=>SqL.of (h.1 _ _ ho)) ?_ ?_⟩
  ·rintro i yv σ H' hyv ⟨sI,y,x,used,S,v5,hY,fy,hx,wf,hul,hwalk,rfl⟩
   obtain⟨n,en,rfl⟩:∃n,order[i]?=some n∧yv=iV n:=kbl hyv
   have hi:=at_lt en
   obtain⟨Vc,hV⟩:=at_of (hlt n (UE en))
   have vo:=tok.vs Vc (UE hV)
   have ed:order.drop i=n::order.drop (i+1):=by
    obtain⟨h1,h2⟩:=UG.mp en
    rw[Mx h1,h2]
   rw[ed] at hwalk
   have hwk:=hwalk
   unfold walkM at hwk
   rw[hV] at hwk
   simp only at hwk
   obtain⟨dxw,fsw,hd,u,hw,w1,w2,w3,w4,w5,w6,w7,w8,w9,w10,hh',hu⟩:=id hY
   symm
   exists Y6
   refine⟨_,rfl,y,dxw,fsw,rfl,hw,w6,_,rfl,y,t,b,x,T,B,S,hand,used,n,Vc,rfl,hY,hT.same sI,hB.same sI,hx,wf,vo,hV,hl,fun H2 s2=>⟨rfl,_,rfl,?_⟩⟩
   have s02:=sI.trans s2
   by_cases hn:dueM Vc T B hand used S n=.non
   ·rw[if_pos hn] at hwk
    rw[hn]
    rw[show(!decide (V.non=V.non))=false by simp]
    refine iteF ?_
    nofun
    exists Y8
    refine⟨_,rfl,y,dxw,fsw,rfl,s2 _ _ hw,w7,_,rfl,y,t,b,x,T,B,S,hand,used,n,Vc,rfl,hY.same s2,hT.same s02,hB.same s02,hx.same s2,wf,vo,hV,by omega,fun H3 y' x' s3 fy' hY' hx'=>?_⟩
    exists 3
    exact⟨s02.trans s3,y',x',used++[n],_,_,hY',s02.free fy',hx',wf.after vo,by rw[UY,hul];rfl,hwk,rfl⟩
   ·rw[if_neg hn] at hwk
    rw[show(!decide (dueM Vc T B hand used S n=V.non))=true by simp[hn]]
    refine iteT ?_
    exists 3
    exists Y8
    refine⟨_,rfl,k H2 y x s02 fy ?_ ?_ ?_⟩
    ·rw[←hwk];exact hY.same s2
    ·rw[←hwk];exact hx.same s2
    ·rw[←hwk];exact wf
  ·rintro σ H' ⟨sI,y,x,used,S,v5,hY,fy,hx,wf,hul,hwalk,rfl⟩
   rw[Uu,List.drop_length] at hwalk
   have hwk:=hwalk
   unfold walkM at hwk
   nofun
   exists Y6
   refine⟨_,rfl,k H' y x sI fy ?_ ?_ ?_⟩
   ·rw[←hwk];exact hY
   ·rw[←hwk];exact hx
   ·rw[←hwk];exact wf
noncomputable def kcc(T:TillD)(B:Bask)(hand:List Int)(order:List Nat):Option (Nat×L2.V):=
 let r:=walkM T B hand order [] (stnd0 B)
 if r.1.length<order.length then match T.vs[order.getD r.1.length 0]? with
  |none=>none
  |some V=>some (r.1.length,dueM V T B hand r.1 r.2 (order.getD r.1.length 0))
 else if(onlyM T.rs r.1).isNone=true then none else some (r.1.length, .str "only")
noncomputable def FltIs(H:Hp)(v:L2.V):Option (Nat×L2.V)→Prop
 |none=>v=.non
 |some (k,z)=>∃a,v=.ref a∧H a=some (.tup [iV k,z])
inductive khQ (d:D) (vs:List V) (H:Hp) (Q:VK) (E_:XK):Prop
 |ct (t b h o:Addr)(T:TillD)(B:Bask)(hand:List Int)(order:List Nat)(_:vs=[.ref t, .ref b, .ref h, .ref o])(_:TillIs d H t T)(_:ki1 T)(_:BaskIs d.qf d.qg H b B)(_:Wf T.ps B (stnd0 B))(_:H h=some (.lst (hand.map V.int)))(_:H o=some (.lst (order.map iV)))(_:hand.length=T.vs.length)(_:(∀n∈order,n<T.vs.length))(_:order.length<64)(_:∀(H':Hp)(v:L2.V),Same H H'→FltIs H' v (kcc T B hand order)→Q v H'):khQ d vs H Q E_
theorem QY:kao ["till","basket","hand","order","way","place"] ["till","basket","hand","order"] (kah kfZ):=by ac_rfl
theorem kjj(W:WB K mg d base):FO P w W 8 d.Xx d.Xy ["till","basket","hand","order"] (khQ d):=by
 exists W.YL.F,QY
 ·obtain⟨t,b,h,o,T,B,hand,order,rfl,hT,tok,hB,wf0,hh,ho,hl,hlt,h64,k⟩:=h
  exists Vm,kid,W
  exists QX,kcp,W
  exists Vn,kdC,W
  exists hr2,2,hr,0
  exists hr5,5,hr,0
  refine⟨_,kab (psl (i:=4) QY.nd (pcl Vm hr W.YM (kaa (pv 0) (kaa (pv 1) (kaa (pv 2) (kaa (pv 3) kae))))))
   (kab (psl (i:=5) QY.nd (kat (r:=kbz K) kaJ (by rfl) W.B.len b_len (kaa (kam (K:=K) (pv 4) rfl) kae)))
   (kab (ps_if (kar op_lt (pv 5) (kat (r:=kbz K) kaJ (by rfl) W.B.len b_len (kaa (pv 3) kae)) (kav _)) (kag (kan (kbH (kaa (pv 5) (kaa (kf5 (pv 4) W.c_Way.cl W.qQ.me QX hr5 W.qQ.b .nil pass0 (kaa (pe_ix (r:=rIxL K) kay (pv 3) (pv 5) (fun _ _=>rfl)) kae)) kae))))) (kas))
   (kab (ps_if (kfo (kaS (kjb (pv 4) W.c_Way.cl W.QL.me Vn hr2 W.QL.b .nil pass0))) (kag (kan (kbH (kaa (pv 5) (kaa kau kae))))) (kas))
   (kag (kan kaT))))),?_⟩
  exists Y4
  refine⟨_,rfl,_,rfl,_,rfl,_,rfl,t,b,h,o,T,B,hand,order,rfl,hT,tok,hB,wf0,hh,ho,hl,hlt,h64,fun H1 y x s1 fy hY hx wf=>?_⟩
  unfold kcc at k
  simp only at k
  generalize walkM T B hand order [] (stnd0 B)=r at *
  obtain⟨used,S⟩:=r
  simp only at *
  obtain⟨dxw,fsw,hd,u,hw,w1,w2,w3,w4,w5,w6,w7,w8,w9,w10,hh',hu⟩:=id hY
  symm
  exists Y4
  refine⟨_,rfl,y,d.c_Way,dxw,fsw,_,rfl,hw,W.c_Way.cl,W.qE,w4,u,_,rfl, .inl (SqL.of hu),?_⟩
  rw[Uu]
  symm
  exists Y4
  refine⟨_,rfl,_,rfl,o,_,rfl, .inl (SqL.of (s1 _ _ ho)),_,_,rfl,rfl,_,rfl,?_⟩
  rw[Uu]
  by_cases hlen:used.length<order.length
  ·rw[if_pos hlen] at k
   rw[show decide ((used.length:Int)<(order.length:Int))=true by simp;exact hlen]
   obtain⟨n,en⟩:=at_of hlen
   have eg:order.getD used.length 0=n:=by rw[UF,en];rfl
   obtain⟨Vc,hV⟩:=at_of (hlt n (UE en))
   rw[eg,hV] at k
   have vo:=tok.vs Vc (UE hV)
   refine iteT ?_
   symm
   exists Y6
   refine⟨_,rfl,_,rfl,y,dxw,fsw,rfl,hw,w6,_,rfl,_,rfl,o,_,_,_,rfl,rfl,SqL.of (s1 _ _ ho),kaQ (v:=iV n) (by rw[UD,en];rfl),y,t,b,x,T,B,S,hand,used,n,Vc,rfl,hY,hT.same s1,hB.same s1,hx,wf,vo,hV,hl,fun H2 s2=>?_⟩
   nofun
   exists Y6
   refine⟨(by show 2≤sizeLine;decide),fun q hq=>?_⟩
   nofun
   exact k _ _ ((s1.trans s2).trans (kak hq)) ⟨q,rfl,kad⟩
  ·rw[if_neg hlen] at k
   rw[show decide ((used.length:Int)<(order.length:Int))=false by simp;omega]
   refine iteF ?_
   nofun
   exists Y6
   refine⟨_,rfl,y,dxw,fsw,rfl,hw,w8,y,t,b,x,T,hand,used,rfl,hY,hT.same s1,_,rfl,?_⟩
   cases e:(onlyM T.rs used).isNone with
   |true=>
    rw[e,if_pos rfl] at k
    refine iteF ?_
    nofun
    exact k H1 _ s1 rfl
   |false=>
    rw[e,if_neg UB] at k
    refine iteT ?_
    nofun
    exists Y8
    refine⟨_,rfl,(by show 2≤sizeLine;decide),fun q hq=>?_⟩
    exists 3
    exact k _ _ (s1.trans (kak hq)) ⟨q,rfl,kad⟩
inductive khN (vs:List V) (H:Hp) (Q:VK) (E_:XK):Prop
 |ct (c k:Int)(_:vs=[.int c, .int k])(_:0≤k)(_:k≤1000)(_:∀z:Int,0≤z→z<998244353→Q (.int z) H):khN vs H Q E_
theorem Zn:kao ["_law_cell_here","_law_k","_law_once"] ["_law_cell_here","_law_k"] (kah kcf):=by ac_rfl
theorem kbj(W:WB K mg d base):FO P w W 1 d.XJ d.XM ["_law_cell_here","_law_k"] khN:=by
 exists W.qp.F,Zn
 ·obtain⟨c,k,rfl,k0,k1,kk⟩:=h
  refine⟨_,kab (psl (i:=2) Zn.nd (pe_op kaC (pe_op kcT (pe_op kbs (pe_op kbs (pe_op kaC (pv 0) kaf) (pe_op kcT kaf (pv 1))) kaf) kaf) kaf))
   (kag (kan (pe_op kaC (pe_op kcT (pv 2) (pe_op kbs (pe_op kbs (pe_op kaC (pv 2) kaf) (pv 1)) kaf)) kaf))),?_⟩
  refine⟨_,rfl,_,_,rfl,rfl,(by show(0:Int)<1000000007;decide),_,rfl,_,_,rfl,rfl, .inl ⟨by decide,by decide⟩,_,_,rfl,rfl,_,_,rfl,rfl,_,_,rfl,rfl, .inr ⟨by decide,by decide⟩,_,_,rfl,rfl,(by show(0:Int)<2147483647;decide),?_⟩
  generalize ho:(c%1000000007+7*k+1)*48271%2147483647=o
  refine⟨_,rfl,_,rfl,_,_,rfl,rfl,(by show(0:Int)<1009;decide),_,rfl,_,_,rfl,rfl,_,_,rfl,rfl,_,_,rfl,rfl, .inl ⟨by omega,by omega⟩,_,_,rfl,rfl,(by show(0:Int)<998244353;decide),?_⟩
  generalize o*(o%1009+k+3)=q
  exact kk _ (by omega) (by omega)
inductive kjW (K:Uv) (vs:List V) (H:Hp) (Q:VK) (E_:XK):Prop
 |ct (a:Addr)(ns:List Int)(n:Nat)(_:vs=[.ref a,iV n])(_:SqL K H a (ns.map V.int))(_:∀z:Int,Q (.int z) H):kjW K vs H Q E_
theorem kfl:kao ["_law_script","_law_k"] ["_law_script","_law_k"] (kah kcH):=by ac_rfl
theorem kfv(W:WB K mg d base):FO P w W 1 d.XO d.XQ ["_law_script","_law_k"] (kjW K):=by
 exists W.qW.F,kfl
 ·obtain⟨a,ns,n,rfl,hS,kk⟩:=h
  refine⟨_,kab (ps_if (kar op_lt (pv 1) (kat (r:=kbz K) kaJ (by rfl) W.B.len b_len (kaa (pv 0) kae)) (kav _)) (kag (kan (pe_ix (r:=rIxL K) kay (pv 0) (pv 1) (fun _ _=>rfl)))) (kas))
   (kag (kan kaf)),?_⟩
  refine⟨_,rfl,_,rfl,a,_,rfl, .inl hS,_,_,rfl,rfl,_,rfl,ite2 (fun h=>?_) (fun _=>kk 0)⟩
  have hn:n<ns.length:=by
   have:(n:Int)<((ns.map V.int).length:Nat):=by simpa using h
   rw[Uu] at this
   omega
  obtain⟨z,ez⟩:=at_of hn
  exact⟨_,rfl,_,rfl,a,_,_,_,rfl,rfl,hS,kaQ (v:=.int z) (by rw[UD,ez];rfl),kk z⟩
noncomputable def Alk:Nat→Hp→V→V→Prop
 |0,_,_,_=>False
 |n+1,H,v,w=>(v=w∧(v=.non∨(∃z,v=.bl z)∨(∃z,v=.int z)∨∃z,v=.str z))∨∃(a b:Addr)(xs ys:List V),v=.ref a∧w=.ref b∧((H a=some (.lst xs)∧H b=some (.lst ys))∨(H a=some (.tup xs)∧H b=some (.tup ys)))∧xs.length=ys.length∧xs.length≤100∧∀(i:Nat)(x y:V),xs[i]?=some x→ys[i]?=some y→Alk n H x y
theorem Alk.same:∀{n:Nat}{H H':Hp}{v w:V},Same H H'→Alk n H v w→Alk n H' v w
 |0,_,_,_,_,_,h=>h
 | n+1,H,H',v,w,s,h=>by
  rcases h with h|⟨a,b,xs,ys,h1,h2,h3,h4,h5,h6⟩
  ·exact .inl h
  ·refine .inr ⟨a,b,xs,ys,h1,h2,?_,h4,h5,fun i x y e1 e2=>Alk.same s (h6 i x y e1 e2)⟩
   rcases h3 with⟨g1,g2⟩|⟨g1,g2⟩
   ·exact .inl ⟨s _ _ g1,s _ _ g2⟩
   ·exact .inr ⟨s _ _ g1,s _ _ g2⟩
inductive kda (n:Nat) (vs:List V) (H:Hp) (Q:VK) (E_:XK):Prop
 |ct (v w:V)(_:vs=[v,w])(_:Alk n H v w)(_:∀H',Same H H'→Q (.bl true) H'):kda n vs H Q E_
theorem kgC{vs:List V}{H:Hp}{Q:VK}{E:XK}(h:kda 0 vs H Q E):False:=by
 obtain⟨_,_,_,h,_⟩:=h
 exact h
theorem keK:kao ["_law_found","_law_due_here"] ["_law_found","_law_due_here"] (kah kci):=by ac_rfl
theorem kdK(W:WB K mg d base)(n:Nat)(G_rec:FO P w W (0+n) d.qJ d.qK ["_law_found","_law_due_here"] (kda n)):FO P w W (0+n+1) d.qJ d.qK ["_law_found","_law_due_here"] (kda (n+1)):=by
 exists W.qM.F,keK
 ·obtain⟨v,w,rfl,hv,k⟩:=h
  refine⟨_,kab (ps_if (kaS (kat (r:=kjZ K) khr (by rfl) W.B.isi b_isi (kaa (pv 1) (kaa (kbH (kaa (kbA (v:=.ty "list") (by rfl) W.B.list kcw rfl) (kaa (kbA (v:=.ty "tuple") (by rfl) W.B.tuple kgp rfl) kae))) kae)))) (kab (ps_if (PW.pt (pw_or (kar op_ne (kat (r:=rIsi K) kaE (by rfl) W.B.isi b_isi (kaa (pv 0) (kaa (kbA (v:=.ty "list") (by rfl) W.B.list kcw rfl) kae))) (kat (r:=rIsi K) kaE (by rfl) W.B.isi b_isi (kaa (pv 1) (kaa (kbA (v:=.ty "list") (by rfl) W.B.list kcw rfl) kae))) (kav _)) (kj0 (kar op_ne (kat (r:=rIsi K) kaE (by rfl) W.B.isi b_isi (kaa (pv 0) (kaa (kbA (v:=.ty "tuple") (by rfl) W.B.tuple kgp rfl) kae))) (kat (r:=rIsi K) kaE (by rfl) W.B.isi b_isi (kaa (pv 1) (kaa (kbA (v:=.ty "tuple") (by rfl) W.B.tuple kgp rfl) kae))) (kav _))))) (kag (kan pe_bl)) (kas))
   (kag (kan (kfp (kbc op_eq (kat (r:=kbz K) kaJ (by rfl) W.B.len b_len (kaa (pv 0) kae)) (kat (r:=kbz K) kaJ (by rfl) W.B.len b_len (kaa (pv 1) kae)) (kav _)) (keo (kat (kjH rfl) (by rfl) W.B.all b_all (kaa (kbi (N:=["_law_one","_law_other"]) (CompScope.plain rfl (by decide +kernel) (by decide +kernel) (by decide +kernel) (show(["_law_one","_law_other"]:List Str).Nodup by decide +kernel)) rfl (kja rfl W.B.zip (kaa (pv 0) (kaa (pv 1) kae))) (fun _ _ _ _=>kbb (K:=K) (n:=2) rfl (kaw (pgn (i:=0) (show(["_law_one","_law_other"]:List Str).Nodup by decide +kernel)) (kaw (pgn (i:=1) (show(["_law_one","_law_other"]:List Str).Nodup by decide +kernel)) kba))) (fun _ _ _ _=>(kh8 G_rec hr rfl W.qM.m W.qM.F.kp W.qM.b .nil pass0 (kaa (pv 0) (kaa (pv 1) kae))))) kae))))))) (kas))
   (kab (ps_if (kar kdV (pv 1) kaT (kav _)) (kag (kan (kbc kdV (pv 0) kaT (kav _)))) (kas))
   (kab (ps_if (kaS (kat (r:=rIsi K) kaE (by rfl) W.B.isi b_isi (kaa (pv 1) (kaa (kbA (v:=.ty "bool") (by rfl) W.B.bool kiV rfl) kae)))) (kag (kan (kfp (kat (r:=rIsi K) kaE (by rfl) W.B.isi b_isi (kaa (pv 0) (kaa (kbA (v:=.ty "bool") (by rfl) W.B.bool kiV rfl) kae))) (keo (kbc op_eq (pv 0) (pv 1) (kav _)))))) (kas))
   (kab (ps_if (kaS (kat (r:=rIsi K) kaE (by rfl) W.B.isi b_isi (kaa (pv 1) (kaa (kbA (v:=.ty "str") (by rfl) W.B.str b_str rfl) kae)))) (kag (kan (kfp (kat (r:=rIsi K) kaE (by rfl) W.B.isi b_isi (kaa (pv 0) (kaa (kbA (v:=.ty "str") (by rfl) W.B.str b_str rfl) kae))) (keo (kbc op_eq (pv 0) (pv 1) (kav _)))))) (kas))
   (kag (kan (kfp (kat (r:=rIsi K) kaE (by rfl) W.B.isi b_isi (kaa (pv 0) (kaa (kbA (v:=.ty "int") (by rfl) W.B.int b_int rfl) kae))) (kfp (kk9 (kat (r:=rIsi K) kaE (by rfl) W.B.isi b_isi (kaa (pv 0) (kaa (kbA (v:=.ty "bool") (by rfl) W.B.bool kiV rfl) kae)))) (keo (kbc op_eq (pv 0) (pv 1) (kav _)))))))))),?_⟩
  rcases hv with⟨rfl,hv⟩|⟨a,b,xs,ys,rfl,rfl,hab,hlen,h100,hall⟩
  ·rcases hv with rfl|⟨z,rfl⟩|⟨z,rfl⟩|⟨z,rfl⟩
   ·refine⟨_,rfl,(by show 2≤sizeLine;decide),fun tp htp=>⟨_,tp,_,rfl,SqT.of kad,TyOf.non, .inl rfl,(fun a e=>by cases e),_,rfl,?_⟩⟩
    have k1:=k _ (kak (o:=.tup [.ty "list", .ty "tuple"]) htp)
    rw[show isSeq (.type "NoneType")=false by decide +kernel]
    refine iteF ⟨_,rfl,rfl,_,rfl,?_⟩
    show if decide (V.non=V.non)=true then _ else _
    rw[show decide (V.non=V.non)=true by simp]
    refine iteT ⟨_,rfl,rfl,?_⟩
    show Q (.bl (decide (V.non=V.non))) _
    rw[show decide (V.non=V.non)=true by simp]
    exact k1
   ·refine⟨_,rfl,(by show 2≤sizeLine;decide),fun tp htp=>⟨_,tp,_,rfl,SqT.of kad,TyOf.bl _, .inr (.inl rfl),(fun a e=>by cases e),_,rfl,?_⟩⟩
    have k1:=k _ (kak (o:=.tup [.ty "list", .ty "tuple"]) htp)
    rw[show isSeq (.type "bool")=false by decide +kernel]
    refine iteF ⟨_,rfl,rfl,_,rfl,?_⟩
    show if decide (V.bl z=V.non)=true then _ else _
    rw[show decide (V.bl z=V.non)=false by simp]
    refine iteF ⟨_,rfl,_,_,_,_,rfl, .inl ⟨_,rfl⟩,TyOf.bl _,kaU _ _,_,rfl,iteT ?_⟩
    refine⟨_,rfl,_,_,_,_,rfl, .inl ⟨_,rfl⟩,TyOf.bl _,kaU _ _,_,rfl,iteT ⟨_,rfl,_,rfl,rfl,?_⟩⟩
    show Q (.bl (decide (V.bl z=V.bl z))) _
    rw[show decide (V.bl z=V.bl z)=true by simp]
    exact k1
   ·refine⟨_,rfl,(by show 2≤sizeLine;decide),fun tp htp=>⟨_,tp,_,rfl,SqT.of kad,TyOf.int _, .inr (.inr (.inl rfl)),(fun a e=>by cases e),_,rfl,?_⟩⟩
    have k1:=k _ (kak (o:=.tup [.ty "list", .ty "tuple"]) htp)
    rw[show isSeq (.type "int")=false by decide +kernel]
    refine iteF ⟨_,rfl,rfl,_,rfl,?_⟩
    show if decide (V.int z=V.non)=true then _ else _
    rw[show decide (V.int z=V.non)=false by simp]
    refine iteF ⟨_,rfl,_,_,_,_,rfl, .inl ⟨_,rfl⟩,TyOf.int _,kdr _,_,rfl,iteF ?_⟩
    refine⟨_,rfl,_,_,_,_,rfl, .inl ⟨_,rfl⟩,TyOf.int _,kbN (by decide +kernel) (by decide +kernel) (by decide +kernel),_,rfl,iteF ?_⟩
    refine⟨_,rfl,_,_,_,_,rfl, .inl ⟨_,rfl⟩,TyOf.int _,kaU _ _,_,rfl,iteT ⟨_,rfl,_,_,_,_,rfl, .inl ⟨_,rfl⟩,TyOf.int _,kdr _,_,rfl,?_⟩⟩
    refine⟨_,rfl,iteT ⟨_,rfl,_,rfl,rfl,?_⟩⟩
    show Q (.bl (decide (V.int z=V.int z))) _
    rw[show decide (V.int z=V.int z)=true by simp]
    exact k1
   ·refine⟨_,rfl,(by show 2≤sizeLine;decide),fun tp htp=>⟨_,tp,_,rfl,SqT.of kad,TyOf.str _, .inr (.inr (.inr (.inl rfl))),(fun a e=>by cases e),_,rfl,?_⟩⟩
    have k1:=k _ (kak (o:=.tup [.ty "list", .ty "tuple"]) htp)
    rw[show isSeq (.type "str")=false by decide +kernel]
    refine iteF ⟨_,rfl,rfl,_,rfl,?_⟩
    show if decide (V.str z=V.non)=true then _ else _
    rw[show decide (V.str z=V.non)=false by simp]
    refine iteF ⟨_,rfl,_,_,_,_,rfl, .inl ⟨_,rfl⟩,TyOf.str _,kbN (by decide +kernel) (by decide +kernel) (by decide +kernel),_,rfl,iteF ?_⟩
    refine⟨_,rfl,_,_,_,_,rfl, .inl ⟨_,rfl⟩,TyOf.str _,kaU _ _,_,rfl,iteT ?_⟩
    refine⟨_,rfl,_,_,_,_,rfl, .inl ⟨_,rfl⟩,TyOf.str _,kaU _ _,_,rfl,iteT ⟨_,rfl,_,rfl,rfl,?_⟩⟩
    show Q (.bl (decide (V.str z=V.str z))) _
    rw[show decide (V.str z=V.str z)=true by simp]
    exact k1
  ·rcases hab with⟨ha,hb⟩|⟨ha,hb⟩
   ·refine⟨_,rfl,(by show 2≤sizeLine;decide),fun tp htp=>?_⟩
    have n1:=kak (o:=.tup [.ty "list", .ty "tuple"]) htp
    have e1:(upd H tp (.tup [.ty "list", .ty "tuple"])) tp=some (.tup [.ty "list", .ty "tuple"]):=kad
    generalize upd H tp (.tup [.ty "list", .ty "tuple"])=H1 at *
    have ha1:=n1 _ _ ha
    have hb1:=n1 _ _ hb
    refine⟨_,tp,_,rfl,SqT.of e1,TyOf.lst hb1, .inr (.inr (.inr (.inr (.inl rfl)))),(fun c e=>by cases e;exact .inl ⟨_,hb1⟩),_,rfl,?_⟩
    rw[show isSeq (.type "list")=true by decide +kernel]
    refine iteT ⟨_,rfl,_,_,_,_,rfl, .inl ⟨_,rfl⟩,TyOf.lst ha1,kaU _ _,_,rfl,_,_,_,_,rfl, .inl ⟨_,rfl⟩,TyOf.lst hb1,kaU _ _,rfl,_,rfl,iteF ?_⟩
    refine⟨_,rfl,_,_,_,_,rfl, .inl ⟨_,rfl⟩,TyOf.lst ha1,kbN (by decide +kernel) (by decide +kernel) (by decide +kernel),_,rfl,_,_,_,_,rfl, .inl ⟨_,rfl⟩,TyOf.lst hb1,kbN (by decide +kernel) (by decide +kernel) (by decide +kernel),rfl,_,rfl,iteF ?_⟩
    refine⟨_,rfl,a,_,rfl, .inl (SqL.of ha1),_,rfl,b,_,rfl, .inl (SqL.of hb1),rfl,_,rfl,?_⟩
    rw[hlen,show decide (V.int ((ys.length:Nat):Int)=V.int ((ys.length:Nat):Int))=true by simp]
    have em:min xs.length ys.length=ys.length:=by rw[hlen,JS]
    refine iteT ⟨_,rfl,_,rfl, .inl ⟨a,b,xs,ys,rfl,ha1,hb1,ke5 (xs:=xs) (ys:=ys) (fun i σ ws H'=>Same H1 H'∧ws=(Uw i true).map V.bl∧∃v0 v1:Option V,σ=[v0,v1])
     ⟨Same.refl _,rfl,none,none,rfl⟩ (by rw[em];exact UI (kap (by omega))) (fun i σ ws H' hi h=>⟨h.1 _ _ ha1,h.1 _ _ hb1,by rw[h.2.1];simp⟩) ?_ ?_⟩⟩
    ·rintro i y1 y2 t σ ws H' hy1 hy2 ⟨s1,rfl,v0,v1,rfl⟩ ht
     have n2:=kak (o:=.tup [y1,y2]) ht
     refine⟨t,_,rfl,SqT.of kad,rfl,_,_,rfl,_,_,rfl,rfl,_,rfl,_,rfl,y1,y2,rfl,Alk.same ((n1.trans s1).trans n2) (hall i y1 y2 hy1 hy2),fun H2 s2=>⟨(s1.trans n2).trans s2,?_,_,_,rfl⟩⟩
     rw[JM,UH]
     rfl
    ·rintro σ ws H' ⟨s1,rfl,v0,v1,rfl⟩ D hD
     rw[em]
     refine⟨D,Uw ys.length true,rfl,SqL.of kad,?_⟩
     rw[show(Uw ys.length true).all id=true by simp]
     exact k _ ((n1.trans s1).trans (kak hD))
   ·refine⟨_,rfl,(by show 2≤sizeLine;decide),fun tp htp=>?_⟩
    have n1:=kak (o:=.tup [.ty "list", .ty "tuple"]) htp
    have e1:(upd H tp (.tup [.ty "list", .ty "tuple"])) tp=some (.tup [.ty "list", .ty "tuple"]):=kad
    generalize upd H tp (.tup [.ty "list", .ty "tuple"])=H1 at *
    have ha1:=n1 _ _ ha
    have hb1:=n1 _ _ hb
    refine⟨_,tp,_,rfl,SqT.of e1,TyOf.tup hb1, .inr (.inr (.inr (.inr (.inr rfl)))),(fun c e=>by cases e;exact .inr ⟨_,hb1⟩),_,rfl,?_⟩
    rw[show isSeq (.type "tuple")=true by decide +kernel]
    refine iteT ⟨_,rfl,_,_,_,_,rfl, .inl ⟨_,rfl⟩,TyOf.tup ha1,kbN (by decide +kernel) (by decide +kernel) (by decide +kernel),_,rfl,_,_,_,_,rfl, .inl ⟨_,rfl⟩,TyOf.tup hb1,kbN (by decide +kernel) (by decide +kernel) (by decide +kernel),rfl,_,rfl,iteF ?_⟩
    refine⟨_,rfl,_,_,_,_,rfl, .inl ⟨_,rfl⟩,TyOf.tup ha1,kaU _ _,_,rfl,_,_,_,_,rfl, .inl ⟨_,rfl⟩,TyOf.tup hb1,kaU _ _,rfl,_,rfl,iteF ?_⟩
    refine⟨_,rfl,a,_,rfl, .inr (SqT.of ha1),_,rfl,b,_,rfl, .inr (SqT.of hb1),rfl,_,rfl,?_⟩
    rw[hlen,show decide (V.int ((ys.length:Nat):Int)=V.int ((ys.length:Nat):Int))=true by simp]
    have em:min xs.length ys.length=ys.length:=by rw[hlen,JS]
    refine iteT ⟨_,rfl,_,rfl, .inr ⟨a,b,xs,ys,rfl,ha1,hb1,kiM (xs:=xs) (ys:=ys) (fun i σ ws H'=>Same H1 H'∧ws=(Uw i true).map V.bl∧∃v0 v1:Option V,σ=[v0,v1])
     ⟨Same.refl _,rfl,none,none,rfl⟩ (by rw[em];exact UI (kap (by omega))) (fun i σ ws H' hi h=>⟨h.1 _ _ ha1,h.1 _ _ hb1,by rw[h.2.1];simp⟩) ?_ ?_⟩⟩
    ·rintro i y1 y2 t σ ws H' hy1 hy2 ⟨s1,rfl,v0,v1,rfl⟩ ht
     have n2:=kak (o:=.tup [y1,y2]) ht
     refine⟨t,_,rfl,SqT.of kad,rfl,_,_,rfl,_,_,rfl,rfl,_,rfl,_,rfl,y1,y2,rfl,Alk.same ((n1.trans s1).trans n2) (hall i y1 y2 hy1 hy2),fun H2 s2=>⟨(s1.trans n2).trans s2,?_,_,_,rfl⟩⟩
     rw[JM,UH]
     rfl
    ·rintro σ ws H' ⟨s1,rfl,v0,v1,rfl⟩ D hD
     rw[em]
     refine⟨D,Uw ys.length true,rfl,SqL.of kad,?_⟩
     rw[show(Uw ys.length true).all id=true by simp]
     exact k _ ((n1.trans s1).trans (kak hD))
theorem kcC(W:WB K mg d base):∀n:Nat,FO P w W (0+n) d.qJ d.qK ["_law_found","_law_due_here"] (kda n)
 |0=>⟨fun _ _ _ _ h=>(kgC h).elim,fun _ _ _ _ _ _ _ _ _ _ _ _ _ h=>(kgC h).elim⟩
 |n+1=>kdK W n (kcC W n)
theorem keW(W:WB K mg d base):FO P w W 5 d.qJ d.qK ["_law_found","_law_due_here"] (kda 5):=kcC W 5
theorem at4N{a b c e:V}{i:Int}(h0:0≤i)(h4:i<4):∃v,atI [a,b,c,e] i=some v∧(v=a∨v=b∨v=c∨v=e):=by
 obtain⟨n,rfl⟩:=Int.eq_ofNat_of_zero_le h0
 have hn:n<4:=by omega
 match n,hn with
 |0,_=>exact⟨a,rfl, .inl rfl⟩
 |1,_=>exact⟨b,rfl, .inr (.inl rfl)⟩
 |2,_=>exact⟨c,rfl, .inr (.inr (.inl rfl))⟩
 |3,_=>exact⟨e,rfl, .inr (.inr (.inr rfl))⟩
theorem at3N{a b c:V}{i:Int}(h0:0≤i)(h3:i<3):∃v,atI [a,b,c] i=some v∧(v=a∨v=b∨v=c):=by
 obtain⟨n,rfl⟩:=Int.eq_ofNat_of_zero_le h0
 have hn:n<3:=by omega
 match n,hn with
 |0,_=>exact⟨a,rfl, .inl rfl⟩
 |1,_=>exact⟨b,rfl, .inr (.inl rfl)⟩
 |2,_=>exact⟨c,rfl, .inr (.inr rfl)⟩
inductive khT (vs:List V) (H:Hp) (Q:VK) (E_:XK):Prop
 |ct (z:Int)(g:Bool)(_:vs=[.int z, .bl g])(_:∀(H':Hp)(c:Int),Same H H'→0≤c→c≤1000000000000→Q (.int c) H'):khT vs H Q E_
theorem keJ:kao ["_law_drawn","_law_great"] ["_law_drawn","_law_great"] (kah kcg):=by ac_rfl
theorem kcW(W:WB K mg d base):FO P w W 1 d.XR d.XS ["_law_drawn","_law_great"] khT:=by
 exists W.qD.F,keJ
 ·obtain⟨z,g,rfl,kk⟩:=h
  refine⟨_,kab (ps_if (kaS (pv 1)) (kag (kan (pe_ix (r:=rIxL K) kay (kaM (kaa (pe_op kaC (pe_op kcT (pv 0) kaf) kaf) (kaa (pe_op kbJ (pe_op kj4 kaf kaf) (pe_op kaC (pe_op kaH (pv 0) kaf) kaf)) (kaa (pe_op kaC (pe_op kaH (pv 0) kaf) kaf) (kaa kaf kae))))) (pe_op kaC (pv 0) kaf) (fun _ _=>rfl)))) (kas))
   (kag (kan (pe_ix (r:=rIxL K) kay (kaM (kaa (pe_op kaC (pe_op kaH (pv 0) kaf) kaf) (kaa (pe_op kaC (pe_op kaH (pv 0) kaf) kaf) (kaa (pe_op kaC (pe_op kaH (pv 0) kaf) kaf) (kaa kaf kae))))) (pe_op kaC (pv 0) kaf) (fun _ _=>rfl)))),?_⟩
  refine⟨_,rfl,g,rfl,?_⟩
  cases g with
  |true=>
   refine iteT ⟨_,rfl,_,_,rfl,rfl, .inr ⟨by decide,by decide⟩,_,_,rfl,rfl,(by show(0:Int)<1000000000001;decide),_,_,rfl,rfl,⟨by decide,by decide,by decide⟩,_,rfl,_,_,rfl,rfl,⟨by decide,by decide⟩,_,_,rfl,rfl,(by show(0:Int)<3;decide),_,_,rfl,rfl,_,rfl,_,_,rfl,rfl,⟨by decide,by decide⟩,_,_,rfl,rfl,(by show(0:Int)<9;decide),(by show 4≤sizeLine;decide),fun p hp=>?_⟩
   have e10:(10:Int) ^ (12:Int).toNat=1000000000000:=by decide
   obtain⟨v,e,hv⟩:=at4N (a:=.int (z*1000003%1000000000001)) (b:=.int ((10:Int) ^ (12:Int).toNat-z/4%3)) (c:=.int (z/4%9)) (e:=.int 0) (i:=z%4) (by omega) (by omega)
   refine⟨_,rfl,_,_,rfl,rfl,(by show(0:Int)<4;decide),p,_,_,v,rfl,rfl,SqL.of kad,e,?_⟩
   rcases hv with rfl|rfl|rfl|rfl
   ·exact kk _ _ (kak hp) (by omega) (by omega)
   ·exact kk _ _ (kak hp) (by rw[e10];omega) (by rw[e10];omega)
   ·exact kk _ _ (kak hp) (by omega) (by omega)
   ·exact kk _ _ (kak hp) (by omega) (by omega)
  |false=>
   refine iteF ⟨_,rfl,_,_,rfl,rfl,⟨by decide,by decide⟩,_,_,rfl,rfl,(by show(0:Int)<7;decide),_,rfl,_,_,rfl,rfl,⟨by decide,by decide⟩,_,_,rfl,rfl,(by show(0:Int)<40;decide),_,rfl,_,_,rfl,rfl,⟨by decide,by decide⟩,_,_,rfl,rfl,(by show(0:Int)<300;decide),(by show 4≤sizeLine;decide),fun p hp=>?_⟩
   obtain⟨v,e,hv⟩:=at4N (a:=.int (z/4%7)) (b:=.int (z/4%40)) (c:=.int (z/4%300)) (e:=.int 0) (i:=z%4) (by omega) (by omega)
   refine⟨_,rfl,_,_,rfl,rfl,(by show(0:Int)<4;decide),p,_,_,v,rfl,rfl,SqL.of kad,e,?_⟩
   rcases hv with rfl|rfl|rfl|rfl
   ·exact kk _ _ (kak hp) (by omega) (by omega)
   ·exact kk _ _ (kak hp) (by omega) (by omega)
   ·exact kk _ _ (kak hp) (by omega) (by omega)
   ·exact kk _ _ (kak hp) (by omega) (by omega)
inductive kjR (vs:List V) (H:Hp) (Q:VK) (E_:XK):Prop
 |ct (c:Int)(_:vs=[.int c])(_:∀(H':Hp)(p:Addr)(ps:List (Option Nat)),Same H H'→H p=none→H' p=some (.lst (ps.map pV))→Good ps→ps.length≤20→0<ps.length→Q (.ref p) H'):kjR vs H Q E_
theorem Qj:kao ["_law_cell_here","_law_parents_here","_law_k","_law_drawn"] ["_law_cell_here"] (kah kbV):=by ac_rfl
theorem kdZ(W:WB K mg d base):FO P w W 2 d.XT d.XU ["_law_cell_here"] kjR:=by
 exists W.YS.F,Qj
 ·obtain⟨c,rfl,kk⟩:=h
  exists ql,kbj,W
  refine⟨_,kab (psl (i:=1) Qj.nd (kaM (kaa kaT kae)))
   (kab (kbe PassesOwn.never rfl (kh6 rfl W.B.range (kaa kaf (kaa (pe_op kbs kaf (pe_op kaC (pcl ql hr W.qp (kaa (pv 0) (kaa kaf kae))) kaf)) kae))) (pgn (i:=2) Qj.nd)
   (kab (psl (i:=3) Qj.nd (pcl ql hr W.qp (kaa (pv 0) (kaa (pe_op kbs kaf (pv 2)) kae))))
   (kag (ka3 (pe_bm Jd Jr Js ka4 (pv 1) (kaa (pe_ix (r:=rIxL K) kay (kaM (kaa kaT (kaa (pe_op kaC (pe_op kaH (pv 3) kaf) (pv 2)) (kaa (pe_op kaC (pe_op kaH (pv 3) kaf) (pv 2)) kae)))) (pe_op kaC (pv 3) kaf) (fun _ _=>rfl)) kae))))))
   (kag (kan (pv 1)))),?_⟩
  refine⟨(by show 1≤sizeLine;decide),fun p hp=>?_⟩
  have s1:=kak (o:=.lst [V.non]) hp
  have hp1:(upd H p (.lst [V.non])) p=some (.lst (([none]:List (Option Nat)).map pV)):=kad
  generalize upd H p (.lst [V.non])=H1 at *
  refine⟨_,rfl,c,1,rfl,by decide,by decide,fun m m0 m1=>⟨_,_,rfl,rfl,(by show(0:Int)<6;decide),_,_,rfl,rfl,_,_,rfl,⟨by decide,by decide,by omega,by omega⟩,?_⟩⟩
  refine kc4 (fun i σ H'=>Same H H'∧∃(ps:List (Option Nat))(v2 v3:Option V),σ=[some (.int c),some (.ref p),v2,v3]∧H' p=some (.lst (ps.map pV))∧ps.length=i+1∧Good ps)
   ⟨s1,[none],none,none,rfl,hp1,rfl,kfF kjw (fun k e=>by cases e)⟩ ?_ ?_
  ·rintro i σ H' hi ⟨s2,ps,v2,v3,rfl,hp2,hl,hg⟩
   have hi6:i<6:=by omega
   refine⟨_,rfl,_,rfl,_,_,rfl,rfl,c,1+(1+(i:Int)),rfl,by omega,by omega,fun d d0 d1=>?_⟩
   refine⟨_,rfl, .inl ⟨rfl,_,SqL.of hp2⟩,_,rfl,_,_,rfl,rfl,⟨by decide,by decide⟩,_,rfl,_,_,rfl,rfl,(by show(0:Int)<1+(i:Int);omega),_,rfl,_,_,rfl,rfl,⟨by decide,by decide⟩,_,rfl,_,_,rfl,rfl,(by show(0:Int)<1+(i:Int);omega),(by show 3≤sizeLine;decide),fun q hq=>?_⟩
   have hm0:0≤d/3%(1+(i:Int)):=Int.emod_nonneg _ (by omega)
   have hm1:d/3%(1+(i:Int))<1+(i:Int):=Int.emod_lt_of_pos _ (by omega)
   obtain⟨n,en⟩:=Int.eq_ofNat_of_zero_le hm0
   have n3:=kak (o:=.lst [V.non,V.int (d/3%(1+(i:Int))),V.int (d/3%(1+(i:Int)))]) hq
   have hp3:=n3 _ _ hp2
   have s3:=s2.trans n3
   obtain⟨v,ev,hv⟩:=at3N (a:=.non) (b:=.int (d/3%(1+(i:Int)))) (c:=.int (d/3%(1+(i:Int)))) (i:=d%3) (by omega) (by omega)
   obtain⟨o,eo,ho⟩:∃o:Option Nat,v=pV o∧∀k,o=some k→k<ps.length:=by
    rcases hv with rfl|rfl|rfl
    ·exact⟨none,rfl,fun k e=>by cases e⟩
    ·exact⟨some n,by rw[en];rfl,fun k e=>by cases e;omega⟩
    ·exact⟨some n,by rw[en];rfl,fun k e=>by cases e;omega⟩
   subst eo
   refine⟨_,rfl,_,_,rfl,rfl,(by show(0:Int)<3;decide),q,_,_,_,rfl,rfl,SqL.of kad,ev,?_⟩
   generalize upd H' q (.lst [V.non,V.int (d/3%(1+(i:Int))),V.int (d/3%(1+(i:Int)))])=H3 at *
   refine⟨p,_,_,rfl,rfl,hp3,kap (by rw[Uu];omega),?_⟩
   refine⟨kaq hp s3 (nx hp3),ps++[o],_,_,rfl,?_,by simp[hl],kfF hg ho⟩
   rw[kad]
   simp
  ·rintro σ H' ⟨s2,ps,v2,v3,rfl,hp2,hl,hg⟩
   exact⟨_,rfl,kk H' p ps s2 hp hp2 hg (by omega) (by omega)⟩
noncomputable def mkT(M:Mks):List V:=[pV M.kind, .int M.needs,oV M.most, .bl M.member, .bl M.once, .bl M.lone]
noncomputable def srtD:Srt→List V
 | .off a=>[.str "off", .int a]
 | .share s _=>[.str "share", .int s]
 |_=>[.str "carriage"]
noncomputable def So21(so:Srt):Prop:=(∃a,so=.off a)∨(∃s,so=.share s false)∨so=.carr
noncomputable def VchD(H:Hp)(t:Addr)(V:Vch):Prop:=∃mt,H t=some (.tup (srtD V.so++[.ref mt]))∧H mt=some (.tup (mkT V.ms))
theorem VchD.same{H H':Hp}{t:Addr}{V:Vch}(s:Same H H'):VchD H t V→VchD H' t V:=fun⟨mt,h1,h2⟩=>⟨mt,s _ _ h1,s _ _ h2⟩
structure Vo21 (ps:List (Option Nat)) (V:Vch):Prop where
 ok:VchOk ps V
 so:So21 V.so
 most:V.ms.most=none
 once:V.ms.once=false
theorem kgM{zs:List Int}{m:Int}(h0:0≤m)(h:m<((zs.length:Nat):Int)):∃z,z∈zs∧atI (zs.map V.int) m=some (.int z):=by
 obtain⟨n,rfl⟩:=Int.eq_ofNat_of_zero_le h0
 obtain⟨z,ez⟩:=at_of (xs:=zs) (i:=n) (by omega)
 exact⟨z,UE ez,kaQ (v:=V.int z) (by rw[UD,ez];rfl)⟩
inductive kgx (vs:List V) (H:Hp) (Q:VK) (E_:XK):Prop
 |ct (c:Int)(ps:List (Option Nat))(g:Bool)(tot:Int)(_:vs=[.int c,iV ps.length, .bl g, .int tot])(_:0<ps.length)(_:0≤tot)(_:∀(H':Hp)(t:Addr)(V:Vch),Same H H'→H t=none→VchD H' t V→Vo21 ps V→Q (.ref t) H'):kgx vs H Q E_
theorem qG:kao ["_law_cell_here","_law_kinds","_law_great","_law_total","_law_drawn","_law_other","_law_needs","_law_kind","_law_marks"] ["_law_cell_here","_law_kinds","_law_great","_law_total"] (kah kbU):=by ac_rfl
theorem kdY(W:WB K mg d base):FO P w W 2 d.X2 d.X3 ["_law_cell_here","_law_kinds","_law_great","_law_total"] kgx:=by
 exists W.YW.F,qG
 ·obtain⟨c,ps,g,tot,rfl,hl0,ht0,kk⟩:=h
  exists ql,kbj,W
  exists qH,kcW,W
  refine⟨_,kab (psl (i:=4) qG.nd (pcl ql hr W.qp (kaa (pv 0) (kaa kaf kae))))
   (kab (psl (i:=5) qG.nd (pcl ql hr W.qp (kaa (pv 0) (kaa kaf kae))))
   (kab (psl (i:=6) qG.nd (pe_ix (r:=rIxL K) kay (kaM (kaa kaf (kaa kaf (kaa (pv 3) (kaa (pe_op kbs (pv 3) kaf) (kaa (pe_op kaH (pv 3) kaf) (kaa (pe_op kbJ (pv 3) (pe_op kaH (pv 3) kaf)) (kaa (pcl qH hr W.qD (kaa (pv 5) (kaa (pv 2) kae))) kae)))))))) (pe_op kaC (pe_op kaH (pv 4) kaf) kaf) (fun _ _=>rfl)))
   (kab (psl (i:=7) qG.nd (pe_ix (r:=rIxL K) kay (kaM (kaa kaT (kaa kaT (kaa (pe_op kaC (pe_op kaH (pv 5) kaf) (pv 1)) kae)))) (pe_op kaC (pv 5) kaf) (fun _ _=>rfl)))
   (kab (psl (i:=8) qG.nd (kbH (kaa (pv 7) (kaa (kat (kc6 rfl) (by rfl) W.B.min b_min (kaa (pe_op kj4 kaf kaf) (kaa (pv 6) kae))) (kaa kaT (kaa (kbc op_eq (pe_op kaC (pe_op kaH (pv 5) kaf) kaf) kaf (kav _)) (kaa pe_bl (kaa (kbc op_eq (pe_op kaC (pe_op kaH (pv 5) kaf) kaf) kaf (kav _)) kae))))))))
   (kab (ps_if (kar op_lt (pe_op kaC (pv 4) kaf) kaf (kav _)) (kag (kan (kbH (kaa kau (kaa (pe_ix (r:=rIxL K) kay (kaM (kaa kaf (kaa (pcl qH hr W.qD (kaa (pe_op kaH (pv 4) kaf) (kaa (pv 2) kae))) kae))) (pe_op kaC (pe_op kaH (pv 4) kaf) kaf) (fun _ _=>rfl)) (kaa (pv 8) kae)))))) (kas))
   (kab (ps_if (kar op_eq (pe_op kaC (pv 4) kaf) kaf (kav _)) (kag (kan (kbH (kaa kau (kaa (pe_ix (r:=rIxL K) kay (kaM (kaa kaf (kaa kaf (kaa (pe_op kbs kaf (pe_op kaC (pe_op kaH (pv 4) kaf) kaf)) kae)))) (pe_op kaC (pe_op kaH (pv 4) kaf) kaf) (fun _ _=>rfl)) (kaa (pv 8) kae)))))) (kas))
   (kag (kan (kbH (kaa kau (kaa (pv 8) kae))))))))))),?_⟩
  exists Y4
  refine⟨_,rfl,c,13,rfl,by decide,by decide,fun d d0 d1=>?_⟩
  symm
  exists Y4
  refine⟨_,rfl,c,14,rfl,by decide,by decide,fun o o0 o1=>?_⟩
  symm
  exists Y4
  refine⟨_,rfl,_,rfl,_,_,rfl,rfl,_,rfl,_,_,rfl,rfl,⟨by decide,by decide⟩,_,rfl,_,rfl,_,_,rfl,rfl,⟨by decide,by decide⟩,_,_,rfl,rfl,_,rfl,_,rfl,o,g,rfl,fun H1 c1 s1 c10 c11=>⟨(by show 7≤sizeLine;decide),fun l1 fl1=>?_⟩⟩
  exists H1,l1,H2,n2,e2,fl1
  obtain⟨nd,hnd,end'⟩:=kgM (zs:=[0,0,tot,tot+1,tot/2,tot-tot/3,c1]) (m:=d/4%7) (by omega) (by show _<(7:Int);omega)
  symm
  exists Y4
  refine⟨_,rfl,_,_,rfl,rfl,⟨by decide,by decide⟩,_,_,rfl,rfl,(by show(0:Int)<7;decide),l1,_,_,_,rfl,rfl,SqL.of e2,end',?_⟩
  have hnd0:0≤nd:=by
   simp only[UJ,U3,or_false] at hnd
   rcases hnd with rfl|rfl|rfl|rfl|rfl|rfl|rfl <;> omega
  have s2:=s1.trans n2
  have hm0:0≤o/3%(ps.length:Int):=Int.emod_nonneg _ (by omega)
  have hm1:o/3%(ps.length:Int)<(ps.length:Int):=Int.emod_lt_of_pos _ (by omega)
  symm
  exists Y4
  refine⟨_,rfl,_,_,rfl,rfl,⟨by decide,by decide⟩,_,rfl,_,_,rfl,rfl,(by show(0:Int)<(ps.length:Int);omega),(by show 3≤sizeLine;decide),fun l3 fl3=>?_⟩
  exists H2,l3,H3,n3,e3,fl3
  obtain⟨v1,e1,hv1⟩:=at3N (a:=.non) (b:=.non) (c:=.int (o/3%(ps.length:Int))) (i:=o%3) (by omega) (by omega)
  obtain⟨kd,rfl,hkd⟩:∃kd:Option Nat,v1=pV kd∧∀k,kd=some k→k<ps.length:=by
   rcases hv1 with rfl|rfl|rfl
   ·exact⟨none,rfl,fun k e=>by cases e⟩
   ·exact⟨none,rfl,fun k e=>by cases e⟩
   ·exact⟨some (o/3%(ps.length:Int)).toNat,by show V.int _=V.int _;rw[Int.toNat_of_nonneg hm0],fun k e=>by cases e;omega⟩
  symm
  exists Y4
  refine⟨_,rfl,_,_,rfl,rfl,(by show(0:Int)<3;decide),l3,_,_,_,rfl,rfl,SqL.of e3,e1,?_⟩
  have s3:=s2.trans n3
  have hnd1:(if nd<(10:Int) ^ (12:Int).toNat then nd else(10:Int) ^ (12:Int).toNat)=if nd<1000000000000 then nd else 1000000000000:=rfl
  symm
  exists Y4
  refine⟨_,rfl,_,_,rfl,rfl,⟨by decide,by decide,by decide⟩,_,rfl,_,_,rfl,_,rfl,_,_,rfl,rfl,⟨by decide,by decide⟩,_,_,rfl,rfl,(by show(0:Int)<8;decide),rfl,_,rfl,_,_,rfl,rfl,⟨by decide,by decide⟩,_,_,rfl,rfl,(by show(0:Int)<2;decide),rfl,(by show 6≤sizeLine;decide),fun mt fmt=>?_⟩
  exists H3,mt,H4,n4,e4,fmt
  have hnd2:0≤(if nd<(10:Int) ^ (12:Int).toNat then nd else(10:Int) ^ (12:Int).toNat)∧(if nd<(10:Int) ^ (12:Int).toNat then nd else(10:Int) ^ (12:Int).toNat)≤1000000000000:=by
   rw[hnd1]
   split <;> omega
  obtain⟨M,hM,e5,mo,on⟩:∃M:Mks,MksOk ps M∧H4 mt=some (.tup (mkT M))∧M.most=none∧M.once=false:=⟨⟨kd,_,none,_,false,_⟩,⟨hkd,hnd2,fun m e=>by cases e⟩,e4,rfl,rfl⟩
  have s4:=s3.trans n4
  clear e4 hnd1 hnd2 end' e2 e1 e3 hv1
  have fin:∀(so:Srt)(H5:Hp)(t:Addr),Same H4 H5→H5 t=none→SrtOk so→So21 so→Q (.ref t) (upd H5 t (.tup (srtD so++[.ref mt]))):=fun so H5 t s5 ft hso h21=>kk _ t ⟨so,M⟩ ((s4.trans s5).trans (kak ft)) ((s4.trans s5).free ft) ⟨mt,kad,kak ft _ _ (s5 _ _ e5)⟩ ⟨⟨hso,hM⟩,h21,mo,on⟩
  symm
  exists Y4
  refine⟨_,rfl,_,_,rfl,rfl,(by show(0:Int)<4;decide),_,_,rfl,rfl,_,rfl,ite2 (fun _=>?_) (fun _=>?_)⟩
  ·refine⟨_,rfl,_,_,rfl,rfl,⟨by decide,by decide⟩,_,rfl,_,g,rfl,fun H5 a s5 a0 a1=>⟨(by show 2≤sizeLine;decide),fun l fl=>?_⟩⟩
   exists H5,l,H6,n6,e6,fl
   obtain⟨z,hz,ez⟩:=kgM (zs:=[1,a]) (m:=d/28%2) (by omega) (by show _<(2:Int);omega)
   have hz2:0≤z∧z≤1000000000000:=by
    simp only[UJ,U3,or_false] at hz
    rcases hz with rfl|rfl <;> omega
   symm
   exact⟨_,rfl,_,_,rfl,rfl,⟨by decide,by decide⟩,_,_,rfl,rfl,(by show(0:Int)<2;decide),l,_,_,_,rfl,rfl,SqL.of e6,ez,_,rfl,(by show 3≤sizeLine;decide),fun t ft=>fin (.off z) H6 t (s5.trans n6) ft hz2 (.inl ⟨_,rfl⟩)⟩
  symm
  exists Y4
  refine⟨_,rfl,_,_,rfl,rfl,(by show(0:Int)<4;decide),rfl,_,rfl,ite2 (fun _=>?_) (fun _=>?_)⟩
  ·refine⟨_,rfl,_,_,rfl,rfl,⟨by decide,by decide⟩,_,_,rfl,rfl,(by show(0:Int)<1000;decide),_,_,rfl,rfl,(by show 3≤sizeLine;decide),fun l fl=>?_⟩
   exists H4,l,H6,n6,e6,fl
   obtain⟨z,hz,ez⟩:=kgM (zs:=[1,1000,1+d/84%1000]) (m:=d/28%3) (by omega) (by show _<(3:Int);omega)
   have hz2:1≤z∧z≤1000:=by
    simp only[UJ,U3,or_false] at hz
    rcases hz with rfl|rfl|rfl <;> omega
   symm
   exact⟨_,rfl,_,_,rfl,rfl,⟨by decide,by decide⟩,_,_,rfl,rfl,(by show(0:Int)<3;decide),l,_,_,_,rfl,rfl,SqL.of e6,ez,_,rfl,(by show 3≤sizeLine;decide),fun t ft=>fin (.share z false) H6 t n6 ft hz2 (.inr (.inl ⟨_,rfl⟩))⟩
  symm
  exact⟨_,rfl,(by show 2≤sizeLine;decide),fun t ft=>fin .carr H4 t (Same.refl _) ft trivial (.inr (.inr rfl))⟩
inductive khO (d:D) (vs:List V) (H:Hp) (Q:VK) (E_:XK):Prop
 |ct (t:Addr)(V:Vch)(_:vs=[.ref t])(_:VchD H t V)(_:So21 V.so)(_:Tbs d H)(_:∀(H':Hp)(v:Addr),Same H H'→H v=none→VchIs d H' v V→Q (.ref v) H'):khO d vs H Q E_
theorem QZ:kao ["_law_told","_law_marks","_law_own"] ["_law_told"] (kah kcG):=by ac_rfl
theorem kfu(W:WB K mg d base):FO P w W 6 d.X4 d.X5 ["_law_told"] (khO d):=by
 exists W.YX.F,QZ
 ·obtain⟨t,⟨so,M⟩,rfl,⟨mt,ht,hmt⟩,hso,htb0,kk⟩:=h
  exists QP,kcY,W
  exists Vo,kf9,W
  exists Vp,keZ,W
  exists Vr,kdD,W
  exists hr2,2,hr,0
  refine⟨_,kab (psl (i:=1) QZ.nd (pe_ix (r:=rIxT K) kaB (pv 0) (pe_op kbJ (kat (r:=kbz K) kaJ (by rfl) W.B.len b_len (kaa (pv 0) kae)) kaf) (fun _ _=>rfl)))
   (kab (psl (i:=2) QZ.nd (kbI (W.qY.mk' W.qd) QP hr2 rfl W.qd.m W.qY.b .nil pass0 (kaa (pe_ix (r:=rIxT K) kaB (pv 1) kaf (fun _ _=>rfl)) (kaa (pe_ix (r:=rIxT K) kaB (pv 1) kaf (fun _ _=>rfl)) (kaa (pe_ix (r:=rIxT K) kaB (pv 1) kaf (fun _ _=>rfl)) (kaa (pe_ix (r:=rIxT K) kaB (pv 1) kaf (fun _ _=>rfl)) (kaa (pe_ix (r:=rIxT K) kaB (pv 1) kaf (fun _ _=>rfl)) (kaa (pe_ix (r:=rIxT K) kaB (pv 1) kaf (fun _ _=>rfl)) kae))))))))
   (kab (ps_if (kar op_eq (pe_ix (r:=rIxT K) kaB (pv 0) kaf (fun _ _=>rfl)) kau (kav _)) (kag (kan (kbI (W.Qy.mk' W.c_Off) Vo hr rfl W.c_Off.m W.Qy.b .nil pass0 (kaa (pe_ix (r:=rIxT K) kaB (pv 0) kaf (fun _ _=>rfl)) (kaa (pv 2) kae))))) (kas))
   (kab (ps_if (kar op_eq (pe_ix (r:=rIxT K) kaB (pv 0) kaf (fun _ _=>rfl)) kau (kav _)) (kag (kan (kbI (W.Qz.mk' W.qh) Vp hr rfl W.qh.m W.Qz.b .nil pass0 (kaa (pe_ix (r:=rIxT K) kaB (pv 0) kaf (fun _ _=>rfl)) (kaa pe_bl (kaa (pv 2) kae)))))) (kas))
   (kag (kan (kbI (W.QB.mk' W.qi) Vr hr rfl W.qi.m W.QB.b .nil pass0 (kaa (pv 2) kae))))))),?_⟩
  obtain⟨kd,nd,mo,b1,b2,b3⟩:=M
  have el:atI (srtD so++[V.ref mt]) (((srtD so++[V.ref mt]).length:Nat)-1)=some (V.ref mt):=by cases so <;> rfl
  refine⟨_,rfl,_,rfl,t,_,rfl, .inr (SqT.of ht),_,_,rfl,rfl,t,_,_,_,rfl,rfl,SqT.of ht,el,?_⟩
  refine⟨_,rfl,mt,_,_,_,rfl,rfl,SqT.of hmt,rfl,_,rfl,mt,_,_,_,rfl,rfl,SqT.of hmt,rfl,_,rfl,mt,_,_,_,rfl,rfl,SqT.of hmt,rfl,_,rfl,mt,_,_,_,rfl,rfl,SqT.of hmt,rfl,_,rfl,mt,_,_,_,rfl,rfl,SqT.of hmt,rfl,_,rfl,mt,_,_,_,rfl,rfl,SqT.of hmt,rfl,?_⟩
  refine kgU (M:=⟨kd,nd,mo,b1,b2,b3⟩) fun H1 mA s1 f1 hM=>?_
  have htb:Tbs d H1:=Tbs.same s1 htb0
  have ht1:=s1 _ _ ht
  have no:∀(a b:Str)(R1 R2:Prop),a≠b→R2→if decide (V.str a=V.str b)=true then R1 else R2:=fun a b R1 R2 hn h=>by
   rw[eq_str,decide_eq_false hn,if_neg UB]
   exact h
  rcases hso with⟨a,e⟩|⟨sh,e⟩|e
  ·cases e
   refine⟨_,rfl,t,_,_,_,rfl,rfl,SqT.of ht1,rfl,rfl,_,rfl,?_⟩
   show if decide (V.str "off"=V.str "off")=true then _ else _
   rw[show decide (V.str "off"=V.str "off")=true by simp]
   exact iteT ⟨_,rfl,t,_,_,_,rfl,rfl,SqT.of ht1,rfl,_,rfl,kif (so:=.off a) ⟨_,rfl⟩ rfl hM fun H2 x s2 f2 hV=>kk H2 x (s1.trans s2) (s1.free f2) hV⟩
  ·cases e
   refine⟨_,rfl,t,_,_,_,rfl,rfl,SqT.of ht1,rfl,rfl,_,rfl,no "share" "off" _ _ (by decide +kernel) ?_⟩
   refine⟨_,rfl,t,_,_,_,rfl,rfl,SqT.of ht1,rfl,rfl,_,rfl,?_⟩
   show if decide (V.str "share"=V.str "share")=true then _ else _
   rw[show decide (V.str "share"=V.str "share")=true by simp]
   exact iteT ⟨_,rfl,t,_,_,_,rfl,rfl,SqT.of ht1,rfl,_,rfl,kif (so:=.share sh false) ⟨_,_,rfl⟩ rfl hM fun H2 x s2 f2 hV=>kk H2 x (s1.trans s2) (s1.free f2) hV⟩
  ·cases e
   refine⟨_,rfl,t,_,_,_,rfl,rfl,SqT.of ht1,rfl,rfl,_,rfl,no "carriage" "off" _ _ (by decide +kernel) ?_⟩
   refine⟨_,rfl,t,_,_,_,rfl,rfl,SqT.of ht1,rfl,rfl,_,rfl,no "carriage" "share" _ _ (by decide +kernel) ?_⟩
   exact⟨_,rfl,kkJ W.qi.cl W.QA hM fun H2 x s2 f2 hV=>kk H2 x (s1.trans s2) (s1.free f2) hV⟩
noncomputable def RowT(H:Hp)(a:Addr)(r:Row):Prop:=H a=some (.tup [.int r.kd, .int r.pr, .int r.mn,oV r.ex])
inductive kfh (d:D) (vs:List V) (H:Hp) (Q:VK) (E_:XK):Prop
 |ct (p lp:Addr)(ra:List Addr)(B:Bask)(_:vs=[.ref p])(_:H p=some (.tup [.ref lp, .int B.cg, .bl B.m]))(_:H lp=some (.lst (ra.map V.ref)))(_:P2 (fun a r=>RowT H a r) ra B.rs)(_:B.rs.length≤12)(_:∀H' b,Same H H'→H b=none→BaskIs d.qf d.qg H' b B→Q (.ref b) H'):kfh d vs H Q E_
theorem Zo:kao ["_law_told","_law_lines"] ["_law_told"] (kah kbh):=by ac_rfl
theorem kcK(W:WB K mg d base):FO P w W 3 d.XY d.XZ ["_law_told"] (kfh d):=by
 exists W.YU.F,Zo
 ·obtain⟨p,lp,ra,B,rfl,hp,hlp,hR,h12,kk⟩:=h
  exists Vt,kfx,W
  exists Vu,keh,W
  refine⟨_,kab (keO (N:=["_law_kind","_law_price","_law_many","_law_special"]) (CompScope.plain rfl (by decide +kernel) (by decide +kernel) (by decide +kernel) (show(["_law_kind","_law_price","_law_many","_law_special"]:List Str).Nodup by decide +kernel)) rfl (kaF (K:=K) (pe_ix (r:=rIxT K) kaB (pv 0) kaf (fun _ _=>rfl))) (fun _ _ _ _=>kbb (K:=K) (n:=4) rfl (kaw (pgn (i:=0) (show(["_law_kind","_law_price","_law_many","_law_special"]:List Str).Nodup by decide +kernel)) (kaw (pgn (i:=1) (show(["_law_kind","_law_price","_law_many","_law_special"]:List Str).Nodup by decide +kernel)) (kaw (pgn (i:=2) (show(["_law_kind","_law_price","_law_many","_law_special"]:List Str).Nodup by decide +kernel)) (kaw (pgn (i:=3) (show(["_law_kind","_law_price","_law_many","_law_special"]:List Str).Nodup by decide +kernel)) kba))))) (fun _ _ _ _=>(kbI (W.QF.mk' W.qf) Vt hr rfl W.qf.m W.QF.b .nil pass0 (kaa (pv 0) (kaa (pv 1) (kaa (pv 2) (kaa (pv 3) kae)))))) (pgn (i:=1) Zo.nd))
   (kag (kan (kbI (W.QI.mk' W.qg) Vu hr rfl W.qg.m W.QI.b .nil pass0 (kaa (pv 1) (kaa (pe_ix (r:=rIxT K) kaB (pv 0) kaf (fun _ _=>rfl)) (kaa (pe_ix (r:=rIxT K) kaB (pv 0) kaf (fun _ _=>rfl)) kae)))))),?_⟩
  have hlen:=hR.len
  refine⟨_,rfl,p,_,_,_,rfl,rfl,SqT.of hp,rfl,lp,rfl,⟨_,SqL.of hlp⟩,kaV (xs:=ra.map V.ref) (fun i σ zs H'=>Same H H'∧∃ns:List Addr,zs=ns.map V.ref∧Lines d.qf H' ns (B.rs.take i)∧∃v0 v1 v2 v3:Option V,σ=[v0,v1,v2,v3])
   ⟨Same.refl _,[],rfl, .nil,none,none,none,none,rfl⟩ (by rw[Uu,hlen];exact UI (kap (by omega))) ?_ ?_ ?_⟩
  ·rintro i σ zs H' hi ⟨s,ns,rfl,hn,_⟩
   exact⟨SqL.of (s _ _ hlp),by rw[Uu,hn.len,UP];rw[Uu] at hi;omega⟩
  ·rintro i y σ zs H4 hy ⟨s4,ns,rfl,hn,v0,v1,v2,v3,rfl⟩
   obtain⟨a,ea,rfl⟩:=kbZ hy
   obtain⟨r,er,hra⟩:=hR.at ea
   refine⟨a,_,rfl,SqT.of (s4 _ _ hra),rfl,_,_,rfl,_,_,rfl,_,_,rfl,_,_,rfl,rfl,_,rfl,_,rfl,_,rfl,_,rfl,kkI (r:=r) fun H6 y s6 fy hy=>?_⟩
   refine⟨s4.trans s6,ns++[y],by rw[UH];rfl,?_,_,_,_,_,rfl⟩
   rw[take_snoc er]
   exact(hn.same s6).snoc hy
  rintro σ zs H4 ⟨s4,ns,rfl,hn,v0,v1,v2,v3,rfl⟩ q hq
  rw[Uu,hlen,U0] at hn
  generalize hg5:upd H4 q _=H5
  obtain⟨n5,e5⟩:=kaI hg5 hq
  have s5:=s4.trans n5
  refine⟨_,rfl,_,rfl,p,_,_,_,rfl,rfl,SqT.of (s5 _ _ hp),rfl,_,rfl,p,_,_,_,rfl,rfl,SqT.of (s5 _ _ hp),rfl,kkK (SqL.of e5) fun H6 y l' s6 fy fl' hl' hy=>?_⟩
  exact kk H6 y (s5.trans s6) (none_of s5 fy) ⟨l',ns,hy,hl',hn.same (n5.trans s6)⟩
noncomputable def mans(rs:List Row):List Nat:=rs.map fun r=>r.mn.toNat
theorem kfq:∀(rs:List Row)(k:Nat),((rs.zipIdx k).map fun p=>Uw p.1.mn.toNat p.2).flatten.length=(mans rs).sum
 |[],k=>rfl
 |r::rs,k=>by
  rw[Nb,UK,U1,UY,Jn,kfq rs (k+1)]
  rfl
theorem kjg(rs:List Row):(ownN rs).length=(mans rs).sum:=kfq rs 0
theorem kgV:∀{rs:List Row},(∀r∈rs,0≤r.mn)→(rs.map fun r=>r.mn).sum=(((mans rs).sum:Nat):Int)
 |[],_=>rfl
 |r::rs,h=>by
  have h0:=h r UW
  have ih:=kgV (rs:=rs) fun r hr=>h r (UV _ hr)
  unfold mans at ih⊢
  rw[UK,UK,NI,NI,ih]
  omega
theorem at5{i:Int}(h0:0≤i)(h5:i<5):∃m:Nat,atI [V.int 1, .int 2, .int 3, .int 4, .int 2] i=some (.int ((m:Nat):Int))∧m≤4:=by
 have h:i=0∨i=1∨i=2∨i=3∨i=4:=by omega
 rcases h with rfl|rfl|rfl|rfl|rfl
 ·exact⟨1,rfl,by decide⟩
 ·exact⟨2,rfl,by decide⟩
 ·exact⟨3,rfl,by decide⟩
 ·exact⟨4,rfl,by decide⟩
 ·exact⟨2,rfl,by decide⟩
theorem P2.tk{α β:Type}{R: α→β→Prop}:∀{as:List α}{bs:List β}{n:Nat},P2 R as bs→P2 R (as.take n) (bs.take n)
 |_,_,0,_=>by rw[NL,NL];exact .nil
 |_,_,n+1, .nil=>.nil
 |_,_,n+1, .cons h t=>.cons h (P2.tk t)
noncomputable def RowK(n:Nat)(r:Row):Prop:=r.Ok∧(0≤r.kd∧r.kd<(n:Int))∧r.mn≤20
inductive kjX (vs:List V) (H:Hp) (Q:VK) (E_:XK):Prop
 |ct (c:Int)(n:Nat)(g:Bool)(_:vs=[.int c,iV n, .bl g])(_:0<n)(_:∀(H':Hp)(p lp:Addr)(ra:List Addr)(B:Bask),Same H H'→H lp=none→H' p=some (.tup [.ref lp, .int B.cg, .bl B.m])→H' lp=some (.lst (ra.map V.ref))→P2 (fun a r=>RowT H' a r) ra B.rs→B.rs.length≤12→(∀r∈B.rs,r.Ok)→(∀r∈B.rs,0≤r.kd∧r.kd<(n:Int))→0≤B.cg∧B.cg≤1000000000000→(ownN B.rs).length<64→Q (.ref p) H'):kjX vs H Q E_
theorem qz:kao ["_law_cell_here","_law_kinds","_law_great","_law_head","_law_lines","_law_k","_law_drawn","_law_many","_law_special"] ["_law_cell_here","_law_kinds","_law_great"] (kah kb4):=by ac_rfl
theorem keg(W:WB K mg d base):FO P w W 2 d.XW d.XX ["_law_cell_here","_law_kinds","_law_great"] kjX:=by
 exists W.YT.F,qz
 ·obtain⟨c,n,g,rfl,hn,kk⟩:=h
  exists ql,kbj,W
  exists qH,kcW,W
  refine⟨_,kab (psl (i:=3) qz.nd (pcl ql hr W.qp (kaa (pv 0) (kaa kaf kae))))
   (kab (psl (i:=4) qz.nd (kaM kae))
   (kab (kbe PassesOwn.never rfl (kcR rfl W.B.range (kaa (pe_ix (r:=rIxL K) kay (kaM (kaa kaf (kaa kaf (kaa kaf (kaa kaf (kaa kaf kae)))))) (pe_op kaC (pv 3) kaf) (fun _ _=>rfl)) kae)) (pgn (i:=5) qz.nd)
   (kab (psl (i:=6) qz.nd (pcl ql hr W.qp (kaa (pv 0) (kaa (pe_op kbs kaf (pv 5)) kae))))
   (kab (psl (i:=7) qz.nd (pe_ix (r:=rIxL K) kay (kaM (kaa (pe_op kaC (pe_op kaH (pv 6) kaf) kaf) (kaa kaf kae))) (kbr kiT (by rfl) W.B.int b_int (kaa (kbc op_eq (pe_op kaC (pv 6) kaf) kaf (kav _)) kae)) (fun _ _=>rfl)))
   (kab (psl (i:=8) qz.nd (pe_ix (r:=rIxL K) kay (kaM (kaa kaT (kaa kaT (kaa (pcl qH hr W.qD (kaa (pe_op kaH (pv 6) kaf) (kaa (pv 2) kae))) kae)))) (pe_op kaC (pe_op kaH (pv 6) kaf) kaf) (fun _ _=>rfl)))
   (kag (ka3 (pe_bm Jd Jr Js ka4 (pv 4) (kaa (kbH (kaa (pe_op kaC (pe_op kaH (pv 6) kaf) (pv 1)) (kaa (pcl qH hr W.qD (kaa (pe_op kaH (pv 6) kaf) (kaa (pv 2) kae))) (kaa (pv 7) (kaa (pv 8) kae))))) kae))))))))
   (kab (kcm (ps_if (kar op_gt (kat (r:=rSum K) (kb8 rfl) (by rfl) W.B.sum b_sum (kaa (kbi (N:=["_law_line"]) (CompScope.plain rfl (by decide +kernel) (by decide +kernel) (by decide +kernel) (nd1 _)) rfl (kaF (K:=K) (pv 4)) (fun _ _ _ _=>pgn (i:=0) (nd1 _)) (fun _ _ _ _=>(pe_ix (r:=rIxT K) kaB (pv 0) kaf (fun _ _=>rfl)))) kae)) kaf (kav _)) (kag (psl (i:=4) qz.nd (kcy (r:=rSlL K) kdb (pv 4) keR (kcn kaf)))) (kas)))
   (kag (kan (kbH (kaa (pv 4) (kaa (pcl qH hr W.qD (kaa (pe_op kaH (pv 3) kaf) (kaa (pv 2) kae))) (kaa (kbc op_eq (pe_op kaC (pe_op kaH (pv 3) kaf) kaf) kaf (kav _)) kae))))))))),?_⟩
  exists Y4
  refine⟨_,rfl,c,21,rfl,by decide,by decide,fun hd hd0 hd1=>?_⟩
  symm
  exists Y4
  refine⟨by decide,fun q fq=>?_⟩
  generalize hg1:upd H q _=H1
  obtain⟨n1,(e1:H1 q=some (.lst (([]:List Addr).map V.ref)))⟩:=kaI hg1 fq
  symm
  exists Y4
  refine⟨(by show 5≤sizeLine;decide),fun l hl=>?_⟩
  generalize hg2:upd H1 l _=H2
  obtain⟨n2,e2⟩:=kaI hg2 hl
  obtain⟨m,em,hm⟩:=at5 (i:=hd%5) (by omega) (by omega)
  symm
  exists Y4
  refine⟨_,rfl,_,_,rfl,rfl,(by show(0:Int)<5;decide),l,_,_,_,rfl,rfl,SqL.of e2,em,((m:Nat):Int),rfl,by omega,by omega,kc4 (fun i σ H'=>Same H H'∧∃(ra:List Addr)(rs:List Row)(v5 v6 v7 v8:Option V),H' q=some (.lst (ra.map V.ref))∧P2 (fun a r=>RowT H' a r) ra rs∧rs.length=i∧(∀r∈rs,RowK n r)∧σ=[some (.int c),some (iV n),some (.bl g),some (.int hd),some (.ref q),v5,v6,v7,v8])
   ⟨n1.trans n2,[],[],none,none,none,none,n2 _ _ e1, .nil,rfl,(fun r hr=>by cases hr),rfl⟩ ?_ ?_⟩
  ·rintro i σ H' hi ⟨sI,ra,rs,v5,v6,v7,v8,eq,hR,hrl,hK,rfl⟩
   have hi4:i<4:=by
    have:i<m:=by simpa using hi
    omega
   rw[Int.zero_add]
   symm
   exists Y6
   refine⟨_,rfl,_,rfl,_,_,rfl,rfl,c,22+(i:Int),rfl,by omega,by omega,fun dr dr0 dr1=>?_⟩
   nofun
   exists Y6
   refine⟨_,rfl,_,_,rfl,rfl,⟨by decide,by decide⟩,_,_,rfl,rfl,(by show(0:Int)<5;decide),(by show 2≤sizeLine;decide),fun l1 hl1=>?_⟩
   generalize hg3:upd H' l1 _=H3
   obtain⟨n3,e3⟩:=kaI hg3 hl1
   nofun
   exists Y6
   refine⟨_,rfl,_,_,rfl,rfl,(by show(0:Int)<8;decide),rfl, .inr ⟨_,rfl,?_⟩⟩
   generalize decide (V.int (dr%8)=V.int 7)=dm
   obtain⟨mn,emn,hmn⟩:∃mn:Int,atI [V.int (dr/8%5),V.int 20] (if dm=true then(1:Int) else 0)=some (.int mn)∧0≤mn∧mn≤20:=by
    cases dm with
    |true=>exact⟨20,rfl,by decide,by decide⟩
    |false=>exact⟨dr/8%5,rfl,by omega,by omega⟩
   nofun
   exists Y6
   refine⟨l1,_,_,_,rfl,rfl,SqL.of e3,emn,?_⟩
   nofun
   exists Y6
   refine⟨_,rfl,_,_,rfl,rfl,⟨by decide,by decide⟩,_,rfl,_,g,rfl,fun H4 cz s4 cz0 cz1=>⟨(by show 3≤sizeLine;decide),fun l2 hl2=>?_⟩⟩
   generalize hg5:upd H4 l2 _=H5
   obtain⟨n5,e5⟩:=kaI hg5 hl2
   obtain⟨v,ev,hv⟩:=at3N (a:=V.non) (b:=V.non) (c:=V.int cz) (i:=dr/40%3) (by omega) (by omega)
   obtain⟨ex,rfl,hex⟩:∃ex:Option Int,v=oV ex∧∀z,ex=some z→0≤z∧z≤1000000000000:=by
    rcases hv with rfl|rfl|rfl
    ·exact⟨none,rfl,fun z h=>by cases h⟩
    ·exact⟨none,rfl,fun z h=>by cases h⟩
    ·exact⟨some cz,rfl,fun z h=>by cases h;exact⟨cz0,cz1⟩⟩
   nofun
   exists Y6
   refine⟨_,rfl,_,_,rfl,rfl,⟨by decide,by decide⟩,_,_,rfl,rfl,(by show(0:Int)<3;decide),l2,_,_,_,rfl,rfl,SqL.of e5,ev,?_⟩
   have s35:=(n3.trans s4).trans n5
   have eq5:=s35 _ _ eq
   nofun
   exists Y6
   refine⟨_,rfl, .inl ⟨rfl,_,SqL.of eq5⟩,_,rfl,_,_,rfl,rfl,⟨by decide,by decide⟩,_,rfl,_,_,rfl,rfl,(by show(0:Int)<((n:Nat):Int);omega),_,rfl,_,_,rfl,rfl,⟨by decide,by decide⟩,_,rfl,_,g,rfl,fun H6 pz s6 p0 p1=>⟨_,rfl,_,rfl,(by show 4≤sizeLine;decide),fun tp htp=>?_⟩⟩
   generalize hg7:upd H6 tp _=H7
   obtain⟨n7,e7⟩:=kaI hg7 htp
   have s37:=(s35.trans s6).trans n7
   have eq7:=s37 _ _ eq
   nofun
   exists Y6
   refine⟨q,_,_,rfl,rfl,eq7,kap (by rw[Uu,hR.len];omega),?_⟩
   have b8:But q H7 (upd H7 q (.lst (ra.map V.ref++[V.ref tp]))):=kax (nx eq7)
   nofun
   exists Y6
   refine⟨kaq fq (sI.trans s37) (nx eq7),ra++[tp],rs++[⟨dr/120%(n:Int),pz,mn,ex⟩],_,_,_,_,?_,?_,by rw[UY,hrl];rfl,?_,rfl⟩
   ·rw[kad,UH]
    rfl
   ·refine P2.snoc (P2.mono hR fun a r h=>?_) ?_
    ·have h7:=s37 _ _ h
     nofun
     exact b8 _ _ (ne_of h7 eq7 (by intro z;cases z)) h7
    ·exact b8 _ _ (ne_of e7 eq7 (by intro z;cases z)) e7
   ·intro r hr
    rcases Jg.mp hr with h|h
    ·exact hK r h
    ·have e:r=⟨dr/120%(n:Int),pz,mn,ex⟩:=by simpa using h
     subst e
     have hn':(0:Int)<(n:Int):=by omega
     nofun
     exact⟨⟨p0,p1,hmn.1,Int.le_trans hmn.2 (by decide),hex⟩,⟨Int.emod_nonneg _ (by omega),Int.emod_lt_of_pos _ hn'⟩,hmn.2⟩
  ·rintro σ H' ⟨sI,ra,rs,v5,v6,v7,v8,eq,hR,hrl,hK,rfl⟩
   have hl4:rs.length≤4:=by
    have:m=rs.length:=by simpa using hrl.symm
    omega
   have hm0:∀r∈rs,0≤r.mn:=fun r hr=>(hK r hr).1.mn0
   nofun
   exists Y6
   refine⟨fun σ H''=>Same H' H''∧∃(lq:Addr)(ra':List Addr)(rs':List Row),H lq=none∧H'' lq=some (.lst (ra'.map V.ref))∧P2 (fun a r=>RowT H'' a r) ra' rs'∧rs'.length≤4∧(∀r∈rs',RowK n r)∧(mans rs').sum≤30∧σ=[some (.int c),some (iV n),some (.bl g),some (.int hd),some (.ref lq),v5,v6,v7,v8],?_,?_⟩
   ·refine⟨_,rfl,q,rfl,⟨_,SqL.of eq⟩,kaV (xs:=ra.map V.ref) (fun i σ ys H''=>H''=H'∧ys=((rs.take i).map fun r=>r.mn).map V.int∧∃v,σ=[v]) ⟨rfl,rfl,none,rfl⟩ (by rw[Uu,hR.len];exact UI (kap (by omega))) ?_ ?_ ?_⟩
    ·rintro i σ ys H'' hi ⟨rfl,rfl,_⟩
     nofun
     exact⟨SqL.of eq,by rw[Uu,Uu,UP];rw[Uu,hR.len] at hi;omega⟩
    ·rintro i y σ ys H'' hy ⟨rfl,rfl,v,rfl⟩
     obtain⟨a,ea,rfl⟩:=kbZ hy
     obtain⟨r,er,hra⟩:=hR.at ea
     nofun
     exists Y10
     refine⟨_,rfl,a,_,_,_,rfl,rfl,SqT.of hra,rfl,rfl,?_,_,rfl⟩
     rw[take_snoc er,UH,UH]
     rfl
    ·rintro σ ys H'' ⟨rfl,rfl,v,rfl⟩ D hD
     rw[Uu,hR.len,U0]
     generalize hg3:upd H'' D _=H3
     obtain⟨n3,e3⟩:=kaI hg3 hD
     exists 4
     exists Y10
     refine⟨D,_,rfl,SqL.of e3,_,_,rfl,rfl,_,rfl,?_⟩
     rw[kgV hm0]
     by_cases hc:(((mans rs).sum:Nat):Int) > 30
     ·rw[decide_eq_true hc]
      refine iteT ?_
      exists 4
      exists Y12
      refine⟨_,rfl,_,rfl,q,_,rfl,SqL.of (n3 _ _ eq),fun q2 hq2=>?_⟩
      rw[show(1:Int)=((1:Nat):Int) from rfl,kg3,←JH]
      generalize hg4:upd H3 q2 _=H4
      obtain⟨n4,e4⟩:=kaI hg4 hq2
      have s34:=n3.trans n4
      have hK1:∀r∈rs.take 1,RowK n r:=fun r hr=>hK r (JZ hr)
      try first|apply Y12|apply Y10|apply Y6|apply Y4
      exists Y12
      refine⟨s34,q2,ra.take 1,rs.take 1,(sI.trans n3).free hq2,e4,P2.tk (P2.mono hR fun a r h=>s34 _ _ h),by rw[UP];omega,hK1,?_,rfl⟩
      cases rs with
      |nil=>simp[mans]
      |cons r rs=>
       have:=(hK r UW).2.2
       simp only[List.take_succ_cons,NL,mans,UK,JX,NI,List.sum_nil]
       omega
     ·rw[decide_eq_false hc]
      refine iteF ?_
      try first|apply Y12|apply Y10|apply Y6|apply Y4
      exact⟨n3,q,ra,rs,fq,n3 _ _ eq,P2.mono hR (fun a r h=>n3 _ _ h),hl4,hK,by omega,rfl⟩
   rintro σ H2' ⟨s2',lq,ra',rs',flq,eq',hR',hl',hK',hs',rfl⟩
   nofun
   exists Y6
   refine⟨_,rfl,_,rfl,_,_,rfl,rfl,⟨by decide,by decide⟩,_,rfl,_,g,rfl,fun H4 cz s4 cz0 cz1=>?_⟩
   nofun
   exists Y6
   refine⟨_,rfl,_,_,rfl,rfl,⟨by decide,by decide⟩,_,_,rfl,rfl,(by show(0:Int)<3;decide),rfl,(by show 3≤sizeLine;decide),fun u fu=>?_⟩
   have fin:∀b:Bool,∀H5,Same H4 H5→H5 u=some (.tup [.ref lq, .int cz, .bl b])→Q (.ref u) H5:=fun b H5 s5 e5=>kk H5 u lq ra' ⟨rs',cz,b⟩ (((sI.trans s2').trans s4).trans s5) flq e5 ((s4.trans s5) _ _ eq') (P2.mono hR' fun a r h=>(s4.trans s5) _ _ h) (by show rs'.length≤12;omega) (fun r hr=>(hK' r hr).1) (fun r hr=>(hK' r hr).2.1) ⟨cz0,cz1⟩ (by show(ownN rs').length<64;rw[kjg];omega)
   nofun
   exact fin _ _ (kak fu) kad
inductive khM (vs:List V) (H:Hp) (Q:VK) (E_:XK):Prop
 |ct (c:Int)(m:Nat)(_:vs=[.int c,iV m])(_:0<m)(_:∀(H':Hp)(o:Addr)(order:List Nat),Same H H'→H o=none→H' o=some (.lst (order.map iV))→(∀n∈order,n<m)→order.length≤8→Q (.ref o) H'):khM vs H Q E_
theorem keI:kao ["_law_cell_here","_law_many"] ["_law_cell_here","_law_many"] (kah kbQ):=by ac_rfl
theorem keV(W:WB K mg d base):FO P w W 2 d.X0 d.X1 ["_law_cell_here","_law_many"] khM:=by
 exists W.YV.F,keI
 ·obtain⟨c,m,rfl,hm,kk⟩:=h
  exists ql,kbj,W
  refine⟨_,kag (kan (kbi (N:=["_law_j","_law_cell_here","_law_many"]) (CompScope.of (N:=["_law_j","_law_cell_here","_law_many"]) (cap:=[none,some 0,some 1]) (kah kbQ).names ["_law_cell_here","_law_many"] rfl rfl (by decide +kernel)) rfl (kcR rfl W.B.range (kaa (pe_op kaC (pcl ql hr W.qp (kaa (pv 0) (kaa kaf kae))) kaf) kae)) (fun _ _ _ _=>pgn (i:=0) (show(["_law_j","_law_cell_here","_law_many"]:List Str).Nodup by decide +kernel)) (fun _ _ _ _=>(pe_op kaC (pcl ql hr W.qp (kaa (pv 1) (kaa (pe_op kbs kaf (pv 0)) kae))) (pv 2))))),?_⟩
  exists Y4
  refine⟨_,rfl,c,39,rfl,by decide,by decide,fun d d0 d1=>⟨_,_,rfl,rfl,(by show(0:Int)<9;decide),_,rfl,by omega,by omega,?_⟩⟩
  have hd:(d%9).toNat≤8:=by omega
  generalize (d%9).toNat=n at *
  symm
  refine khp (fun i σ ys H'=>H'=H∧∃(order:List Nat)(v0:Option V),ys=order.map iV∧order.length=i∧(∀n∈order,n<m)∧σ=[v0,some (.int c),some (iV m)])
   ⟨rfl,[],none,rfl,rfl,(fun n h=>by simp at h),rfl⟩ (UI (kap (by omega))) (fun i σ ys H' hi h=>by obtain⟨_,o,v0,rfl,hl,_⟩:=h;rw[Uu];exact hl) ?_ ?_
  ·rintro i σ ys H' hi ⟨rfl,order,v0,rfl,hl,hlt,rfl⟩
   rw[Int.zero_add]
   symm
   exists Y6
   refine⟨_,rfl,_,rfl,_,_,rfl,rfl,c,40+(i:Int),rfl,by omega,by omega,fun z z0 z1=>?_⟩
   have e0:0≤z%(m:Int):=Int.emod_nonneg _ (by omega)
   have e1:z%(m:Int)<(m:Int):=Int.emod_lt_of_pos _ (by omega)
   nofun
   exists Y6
   refine⟨_,rfl,_,_,rfl,rfl,(by show(0:Int)<(m:Int);omega),rfl,order++[(z%(m:Int)).toNat],_,?_,by simp[hl],fun n hn=>?_,rfl⟩
   ·rw[UH]
    show _=_++[V.int (((z%(m:Int)).toNat:Nat):Int)]
    rw[Int.toNat_of_nonneg e0]
   ·rcases Jg.mp hn with h|h
    ·exact hlt n h
    ·have:n=(z%(m:Int)).toNat:=by simpa using h
     omega
  ·rintro σ ys H' ⟨rfl,order,v0,rfl,hl,hlt,rfl⟩ D hD
   nofun
   exact kk _ D order (kak hD) hD kad hlt (by omega)
noncomputable def stD(p o m:Addr):List (Key×V):=[(.inr "prices", .ref p),(.inr "owners", .ref o),(.inr "marked", .ref m)]
structure StR (H:Hp) (x p o m:Addr) (pr:List Int) (ow:List Nat) (mk:List Bool):Prop where
 hx:H x=some (.dK (stD p o m))
 hp:H p=some (.lst (pr.map V.int))
 ho:H o=some (.lst (ow.map iV))
 hm:H m=some (.lst (mk.map V.bl))
 po:p≠o
 pm:p≠m
 om:o≠m
section
variable {H H':Hp} {x p o m:Addr} {pr:List Int} {ow:List Nat} {mk:List Bool}
theorem StR.gp(h:StR H x p o m pr ow mk):DGet H x (.str "prices") (some (.ref p)):=DGet.k (k:=.inr "prices") h.hx
theorem StR.go(h:StR H x p o m pr ow mk):DGet H x (.str "owners") (some (.ref o)):=DGet.k (k:=.inr "owners") h.hx
theorem StR.gm(h:StR H x p o m pr ow mk):DGet H x (.str "marked") (some (.ref m)):=DGet.k (k:=.inr "marked") h.hx
theorem StR.same(h:StR H x p o m pr ow mk)(s:Same H H'):StR H' x p o m pr ow mk:=⟨s _ _ h.hx,s _ _ h.hp,s _ _ h.ho,s _ _ h.hm,h.po,h.pm,h.om⟩
theorem StR.setP(h:StR H x p o m pr ow mk)(l:List Int):StR (upd H p (.lst (l.map V.int))) x p o m l ow mk:=
 ⟨by rw[kaj (ne_of h.hx h.hp (by intro z;cases z))];exact h.hx,kad,by rw[kaj h.po.symm];exact h.ho,by rw[kaj h.pm.symm];exact h.hm,h.po,h.pm,h.om⟩
theorem StR.setO(h:StR H x p o m pr ow mk)(l:List Nat):StR (upd H o (.lst (l.map iV))) x p o m pr l mk:=
 ⟨by rw[kaj (ne_of h.hx h.ho (by intro z;cases z))];exact h.hx,by rw[kaj h.po];exact h.hp,kad,by rw[kaj h.om.symm];exact h.hm,h.po,h.pm,h.om⟩
theorem StR.setM(h:StR H x p o m pr ow mk)(l:List Bool):StR (upd H m (.lst (l.map V.bl))) x p o m pr ow l:=
 ⟨by rw[kaj (ne_of h.hx h.hm (by intro z;cases z))];exact h.hx,by rw[kaj h.pm];exact h.hp,by rw[kaj h.om];exact h.ho,kad,h.po,h.pm,h.om⟩
end
noncomputable def St21(H:Hp)(x p o m:Addr)(S:Stnd):Prop:=StR H x p o m S.pr S.ow S.mkd
noncomputable def BaskD(H:Hp)(t:Addr)(B:Bask):Prop:=∃(lp:Addr)(ra:List Addr),H t=some (.tup [.ref lp, .int B.cg, .bl B.m])∧H lp=some (.lst (ra.map V.ref))∧P2 (fun a r=>RowT H a r) ra B.rs
theorem BaskD.same{H H':Hp}{t:Addr}{B:Bask}(s:Same H H'):BaskD H t B→BaskD H' t B:=fun⟨lp,ra,h1,h2,h3⟩=>⟨lp,ra,s _ _ h1,s _ _ h2,h3.mono fun _ _ h=>s _ _ h⟩
theorem kib(rs:List Row)(r:Row):ownN (rs++[r])=ownN rs++Uw r.mn.toNat rs.length:=by
 unfold ownN
 rw[List.zipIdx_append,UH,Nc]
 simp
inductive kgA (vs:List V) (H:Hp) (Q:VK) (E_:XK):Prop
 |ct (t:Addr)(B:Bask)(_:vs=[.ref t])(_:BaskD H t B)(_:(∀r∈B.rs,r.Ok))(_:B.rs.length≤12)(_:∀(H':Hp)(x p o m:Addr),Same H H'→H p=none→H o=none→H m=none→St21 H' x p o m (stnd0 B)→Q (.ref x) H'):kgA vs H Q E_
theorem qT:kao ["_law_told","_law_state","_law_k","_law_line","_law_piece"] ["_law_told"] (kah kch):=by ac_rfl
theorem kcX(W:WB K mg d base):FO P w W 1 d.X6 d.X7 ["_law_told"] kgA:=by
 exists W.Qv.F,qT
 ·obtain⟨t,B,rfl,⟨lp,ra,ht,hlp,hR⟩,hok,h12,kk⟩:=h
  refine⟨_,kab (psl (i:=1) qT.nd (kh7 (kcx kau (kaM kae) (kcx kau (kaM kae) (kcx kau (kbi (N:=["_law_line"]) (CompScope.plain rfl (by decide +kernel) (by decide +kernel) (by decide +kernel) (nd1 _)) rfl (kaF (K:=K) (pe_ix (r:=rIxT K) kaB (pv 0) kaf (fun _ _=>rfl))) (fun _ _ _ _=>pgn (i:=0) (nd1 _)) (fun _ _ _ _=>pe_bl)) kh3))) rfl rfl (fun z=>nomatch z) (by decide)))
   (kab (kbe PassesOwn.never rfl (kdR rfl W.B.enum (kaa (pe_ix (r:=rIxT K) kaB (pv 0) kaf (fun _ _=>rfl)) kae)) (kbb (K:=K) (n:=2) rfl (kaw (pgn (i:=2) qT.nd) (kaw (pgn (i:=3) qT.nd) kba)))
   (kag (kbe PassesOwn.never rfl (kcR rfl W.B.range (kaa (pe_ix (r:=rIxT K) kaB (pv 3) kaf (fun _ _=>rfl)) kae)) (pgn (i:=4) qT.nd)
   (kab (ka3 (pe_bm Jd Jr Js ka4 (kaG (hu_of hr) (pv 1) kau (fun _ _=>rfl)) (kaa (pv 2) kae)))
   (kag (ps_if (PW.pt (ka8 (kaS (pe_ix (r:=rIxT K) kaB (pv 0) kaf (fun _ _=>rfl))) (ka0 (kar kb5 (pe_ix (r:=rIxT K) kaB (pv 3) kaf (fun _ _=>rfl)) kaT (kav _))))) (kag (ka3 (pe_bm Jd Jr Js ka4 (kaG (hu_of hr) (pv 1) kau (fun _ _=>rfl)) (kaa (pe_ix (r:=rIxT K) kaB (pv 3) kaf (fun _ _=>rfl)) kae)))) (kag (ka3 (pe_bm Jd Jr Js ka4 (kaG (hu_of hr) (pv 1) kau (fun _ _=>rfl)) (kaa (pe_ix (r:=rIxT K) kaB (pv 3) kaf (fun _ _=>rfl)) kae))))))))))
   (kag (kan (pv 1)))),?_⟩
  have lra:=hR.len
  refine fun x fx=>?_
  exists H,x,H1,n1,e1,fx
  refine⟨by decide,fun p fp=>?_⟩
  exists H1,p,H2,n2,e2,fp
  refine⟨by decide,fun o fo=>?_⟩
  exists H2,o,H3,n3,e3,fo
  have s3:=(n1.trans n2).trans n3
  refine⟨_,rfl,t,_,_,_,rfl,rfl,SqT.of (s3 _ _ ht),rfl,lp,rfl,⟨_,SqL.of (s3 _ _ hlp)⟩,kaV (xs:=ra.map V.ref) (fun i σ ys H''=>H''=H3∧ys=(Uw i false).map V.bl∧∃v,σ=[v]) ⟨rfl,rfl,none,rfl⟩ (by rw[Uu];exact UI (kap (by omega))) ?_ ?_ ?_⟩
  ·rintro i σ ys H'' hi ⟨rfl,rfl,_⟩
   exact⟨SqL.of (s3 _ _ hlp),by simp⟩
  ·rintro i y σ ys H'' hy ⟨rfl,rfl,v,rfl⟩
   exact⟨rfl,by rw[JM];simp,_,rfl⟩
  rintro σ ys H'' ⟨rfl,rfl,v,rfl⟩ m fm
  exists H'',m,H4,n4,e4,fm
  have s34:=s3.trans n4
  have ex4:H4 x=some (.dK []):=((n2.trans n3).trans n4) _ _ e1
  refine⟨ex4,stD p o m,rfl,(by show 3≤15;decide),?_⟩
  have em:kd2 [] (stD p o m)=stD p o m:=rfl
  rw[em]
  have fp':H p=none:=n1.free fp
  have fo':H o=none:=(n1.trans n2).free fo
  have fm':H m=none:=s3.free fm
  have e4p:H4 p=some (.lst (([]:List Int).map V.int)):=(n3.trans n4) _ _ e2
  have e4o:H4 o=some (.lst (([]:List Nat).map iV)):=n4 _ _ e3
  have hS0:StR (upd H4 x (.dK (stD p o m))) x p o m [] [] (Uw (ra.map V.ref).length false):=
   ⟨kad,by rw[kaj (ne_of e4p ex4 (by intro z;cases z))];exact e4p,by rw[kaj (ne_of e4o ex4 (by intro z;cases z))];exact e4o,by rw[kaj (ne_of e4 ex4 (by intro z;cases z))];exact e4,kai e2 fo,kai (n3 _ _ e2) fm,kai e3 fm⟩
  have s5:Same H (upd H4 x (.dK (stD p o m))):=kaq fx s34 (nx ex4)
  generalize upd H4 x (.dK (stD p o m))=H5 at *
  rw[Uu,lra] at hS0
  clear e1 e2 e3 e4 n1 n2 n3 n4 s3 s34 e4p e4o ex4 fp fo fm fx em
  refine⟨_,rfl,t,_,_,_,rfl,rfl,SqT.of (s5 _ _ ht),rfl,lp,_,rfl,s5 _ _ hlp,kdG (xs:=ra.map V.ref) (fun i σ H'=>Same H H'∧StR H' x p o m (prs B.m (B.rs.take i)) (ownN (B.rs.take i)) (Uw B.rs.length false)∧∃v2 v3 v4:Option V,σ=[some (.ref t),some (.ref x),v2,v3,v4])
   ⟨s5,hS0,none,none,none,rfl⟩ (fun i σ H' _ h=>h.1 _ _ hlp) ?_ ?_⟩
  ·rintro i y q σ Hi hy ⟨si,hS,v2,v3,v4,rfl⟩ fq
   obtain⟨a,ea,rfl⟩:=kbZ hy
   obtain⟨r,er,hra⟩:=hR.at ea
   have hi:i<12:=by
    have:=at_lt er
    omega
   have rok:=hok r (UE er)
   exists Hi,q,H6,n6,e6,fq
   have s6:=si.trans n6
   have hS6:=hS.same n6
   have bd1:=kf4 B.m (B.rs.take i) fun r hr=>hok r (JZ hr)
   have bd2:(ownN (B.rs.take i)).length≤60*(B.rs.take i).length:=by rw[←kh0 B.m];exact bd1
   have ltk:(B.rs.take i).length=i:=by rw[UP];have:=at_lt er;omega
   have mn1:=rok.mn1
   have mn0:=rok.mn0
   refine⟨q,_,rfl,SqT.of e6,rfl,_,_,rfl,_,_,rfl,rfl,?_⟩
   refine⟨_,rfl,a,_,_,_,rfl,rfl,SqT.of (s6 _ _ hra),rfl,_,rfl,by omega,by omega,?_⟩
   refine kc4 (fun j σ H'=>Same H H'∧StR H' x p o m (prs B.m (B.rs.take i)++Uw j (prc B.m r)) (ownN (B.rs.take i)++Uw j i) (Uw B.rs.length false)∧∃v4:Option V,σ=[some (.ref t),some (.ref x),some (iV i),some (.ref a),v4])
    ⟨s6,by simpa using hS6,_,rfl⟩ ?_ ?_
   ·rintro j σ Hj hj ⟨sj,hSj,v4,rfl⟩
    have lo:((ownN (B.rs.take i)++Uw j i).map iV).length<sizeLine:=kap (by rw[Uu,UY,Jn];omega)
    have lq:((prs B.m (B.rs.take i)++Uw j (prc B.m r)).map V.int).length<sizeLine:=kap (by rw[Uu,UY,Jn];omega)
    refine⟨_,rfl,x,_,rfl,hSj.go, .inl ⟨rfl,_,SqL.of hSj.ho⟩,_,rfl,o,_,_,rfl,rfl,hSj.ho,lo,?_⟩
    rw[show(ownN (B.rs.take i)++Uw j i).map iV++[iV i]=(ownN (B.rs.take i)++Uw (j+1) i).map iV by rw[JM,←JG,UH (l₁:=ownN (B.rs.take i)++Uw j i)];rfl]
    have hSk:=hSj.setO (ownN (B.rs.take i)++Uw (j+1) i)
    have sk:Same H (upd Hj o (.lst ((ownN (B.rs.take i)++Uw (j+1) i).map iV))):=kaq fo' sj (nx hSj.ho)
    generalize upd Hj o (.lst ((ownN (B.rs.take i)++Uw (j+1) i).map iV))=Hk at *
    have fin:∀z:Int,z=prc B.m r→Same H (upd Hk p (.lst ((prs B.m (B.rs.take i)++Uw j (prc B.m r)).map V.int++[V.int z])))∧StR (upd Hk p (.lst ((prs B.m (B.rs.take i)++Uw j (prc B.m r)).map V.int++[V.int z]))) x p o m (prs B.m (B.rs.take i)++Uw (j+1) (prc B.m r)) (ownN (B.rs.take i)++Uw (j+1) i) (Uw B.rs.length false):=fun z ez=>by
     subst ez
     refine⟨kaq fp' sk (nx hSk.hp),?_⟩
     rw[show(prs B.m (B.rs.take i)++Uw j (prc B.m r)).map V.int++[V.int (prc B.m r)]=(prs B.m (B.rs.take i)++Uw (j+1) (prc B.m r)).map V.int by rw[JM,←JG,UH (l₁:=prs B.m (B.rs.take i)++Uw j (prc B.m r))];rfl]
     exact hSk.setP _
    have hrk:=sk _ _ hra
    refine⟨_,rfl,t,_,_,_,rfl,rfl,SqT.of (sk _ _ ht),rfl,B.m,rfl,?_⟩
    clear kk hS0 hS hS6 hSj
    generalize B.m=bm at *
    cases bm with
    |false=>
     have f:=fin r.pr rfl
     exact iteF ⟨_,rfl,x,_,rfl,hSk.gp, .inl ⟨rfl,_,SqL.of hSk.hp⟩,_,rfl,a,_,_,_,rfl,rfl,SqT.of hrk,rfl,p,_,_,rfl,rfl,hSk.hp,lq,f.1,f.2,_,rfl⟩
    | true=>
     refine iteT ⟨_,rfl,a,_,_,_,rfl,rfl,SqT.of hrk,rfl,rfl,_,rfl,?_⟩
     cases ee:r.ex with
     |none=>
      rw[show(!decide (oV none=V.non))=false from ker]
      have f:=fin r.pr (by unfold prc;rw[ee];rfl)
      exact iteF ⟨_,rfl,x,_,rfl,hSk.gp, .inl ⟨rfl,_,SqL.of hSk.hp⟩,_,rfl,a,_,_,_,rfl,rfl,SqT.of hrk,rfl,p,_,_,rfl,rfl,hSk.hp,lq,f.1,f.2,_,rfl⟩
     |some z=>
      rw[show(!decide (oV (some z)=V.non))=true from kfy z]
      have f:=fin z (by unfold prc;rw[ee];rfl)
      refine iteT ⟨_,rfl,x,_,rfl,hSk.gp, .inl ⟨rfl,_,SqL.of hSk.hp⟩,_,rfl,a,_,_,_,rfl,rfl,SqT.of hrk,rfl,p,_,_,rfl,rfl,hSk.hp,lq,?_⟩
      rw[ee]
      exact⟨f.1,f.2,_,rfl⟩
   ·rintro σ Hj ⟨sj,hSj,v4',rfl⟩
    refine⟨sj,?_,_,_,_,rfl⟩
    rw[take_snoc er,kgJ,kib,ltk]
    exact hSj
  ·rintro σ Hi ⟨si,hS,v2,v3,v4,rfl⟩
   refine⟨_,rfl,kk Hi x p o m si fp' fo' fm' ?_⟩
   rw[Uu,lra,U0] at hS
   exact hS
theorem Zp:kao ["_law_parents_here","_law_one","_law_other"] ["_law_parents_here","_law_one","_law_other"] (kah kce):=by ac_rfl
theorem keU(W:WB K mg d base):FO P w W 1 d.X8 d.X9 ["_law_parents_here","_law_one","_law_other"] (kfQ K):=by
 exists W.YY.F,Zp
 ·obtain⟨a,ps,one,other,rfl,hS,hg,ho,k⟩:=h
  refine⟨_,kab (kgI PassesOwn.never (PW.pt (ka8 (kar kb5 (pv 1) kaT (kav _)) (ka0 (kar op_ne (pv 1) (pv 2) (kav _)))))
   (kag (psl (i:=1) Zp.nd (pe_ix (r:=rIxL K) kay (pv 0) (pv 1) (fun _ _=>rfl)))))
   (kag (kan (kbc kb5 (pv 1) kaT (kav _)))),?_⟩
  refine kgr (fun σ H'=>∃o:Option Nat,σ=[some (.ref a),some (pV o),some (.int other)]∧H'=H∧(∀i,o=some i→i<ps.length)∧decide (other∈up ps one)=decide (other∈rest ps o))
   (fun σ _=>match σ with|[_,some (.int i),_]=>i.toNat+1|_=>0) ⟨some one,rfl,rfl,fun i e=>by cases e;exact ho,rfl⟩ ?_ ?_
  ·rintro σ H' ⟨o,rfl,rfl,hb,he⟩
   refine⟨_,rfl,rfl,_,rfl,?_⟩
   cases o with
   |none=>
    show if(!decide (V.non=V.non))=true then _ else _
    rw[ker]
    refine iteF ?_
    have e:decide (other∈up ps one)=false:=by rw[he];simp[Kin.rest]
    rw[e] at k
    refine⟨_,rfl,rfl,?_⟩
    show Q (.bl (!decide (V.non=V.non))) _
    rw[ker]
    exact k
   | some i=>
    show if(!decide (V.int i=V.non))=true then _ else _
    rw[kfy]
    refine iteT ?_
    have hi:=hb i rfl
    refine⟨_,rfl,_,rfl,rfl,_,rfl,?_⟩
    obtain⟨o,eo⟩:∃o,ps[i]?=some o:=⟨ps[i],by simp[hi]⟩
    by_cases h':i=other
    ·subst h'
     have e:decide (i∈up ps one)=true:=by
      rw[he]
      show decide (i∈up ps i)=true
      rw[up_eq hg eo]
      simp
     rw[e] at k
     rw[show(!decide (pV (some i)=V.int (i:Int)))=false by show(!decide (V.int i=V.int i))=false;simp]
     refine iteF ⟨_,rfl,rfl,?_⟩
     show Q (.bl (!decide (V.int i=V.non))) _
     rw[kfy]
     exact k
    ·rw[show(!decide (pV (some i)=V.int (other:Int)))=true by show(!decide (V.int i=V.int other))=true;rw[eq_int];simp[h']]
     refine iteT ⟨_,rfl,_,rfl,a,_,_,pV o,rfl,rfl,hS,kaQ (by simp[eo]),?_⟩
     refine⟨⟨o,rfl,rfl,fun j e=>?_,?_⟩,?_⟩
     ·subst e
      have:=hg i j eo
      omega
     ·rw[he]
      show decide (other∈up ps i)=_
      rw[up_eq hg eo]
      have:¬other=i:=fun z=>h' z.symm
      simp[this]
     ·cases o with
      |none=>exact Nat.succ_pos _
      |some j=>
       have:=hg i j eo
       show((j:Int)).toNat+1<((i:Int)).toNat+1
       omega
  ·rintro σ H' Q' Q'' hq ⟨v,h1,h2,b,e,h3⟩
   refine⟨v,h1,h2,b,e,?_⟩
   cases b with
   |false=>exact iteF (hq _ _ ((if_neg UB).mp h3))
   |true=>
    obtain⟨u,u1,u2,u3,u4,c,u5,u6⟩:=(if_pos rfl).mp h3
    exact iteT ⟨u,u1,u2,u3,u4,c,u5,hq _ _ u6⟩
theorem kil(so:Srt)(mt:Addr):atI (srtD so++[V.ref mt]) (((srtD so++[V.ref mt]).length:Nat)-1)=some (V.ref mt):=by cases so <;> rfl
inductive kjY (K:Uv) (vs:List V) (H:Hp) (Q:VK) (E_:XK):Prop
 |ct (v a t x p o m:Addr)(V:Vch)(ps:List (Option Nat))(B:Bask)(S:Stnd)(_:vs=[.ref v, .ref a, .ref t, .ref x])(_:VchD H v V)(_:SqL K H a (ps.map pV))(_:BaskD H t B)(_:St21 H x p o m S)(_:Wf ps B S)(_:∀(H':Hp)(q:Addr),Same H H'→H q=none→H' q=some (.lst ((abt ps (kds B) V.ms.kind V.ms.lone S).map iV))→Q (.ref q) H'):kjY K vs H Q E_
theorem qI:kao ["_law_voucher_here","_law_parents_here","_law_told","_law_state","_law_marks","_law_found","_law_piece","_law_owner","_law_fits"] ["_law_voucher_here","_law_parents_here","_law_told","_law_state"] (kah kck):=by ac_rfl
theorem keX(W:WB K mg d base):FO P w W 2 d.Ya d.Yb ["_law_voucher_here","_law_parents_here","_law_told","_law_state"] (kjY K):=by
 exists W.YZ.F,qI
 ·obtain⟨v,a,t,x,p,o,m,⟨so,M⟩,ps,B,S,rfl,⟨mt,hv,hmt⟩,hA,⟨lp,ra,ht,hlp,hR⟩,hS,wf,k⟩:=h
  exists Vv,keU,W
  refine⟨_,kab (psl (i:=4) qI.nd (pe_ix (r:=rIxT K) kaB (pv 0) (pe_op kbJ (kat (r:=kbz K) kaJ (by rfl) W.B.len b_len (kaa (pv 0) kae)) kaf) (fun _ _=>rfl)))
   (kab (psl (i:=5) qI.nd (kaM kae))
   (kab (kbe PassesOwn.never rfl (kdR rfl W.B.enum (kaa (kaG (hu_of hr) (pv 3) kau (fun _ _=>rfl)) kae)) (kbb (K:=K) (n:=2) rfl (kaw (pgn (i:=6) qI.nd) (kaw (pgn (i:=7) qI.nd) kba)))
   (kab (psl (i:=8) qI.nd (pe_or (kbc kdV (pe_ix (r:=rIxT K) kaB (pv 4) kaf (fun _ _=>rfl)) kaT (kav _)) (keo (pcl Vv hr W.YY (kaa (pv 1) (kaa (pe_ix (r:=rIxT K) kaB (pe_ix (r:=rIxL K) kay (pe_ix (r:=rIxT K) kaB (pv 2) kaf (fun _ _=>rfl)) (pv 7) (fun _ _=>rfl)) kaf (fun _ _=>rfl)) (kaa (pe_ix (r:=rIxT K) kaB (pv 4) kaf (fun _ _=>rfl)) kae)))))))
   (kag (ps_if (PW.pt (ka8 (kaS (pv 8)) (ka0 (kfo (PW.pt (ka8 (kaS (pe_ix (r:=rIxT K) kaB (pv 4) kaf (fun _ _=>rfl))) (ka0 (kaS (pe_ix (r:=rIxL K) kay (kaG (hu_of hr) (pv 3) kau (fun _ _=>rfl)) (pv 7) (fun _ _=>rfl)))))))))) (kag (ka3 (pe_bm Jd Jr Js ka4 (pv 5) (kaa (pv 6) kae)))) (kas)))))
   (kag (kan (pv 5))))),?_⟩
  obtain⟨kind,nd,mo,b1,b2,lone⟩:=M
  have lra:=hR.len
  refine⟨_,rfl,_,rfl,v,_,rfl, .inr (SqT.of hv),_,_,rfl,rfl,v,_,_,_,rfl,rfl,SqT.of hv,kil so mt,?_⟩
  refine⟨by decide,fun q fq=>?_⟩
  exists H,q,H1,n1,e1,fq
  have np:=wf.np
  refine⟨_,rfl,x,_,rfl,(hS.same n1).go,o,_,rfl,(hS.same n1).ho,kdG (xs:=S.ow.map iV) (fun i σ H'=>Same H H'∧H' q=some (.lst (((Uz i).filter fun i=>hits ps (kds B) kind lone S.mkd (S.ow.getD i 0)).map iV))∧∃v6 v7 v8:Option V,σ=[some (.ref v),some (.ref a),some (.ref t),some (.ref x),some (.ref mt),some (.ref q),v6,v7,v8])
   ⟨n1,e1,none,none,none,rfl⟩ (fun i σ H' _ h=>(hS.same h.1).ho) ?_ ?_⟩
  ·rintro i y tq σ Hi hy ⟨si,ei,v6,v7,v8,rfl⟩ ftq
   obtain⟨ln,eln,rfl⟩:=kbl hy
   have hi:=at_lt eln
   exists Hi,tq,H2,n2,e2,ftq
   have s2:=si.trans n2
   have hq2:=n2 _ _ ei
   have hS2:=hS.same s2
   have flen:((Uz i).filter fun i=>hits ps (kds B) kind lone S.mkd (S.ow.getD i 0)).length≤i:=by
    have:=Nd (fun i=>hits ps (kds B) kind lone S.mkd (S.ow.getD i 0)) (Uz i)
    simpa using this
   have hln:=wf.line eln
   obtain⟨r,er⟩:=at_of hln
   obtain⟨lx,elx⟩:=at_of (xs:=ra) (i:=ln) (by rw[lra];exact hln)
   have hlx:RowT H2 lx r:=s2 _ _ (hR.get elx er)
   have hkd:=wf.kd r (UE er)
   obtain⟨kn,ekn⟩:=Int.eq_ofNat_of_zero_le hkd.1
   have hkn:kn<ps.length:=by omega
   obtain⟨mv,emv⟩:=at_of (xs:=S.mkd) (i:=ln) (by rw[wf.lm];exact hln)
   have atM:atI (S.mkd.map V.bl) (ln:Int)=some (.bl mv):=kaQ (by rw[UD,emv];rfl)
   have sml:(((Uz i).filter fun i=>hits ps (kds B) kind lone S.mkd (S.ow.getD i 0)).map iV).length<sizeLine:=kap (by rw[Uu];omega)
   have ev:hits ps (kds B) kind lone S.mkd (S.ow.getD i 0)=(kHit ps kind kn&&(!lone|| !mv)):=by
    unfold hits
    have e1:S.ow.getD i 0=ln:=by rw[UF,eln];rfl
    have e2:S.mkd.getD ln false=mv:=by rw[UF,emv];rfl
    rw[e1,e2,kj9 er,ekn,Int.toNat_natCast]
   refine⟨tq,_,rfl,SqT.of e2,rfl,_,_,rfl,_,_,rfl,rfl,?_⟩
   have hmt2:=s2 _ _ hmt
   have no:hits ps (kds B) kind lone S.mkd (S.ow.getD i 0)=false→Same H H2∧H2 q=some (.lst (((Uz (i+1)).filter fun i=>hits ps (kds B) kind lone S.mkd (S.ow.getD i 0)).map iV)):=fun e=>⟨s2,by rw[ke7,e];simpa using hq2⟩
   have yes:hits ps (kds B) kind lone S.mkd (S.ow.getD i 0)=true→Same H (upd H2 q (.lst (((Uz i).filter fun i=>hits ps (kds B) kind lone S.mkd (S.ow.getD i 0)).map iV++[V.int (i:Nat)])))∧(upd H2 q (.lst (((Uz i).filter fun i=>hits ps (kds B) kind lone S.mkd (S.ow.getD i 0)).map iV++[V.int (i:Nat)]))) q=some (.lst (((Uz (i+1)).filter fun i=>hits ps (kds B) kind lone S.mkd (S.ow.getD i 0)).map iV)):=fun e=>⟨kaq fq s2 (nx hq2),by rw[kad,ke7,e,if_pos rfl,UH];rfl⟩
   have hgd:=wf.good
   have gm2:=hS2.gm
   have hm2:=hS2.hm
   clear hS2 hS wf k hR
   cases kind with
   | none=>
    refine⟨_,rfl,mt,_,_,_,rfl,rfl,SqT.of hmt2,rfl,rfl,_,rfl,?_⟩
    rw[show decide (pV none=V.non)=true by show decide (V.non=V.non)=true;simp]
    refine iteT ⟨_,rfl,true,rfl,iteT ⟨_,rfl,mt,_,_,_,rfl,rfl,SqT.of hmt2,rfl,lone,rfl,?_⟩⟩
    cases lone with
    |false=>
     have y:=yes (by rw[ev];rfl)
     exact iteF (iteT ⟨_,rfl, .inl ⟨rfl,_,SqL.of hq2⟩,_,rfl,q,_,_,rfl,rfl,hq2,sml,y.1,y.2,_,_,_,rfl⟩)
    | true=>
     refine iteT ⟨_,rfl,x,_,rfl,gm2,_,rfl,m,_,_,_,rfl,rfl,SqL.of hm2,atM,mv,rfl,?_⟩
     cases mv with
     |false=>
      have y:=yes (by rw[ev];rfl)
      exact iteT ⟨_,rfl, .inl ⟨rfl,_,SqL.of hq2⟩,_,rfl,q,_,_,rfl,rfl,hq2,sml,y.1,y.2,_,_,_,rfl⟩
     |true=>
      have y:=no (by rw[ev];rfl)
      exact iteF ⟨y.1,y.2,_,_,_,rfl⟩
   | some kk=>
    refine⟨_,rfl,mt,_,_,_,rfl,rfl,SqT.of hmt2,rfl,rfl,_,rfl,?_⟩
    rw[show decide (pV (some kk)=V.non)=false by show decide (V.int _=V.non)=false;simp]
    refine iteF ⟨_,rfl,_,rfl,t,_,_,_,rfl,rfl,SqT.of (s2 _ _ ht),rfl,_,rfl,lp,_,_, .ref lx,rfl,rfl,SqL.of (s2 _ _ hlp),kaQ (by rw[UD,elx];rfl),lx,_,_,_,rfl,rfl,SqT.of hlx,rfl,_,rfl,mt,_,_,_,rfl,rfl,SqT.of hmt2,rfl,a,ps,kn,kk,by rw[ekn];rfl,s2.seq hA,hgd,hkn,?_⟩
    refine⟨_,rfl,_,rfl,?_⟩
    have ev':hits ps (kds B) (some kk) lone S.mkd (S.ow.getD i 0)=(decide (kk∈up ps kn)&&(!lone|| !mv)):=ev
    show if decide (kk∈up ps kn)=true then _ else _
    cases hu:decide (kk∈up ps kn) with
    |false=>
     have y:=no (by rw[ev',hu];rfl)
     exact iteF (iteF ⟨y.1,y.2,_,_,_,rfl⟩)
    | true=>
     rw[hu] at ev'
     refine iteT ⟨_,rfl,mt,_,_,_,rfl,rfl,SqT.of hmt2,rfl,lone,rfl,?_⟩
     cases lone with
     |false=>
      have y:=yes (by rw[ev'];rfl)
      exact iteF (iteT ⟨_,rfl, .inl ⟨rfl,_,SqL.of hq2⟩,_,rfl,q,_,_,rfl,rfl,hq2,sml,y.1,y.2,_,_,_,rfl⟩)
     | true=>
      refine iteT ⟨_,rfl,x,_,rfl,gm2,_,rfl,m,_,_,_,rfl,rfl,SqL.of hm2,atM,mv,rfl,?_⟩
      cases mv with
      |false=>
       have y:=yes (by rw[ev'];rfl)
       exact iteT ⟨_,rfl, .inl ⟨rfl,_,SqL.of hq2⟩,_,rfl,q,_,_,rfl,rfl,hq2,sml,y.1,y.2,_,_,_,rfl⟩
      |true=>
       have y:=no (by rw[ev'];rfl)
       exact iteF ⟨y.1,y.2,_,_,_,rfl⟩
  ·rintro σ Hi ⟨si,ei,v6,v7,v8,rfl⟩
   refine⟨_,rfl,k Hi q si fq ?_⟩
   rw[Uu] at ei
   exact ei
inductive kjT (vs:List V) (H:Hp) (Q:VK) (E_:XK):Prop
 |ct (v t q x p o m:Addr)(V:Vch)(ps:List (Option Nat))(B:Bask)(S:Stnd)(_:vs=[.ref v, .ref t, .ref q, .ref x])(_:VchD H v V)(_:BaskD H t B)(_:H q=some (.lst ((abt ps (kds B) V.ms.kind V.ms.lone S).map iV)))(_:St21 H x p o m S)(_:Wf ps B S)(_:∀(H':Hp),Same H H'→Q (hindM V ps B S) H'):kjT vs H Q E_
theorem kiD{pr:List Int}{i:Nat}(h:i<pr.length):atI (pr.map V.int) (i:Int)=some (.int (pr.getD i 0)):=by
 obtain⟨z,ez⟩:=at_of h
 exact kaQ (by rw[UD,ez,UF,ez];rfl)
theorem Zq:kao ["_law_voucher_here","_law_told","_law_pieces","_law_state","_law_marks"] ["_law_voucher_here","_law_told","_law_pieces","_law_state"] (kah ka9):=by ac_rfl
theorem kdk(W:WB K mg d base):FO P w W 1 d.Yc d.Yd ["_law_voucher_here","_law_told","_law_pieces","_law_state"] kjT:=by
 exists W.Y0.F,Zq
 ·obtain⟨v,t,q,x,p,o,m,Vc,ps,B,S,rfl,⟨mt,hv,hmt⟩,⟨lp,ra,ht,hlp,hR⟩,hq,hS,wf,k⟩:=h
  refine⟨_,kab (psl (i:=4) Zq.nd (pe_ix (r:=rIxT K) kaB (pv 0) (pe_op kbJ (kat (r:=kbz K) kaJ (by rfl) W.B.len b_len (kaa (pv 0) kae)) kaf) (fun _ _=>rfl)))
   (kab (kcm (ps_if (PW.pt (ka8 (kaS (pe_ix (r:=rIxT K) kaB (pv 4) kaf (fun _ _=>rfl))) (ka0 (kfo (kaS (pe_ix (r:=rIxT K) kaB (pv 1) kaf (fun _ _=>rfl))))))) (kag (kan kau)) (kas)))
   (kab (ps_if (kar (klc hr.units0) (pv 2) (kaM kae) (kav _)) (kag (kan kau)) (kas))
   (kab (ps_if (kar op_lt (kat (r:=rSum K) (kb8 rfl) (by rfl) W.B.sum b_sum (kaa (kbi (N:=["_law_piece","_law_state"]) (CompScope.of (N:=["_law_piece","_law_state"]) (cap:=[none,some 3]) (kah ka9).names ["_law_voucher_here","_law_told","_law_pieces","_law_state","_law_marks"] rfl rfl (by decide +kernel)) rfl (kaF (K:=K) (pv 2)) (fun _ _ _ _=>pgn (i:=0) (show(["_law_piece","_law_state"]:List Str).Nodup by decide +kernel)) (fun _ _ _ _=>(pe_ix (r:=rIxL K) kay (kaG (hu_of hr) (pv 1) kau (fun _ _=>rfl)) (pv 0) (fun _ _=>rfl)))) kae)) (pe_ix (r:=rIxT K) kaB (pv 4) kaf (fun _ _=>rfl)) (kav _)) (kag (kan kau)) (kas))
   (kag (kan kaT))))),?_⟩
  have np:=wf.np
  have habl:∀i∈abt ps (kds B) Vc.ms.kind Vc.ms.lone S,i<S.pr.length:=fun i hi=>by rw[wf.lp];exact keA hi
  have lab:(abt ps (kds B) Vc.ms.kind Vc.ms.lone S).length≤720:=UA (kcM _ _ _ _ _) np
  unfold hindM at k
  generalize abt ps (kds B) Vc.ms.kind Vc.ms.lone S=ab at *
  refine⟨_,rfl,_,rfl,v,_,rfl, .inr (SqT.of hv),_,_,rfl,rfl,v,_,_,_,rfl,rfl,SqT.of hv,kil _ mt,?_⟩
  refine⟨fun σ' H'=>σ'=[some (.ref v),some (.ref t),some (.ref q),some (.ref x),some (.ref mt)]∧H'=H∧(Vc.ms.member&& !B.m)=false,⟨_,rfl,mt,_,_,_,rfl,rfl,SqT.of hmt,rfl,Vc.ms.member,rfl,?_⟩,?_⟩
  ·cases e:Vc.ms.member with
   |false=>exact iteF (iteF ⟨rfl,rfl,rfl⟩)
   | true=>
    refine iteT ⟨_,rfl,t,_,_,_,rfl,rfl,SqT.of ht,rfl,B.m,rfl,?_⟩
    cases e2:B.m with
    |true=>exact iteF ⟨rfl,rfl,rfl⟩
    |false=>
     refine iteT ?_
     have z:=k H (Same.refl _)
     rw[e,e2,if_pos (by decide)] at z
     exact z
  rintro σ' H' ⟨rfl,rfl,hh⟩
  rw[hh,if_neg (by decide)] at k
  refine⟨_,rfl,by decide,fun l fl=>?_⟩
  exists H',l,H1,n1,e1,fl
  refine⟨q,l,_,_,rfl,rfl,SqL.of (n1 _ _ hq),SqL.of e1,kbY _,rfl,_,rfl,?_⟩
  rw[if_neg UB]
  cases ab with
  |nil=>
   refine iteT ?_
   have z:=k H1 n1
   rw[if_pos N8] at z
   exact z
  | cons a0 ab0=>
   refine iteF ?_
   rw[if_neg (by simp)] at k
   generalize a0::ab0=ab at *
   have hq1:=n1 _ _ hq
   have hS1:=hS.same n1
   refine⟨_,rfl,q,rfl,⟨_,SqL.of hq1⟩,kaV (xs:=ab.map iV) (fun j σ ys H'=>H'=H1∧ys=(qs S.pr (ab.take j)).map V.int∧∃v,σ=[v,some (.ref x)]) ⟨rfl,rfl,none,rfl⟩ (by rw[Uu];exact UI (kap (by omega))) ?_ ?_ ?_⟩
   ·rintro i σ ys H'' hi ⟨rfl,rfl,_⟩
    refine⟨SqL.of hq1,?_⟩
    rw[Uu] at hi⊢
    rw[kbq,UP]
    omega
   ·rintro i y σ ys H'' hy ⟨rfl,rfl,v',rfl⟩
    obtain⟨n,en,rfl⟩:=kbl hy
    refine⟨_,rfl,x,_,rfl,hS1.gp,_,rfl,p,_,_,_,rfl,rfl,SqL.of hS1.hp,kiD (habl n (UE en)),rfl,?_,_,rfl⟩
    rw[take_snoc en,kdO,UH]
    rfl
   rintro σ ys H'' ⟨rfl,rfl,v',rfl⟩ D hD
   rw[Uu,U0]
   exists H'',D,H2,n2,e2,hD
   refine⟨D,_,rfl,SqL.of e2,_,rfl,mt,_,_,_,rfl,rfl,SqT.of ((n1.trans n2) _ _ hmt),rfl,_,_,rfl,rfl,_,rfl,?_⟩
   have z:=k H2 (n1.trans n2)
   by_cases h2:(qs S.pr ab).sum<Vc.ms.needs
   ·rw[if_pos h2] at z
    rw[decide_eq_true h2]
    exact iteT z
   ·rw[if_neg h2] at z
    rw[decide_eq_false h2]
    exact iteF z
noncomputable def But2(p m:Addr)(H H':Hp):Prop:=∀b u,b≠p→b≠m→H b=some u→Ev H H' b u
theorem But2.refl{p m:Addr}{H:Hp}:But2 p m H H:=fun b u _ _ h=>Same.refl H b u h
theorem But2.same{p m:Addr}{H H1 H2:Hp}(a:But2 p m H H1)(s:Same H1 H2):But2 p m H H2:=fun b u n1 n2 h=>ka7 (a b u n1 n2 h) fun o' e=>s b o' e
theorem But2.one{p m:Addr}{H H1:Hp}{o:HO}(a:But2 p m H H1)(hx:NX H1 p):But2 p m H (upd H1 p o):=fun b u n1 n2 h=>ka7 (a b u n1 n2 h) fun o' e=>kax hx b o' n1 e
theorem But2.two{p m:Addr}{H H1:Hp}{o:HO}(a:But2 p m H H1)(hx:NX H1 m):But2 p m H (upd H1 m o):=fun b u n1 n2 h=>ka7 (a b u n1 n2 h) fun o' e=>kax hx b o' n2 e
theorem But2.all{p m:Addr}{H0 H H':Hp}(s:Same H0 H)(k:But2 p m H H')(h1:H0 p=none)(h2:H0 m=none):Same H0 H':=fun b o h=>ka7 (s b o h) fun o' e=>k b o' (kai h h1) (kai h h2) e
theorem kkl{xs ys:List Int}{i:Nat}{a v:Int}(h:xs[i]?=some a)(hl:ys.length=xs.length):US (· - ·) xs (ys.set i v)=(US (· - ·) xs ys).set i (a-v):=by
 apply JC
 intro j
 have hi:=at_lt h
 rw[JK,Nj,Nj,JK]
 by_cases z:i=j
 ·subst z
  rw[h]
  simp[hl,hi]
 ·simp[z]
theorem kks{n:Nat}{is:List Nat}{vs:List Int}{i:Nat}(hi:i∉is)(h:i<n):(spr n is vs)[i]?=some 0:=by
 unfold spr
 rw[UD,JT h]
 show some _=some _
 congr 1
 show(Jl i (is.zip vs)).getD 0=0
 cases e:(is.zip vs).lookup i with
 |none=>rfl
 |some v=>
  obtain⟨k,hk,_⟩:=kcA e
  exact absurd (UE hk) hi
theorem khh{is:List Nat}(hn:is.Nodup){k i:Nat}(h:is[k]?=some i):i∉is.take k:=fun hm=>by
 obtain⟨j,hj,ej⟩:=Mb hm
 rw[UP] at hj
 rw[List.getElem_take] at ej
 obtain⟨hk,e3⟩:=UG.mp h
 exact JI.mp hn j k (by omega) hk (by omega) (by rw[ej,e3])
theorem kho{ow:List Nat}{c:List Int}{i l:Nat}{v:Int}(hi:i<ow.length)(hc:i<c.length)(hv:0<v)(h0:c[i]?=some 0):kbu ow (c.set i v) l=(kbu ow c l||(ow.getD i 0==l)):=by
 rw[J4]
 simp only[kbu,NK,Nx,JR,List.mem_range,decide_eq_true_eq,beq_iff_eq]
 constructor
 ·rintro⟨j,hj,e,p⟩
  by_cases z:i=j
  ·subst z
   exact .inr e
  ·refine .inl ⟨j,hj,e,?_⟩
   rw[UF,JO z] at p
   rw[UF]
   exact p
 ·rintro(⟨j,hj,e,p⟩|e)
  ·have z:i≠j:=fun z=>by
    subst z
    rw[UF,h0] at p
    exact absurd p (by decide)
   refine⟨j,hj,e,?_⟩
   rw[UF,JO z]
   rw[UF] at p
   exact p
  ·refine⟨i,hi,e,?_⟩
   rw[UF,JN hc]
   exact hv
noncomputable def mkM(S:Stnd)(lone:Bool)(c:List Int):List Bool:=(Uz S.mkd.length).map fun l=>S.mkd.getD l false||(lone&&kbu S.ow c l)
theorem mk_zero(S:Stnd)(lone:Bool)(n:Nat):mkM S lone (Uw n 0)=S.mkd:=by
 have e:∀l,kbu S.ow (Uw n 0) l=false:=fun l=>by
  rw[Bool.eq_false_iff]
  simp only[kbu,ne_eq,NK,JR,decide_eq_true_eq,not_exists,not_and]
  intro j _ _ h
  rw[UF,JQ] at h
  split at h <;> exact absurd h (by decide)
 apply JC
 intro j
 unfold mkM
 rw[UD]
 by_cases h:j<S.mkd.length
 ·rw[JT h]
  show some (S.mkd.getD j false||(lone&&kbu S.ow (Uw n 0) j))=_
  rw[e,N1,Nh,UF]
  simp[h]
 ·rw[JL (by simpa using h),JL (by omega)]
  rfl
theorem klf{S:Stnd}{c:List Int}{i o:Nat}{v:Int}(hi:i<S.ow.length)(hc:i<c.length)(hv:0<v)(h0:c[i]?=some 0)(ho:S.ow.getD i 0=o):mkM S true (c.set i v)=(mkM S true c).set o true:=by
 apply JC
 intro j
 unfold mkM
 rw[Nj,UD,UD]
 by_cases h:j<S.mkd.length
 ·rw[JT h]
  show some (S.mkd.getD j false||(true&&kbu S.ow (c.set i v) j))=_
  rw[kho hi hc hv h0,ho]
  by_cases z:o=j
  ·subst z
   simp[h]
  ·have z':(o==j)=false:=by simp[z]
   rw[z',if_neg z,Nh]
   rfl
 ·rw[JL (by simpa using h)]
  by_cases z:o=j
  ·subst z
   simp[h]
  ·simp[z]
theorem mk_no{S:Stnd}{c c':List Int}:mkM S false c=mkM S false c':=by simp[mkM]
theorem ki8{c:List Int}{i:Nat}(h:c[i]?=some 0):c.set i 0=c:=by
 apply JC
 intro j
 rw[Nj]
 by_cases z:i=j
 ·subst z
  rw[if_pos rfl,if_pos (at_lt h),h]
 ·simp[z]
noncomputable def cut21(so:Srt)(s:Int):Int:=match so with
 | .off a=>min a s
 | .share z _=>s*z/1000
 |_=>0
theorem kkZ{so:Srt}(h:So21 so)(n:Nat)(ls:List Nat)(q:List Int):want so n ls q=dl (cut21 so q.sum) q:=by
 rcases h with⟨a,rfl⟩|⟨s,rfl⟩|rfl
 ·rfl
 ·rfl
 ·show Uw q.length 0=dl 0 q
  apply JC
  intro j
  by_cases hj:j<q.length
  ·rw[JQ,if_pos hj]
   by_cases h0:q.sum=0
   ·rw[kew h0 hj]
   ·rw[dl_at h0 hj]
    unfold part
    simp
  ·rw[JL (by simpa using hj),JL (by rw[kc5];omega)]
theorem kjF{so:Srt}(h:So21 so)(ok:SrtOk so){s:Int}(h0:0≤s):0≤cut21 so s∧cut21 so s≤s:=by
 rcases h with⟨a,rfl⟩|⟨z,rfl⟩|rfl
 ·have:=ok.1
  show 0≤min a s∧min a s≤s
  omega
 ·exact kdE h0 ok.1 ok.2
 ·exact⟨Int.le_refl _,h0⟩
noncomputable def kdt(c:Int)(q:List Int)(j:Nat):Int:=if 0<q.sum then c*pre q j/q.sum else 0
theorem kiC{c:Int}{q:List Int}(hn:Nn q){j:Nat}{w:Int}(h:(dl c q)[j]?=some w):kdt c q (j+1)=kdt c q j+w:=by
 have hj:j<q.length:=by
  have:=at_lt h
  rwa [kc5] at this
 unfold kdt
 by_cases h0:q.sum=0
 ·rw[kew h0 hj] at h
  cases h
  rw[if_neg (by omega),if_neg (by omega)]
  rfl
 ·have:=kbk hn
  rw[dl_at h0 hj] at h
  cases h
  rw[if_pos (by omega),if_pos (by omega)]
  unfold part
  omega
inductive khJ (vs:List V) (H:Hp) (Q:VK) (E_:XK):Prop
 |ct (v q x p o m:Addr)(V:Vch)(ps:List (Option Nat))(B:Bask)(S:Stnd)(_:vs=[.ref v, .ref q, .ref x])(_:VchD H v V)(_:Vo21 ps V)(_:H q=some (.lst ((abt ps (kds B) V.ms.kind V.ms.lone S).map iV)))(_:St21 H x p o m S)(_:Wf ps B S)(_:q≠p)(_:q≠m)(_:∀(H':Hp),But2 p m H H'→St21 H' x p o m (aftM V ps (kds B) S)→Q .non H'):khJ vs H Q E_
theorem qo:kao ["_law_voucher_here","_law_pieces","_law_state","_law_total","_law_cut","_law_upto","_law_gone","_law_piece","_law_part"] ["_law_voucher_here","_law_pieces","_law_state"] (kah kb3):=by ac_rfl
theorem kft(W:WB K mg d base):FO P w W 1 d.Ye d.Yf ["_law_voucher_here","_law_pieces","_law_state"] khJ:=by
 exists W.Y1.F,qo
 ·obtain⟨v,q,x,p,o,m,Vc,ps,B,S,rfl,⟨mt,hv,hmt⟩,vo,hq,hS,wf,nqp,nqm,k⟩:=h
  refine⟨_,kab (psl (i:=3) qo.nd (kat (r:=rSum K) (kb8 rfl) (by rfl) W.B.sum b_sum (kaa (kbi (N:=["_law_piece","_law_state"]) (CompScope.of (N:=["_law_piece","_law_state"]) (cap:=[none,some 2]) (kah kb3).names ["_law_voucher_here","_law_pieces","_law_state","_law_total","_law_cut","_law_upto","_law_gone","_law_piece","_law_part"] rfl rfl (by decide +kernel)) rfl (kaF (K:=K) (pv 1)) (fun _ _ _ _=>pgn (i:=0) (show(["_law_piece","_law_state"]:List Str).Nodup by decide +kernel)) (fun _ _ _ _=>(pe_ix (r:=rIxL K) kay (kaG (hu_of hr) (pv 1) kau (fun _ _=>rfl)) (pv 0) (fun _ _=>rfl)))) kae)))
   (kab (psl (i:=4) qo.nd kaf)
   (kab (kcm (ps_if (kar op_eq (pe_ix (r:=rIxT K) kaB (pv 0) kaf (fun _ _=>rfl)) kau (kav _)) (kag (psl (i:=4) qo.nd (kat (kc6 rfl) (by rfl) W.B.min b_min (kaa (pe_ix (r:=rIxT K) kaB (pv 0) kaf (fun _ _=>rfl)) (kaa (pv 3) kae))))) (kag (ps_if (kar op_eq (pe_ix (r:=rIxT K) kaB (pv 0) kaf (fun _ _=>rfl)) kau (kav _)) (kag (psl (i:=4) qo.nd (pe_op kaH (pe_op kcT (pv 3) (pe_ix (r:=rIxT K) kaB (pv 0) kaf (fun _ _=>rfl))) kaf))) (kas)))))
   (kab (psl (i:=5) qo.nd kaf)
   (kab (psl (i:=6) qo.nd kaf)
   (kag (kbe PassesOwn.never rfl (kaF (K:=K) (pv 1)) (pgn (i:=7) qo.nd)
   (kab (psl (i:=5) qo.nd (pe_op kbs (pv 5) (pe_ix (r:=rIxL K) kay (kaG (hu_of hr) (pv 2) kau (fun _ _=>rfl)) (pv 7) (fun _ _=>rfl))))
   (kab (psl (i:=8) qo.nd kaf)
   (kab (kcm (ps_if (kar op_gt (pv 3) kaf (kav _)) (kag (psl (i:=8) qo.nd (pe_op kbJ (pe_op kgP (pe_op kcT (pv 4) (pv 5)) (pv 3)) (pv 6)))) (kas)))
   (kab (psl (i:=6) qo.nd (pe_op kbs (pv 6) (pv 8)))
   (kab (kem (pe_op kbJ (pe_ix (r:=rIxL K) kay (kaG (hu_of hr) (pv 2) kau (fun _ _=>rfl)) (pv 7) (fun _ _=>rfl)) (pv 8)) (ken (kaG (hu_of hr) (pv 2) kau (fun _ _=>rfl)) (pv 7) set_list))
   (kag (ps_if (PW.pt (ka8 (kar op_gt (pv 8) kaf (kav _)) (ka0 (kaS (pe_ix (r:=rIxT K) kaB (pe_ix (r:=rIxT K) kaB (pv 0) (pe_op kbJ (kat (r:=kbz K) kaJ (by rfl) W.B.len b_len (kaa (pv 0) kae)) kaf) (fun _ _=>rfl)) kaf (fun _ _=>rfl)))))) (kag (kem pe_bl (ken (kaG (hu_of hr) (pv 2) kau (fun _ _=>rfl)) (pe_ix (r:=rIxL K) kay (kaG (hu_of hr) (pv 2) kau (fun _ _=>rfl)) (pv 7) (fun _ _=>rfl)) set_list))) (kas)))))))))))))),?_⟩
  have np:=wf.np
  have habl:∀i∈abt ps (kds B) Vc.ms.kind Vc.ms.lone S,i<S.pr.length:=fun i hi=>by rw[wf.lp];exact keA hi
  have lab:(abt ps (kds B) Vc.ms.kind Vc.ms.lone S).length≤720:=UA (kcM _ _ _ _ _) np
  have hnd:=ked ps (kds B) Vc.ms.kind Vc.ms.lone S
  have hqn:=qs_nn wf.nn (abt ps (kds B) Vc.ms.kind Vc.ms.lone S)
  have hqs:=kgH wf lab habl
  have hq0:=kbk hqn
  have hcl:=kjF vo.so vo.ok.so hq0
  have eA:aftM Vc ps (kds B) S=⟨S.ow,US (· - ·) S.pr (spr S.pr.length (abt ps (kds B) Vc.ms.kind Vc.ms.lone S) (dl (cut21 Vc.so (qs S.pr (abt ps (kds B) Vc.ms.kind Vc.ms.lone S)).sum) (qs S.pr (abt ps (kds B) Vc.ms.kind Vc.ms.lone S)))),S.cg-(cutM Vc ps (kds B) S).2,mkM S Vc.ms.lone (spr S.pr.length (abt ps (kds B) Vc.ms.kind Vc.ms.lone S) (dl (cut21 Vc.so (qs S.pr (abt ps (kds B) Vc.ms.kind Vc.ms.lone S)).sum) (qs S.pr (abt ps (kds B) Vc.ms.kind Vc.ms.lone S))))⟩:=by
   unfold aftM mkM
   rw[kg4 vo.most,kkZ vo.so]
  rw[eA] at k
  clear eA
  have hso:=vo.so
  have lpr:=wf.lp
  generalize abt ps (kds B) Vc.ms.kind Vc.ms.lone S=ab at *
  generalize hqq:qs S.pr ab=qq at *
  have lqq:qq.length=ab.length:=by rw[←hqq,kbq]
  have fin:∀H',But2 p m H H'→StR H' x p o m (US (· - ·) S.pr (spr S.pr.length ab (dl (cut21 Vc.so qq.sum) qq))) S.ow (mkM S Vc.ms.lone (spr S.pr.length ab (dl (cut21 Vc.so qq.sum) qq)))→Q .non H':=k
  clear k
  refine⟨_,rfl,q,rfl,⟨_,SqL.of hq⟩,kaV (xs:=ab.map iV) (fun j σ ys H'=>H'=H∧ys=(qs S.pr (ab.take j)).map V.int∧∃v,σ=[v,some (.ref x)]) ⟨rfl,rfl,none,rfl⟩ (by rw[Uu];exact UI (kap (by omega))) ?_ ?_ ?_⟩
  ·rintro i σ ys H'' hi ⟨rfl,rfl,_⟩
   refine⟨SqL.of hq,?_⟩
   rw[Uu] at hi⊢
   rw[kbq,UP]
   omega
  ·rintro i y σ ys H'' hy ⟨rfl,rfl,v',rfl⟩
   obtain⟨n,en,rfl⟩:=kbl hy
   refine⟨_,rfl,x,_,rfl,hS.gp,_,rfl,p,_,_,_,rfl,rfl,SqL.of hS.hp,kiD (habl n (UE en)),rfl,?_,_,rfl⟩
   rw[take_snoc en,kdO,UH]
   rfl
  rintro σ ys H'' ⟨rfl,rfl,v',rfl⟩ D hD
  rw[Uu,U0,hqq]
  exists H'',D,H1,n1,e1,hD
  have b1:But2 p m H'' H1:=But2.refl.same n1
  have hS1:=hS.same n1
  refine⟨D,_,rfl,SqL.of e1,?_⟩
  refine⟨fun σ' H'=>σ'=[some (.ref v),some (.ref q),some (.ref x),some (.int qq.sum),some (.int (cut21 Vc.so qq.sum)),none,none,none,none]∧H'=H1,?_,?_⟩
  ·have no:∀(a b:Str)(R1 R2:Prop),a≠b→R2→if decide (V.str a=V.str b)=true then R1 else R2:=fun a b R1 R2 hn h=>by
    rw[eq_str,decide_eq_false hn,if_neg UB]
    exact h
   have hv1:=n1 _ _ hv
   obtain⟨so,M⟩:=Vc
   rcases hso with⟨a,e⟩|⟨sh,e⟩|e
   ·cases e
    refine⟨_,rfl,v,_,_,_,rfl,rfl,SqT.of hv1,rfl,rfl,_,rfl,?_⟩
    rw[show decide (V.str "off"=V.str "off")=true by simp]
    refine iteT ⟨_,rfl,v,_,_,_,rfl,rfl,SqT.of hv1,rfl,_,rfl,_,_,rfl,?_,rfl⟩
    rw[show(if qq.sum<a then qq.sum else a)=cut21 (.off a) qq.sum by show _=min a qq.sum;rw[Int.min_def];split <;> split <;> omega]
    rfl
   ·cases e
    refine⟨_,rfl,v,_,_,_,rfl,rfl,SqT.of hv1,rfl,rfl,_,rfl,no "share" "off" _ _ (by decide +kernel) ?_⟩
    refine⟨_,rfl,v,_,_,_,rfl,rfl,SqT.of hv1,rfl,rfl,_,rfl,?_⟩
    rw[show decide (V.str "share"=V.str "share")=true by simp]
    exact iteT ⟨_,rfl,_,rfl,v,_,_,_,rfl,rfl,SqT.of hv1,rfl,_,_,rfl,rfl, .inl ⟨by omega,by omega⟩,_,_,rfl,rfl,⟨by decide,by decide⟩,rfl,rfl⟩
   ·cases e
    refine⟨_,rfl,v,_,_,_,rfl,rfl,SqT.of hv1,rfl,rfl,_,rfl,no "carriage" "off" _ _ (by decide +kernel) ?_⟩
    exact⟨_,rfl,v,_,_,_,rfl,rfl,SqT.of hv1,rfl,rfl,_,rfl,no "carriage" "share" _ _ (by decide +kernel) ⟨rfl,rfl⟩⟩
  rintro σ' H' ⟨rfl,rfl⟩
  generalize hcc:cut21 Vc.so qq.sum=cc at *
  have ldl:(dl cc qq).length=ab.length:=by rw[kc5,lqq]
  have hle:=dl_le hqn hcl.1 hcl.2
  refine⟨_,rfl,q,rfl,⟨_,SqL.of (n1 _ _ hq)⟩,kbp (xs:=ab.map iV) (fun j σ Hj=>But2 p m H'' Hj∧StR Hj x p o m (US (· - ·) S.pr (spr S.pr.length (ab.take j) ((dl cc qq).take j))) S.ow (mkM S Vc.ms.lone (spr S.pr.length (ab.take j) ((dl cc qq).take j)))∧∃v7 v8:Option V,σ=[some (.ref v),some (.ref q),some (.ref x),some (.int qq.sum),some (.int cc),some (.int (pre qq j)),some (.int (kdt cc qq j)),v7,v8])
   ⟨b1,?_,none,none,?_⟩ (fun j σ Hj _ h=>SqL.of (h.1 q _ nqp nqm hq)) ?_ ?_⟩
  ·rw[NL,khG,mk_zero]
   have e:US (· - ·) S.pr (Uw S.pr.length 0)=S.pr:=by
    apply JC
    intro j
    rw[JK,JQ]
    by_cases h:j<S.pr.length
    ·simp[h]
    ·simp[h]
   rw[e]
   exact hS1
  ·rw[keP]
   have e:kdt cc qq 0=0:=by unfold kdt;rw[keP];simp
   rw[e]
   rfl
  ·rintro j y σ Hj hy ⟨bj,hSj,v7,v8,rfl⟩
   obtain⟨n,en,rfl⟩:=kbl hy
   have hj:=at_lt en
   have hn:=habl n (UE en)
   obtain⟨w0,ew⟩:=at_of (xs:=dl cc qq) (i:=j) (by omega)
   obtain⟨z,ez⟩:=at_of (xs:=S.pr) (i:=n) hn
   have eqz:qq[j]?=some z:=by
    rw[←hqq]
    unfold qs
    rw[UD,en]
    show some (S.pr.getD n 0)=_
    rw[UF,ez]
    rfl
   have hw:=hle.2 j w0 z ew eqz
   have epre:=kcQ eqz
   have egone:=kiC hqn ew
   have e0:(spr S.pr.length (ab.take j) ((dl cc qq).take j))[n]?=some 0:=kks (khh hnd en) hn
   have eset:=khF (vs:=dl cc qq) hnd en ew hn
   have lP:(spr S.pr.length (ab.take j) ((dl cc qq).take j)).length=S.pr.length:=kcd _ _ _
   rw[←eset]
   generalize spr S.pr.length (ab.take j) ((dl cc qq).take j)=Pj at *
   have atP:atI ((US (· - ·) S.pr Pj).map V.int) (n:Int)=some (V.int z):=kaQ (by rw[UD,JK,ez,e0];simp)
   have lz:((US (· - ·) S.pr Pj).map V.int).length=S.pr.length:=by rw[Uu,Nf,lP];simp
   have prl:=kj2 hqn j
   have prn:=kj1 hqn j
   have prl1:=kj2 hqn (j+1)
   have prn1:=kj1 hqn (j+1)
   refine⟨_,rfl,_,rfl,x,_,rfl,hSj.gp,_,rfl,p,_,_,_,rfl,rfl,SqL.of hSj.hp,atP,_,_,rfl,rfl,?_⟩
   refine⟨fun σ' H'=>σ'=[some (.ref v),some (.ref q),some (.ref x),some (.int qq.sum),some (.int cc),some (.int (pre qq (j+1))),some (.int (kdt cc qq j)),some (iV n),some (.int w0)]∧H'=Hj,?_,?_⟩
   ·refine⟨_,rfl,_,_,rfl,rfl,_,rfl,?_⟩
    by_cases h0:0<qq.sum
    ·rw[decide_eq_true h0]
     refine iteT ⟨_,rfl,_,rfl,_,_,rfl,rfl, .inl ⟨by omega,by omega⟩,_,rfl,_,_,rfl,rfl,⟨h0,by omega⟩,_,rfl,_,_,rfl,rfl,?_,rfl⟩
     rw[dl_at (by omega) (by omega)] at ew
     cases ew
     unfold kdt part
     rw[if_pos h0,epre]
     rfl
    ·rw[decide_eq_false h0]
     refine iteF ⟨?_,rfl⟩
     rw[kew (by omega) (by omega)] at ew
     cases ew
     rw[epre]
     rfl
   rintro σ' H' ⟨rfl,rfl⟩
   refine⟨_,rfl,_,rfl,_,_,rfl,rfl,?_⟩
   refine⟨_,rfl,x,_,rfl,hSj.gp,_,rfl,p,_,_,_,rfl,rfl,SqL.of hSj.hp,atP,_,rfl,_,_,rfl,rfl,_,rfl,x,_,rfl,hSj.gp,_,rfl,p,_,_,n,rfl,rfl,hSj.hp,kdl (by rw[lz];exact hn),?_⟩
   rw[←J0,←kkl ez lP]
   have hSk:=hSj.setP (US (· - ·) S.pr (Pj.set n w0))
   have bk:But2 p m H'' (upd H' p (.lst ((US (· - ·) S.pr (Pj.set n w0)).map V.int))):=bj.one (nx hSj.hp)
   generalize upd H' p (.lst ((US (· - ·) S.pr (Pj.set n w0)).map V.int))=Hk at *
   obtain⟨ln,eln⟩:=at_of (xs:=S.ow) (i:=n) (by omega)
   have hln:=wf.line eln
   have eod:S.ow.getD n 0=ln:=by rw[UF,eln];rfl
   refine⟨_,rfl,_,_,rfl,rfl,_,rfl,?_⟩
   by_cases hw0:0<w0
   ·rw[decide_eq_true hw0]
    have hv2:Hk v=some (.tup (srtD Vc.so++[.ref mt])):=bk v _ (ne_of hv hS.hp (by intro z;cases z)) (ne_of hv hS.hm (by intro z;cases z)) hv
    have hmt2:Hk mt=some (.tup (mkT Vc.ms)):=bk mt _ (ne_of hmt hS.hp (by intro z;cases z)) (ne_of hmt hS.hm (by intro z;cases z)) hmt
    refine iteT ⟨_,rfl,_,rfl,v,_,rfl, .inr (SqT.of hv2),_,_,rfl,rfl,v,_,_,_,rfl,rfl,SqT.of hv2,kil _ mt,mt,_,_,_,rfl,rfl,SqT.of hmt2,rfl,Vc.ms.lone,rfl,?_⟩
    cases el:Vc.ms.lone with
    |false=>
     rw[el] at hSk
     exact iteF ⟨bk,by rw[mk_no (c':=Pj)];exact hSk,_,_,by rw[egone];rfl⟩
    |true=>
     rw[el] at hSk
     have atO:atI (S.ow.map iV) (n:Int)=some (iV ln):=kaQ (by rw[UD,eln];rfl)
     refine iteT ⟨_,rfl,x,_,rfl,hSk.gm,_,rfl,x,_,rfl,hSk.go,_,rfl,o,_,_,_,rfl,rfl,SqL.of hSk.ho,atO,m,_,_,ln,rfl,rfl,hSk.hm,kdl (by rw[Uu];unfold mkM;rw[Uu,List.length_range,wf.lm];exact hln),?_⟩
     rw[show V.bl true=V.bl true from rfl,←J0,←klf (by omega) (by omega) hw0 e0 eod]
     exact⟨bk.two (nx hSk.hm),hSk.setM _,_,_,by rw[egone];rfl⟩
   ·rw[decide_eq_false hw0]
    have e:w0=0:=by omega
    subst e
    rw[ki8 e0] at hSk⊢
    exact iteF ⟨bk,hSk,_,_,by rw[egone];rfl⟩
  ·rintro σ Hj ⟨bj,hSj,v7,v8,rfl⟩
   rw[Uu,ki7 (Ux _) (by omega)] at hSj
   exact fin Hj bj hSj
variable {T:TillD}{B:Bask}{hand:List Int}
theorem khu{order:List Nat}{u:List Nat}{S:Stnd}{i n:Nat}{V:Vch}(e:walkM T B hand order [] (stnd0 B)=(u,S))(hu:u.length=i)(en:order[i]?=some n)(hV:T.vs[n]?=some V):kcc T B hand order=some (i,dueM V T B hand u S n):=by
 have hi:=at_lt en
 unfold kcc
 simp only[e]
 have eg:order.getD i 0=n:=by rw[UF,en];rfl
 rw[hu,if_pos hi,eg,hV]
theorem ki4{order:List Nat}{S:Stnd}(e:walkM T B hand order [] (stnd0 B)=(order,S)):kcc T B hand order=if(onlyM T.rs order).isNone=true then none else some (order.length, .str "only"):=by
 unfold kcc
 simp only[e]
 rw[if_neg (Jt _)]
noncomputable def wdD(pa vl rl t:Addr):List (Key×V):=[(.inr "parents", .ref pa),(.inr "vouchers", .ref vl),(.inr "rules", .ref rl),(.inr "basket", .ref t)]
structure WdD (H:Hp) (wd pa vl rl t:Addr) (ta ra:List Addr) (ps:List (Option Nat)) (vs:List Vch) (rs:List Rul) (B:Bask):Prop where
 hw:H wd=some (.dK (wdD pa vl rl t))
 hp:H pa=some (.lst (ps.map pV))
 hv:H vl=some (.lst (ta.map V.ref))
 tv:P2 (fun t V=>VchD H t V) ta vs
 hr:H rl=some (.lst (ra.map V.ref))
 tr:P2 (fun a r=>RulIs H a r) ra rs
 hb:BaskD H t B
section
variable {H H':Hp} {wd pa vl rl t:Addr} {ta ra:List Addr} {ps:List (Option Nat)} {vs:List Vch} {rs:List Rul} {B:Bask}
theorem WdD.same(h:WdD H wd pa vl rl t ta ra ps vs rs B)(s:Same H H'):WdD H' wd pa vl rl t ta ra ps vs rs B:=⟨s _ _ h.hw,s _ _ h.hp,s _ _ h.hv,h.tv.mono fun _ _ z=>z.same s,s _ _ h.hr,h.tr.mono fun _ _ z=>s _ _ z,h.hb.same s⟩
theorem WdD.gp(h:WdD H wd pa vl rl t ta ra ps vs rs B):DGet H wd (.str "parents") (some (.ref pa)):=DGet.k (k:=.inr "parents") h.hw
theorem WdD.gv(h:WdD H wd pa vl rl t ta ra ps vs rs B):DGet H wd (.str "vouchers") (some (.ref vl)):=DGet.k (k:=.inr "vouchers") h.hw
theorem WdD.gr(h:WdD H wd pa vl rl t ta ra ps vs rs B):DGet H wd (.str "rules") (some (.ref rl)):=DGet.k (k:=.inr "rules") h.hw
theorem WdD.gb(h:WdD H wd pa vl rl t ta ra ps vs rs B):DGet H wd (.str "basket") (some (.ref t)):=DGet.k (k:=.inr "basket") h.hw
end
noncomputable def stepW(used:List Nat)(n:Nat)(w:L2.V)(r:Rul):L2.V:=if(decide (r.w=("never" :Str))&&(decide (r.b=n)&&used.contains r.a))=true then .str "never" else if(decide (r.a=n)&&used.contains r.b)=true then .str r.w else w
theorem due21{V:Vch}{T:TillD}{B:Bask}{used:List Nat}{S:Stnd}{n N:Nat}(hn:n<N)(ho:V.ms.once=false)(hl:T.rs.length≤1)(hw:∀r∈T.rs,r.w=("never" :Str)∨r.w=("ahead" :Str)):
  dueM V T B (Uw N 3) used S n=if(2:Int)<((used.count n:Nat):Int) then .str "held" else T.rs.foldl (stepW used n) (hindM V T.ps B S):=by
 unfold dueM wordM
 have e3:(Uw N (3:Int)).getD n 0=3:=by rw[UF,JQ,if_pos hn];rfl
 rw[e3]
 by_cases h:(3:Int)<((used.count n:Nat):Int)+1
 ·rw[if_pos h,if_pos (by omega)]
 ·rw [if_neg h,ho,JP,if_neg UB,if_neg (show ¬(2:Int)<((used.count n:Nat):Int) by omega)]
  rcases T with⟨ps,vs,rs,bk⟩
  cases rs with
  |nil=>rfl
  | cons r rs=>
   cases rs with
   |cons _ _=>simp at hl
   | nil=>
    have hr:=hw r UW
    have hna:("ahead" :Str)≠("never" :Str):=by decide +kernel
    show(match(if kdp [r] used n=true then some ("never" :Str) else if kdv [r] used n=true then some ("ahead" :Str) else none) with|some z=>L2.V.str z|none=>hindM V ps B S)=stepW used n (hindM V ps B S) r
    unfold kdp kdv nevR ahdR stepW
    simp only[Jo,List.any_nil,Nh]
    rcases hr with e|e
    ·rw[e,decide_eq_true rfl,decide_eq_false hna.symm]
     cases decide (r.b=n) <;> cases used.contains r.a <;> cases decide (r.a=n) <;> cases used.contains r.b <;> rfl
    ·rw[e,decide_eq_true rfl,decide_eq_false hna]
     cases decide (r.b=n) <;> cases used.contains r.a <;> cases decide (r.a=n) <;> cases used.contains r.b <;> rfl
inductive kjV (vs:List V) (H:Hp) (Q:VK) (E_:XK):Prop
 |ct (wd oA pa vl rl t:Addr)(ta ra:List Addr)(T:TillD)(B:Bask)(order:List Nat)(_:vs=[.ref wd, .ref oA])(_:WdD H wd pa vl rl t ta ra T.ps T.vs T.rs B)(_:(∀V∈T.vs,Vo21 T.ps V))(_:T.rs.length≤1)(_:(∀r∈T.rs,r.w=("never" :Str)∨r.w=("ahead" :Str)))(_:Wf T.ps B (stnd0 B))(_:H oA=some (.lst (order.map iV)))(_:(∀n∈order,n<T.vs.length))(_:order.length<64)(_:∀(H':Hp)(v:L2.V),Same H H'→FltIs H' v (kcc T B (Uw T.vs.length 3) order)→Q v H'):kjV vs H Q E_
theorem qr:kao ["_law_world","_law_order_here","_law_state","_law_place","_law_number","_law_voucher_here","_law_pieces","_law_word","_law_rule"] ["_law_world","_law_order_here"] (kah kdd):=by ac_rfl
theorem kf8(W:WB K mg d base):FO P w W 3 d.Yg d.Yh ["_law_world","_law_order_here"] kjV:=by
 exists W.Y2.F,qr
 ·obtain⟨wd,oA,pa,vl,rl,t,ta,ra,T,B,order,rfl,hW,hvo,hrl,hrw,wf0,ho,hlt,h64,k⟩:=h
  exists Q0,kcX,W
  exists Vw,keX,W
  exists Vx,kdk,W
  exists Vy,kft,W
  exists hr1,1,hr,0
  refine⟨_,kab (psl (i:=2) qr.nd (pcl Q0 hr1 W.Qv (kaa (kaG (hu_of hr) (pv 0) kau (fun _ _=>rfl)) kae)))
   (kab (kbe PassesOwn.never rfl (kdR rfl W.B.enum (kaa (pv 1) kae)) (kbb (K:=K) (n:=2) rfl (kaw (pgn (i:=3) qr.nd) (kaw (pgn (i:=4) qr.nd) kba)))
   (kab (psl (i:=5) qr.nd (pe_ix (r:=rIxL K) kay (kaG (hu_of hr) (pv 0) kau (fun _ _=>rfl)) (pv 4) (fun _ _=>rfl)))
   (kab (psl (i:=6) qr.nd (pcl Vw hr W.YZ (kaa (pv 5) (kaa (kaG (hu_of hr) (pv 0) kau (fun _ _=>rfl)) (kaa (kaG (hu_of hr) (pv 0) kau (fun _ _=>rfl)) (kaa (pv 2) kae))))))
   (kab (psl (i:=7) qr.nd (pcl Vx hr1 W.Y0 (kaa (pv 5) (kaa (kaG (hu_of hr) (pv 0) kau (fun _ _=>rfl)) (kaa (pv 6) (kaa (pv 2) kae))))))
   (kab (kbe PassesOwn.never rfl (kaF (K:=K) (kaG (hu_of hr) (pv 0) kau (fun _ _=>rfl))) (pgn (i:=8) qr.nd)
   (kab (kcm (ps_if (PW.pt (ka8 (kar op_eq (pe_ix (r:=rIxT K) kaB (pv 8) kaf (fun _ _=>rfl)) (pv 4) (kav _)) (ka0 (kar kbK (pe_ix (r:=rIxT K) kaB (pv 8) kaf (fun _ _=>rfl)) (kcy (r:=rSlL K) kdb (pv 1) keR (kcn (pv 3))) (by with_unfolding_all rfl))))) (kag (psl (i:=7) qr.nd (pe_ix (r:=rIxT K) kaB (pv 8) kaf (fun _ _=>rfl)))) (kas)))
   (kag (ps_if (PW.pt (ka8 (kar op_eq (pe_ix (r:=rIxT K) kaB (pv 8) kaf (fun _ _=>rfl)) kau (kav _)) (ka8 (kar op_eq (pe_ix (r:=rIxT K) kaB (pv 8) kaf (fun _ _=>rfl)) (pv 4) (kav _)) (ka0 (kar kbK (pe_ix (r:=rIxT K) kaB (pv 8) kaf (fun _ _=>rfl)) (kcy (r:=rSlL K) kdb (pv 1) keR (kcn (pv 3))) (by with_unfolding_all rfl)))))) (kag (psl (i:=7) qr.nd kau)) (kas)))))
   (kab (kcm (ps_if (kar op_gt (pe_bm Jd Mv Mw kgT (kcy (r:=rSlL K) kdb (pv 1) keR (kcn (pv 3))) (kaa (pv 4) kae)) kaf (kav _)) (kag (psl (i:=7) qr.nd kau)) (kas)))
   (kab (ps_if (kar kb5 (pv 7) kaT (kav _)) (kag (kan (kbH (kaa (pv 3) (kaa (pv 7) kae))))) (kas))
   (kag (ka3 (pcl Vy hr1 W.Y1 (kaa (pv 5) (kaa (pv 6) (kaa (pv 2) kae)))))))))))))
   (kag (kan kaT))),?_⟩
  generalize hhd:Uw T.vs.length (3:Int)=hand at *
  generalize eR:walkM T B hand order [] (stnd0 B)=R
  refine⟨_,rfl,wd,_,rfl,hW.gb,t,B,rfl,hW.hb,wf0.ok,wf0.nl,fun H1 x p o m s1 fp fo fm hS0=>?_⟩
  refine⟨_,rfl,oA,_,rfl,s1 _ _ ho,kdG (xs:=order.map iV) (fun i σ H'=>Same H H'∧∃(S:Stnd)(v3 v4 v5 v6 v7 v8:Option V),St21 H' x p o m S∧Wf T.ps B S∧walkM T B hand (order.drop i) (order.take i) S=R∧σ=[some (.ref wd),some (.ref oA),some (.ref x),v3,v4,v5,v6,v7,v8])
   ⟨s1,stnd0 B,none,none,none,none,none,none,hS0,wf0,eR,rfl⟩ (fun i σ H' _ h=>h.1 _ _ ho) ?_ ?_⟩
  ·rintro i y tq σ Hi hy ⟨si,S,v3,v4,v5,v6,v7,v8,hS,wf,hwalk,rfl⟩ ftq
   obtain⟨n,en,rfl⟩:=kbl hy
   have hi:=at_lt en
   have hnl:=hlt n (UE en)
   obtain⟨Vc,hV⟩:=at_of hnl
   have vo:=hvo Vc (UE hV)
   have ed:order.drop i=n::order.drop (i+1):=by
    obtain⟨h1,h2⟩:=UG.mp en
    rw[Mx h1,h2]
   rw[ed] at hwalk
   unfold walkM at hwalk
   rw[hV] at hwalk
   simp only at hwalk
   exists Hi,tq,H2,n2,e2,ftq
   have s2:=si.trans n2
   have hW2:=hW.same s2
   have hS2:=hS.same n2
   obtain⟨v,ev,hv2⟩:∃v,ta[n]?=some v∧VchD H2 v Vc:=by
    obtain⟨v,ev⟩:=at_of (xs:=ta) (i:=n) (by rw[hW2.tv.len];exact hnl)
    exact⟨v,ev,hW2.tv.get ev hV⟩
   refine⟨tq,_,rfl,SqT.of e2,rfl,_,_,rfl,_,_,rfl,rfl,?_⟩
   refine⟨_,rfl,wd,_,rfl,hW2.gv,_,rfl,vl,_,_,_,rfl,rfl,SqL.of hW2.hv,kaQ (v:=.ref v) (by rw[UD,ev];rfl),?_⟩
   refine⟨_,rfl,_,rfl,wd,_,rfl,hW2.gp,_,rfl,wd,_,rfl,hW2.gb,_,rfl,v,pa,t,x,p,o,m,Vc,T.ps,B,S,rfl,hv2,SqL.of hW2.hp,hW2.hb,hS2,wf,fun H3 q s3 fq hq3=>?_⟩
   have nqp:p≠q:=kai hS2.hp fq
   have nqm:m≠q:=kai hS2.hm fq
   have hW3:=hW2.same s3
   refine⟨_,rfl,_,rfl,wd,_,rfl,hW3.gb,_,rfl,_,rfl,v,t,q,x,p,o,m,Vc,T.ps,B,S,rfl,hv2.same s3,hW3.hb,hq3,hS2.same s3,wf,fun H4 s4=>?_⟩
   have s34:=s3.trans s4
   have s04:=s2.trans s34
   have hW4:=hW3.same s4
   refine⟨_,rfl,wd,_,rfl,hW4.gr,rl,rfl,⟨_,SqL.of hW4.hr⟩,kbp (xs:=ra.map V.ref) (fun j σ H'=>Same H4 H'∧∃v8:Option V,σ=[some (.ref wd),some (.ref oA),some (.ref x),some (iV i),some (iV n),some (.ref v),some (.ref q),some ((T.rs.take j).foldl (stepW (order.take i) n) (hindM Vc T.ps B S)),v8])
    ⟨Same.refl _,_,rfl⟩ (fun j σ H' _ h=>SqL.of (h.1 _ _ hW4.hr)) ?_ ?_⟩
   ·rintro j y σ Hj hy ⟨sj,v8',rfl⟩
    obtain⟨a,ea,rfl⟩:=kbZ hy
    obtain⟨r,er,hra⟩:=hW4.tr.at ea
    have hra:RulIs Hj a r:=sj _ _ hra
    rw[take_snoc er,List.foldl_append]
    generalize (T.rs.take j).foldl (stepW (order.take i) n) (hindM Vc T.ps B S)=w0 at *
    have ho4:=(s04.trans sj) _ _ ho
    generalize hw1:(if(decide (r.a=n)&&(order.take i).contains r.b)=true then V.str r.w else w0)=w1
    refine⟨fun σ' H'=>Same Hj H'∧σ'=[some (.ref wd),some (.ref oA),some (.ref x),some (iV i),some (iV n),some (.ref v),some (.ref q),some w1,some (.ref a)],⟨_,rfl,a,_,_,_,rfl,rfl,SqT.of hra,rfl,_,rfl,rfl,_,rfl,?_⟩,?_⟩
    ·rw[kev]
     cases h1:decide (r.a=n) with
     |false=>
      rw[h1,JP,if_neg UB] at hw1
      subst hw1
      exact iteF (iteF ⟨Same.refl _,rfl⟩)
     | true=>
      rw[h1,Ni] at hw1
      refine iteT ⟨_,rfl,a,_,_,_,rfl,rfl,SqT.of hra,rfl,_,rfl,_,rfl,_,rfl,oA,_,rfl,SqL.of ho4,fun q1 fq1=>?_⟩
      rw[kg3,←JH]
      exists Hj,q1,H6,n6,e6,fq1
      refine⟨q1,_,rfl, .inl (SqL.of e6),rfl,kbY _,_,rfl,?_⟩
      rw[if_neg UB,kbX]
      cases h2:(order.take i).contains r.b with
      |false=>
       rw[h2,if_neg UB] at hw1
       subst hw1
       exact iteF ⟨n6,rfl⟩
      |true=>
       rw[h2,if_pos rfl] at hw1
       subst hw1
       exact iteT ⟨_,rfl,a,_,_,_,rfl,rfl,SqT.of (n6 _ _ hra),rfl,n6,rfl⟩
    rintro σ' H6 ⟨n6,rfl⟩
    have hra6:RulIs H6 a r:=n6 _ _ hra
    have ho6:=n6 _ _ ho4
    have s46:=sj.trans n6
    generalize hw2:Nt (stepW (order.take i) n) w0 [r]=w2
    have hw2:(if(decide (r.w=("never" :Str))&&(decide (r.b=n)&&(order.take i).contains r.a))=true then V.str "never" else w1)=w2:=by rw[←hw2,←hw1];rfl
    refine⟨_,rfl,a,_,_,_,rfl,rfl,SqT.of hra6,rfl,rfl,_,rfl,?_⟩
    rw[eq_str]
    cases h0:decide (r.w=("never" :Str)) with
    |false=>
     rw[h0,JP,if_neg UB] at hw2
     subst hw2
     exact iteF (iteF ⟨s46,_,rfl⟩)
    | true=>
     rw[h0,Ni] at hw2
     refine iteT ⟨_,rfl,a,_,_,_,rfl,rfl,SqT.of hra6,rfl,_,rfl,rfl,_,rfl,?_⟩
     rw[kev]
     cases h1:decide (r.b=n) with
     |false=>
      rw[h1,JP,if_neg UB] at hw2
      subst hw2
      exact iteF (iteF ⟨s46,_,rfl⟩)
     | true=>
      rw[h1,Ni] at hw2
      refine iteT ⟨_,rfl,a,_,_,_,rfl,rfl,SqT.of hra6,rfl,_,rfl,_,rfl,_,rfl,oA,_,rfl,SqL.of ho6,fun q1 fq1=>?_⟩
      rw[kg3,←JH]
      exists H6,q1,H7,n7,e7,fq1
      refine⟨q1,_,rfl, .inl (SqL.of e7),rfl,kbY _,_,rfl,?_⟩
      rw[if_neg UB,kbX]
      cases h2:(order.take i).contains r.a with
      |false=>
       rw[h2,if_neg UB] at hw2
       subst hw2
       exact iteF ⟨s46.trans n7,_,rfl⟩
      |true=>
       rw[h2,if_pos rfl] at hw2
       subst hw2
       exact iteT ⟨s46.trans n7,_,rfl⟩
   rintro σ H5 ⟨s5,v8',rfl⟩
   rw[Uu,hW4.tr.len,U0]
   have s05:=s04.trans s5
   have edue:=due21 (V:=Vc) (T:=T) (B:=B) (used:=order.take i) (S:=S) hnl vo.once hrl hrw
   rw[hhd] at edue
   generalize T.rs.foldl (stepW (order.take i) n) (hindM Vc T.ps B S)=w0 at *
   refine⟨fun σ' H'=>Same H5 H'∧σ'=[some (.ref wd),some (.ref oA),some (.ref x),some (iV i),some (iV n),some (.ref v),some (.ref q),some (dueM Vc T B hand (order.take i) S n),v8'],?_,?_⟩
   ·refine⟨_,rfl,_,rfl,_,rfl,oA,_,rfl,SqL.of (s05 _ _ ho),fun q1 fq1=>?_⟩
    rw[kg3,←JH]
    exists H5,q1,H7,n7,e7,fq1
    refine⟨.inl ⟨rfl,_,SqL.of e7⟩,_,rfl,q1,(order.take i).map (fun z:Nat=>(z:Int)),(n:Int),rfl,rfl,by rw[e7,UR];rfl,_,_,rfl,rfl,_,rfl,?_⟩
    rw[kiP,edue]
    by_cases hc:(2:Int)<(((order.take i).count n:Nat):Int)
    ·rw[if_pos hc,decide_eq_true hc]
     exact iteT ⟨n7,rfl⟩
    ·rw[if_neg hc,decide_eq_false hc]
     exact iteF ⟨n7,rfl⟩
   rintro σ' H6 ⟨n6,rfl⟩
   have s06:=s05.trans n6
   have s36:=(s4.trans s5).trans n6
   have hS6:=hS2.same (s3.trans s36)
   refine⟨_,rfl,rfl,_,rfl,?_⟩
   by_cases hn:dueM Vc T B hand (order.take i) S n=.non
   ·rw[if_pos hn] at hwalk
    rw[hn,ker]
    refine iteF ⟨_,rfl,_,rfl,_,rfl,v,q,x,p,o,m,Vc,T.ps,B,S,rfl,hv2.same (s3.trans s36),vo,s36 _ _ hq3,hS6,wf,nqp.symm,nqm.symm,fun H7 b7 hS7=>?_⟩
    refine⟨b7.all s06 fp fm,aftM Vc T.ps (kds B) S,_,_,_,_,_,_,hS7,wf.after vo.ok,?_,rfl⟩
    rw[take_snoc en]
    exact hwalk
   ·rw[if_neg hn] at hwalk
    rw[show(!decide (dueM Vc T B hand (order.take i) S n=V.non))=true by simp[hn]]
    rw[←hwalk] at eR
    have ef:=khu eR (by rw[UP];omega) en hV
    rw[ef] at k
    refine iteT ⟨_,rfl,_,rfl,(by show 2≤sizeLine;decide),fun q2 hq2=>?_⟩
    exact k _ _ (s06.trans (kak hq2)) ⟨q2,rfl,kad⟩
  ·rintro σ H' ⟨sI,S,v3,v4,v5,v6,v7,v8,hS,wf,hwalk,rfl⟩
   rw[Uu,List.drop_length,U0] at hwalk
   unfold walkM at hwalk
   rw[←hwalk] at eR
   have ef:=ki4 eR
   have eo:onlyM T.rs order=none:=by
    unfold onlyM
    rw[List.find?_eq_none.mpr fun r hr=>?_]
    ·rfl
    unfold loneM
    have hno:("never" :Str)≠("only" :Str):=by decide +kernel
    have hao:("ahead" :Str)≠("only" :Str):=by decide +kernel
    rcases hrw r hr with e|e
    ·rw[e,decide_eq_false hno];simp
    ·rw[e,decide_eq_false hao];simp
   rw[ef,eo] at k
   exact k _ _ sI rfl
theorem FltIs.same{H H':Hp}{v:L2.V}{o:Option (Nat×L2.V)}(s:Same H H')(h:FltIs H v o):FltIs H' v o:=by
 cases o with
 |none=>exact h
 |some q=>
  obtain⟨a,e1,ha⟩:=h
  exact⟨a,e1,s _ _ ha⟩
theorem kjB(V:Vch)(T:TillD)(B:Bask)(hand:List Int)(used:List Nat)(S:Stnd)(n:Nat):dueM V T B hand used S n=.non∨∃z,dueM V T B hand used S n=.str z:=by
 unfold dueM
 cases wordM V T.rs hand used n with
 |some z=>exact .inr ⟨z,rfl⟩
 | none=>
  show hindM V T.ps B S=.non∨∃z,hindM V T.ps B S=.str z
  unfold hindM
  split
  ·exact .inr ⟨_,rfl⟩
  ·split
   ·exact .inr ⟨_,rfl⟩
   ·split
    ·exact .inr ⟨_,rfl⟩
    ·exact .inl rfl
theorem kjy{order:List Nat}{k:Nat}{z:L2.V}(h:kcc T B hand order=some (k,z)):z=.non∨∃s,z=.str s:=by
 unfold kcc at h
 simp only at h
 split at h
 ·split at h
  ·cases h
  ·have e:=congrArg Prod.snd (Option.some.inj h)
   simp only at e
   rw[←e]
   exact kjB ..
 ·split at h
  ·cases h
  ·have e:=congrArg Prod.snd (Option.some.inj h)
   simp only at e
   rw[←e]
   exact .inr ⟨_,rfl⟩
theorem kiF{order:List Nat}{H:Hp}{v w:L2.V}(hv:FltIs H v (kcc T B hand order))(hw:FltIs H w (kcc T B hand order)):Alk 5 H v w:=by
 cases e:kcc T B hand order with
 |none=>
  rw[e] at hv hw
  have e1:v=.non:=hv
  have e2:w=.non:=hw
  rw[e1,e2]
  exact .inl ⟨rfl, .inl rfl⟩
 | some q=>
  obtain⟨k,z⟩:=q
  rw[e] at hv hw
  obtain⟨a,rfl,ha⟩:=hv
  obtain⟨b,rfl,hb⟩:=hw
  refine .inr ⟨a,b,_,_,rfl,rfl, .inr ⟨ha,hb⟩,rfl,(by show 2≤100;decide),fun i x y e1 e2=>?_⟩
  rw[e1] at e2
  cases e2
  match i,e1 with
  |0,e1=>
   cases e1
   exact .inl ⟨rfl, .inr (.inr (.inl ⟨_,rfl⟩))⟩
  |1,e1=>
   cases e1
   rcases kjy e with rfl|⟨s,rfl⟩
   ·exact .inl ⟨rfl, .inl rfl⟩
   ·exact .inl ⟨rfl, .inr (.inr (.inr ⟨_,rfl⟩))⟩
  |i+2,e1=>cases e1
structure WdN (H:Hp) (wd pa vl rl t lp:Addr) (ba ta ra:List Addr) (ps:List (Option Nat)) (vs:List Vch) (rs:List Rul) (B:Bask):Prop where
 hw:H wd=some (.dK (wdD pa vl rl t))
 hp:H pa=some (.lst (ps.map pV))
 hv:H vl=some (.lst (ta.map V.ref))
 tv:P2 (fun t V=>VchD H t V) ta vs
 hr:H rl=some (.lst (ra.map V.ref))
 tr:P2 (fun a r=>RulIs H a r) ra rs
 ht:H t=some (.tup [.ref lp, .int B.cg, .bl B.m])
 hl:H lp=some (.lst (ba.map V.ref))
 tb:P2 (fun a r=>RowT H a r) ba B.rs
 pv:pa≠vl
 pr:pa≠rl
 vr:vl≠rl
 lv:lp≠vl
 lr:lp≠rl
theorem VchD.put{H:Hp}{t l:Addr}{V:Vch}{xs:List L2.V}{o:HO}(h:VchD H t V)(e:H l=some (.lst xs)):VchD (upd H l o) t V:=by
 obtain⟨mt,h1,h2⟩:=h
 exact⟨mt,by rw[kaj (ne_of h1 e (by intro z;cases z))];exact h1,by rw[kaj (ne_of h2 e (by intro z;cases z))];exact h2⟩
section
variable {H H':Hp} {wd pa vl rl t lp:Addr} {ba ta ra:List Addr} {ps:List (Option Nat)} {vs:List Vch} {rs:List Rul} {B:Bask}
theorem WdN.wdd(h:WdN H wd pa vl rl t lp ba ta ra ps vs rs B):WdD H wd pa vl rl t ta ra ps vs rs B:=⟨h.hw,h.hp,h.hv,h.tv,h.hr,h.tr,lp,ba,h.ht,h.hl,h.tb⟩
theorem WdN.same(h:WdN H wd pa vl rl t lp ba ta ra ps vs rs B)(s:Same H H'):WdN H' wd pa vl rl t lp ba ta ra ps vs rs B:=⟨s _ _ h.hw,s _ _ h.hp,s _ _ h.hv,h.tv.mono fun _ _ z=>z.same s,s _ _ h.hr,h.tr.mono fun _ _ z=>s _ _ z,s _ _ h.ht,s _ _ h.hl,h.tb.mono fun _ _ z=>s _ _ z,h.pv,h.pr,h.vr,h.lv,h.lr⟩
theorem WdN.setV(h:WdN H wd pa vl rl t lp ba ta ra ps vs rs B){ta':List Addr}{vs':List Vch}(p:P2 (fun t V=>VchD H t V) ta' vs'):WdN (upd H vl (.lst (ta'.map V.ref))) wd pa vl rl t lp ba ta' ra ps vs' rs B:=by
 have ne:∀{b:Addr}{o:HO},H b=some o→(∀xs,o≠.lst xs)→(upd H vl (.lst (ta'.map V.ref))) b=some o:=fun e n=>by rw[kaj (ne_of e h.hv (n _))];exact e
 exact⟨ne h.hw (by intro _ z;cases z),by rw[kaj h.pv];exact h.hp,kad,p.mono fun _ _ z=>z.put h.hv,by rw[kaj h.vr.symm];exact h.hr,h.tr.mono fun _ _ z=>ne z (by intro _ z;cases z),ne h.ht (by intro _ z;cases z),by rw[kaj h.lv];exact h.hl,h.tb.mono fun _ _ z=>ne z (by intro _ z;cases z),h.pv,h.pr,h.vr,h.lv,h.lr⟩
theorem WdN.setR(h:WdN H wd pa vl rl t lp ba ta ra ps vs rs B){ra':List Addr}{rs':List Rul}(p:P2 (fun a r=>RulIs H a r) ra' rs'):WdN (upd H rl (.lst (ra'.map V.ref))) wd pa vl rl t lp ba ta ra' ps vs rs' B:=by
 have ne:∀{b:Addr}{o:HO},H b=some o→(∀xs,o≠.lst xs)→(upd H rl (.lst (ra'.map V.ref))) b=some o:=fun e n=>by rw[kaj (ne_of e h.hr (n _))];exact e
 exact⟨ne h.hw (by intro _ z;cases z),by rw[kaj h.pr];exact h.hp,by rw[kaj h.vr];exact h.hv,h.tv.mono fun _ _ z=>z.put h.hr,kad,p.mono fun _ _ z=>ne z (by intro _ z;cases z),ne h.ht (by intro _ z;cases z),by rw[kaj h.lr];exact h.hl,h.tb.mono fun _ _ z=>ne z (by intro _ z;cases z),h.pv,h.pr,h.vr,h.lv,h.lr⟩
end
theorem P2.put{α β:Type}{R: α→β→Prop}{a: α}{b: β}(r:R a b):∀{as:List α}{bs:List β}(i:Nat),P2 R as bs→P2 R (as.set i a) (bs.set i b)
 |_,_,_, .nil=>.nil
 |_,_,0, .cons _ t=>.cons r t
 |_,_,i+1, .cons q t=>.cons q (P2.put r i t)
theorem kk2{α:Type}{l:List α}{i:Nat}{a: α}(h:l[i]?=some a):l.set i a=l:=by
 apply JC
 intro j
 rw[Nj]
 by_cases z:i=j
 ·subst z
  rw[if_pos rfl,if_pos (at_lt h),h]
 ·rw[if_neg z]
theorem qm:kao ["_law_script","_law_cell_here","_law_world","_law_kinds","_law_total","_law_many","_law_k","_law_drawn","_law_own","_law_till","_law_basket_here","_law_one","_law_order_here"] ["_law_script"] (kah s_law):=by ac_rfl
theorem kld(W:WB K mg d base):FO P w W 9 d.f_law d.Yi ["_law_script"] (kfd K d.tP_falling_groups):=by
 refine FunD.ok W.d_law.F qm (fun vs H Q E h=>?_) (fun cdv A outer s H vs Q E hr h=>?_)
 ·obtain⟨a,ns,rfl,_⟩:=h
  rfl
 ·obtain⟨a,ns,rfl,hSc,hn,htb0,k⟩:=h
  exists Q1,kfv,W
  exists Vz,kdZ,W
  exists VA,keg,W
  exists Q0,kcX,W
  exists ql,kbj,W
  exists VB,kdY,W
  exists VC,kfu,W
  exists VD,kfw,W
  exists VE,kcK,W
  exists VF,keV,W
  exists VG,keW,W
  exists VH,kjj,W
  exists VI,kf8,W
  exists hr1,1,hr,0
  exists hr2,2,hr,0
  exists hr3,3,hr,0
  exists hr5,5,hr,0
  exists hr6,6,hr,0
  refine⟨_,kab (psl (i:=1) qm.nd (pcl Q1 hr1 W.qW (kaa (pv 0) (kaa kaf kae))))
   (kab (psl (i:=2) qm.nd (kh7 (kcx kau (pcl Vz hr2 W.YS (kaa (pv 1) kae)) (kcx kau (kaM kae) (kcx kau (kaM kae) kh3))) rfl rfl (fun z=>nomatch z) (by decide)))
   (kab (psl (i:=3) qm.nd (kat (r:=kbz K) kaJ (by rfl) W.B.len b_len (kaa (kaG (hu_of hr) (pv 2) kau (fun _ _=>rfl)) kae)))
   (kab (kky (hu_of hr) (pv 2) kau (pcl VA hr2 W.YT (kaa (pcl Q1 hr1 W.qW (kaa (pv 0) (kaa kaf kae))) (kaa (pv 3) (kaa (kbc op_eq (pe_op kaC (pv 1) kaf) kaf (kav _)) kae)))) rfl)
   (kab (psl (i:=4) qm.nd (kat (r:=rSum K) (kb8 rfl) (by rfl) W.B.sum b_sum (kaa (kaG (hu_of hr) (pcl Q0 hr1 W.Qv (kaa (kaG (hu_of hr) (pv 2) kau (fun _ _=>rfl)) kae)) kau (fun _ _=>rfl)) kae)))
   (kab (psl (i:=5) qm.nd (pe_ix (r:=rIxL K) kay (kaM (kaa kaf (kaa kaf (kaa kaf (kaa kaf (kaa kaf (kaa kaf kae))))))) (pe_op kaC (pcl ql hr1 W.qp (kaa (pv 1) (kaa kaf kae))) kaf) (fun _ _=>rfl)))
   (kab (kbe PassesOwn.never rfl (kcR rfl W.B.range (kaa (pv 5) kae)) (pgn (i:=6) qm.nd)
   (kag (ka3 (pe_bm Jd Jr Js ka4 (kaG (hu_of hr) (pv 2) kau (fun _ _=>rfl)) (kaa (pcl VB hr2 W.YW (kaa (pe_op kbs (pcl Q1 hr1 W.qW (kaa (pv 0) (kaa (pe_op kbs kaf (pv 6)) kae))) (pe_op kcT kaf (pv 6))) (kaa (pv 3) (kaa (kbc op_eq (pe_op kaC (pv 1) kaf) kaf (kav _)) (kaa (pv 4) kae))))) kae)))))
   (kab (psl (i:=7) qm.nd (pcl ql hr1 W.qp (kaa (pv 1) (kaa kaf kae))))
   (kab (kcm (ps_if (kar op_eq (pe_op kaC (pv 7) kaf) kaf (kav _)) (kag (ka3 (pe_bm Jd Jr Js ka4 (kaG (hu_of hr) (pv 2) kau (fun _ _=>rfl)) (kaa (kbH (kaa (pe_ix (r:=rIxL K) kay (kaM (kaa kau (kaa kau kae))) (pe_op kaC (pe_op kaH (pv 7) kaf) kaf) (fun _ _=>rfl)) (kaa (pe_op kaC (pe_op kaH (pv 7) kaf) (pv 5)) (kaa (pe_op kaC (pe_op kaH (pv 7) kaf) (pv 5)) kae)))) kae)))) (kas)))
   (kab (kcm (ps_if (kar op_eq (pe_op kaC (pv 1) kaf) kaf (kav _)) (kag (kem (pe_ix (r:=rIxL K) kay (kaG (hu_of hr) (pv 2) kau (fun _ _=>rfl)) kaf (fun _ _=>rfl)) (ken (kaG (hu_of hr) (pv 2) kau (fun _ _=>rfl)) (pe_op kbJ (pv 5) kaf) set_list))) (kas)))
   (kab (keO (N:=["_law_told"]) (CompScope.plain rfl (by decide +kernel) (by decide +kernel) (by decide +kernel) (nd1 _)) rfl (kaF (K:=K) (kaG (hu_of hr) (pv 2) kau (fun _ _=>rfl))) (fun _ _ _ _=>pgn (i:=0) (nd1 _)) (fun _ _ _ _=>(pcl VC hr6 W.YX (kaa (pv 0) kae))) (pgn (i:=8) qm.nd))
   (kab (kcm (ps_if (kar op_eq (pe_op kaC (pv 1) kaf) kaf (kav _)) (kag (kem (pe_ix (r:=rIxL K) kay (pv 8) kaf (fun _ _=>rfl)) (ken (pv 8) (pe_op kbJ (pv 5) kaf) set_list))) (kas)))
   (kab (psl (i:=9) qm.nd (kbI (W.Zg.mk' W.qe) VD hr2 rfl W.qe.m W.b1_Till_init (show Vals [.str "again"] [.str "again" d.tok0_Till_init] from(.cons ⟨_,rfl⟩ .nil)) pass0 (kaa (kaG (hu_of hr) (pv 2) kau (fun _ _=>rfl)) (kaa (pv 8) (kaa (kaG (hu_of hr) (pv 2) kau (fun _ _=>rfl)) kae)))))
   (kab (psl (i:=10) qm.nd (pcl VE hr3 W.YU (kaa (kaG (hu_of hr) (pv 2) kau (fun _ _=>rfl)) kae)))
   (kab (kbe PassesOwn.never rfl (kaF (K:=K) (pe_op kj5 (kaM (kaa (pv 1) kae)) (kcy (r:=rSlL K) kdb (pv 0) (kcn kaf) (kcn kaf)))) (pgn (i:=11) qm.nd)
   (kab (psl (i:=12) qm.nd (pcl VF hr2 W.YV (kaa (pv 11) (kaa (pv 5) kae))))
   (kag (ps_if (kfo (kaS (pcl VG hr5 W.qM (kaa (pcl VH hr W.YL (kaa (pv 9) (kaa (pv 10) (kaa (pe_op kic (kaM (kaa kaf kae)) (pv 5)) (kaa (pv 12) kae))))) (kaa (pcl VI hr3 W.Y2 (kaa (pv 2) (kaa (pv 12) kae))) kae))))) (kag (kan pe_bl)) (kas)))))
   (kag (kan pe_bl)))))))))))))))),?_⟩
  refine⟨_,rfl,a,ns,0,rfl,hSc,fun c=>?_⟩
  refine fun wd fwd=>?_
  exists H,wd,H0,n0,e0,fwd
  refine⟨_,rfl,c,rfl,fun H1 p ps s1 f1 hp hg hl20 hl0=>?_⟩
  refine⟨by decide,fun vl fvl=>?_⟩
  exists H1,vl,H2,n2,e2,fvl
  refine⟨by decide,fun rl frl=>?_⟩
  exists H2,rl,H3,n3,e3,frl
  have ew3:H3 wd=some (.dK []):=((s1.trans n2).trans n3) _ _ e0
  refine⟨ew3,[(.inr "parents", .ref p),(.inr "vouchers", .ref vl),(.inr "rules", .ref rl)],rfl,(by show 3≤15;decide),?_⟩
  rw[show kd2 [] [((.inr "parents" :Key),V.ref p),(.inr "vouchers", .ref vl),(.inr "rules", .ref rl)]=[(.inr "parents", .ref p),(.inr "vouchers", .ref vl),(.inr "rules", .ref rl)] from rfl]
  have fvl':H vl=none:=(n0.trans s1).free fvl
  have frl':H rl=none:=((n0.trans s1).trans n2).free frl
  have s03:=((n0.trans s1).trans n2).trans n3
  have hp3:=(n2.trans n3) _ _ hp
  have e23:=n3 _ _ e2
  have pvl:p≠vl:=kai hp fvl
  have prl:p≠rl:=kai (n2 _ _ hp) frl
  have vrl:vl≠rl:=kai e2 frl
  generalize hg4:upd H3 wd _=H4
  have s4:Same H H4:=by rw[←hg4];exact kaq fwd s03 (nx ew3)
  have ew4:H4 wd=some (.dK [((.inr "parents" :Key),V.ref p),(.inr "vouchers", .ref vl),(.inr "rules", .ref rl)]):=by rw[←hg4];exact kad
  have hp4:H4 p=some (.lst (ps.map pV)):=by rw[←hg4,kaj (ne_of hp3 ew3 (by intro z;cases z))];exact hp3
  have ev4:H4 vl=some (.lst (([]:List Addr).map V.ref)):=by rw[←hg4,kaj (ne_of e23 ew3 (by intro z;cases z))];exact e23
  have er4:H4 rl=some (.lst (([]:List Addr).map V.ref)):=by rw[←hg4,kaj (ne_of e3 ew3 (by intro z;cases z))];exact e3
  clear hg4 ew3 s03 hp3 e23 e3 e2 n3 n2 s1 n0 e0 hp
  refine⟨_,rfl,wd,_,rfl,DGet.k (k:=.inr "parents") ew4,p,_,rfl, .inl (SqL.of hp4),?_⟩
  refine⟨_,rfl,a,ns,9,rfl,s4.seq hSc,fun c9=>⟨_,rfl,_,rfl,_,_,rfl,rfl,(by show(0:Int)<2;decide),rfl,c9,ps.length,_,(by rw[Uu];rfl),hl0,fun H5 t lp ba B s5 flp ht hlp hba hB12 hBok hBkd hBc hB64=>?_⟩⟩
  have ew5:=s5 _ _ ew4
  refine⟨_,rfl,wd,_,rfl,DPut.k (k:=.inr "basket") ew5 (by show 3<sizeLine;decide),?_⟩
  rw[show putK [((.inr "parents" :Key),V.ref p),(.inr "vouchers", .ref vl),(.inr "rules", .ref rl)] (.inr "basket") (.ref t)=wdD p vl rl t from rfl]
  have nlv:lp≠vl:=(kai ev4 flp).symm
  have nlr:lp≠rl:=(kai er4 flp).symm
  have hW6:WdN (upd H5 wd (.dK (wdD p vl rl t))) wd p vl rl t lp ba [] [] ps [] [] B:=by
   have ne:∀{b:Addr}{o:HO},H5 b=some o→(∀xs,o≠.dK xs)→(upd H5 wd (.dK (wdD p vl rl t))) b=some o:=fun e n=>by rw[kaj (ne_of e ew5 (n _))];exact e
   exact⟨kad,ne (s5 _ _ hp4) (by intro _ z;cases z),ne (s5 _ _ ev4) (by intro _ z;cases z), .nil,ne (s5 _ _ er4) (by intro _ z;cases z), .nil,ne ht (by intro _ z;cases z),ne hlp (by intro _ z;cases z),hba.mono fun _ _ z=>ne z (by intro _ z;cases z),pvl,prl,vrl,nlv,nlr⟩
  have s6:Same H (upd H5 wd (.dK (wdD p vl rl t))):=kaq fwd (s4.trans s5) (nx ew5)
  generalize upd H5 wd (.dK (wdD p vl rl t))=H6 at *
  clear ew5 ew4 hp4 ev4 er4 ht hlp hba nlv nlr flp s5 s4 H5 H4
  refine⟨_,rfl,wd,_,rfl,hW6.wdd.gb,t,B,rfl,hW6.wdd.hb,hBok,hB12,fun H7 x p' o m s7 fp' fo' fm' hS7=>?_⟩
  have htot:0≤(prs B.m B.rs).sum:=kbk fun z hz=>by
   obtain⟨xs,h1,h2⟩:=Jx.mp hz
   obtain⟨r,hr,rfl⟩:=UX.mp h1
   rw[(Mg.mp h2).2]
   exact(kh2 (hBok r hr)).1
  refine⟨x,_,rfl,hS7.gp,p',(prs B.m B.rs),rfl,SqL.of hS7.hp,?_⟩
  generalize (prs B.m B.rs).sum=tot at *
  have hW7:=hW6.same s7
  have s07:=s6.trans s7
  clear hW6 hS7 fp' fo' fm' s7 s6
  refine⟨(by show 6≤sizeLine;decide),fun l4 fl4=>?_⟩
  exists H7,l4,H8,n8,e8,fl4
  refine⟨_,rfl,c,50,rfl,by decide,by decide,fun z z0 z1=>?_⟩
  obtain⟨mz,hm,em⟩:=kgM (zs:=[1,2,3,4,2,8]) (m:=z%6) (by omega) (by show z%6<(6:Int);omega)
  have hm8:1≤mz∧mz≤8:=by
   simp only[UJ,U3,or_false] at hm
   omega
  obtain⟨mn,rfl⟩:=Int.eq_ofNat_of_zero_le (show 0≤mz by omega)
  refine⟨_,_,rfl,rfl,(by show(0:Int)<6;decide),l4,_,_,_,rfl,rfl,SqL.of e8,em,_,rfl,_,rfl,by omega,by omega,?_⟩
  rw[Int.toNat_natCast]
  have hW8:=hW7.same n8
  have s08:=s07.trans n8
  clear em hm e8 hW7 s07 n8 fl4
  refine kc4 (fun i σ H'=>Same H H'∧∃(ta:List Addr)(vs:List Vch)(v6:Option V),WdN H' wd p vl rl t lp ba ta [] ps vs [] B∧(∀V∈vs,Vo21 ps V)∧vs.length=i∧σ=[some (.ref a),some (.int c),some (.ref wd),some (iV ps.length),some (.int tot),some (iV mn),v6,none,none,none,none,none,none])
   ⟨s08,[],[],none,hW8,(fun V hV=>by simp at hV),rfl,by rw[Uu];rfl⟩ ?_ ?_
  ·rintro i σ H' hi ⟨sI,ta,vs,v6,hW,hvo,hlv,rfl⟩
   rw[Int.zero_add]
   have hi8:i<8:=by omega
   have hta:=hW.tv.len
   refine⟨_,rfl,wd,_,rfl,hW.wdd.gv, .inl ⟨rfl,_,SqL.of hW.hv⟩,?_⟩
   refine⟨_,rfl,_,rfl,_,_,rfl,rfl,a,ns,1+i,(by show [V.ref a,V.int ((1:Int)+(i:Int))]=_;rw[show(1:Int)+(i:Int)=((1+i:Nat):Int) by omega];rfl),sI.seq hSc,fun z2=>⟨_,rfl,_,_,rfl,rfl, .inl ⟨by decide,by decide⟩,_,_,rfl,rfl,?_⟩⟩
   dsimp only
   generalize z2+11*(i:Int)=one
   refine⟨_,rfl,_,rfl,_,_,rfl,rfl,(by show(0:Int)<2;decide),rfl,_,rfl,one,ps,_,tot,rfl,hl0,htot,fun H5 q Vq s5 fq hq hvq=>?_⟩
   have hW5:=hW.same s5
   refine⟨vl,_,_,rfl,rfl,hW5.hv,kap (by rw[Uu,hta];omega),?_⟩
   rw[show ta.map V.ref++[V.ref q]=(ta++[q]).map V.ref by rw[UH];rfl]
   refine⟨kaq fvl' (sI.trans s5) (nx hW5.hv),ta++[q],vs++[Vq],_,hW5.setV (P2.snoc hW5.tv hq),?_,by simp[hlv],rfl⟩
   intro V hV
   rcases Jg.mp hV with h|h
   ·exact hvo V h
   ·rw[Jq.mp h]
    exact hvq
  rintro σ H' ⟨sI,ta,vs,v6,hW,hvo,hlv,rfl⟩
  clear hW8 s08
  have hta:=hW.tv.len
  refine⟨_,rfl,c,53,rfl,by decide,by decide,fun dr dr0 dr1=>?_⟩
  have hmnp:(0:Int)<((mn:Nat):Int):=by omega
  refine⟨fun σ' H2=>Same H H2∧∃(ra:List Addr)(rs:List Rul),WdN H2 wd p vl rl t lp ba ta ra ps vs rs B∧rs.length≤1∧(∀r∈rs,r.w=("never" :Str)∨r.w=("ahead" :Str))∧σ'=[some (.ref a),some (.int c),some (.ref wd),some (iV ps.length),some (.int tot),some (iV mn),v6,some (.int dr),none,none,none,none,none],?_,?_⟩
  ·refine⟨_,rfl,_,_,rfl,rfl,(by show(0:Int)<3;decide),rfl,_,rfl,ite2 (fun _=>?_) (fun _=>⟨sI,[],[],hW,by decide,(fun r hr=>by simp at hr),rfl⟩)⟩
   refine⟨_,rfl,wd,_,rfl,hW.wdd.gr, .inl ⟨rfl,_,SqL.of hW.hr⟩,(by show 2≤sizeLine;decide),fun l5 fl5=>?_⟩
   exists H',l5,H2,n2,e2,fl5
   obtain⟨zw,hzw,ezw⟩:∃zw:Str,(zw=("never" :Str)∨zw=("ahead" :Str))∧atI [V.str "never",V.str "ahead"] (dr/3%2)=some (.str zw):=by
    rcases(by omega:dr/3%2=0∨dr/3%2=1) with e|e
    ·rw[e]
     exact⟨_, .inl rfl,rfl⟩
    ·rw[e]
     exact⟨_, .inr rfl,rfl⟩
   have e6:∀y:Int,∃n:Nat,y%((mn:Nat):Int)=(n:Int):=fun y=>⟨(y%((mn:Nat):Int)).toNat,(Int.toNat_of_nonneg (Int.emod_nonneg _ (by omega))).symm⟩
   obtain⟨na,ena⟩:=e6 (dr/6)
   obtain⟨nb,enb⟩:=e6 (dr/60)
   refine⟨_,rfl,_,_,rfl,rfl,⟨by decide,by decide⟩,_,_,rfl,rfl,(by show(0:Int)<2;decide),l5,_,_,_,rfl,rfl,SqL.of e2,ezw,_,rfl,_,_,rfl,rfl,⟨by decide,by decide⟩,_,rfl,_,_,rfl,rfl,hmnp,_,rfl,_,_,rfl,rfl,⟨by decide,by decide⟩,_,rfl,_,_,rfl,rfl,hmnp,(by show 3≤sizeLine;decide),fun tq ftq=>?_⟩
   dsimp only
   rw[ena,enb]
   exists H2,tq,H3,n3,e3,ftq
   have hW3:=hW.same (n2.trans n3)
   have s3:=(sI.trans n2).trans n3
   refine⟨rl,_,_,rfl,rfl,hW3.hr,(by show 0<sizeLine;decide),?_⟩
   exact⟨kaq frl' s3 (nx hW3.hr),[tq],[⟨zw,na,nb⟩],hW3.setR (ra':=[tq]) (.cons e3 .nil),Ux _,(fun r hr=>by rw[Jq.mp hr];exact hzw),rfl⟩
  rintro σ' H2 ⟨s2,ra,rs,hW2,hrl,hrw,rfl⟩
  clear hW sI
  refine⟨fun σ' H3=>Same H H3∧∃(ta':List Addr)(vs':List Vch),WdN H3 wd p vl rl t lp ba ta' ra ps vs' rs B∧(∀V∈vs',Vo21 ps V)∧vs'.length=mn∧(c%3=0→vs'[0]?=vs'[mn-1]?)∧σ'=[some (.ref a),some (.int c),some (.ref wd),some (iV ps.length),some (.int tot),some (iV mn),v6,some (.int dr),none,none,none,none,none],?_,?_⟩
  ·refine⟨_,rfl,_,_,rfl,rfl,(by show(0:Int)<3;decide),rfl,_,rfl,ite2 (fun _=>?_) (fun h3=>⟨s2,ta,vs,hW2,hvo,hlv,(fun z=>absurd (by show decide (V.int (c%3)=V.int 0)=true;rw[z];simp) h3),rfl⟩)⟩
   obtain⟨w0,ew⟩:=at_of (xs:=ta) (i:=0) (by omega)
   obtain⟨W0,eW,hw0⟩:=hW2.tv.at ew
   have lm:(ta.map V.ref).length=mn:=by rw[Uu];omega
   refine⟨_,rfl,wd,_,rfl,hW2.wdd.gv,vl,_,_,_,rfl,rfl,SqL.of hW2.hv,(show atI (ta.map V.ref) ((0:Nat):Int)=_ from kaQ (v:=.ref w0) (by rw[UD,ew];rfl)),_,rfl,wd,_,rfl,hW2.wdd.gv,_,rfl,_,_,rfl,rfl,vl,_,_,mn-1,rfl,rfl,hW2.hv,(by rw[show((mn:Nat):Int)-1=((mn-1:Nat):Int) by omega];exact kdl (by omega)),?_⟩
   rw[←J0]
   refine⟨kaq fvl' s2 (nx hW2.hv),ta.set (mn-1) w0,vs.set (mn-1) W0,hW2.setV (P2.put hw0 _ hW2.tv),?_,by rw[NW];exact hlv,(fun _=>?_),rfl⟩
   ·intro V hV
    rcases List.mem_or_eq_of_mem_set hV with h|h
    ·exact hvo V h
    ·rw[h]
     exact hvo W0 (UE eW)
   ·rw[JN (by omega)]
    by_cases z:mn-1=0
    ·rw[z,JN (by omega)]
    ·rw[JO z]
     exact eW
  rintro σ' H3 ⟨s3,ta',vs',hW3,hvo3,hlv3,hsm,rfl⟩
  clear hW2 s2 hvo hlv hta
  have hta:=hW3.tv.len
  refine⟨_,rfl,wd,_,rfl,hW3.wdd.gv,vl,rfl,⟨_,SqL.of hW3.hv⟩,kaV (xs:=ta'.map V.ref) (fun i σ ys H2=>Same H3 H2∧∃(va:List Addr)(v0:Option V),ys=va.map V.ref∧P2 (fun v V=>VchIs d H2 v V) va (vs'.take i)∧σ=[v0]) ⟨Same.refl _,[],none,rfl, .nil,rfl⟩ (by rw[Uu,hta];exact UI (kap (by omega))) ?_ ?_ ?_⟩
  ·rintro i σ ys Hx hi ⟨sx,va,v0,rfl,hva,rfl⟩
   rw[Uu,hta] at hi
   exact⟨SqL.of (sx _ _ hW3.hv),by rw[Uu,hva.len,UP];omega⟩
  ·rintro i y σ ys Hx hy ⟨sx,va,v0,rfl,hva,rfl⟩
   obtain⟨q,et,rfl⟩:=kbZ hy
   obtain⟨V,eV,hV⟩:=hW3.tv.at et
   refine⟨_,rfl,q,V,rfl,hV.same sx,(hvo3 V (UE eV)).so,Tbs.same (s3.trans sx) htb0,fun Hy v sy fy hv=>?_⟩
   refine⟨sx.trans sy,va++[v],_,by rw[UH];rfl,?_,rfl⟩
   rw[take_snoc eV]
   exact P2.snoc (hva.mono fun v V h=>h.same sy) hv
  rintro σ ys Hx ⟨sx,va,v0,rfl,hva,rfl⟩ ow fow
  rw[Uu,hta,U0] at hva
  exists Hx,ow,H5,n5,e5,fow
  have fow3:H3 ow=none:=sx.free fow
  have s5:=sx.trans n5
  have hva5:P2 (fun v V=>VchIs d H5 v V) va vs':=hva.mono fun v V h=>h.same n5
  have lva:=hva5.len
  refine⟨fun σ' H6=>Same H3 H6∧∃(va':List Addr),H6 ow=some (.lst (va'.map V.ref))∧P2 (fun v V=>VchIs d H6 v V) va' vs'∧σ'=[some (.ref a),some (.int c),some (.ref wd),some (iV ps.length),some (.int tot),some (iV mn),v6,some (.int dr),some (.ref ow),none,none,none,none],?_,?_⟩
  ·refine⟨_,rfl,_,_,rfl,rfl,(by show(0:Int)<3;decide),rfl,_,rfl,ite2 (fun h3=>?_) (fun _=>⟨s5,va,e5,hva5,rfl⟩)⟩
   have hc3:c%3=0:=by
    have e:V.int (c%3)=V.int 0:=of_decide_eq_true h3
    injection e
   obtain⟨w0,ew⟩:=at_of (xs:=va) (i:=0) (by omega)
   obtain⟨W0,eW,hw0⟩:=hva.at ew
   have lm:(va.map V.ref).length=mn:=by rw[Uu];omega
   refine⟨_,rfl,ow,_,_,_,rfl,rfl,SqL.of e5,(show atI (va.map V.ref) ((0:Nat):Int)=_ from kaQ (v:=.ref w0) (by rw[UD,ew];rfl)),_,rfl,_,rfl,_,_,rfl,rfl,ow,_,_,mn-1,rfl,rfl,e5,(by rw[show((mn:Nat):Int)-1=((mn-1:Nat):Int) by omega];exact kdl (by omega)),?_⟩
   rw[←J0]
   have s6:=kaq (o:=.lst ((va.set (mn-1) w0).map V.ref)) fow3 s5 (nx e5)
   have sX:=kaq (o:=.lst ((va.set (mn-1) w0).map V.ref)) fow n5 (nx e5)
   have hvs:=P2.put (hw0.same sX) (mn-1) (hva.mono fun v V h=>h.same sX)
   rw[kk2 (l:=vs') (by rw[←hsm hc3];exact eW)] at hvs
   exact⟨s6,va.set (mn-1) w0,kad,hvs,rfl⟩
  clear hva5 hva e5 n5 s5 fow lva sx Hx
  rintro σ' H6 ⟨s6,va',e6,hva6,rfl⟩
  have hW6:=hW3.same s6
  have s06:=s3.trans s6
  refine⟨_,rfl,wd,_,rfl,hW6.wdd.gp,_,rfl,_,rfl,wd,_,rfl,hW6.wdd.gr,?_⟩
  refine kkG (T:=⟨ps,vs',rs,"again"⟩) hW6.hp e6 hva6 (ra:=ra) hW6.hr hW6.tr fun H8 tl s8 f8 hT=>?_
  have hW8:=hW6.same s8
  refine⟨_,rfl,wd,_,rfl,hW8.wdd.gb,t,lp,ba,B,rfl,hW8.ht,hW8.hl,hW8.tb,hB12,fun H10 b s10 f10 hb=>?_⟩
  have hW10:=hW8.same s10
  have s010:=(s06.trans s8).trans s10
  have wf0:=Wf.start hg hl20 hBkd hBok hB12 hBc hB64
  have hT10:=hT.same s10
  have tok:ki1 ⟨ps,vs',rs,"again"⟩:=⟨fun V hV=>(hvo3 V hV).ok,by show vs'.length≤8;omega⟩
  clear hW3 hW6 hW8 e6 hva6 s6 s8 s3 hT
  refine⟨_,rfl,(by show 1≤sizeLine;decide),fun l1 fl1=>?_⟩
  exists H10,l1,HA,nA,eA,fl1
  refine⟨_,rfl,_,rfl,_,rfl,a,_,rfl,(s010.trans nA).seq hSc,fun l2 fl2=>?_⟩
  obtain⟨ms,ems,lms⟩:=kjE ns (some 10) (some 30)
  rw[ems]
  exists HA,l2,HB,nB,eB,fl2
  refine⟨l1,l2,_,_,rfl,rfl,nB _ _ eA,eB,UI (kap (by rw[Uu,Nu];omega)),fun l3 fl3=>?_⟩
  rw[show [V.int c]++ms.map V.int=(c::ms).map V.int from rfl]
  exists HB,l3,HC,nC,eC,fl3
  have sC:=(nA.trans nB).trans nC
  have hWC:=hW10.same sC
  have hTC:=hT10.same sC
  have hbC:=hb.same sC
  clear hT10 hb hW10 eA eB nA nB nC
  refine⟨l3,rfl,⟨_,SqL.of eC⟩,kbp (xs:=(c::ms).map V.int) (fun i σ H'=>Same HC H'∧∃v11 v12:Option V,σ=[some (.ref a),some (.int c),some (.ref wd),some (iV ps.length),some (.int tot),some (iV mn),v6,some (.int dr),some (.ref ow),some (.ref tl),some (.ref b),v11,v12])
   ⟨Same.refl _,none,none,rfl⟩ (fun i σ H' _ h=>SqL.of (h.1 _ _ eC)) ?_ ?_⟩
  ·rintro i y σ Hi hy ⟨si,v11,v12,rfl⟩
   obtain⟨one,_,rfl⟩:∃z,(c::ms)[i]?=some z∧y=V.int z:=kbl hy
   refine⟨_,rfl,_,rfl,one,mn,rfl,by omega,fun Hj o order sj fo eo hlt h8=>?_⟩
   have sCj:=si.trans sj
   refine⟨_,rfl,_,rfl,(by show 1≤sizeLine;decide),fun h1 fh1=>?_⟩
   exists Hj,h1,HD,nD,eD,fh1
   refine⟨_,rfl,h1,((mn:Nat):Int),_,rfl,rfl,eD,by omega,by omega,(by show 1*_≤_;rw[Int.toNat_natCast,Nat.one_mul];exact UI (kap (by omega))),fun h2 fh2=>?_⟩
   rw[Int.toNat_natCast,rep1,kf2]
   exists HD,h2,HE,nE,eE,fh2
   rw[←hlv3] at eE hlt
   have sjE:=nD.trans nE
   have sCE:=sCj.trans sjE
   refine⟨_,rfl,tl,b,h2,o,⟨ps,vs',rs,"again"⟩,B,_,order,rfl,hTC.same sCE,tok,hbC.same sCE,wf0,eE,sjE _ _ eo,by rw[Jn],hlt,by omega,fun Hk fv sk hfv=>?_⟩
   have sCk:=sCE.trans sk
   refine⟨_,rfl,_,rfl,wd,o,p,vl,rl,t,ta',ra,⟨ps,vs',rs,"again"⟩,B,order,rfl,(hWC.same sCk).wdd,hvo3,hrl,hrw,wf0,(sjE.trans sk) _ _ eo,hlt,by omega,fun Hl gv sl hgv=>?_⟩
   exact⟨fv,gv,rfl,kiF (hfv.same sl) hgv,fun Hm sm=>⟨_,rfl,iteF ⟨(sCk.trans sl).trans sm,_,_,rfl⟩⟩⟩
  ·rintro σ Hi ⟨si,v11,v12,rfl⟩
   exact k _
end
end Vs
namespace Vs
open PySem L2
theorem ln0{C:List Value→Prop}(k:C []):∀us:List Value,us.length=0→C us:=fun us h=>by
 cases us with
 |nil=>exact k
 |cons a us=>cases h
theorem lnS{C:List Value→Prop}{n:Nat}(k:∀(a:Value)(us:List Value),us.length=n→C (a::us)):∀us:List Value,us.length=n+1→C us:=fun us h=>by
 cases us with
 |nil=>cases h
 |cons a us=>exact k a us (Nat.succ.inj h)
def nL1{C:List Value→Prop}(k:∀a0:Value,C [a0]):∀us:List Value,us.length=1→C us:=lnS fun a0=>ln0 (k a0)
def nL2{C:List Value→Prop}(k:∀a0 a1:Value,C [a0,a1]):∀us:List Value,us.length=2→C us:=lnS fun a0=>lnS fun a1=>ln0 (k a0 a1)
def nL3{C:List Value→Prop}(k:∀a0 a1 a2:Value,C [a0,a1,a2]):∀us:List Value,us.length=3→C us:=lnS fun a0=>lnS fun a1=>lnS fun a2=>ln0 (k a0 a1 a2)
def nL4{C:List Value→Prop}(k:∀a0 a1 a2 a3:Value,C [a0,a1,a2,a3]):∀us:List Value,us.length=4→C us:=lnS fun a0=>lnS fun a1=>lnS fun a2=>lnS fun a3=>ln0 (k a0 a1 a2 a3)
def nL5{C:List Value→Prop}(k:∀a0 a1 a2 a3 a4:Value,C [a0,a1,a2,a3,a4]):∀us:List Value,us.length=5→C us:=lnS fun a0=>lnS fun a1=>lnS fun a2=>lnS fun a3=>lnS fun a4=>ln0 (k a0 a1 a2 a3 a4)
def nL6{C:List Value→Prop}(k:∀a0 a1 a2 a3 a4 a5:Value,C [a0,a1,a2,a3,a4,a5]):∀us:List Value,us.length=6→C us:=lnS fun a0=>lnS fun a1=>lnS fun a2=>lnS fun a3=>lnS fun a4=>lnS fun a5=>ln0 (k a0 a1 a2 a3 a4 a5)
def nL7{C:List Value→Prop}(k:∀a0 a1 a2 a3 a4 a5 a6:Value,C [a0,a1,a2,a3,a4,a5,a6]):∀us:List Value,us.length=7→C us:=lnS fun a0=>lnS fun a1=>lnS fun a2=>lnS fun a3=>lnS fun a4=>lnS fun a5=>lnS fun a6=>ln0 (k a0 a1 a2 a3 a4 a5 a6)
def bd_mk{K:Uv}{fd:FuncData}{ps:List Str}{ds:List Value}{n:Nat}(hn:n+ds.length=ps.length)(k:∀s:Shared,K.In s.heap→∀us:List Value,us.length=n→BindsTo s fd ⟨us,[]⟩ (ps.zip (us++ds))):Binds K fd ps ds:=fun s us KX hl=>k s KX us (by rw[UY] at hl;omega)
def dn_mk{K:Uv}{st:Stmt}{ps:List Str}{f:Addr}{oc:Value}{od an:Option Addr}{osl:Array (Option Value)}{kV doc pm cdv ct:Value}{h:Heap}{mg:Str→Option Value}{x:Str}(X:K.In h)(G:h.Ns mainGlobals mg)(a:UN K mainGlobals x=some (some (.ref f)))(l:K.lookup f=some ⟨oc,od, .func (UM x x (kaD st) (kaA st) (kah st) .none kV doc pm an cdv ct),osl⟩)(c:U8 K cdv x=true)(k:UO K (.ref f)=true)(b:∀(kV doc pm:Value)(an:Option Addr)(cdv ct:Value),∀us:List Value,us.length=ps.length→bindArgs (UM x x (kaD st) (kaA st) (kah st) .none kV doc pm an cdv ct) ⟨us,[]⟩=pure (ps.zip us)):Dn K mg x st ps f (UM x x (kaD st) (kaA st) (kah st) .none kV doc pm an cdv ct):=⟨kbB l c k,Binds.all (b _ _ _ _ _ _),UZ X G a⟩
def mt_mk{K:Uv}{st:Stmt}{ps:List Str}{f:Addr}{oc:Value}{od an:Option Addr}{osl:Array (Option Value)}{kV doc pm cdv ct:Value}{m qual:Str}{C:Addr}(a:Uy K (.ref C) m=some (some (.ref f)))(i:Jh K (.ref f)=true)(l:K.lookup f=some ⟨oc,od, .func (UM m qual (kaD st) (kaA st) (kah st) .none kV doc pm an cdv ct),osl⟩)(c:U8 K cdv qual=true)(k:UO K (.ref f)=true)(b:∀(kV doc pm:Value)(an:Option Addr)(cdv ct:Value),∀us:List Value,us.length=ps.length→bindArgs (UM m qual (kaD st) (kaA st) (kah st) .none kV doc pm an cdv ct) ⟨us,[]⟩=pure (ps.zip us)):MthT K C m qual st ps f (UM m qual (kaD st) (kaA st) (kah st) .none kV doc pm an cdv ct):=⟨a,i,kbB l c k,Binds.all (b _ _ _ _ _ _)⟩
theorem all_mk{l:PySem.W.OpenLaw}{w:World}{K:Uv}{h:Heap}{mg:Str→Option Value}{fa zcb zcu z2y zcc zdo z6v zd3 z2v z2g z4m z2m zt z3m z6g z3e z9d zcf zas z34 z45 z3t z29 z5b z6o z5n z4x z3v z4s z1n z5e z42 z76 z52 z51 z5a z2i z75 z81 z9e zi zv z32 zf zp z1l zk z1i z4r ze zw z2z za zc zb zr z1g zn zz z3o zj zu z27 zd z3a zo z80 z48 z54 z3k zm z1a z3q zl zh:Addr}{z5y z2e zfc zds z9j z4o z90 z7c z3l z7p zbc z6h zc4 z9a z4i z9k z6i z2l z78 zag z59 z9y z8e z4b z88 za0 z5d zaa z4t:Option Addr}{z5q zfd z91 z9h z7u z7t zbw zbb z96 z95 z6r z7a z9o z9p z8u z89 zan za8 z4v:Array (Option Value)}{z5z z1r z1u z28 zs z1x zfs zdp zdu zdt zbd zdr z9m z4p z4h z4n z1t z4q z8v z7g z36 z3n z37 z1f z3b z7r zc7 z6f z6k z6t z3p z6a zby z98 z4d z4k z4e z1y z4l z8w z70 z2x z2q z2k zx z2r z6n za2 z5g z5l z5i z30 z58 zab z8m z3w z4c z44 z1k z40 z8p z9s z4z z50 z57 z31 z4y zaf z1m:Value}{z97 z2w z7n zb0 z9b z6z za7 z8j z2c za1 z3j z21 z20 z2a:Nat}{zcg zd0 z2h zcj zdq z6l zcw z2o z2d z4g z2t z38 z6x z3c z9i zd4 zar z3h z47 z49 z25 z5m z6p z5f z5j z3x z4f z1o z55 z43 z6b z4w z53 z5h z2u z69 z82 z39 z84 z41 z5k z3g:FuncData}{zg:Array Value}{z2b:Str}{z22 z1w:Int}{z1v:Bool}{ts:List Addr}(X:K.In h)(G:h.Ns mainGlobals mg)(hfa:mg "law"=some (.ref fa))
  (zef:Dn K mg "dealt" kf0 ["cut","weights"] zcb zcg)
  (zem:Dn K mg "under" kfY ["parents","one","other"] zcu zd0)
  (z74:Dn K mg "price_of_piece" kbw ["line","member"] z2y z2h)
  (zf1:Dn K mg "about" kdN ["voucher","parents","basket","standing"] zcc zcj)
  (zfm:Dn K mg "fits" khY ["marks","parents","kind","marked"] zdo zdq)
  (zau:Dn K mg "hindrance" kcF ["voucher","parents","basket","standing"] z6v z6l)
  (zer:Dn K mg "after" kf1 ["voucher","parents","basket","standing"] zd3 zcw)
  (z6d:Dn K mg "cuts_of_pieces" kby ["voucher","parents","basket","standing"] z2v z2o)
  (z62:Dn K mg "cut_of_carriage" kbn ["voucher","standing"] z2g z2d)
  (z94:Dn K mg "wanted_cuts" ka6 ["voucher","standing","pieces"] z4m z4g)
  (z6q:Dn K mg "parted_by_line" kbx ["standing","pieces"] z2m z2t)
  (z6w:UN K mainGlobals "falling_groups"=some (some (.ref zt))) (z72:K.lookup zt=some ⟨z5z,z5y, .func (UM "falling_groups" "falling_groups" (kaD kaz) (kaA kaz) (kah kaz) .none z1r z1u z28 z2e zs z1x),z5q⟩) (z73:U8 K zs "falling_groups"=true) (z71:UO K (.ref zt)=true)
  (z7j:Dn K mg "marked_behind" kbE ["voucher","standing","piece_cuts"] z3m z38)
  (zbl:Dn K mg "prices_of" kb0 ["standing","pieces"] z6g z6x)
  (z7o:Dn K mg "sum_of_prices" kbD ["standing","pieces"] z3e z3c)
  (zda:Dn K mg "at_most" kdM ["most","number"] z9d z9i)
  (zen:Dn K mg "fault" kfZ ["till","basket","hand","order"] zcf zd4)
  (zdy:Dn K mg "way_by" keN ["till","basket","hand","order"] zas zar)
  (z7m:Dn K mg "word_of_order" kbC ["till","hand","used","number"] z34 z3h)
  (z8h:Dn K mg "breaks_never" kbS ["rules","used","number"] z45 z47)
  (z8i:Dn K mg "breaks_ahead" kbT ["rules","used","number"] z3t z49)
  (z67:Dn K mg "without_company" kbm ["rules","order"] z29 z25)
  (z9q:Dn K mg "_law_mixed" kcf ["_law_cell_here","_law_k"] z5b z5m)
  (zbv:Dn K mg "_law_cell" kcH ["_law_script","_law_k"] z6o z6p)
  (za5:Dn K mg "_law_alike" kci ["_law_found","_law_due_here"] z5n z5f)
  (zam:Dn K mg "_law_coins" kcg ["_law_drawn","_law_great"] z4x z5j)
  (z8a:Dn K mg "_law_parents" kbV ["_law_cell_here"] z3v z3x)
  (z9f:Dn K mg "_law_basket" kb4 ["_law_cell_here","_law_kinds","_law_great"] z4s z4f)
  (z4u:Dn K mg "_law_basket_made" kbh ["_law_told"] z1n z1o)
  (z9x:Dn K mg "_law_order" kbQ ["_law_cell_here","_law_many"] z5e z55)
  (z8o:Dn K mg "_law_voucher" kbU ["_law_cell_here","_law_kinds","_law_great","_law_total"] z42 z43)
  (zb2:Dn K mg "_law_made" kcG ["_law_told"] z76 z6b)
  (za4:Dn K mg "_law_begun" kch ["_law_told"] z52 z4w)
  (zak:Dn K mg "_law_under" kce ["_law_parents_here","_law_one","_law_other"] z51 z53)
  (z9r:Dn K mg "_law_about" kck ["_law_voucher_here","_law_parents_here","_law_told","_law_state"] z5a z5h)
  (z6y:Dn K mg "_law_hindrance" ka9 ["_law_voucher_here","_law_told","_law_pieces","_law_state"] z2i z2u)
  (zbk:Dn K mg "_law_used" kb3 ["_law_voucher_here","_law_pieces","_law_state"] z75 z69)
  (zcy:Dn K mg "_law_due" kdd ["_law_world","_law_order_here"] z81 z82)
  (zet:UN K mainGlobals "law"=some (some (.ref z9e))) (zfu:K.lookup z9e=some ⟨zfs,zfc, .func (UM "law" "law" (kaD s_law) (kaA s_law) (kah s_law) .none zdp zdu zdt zds zbd zdr),zfd⟩) (zft:U8 K zbd "law"=true) (zfv:UO K (.ref z9e)=true)
  (zel:UN K mainGlobals "Marks"=some (some (.ref zi)))
  (zea:UC K zi (.type "object")=some true) (ze4:UC K zi (.ref zi)=some true) (ze3:U7 K (.ref zi)=some (.type "type"))
  (inX:J6 K (.builtin "object.__class__") "__get__"=some (some (.builtin "getset_descriptor.__get__"))) (itX:NT K (.builtin "object.__class__")=some true)
  (ze5:U6 K zi Str.empty=true) (ze8:Ja K zi=true) (ze7:Jf K zi=true) (zed:Uy K (.ref zi) "__setattr__"=some (some (.builtin "object.__setattr__"))) (zdw:Jc K zi=true) (ze0:UO K (.ref zi)=true) (ze6:Uy K (.ref zi) "__class__"=some (some (.builtin "object.__class__")))
  (zao:Uy K (.ref zi) "kind"=some none)
  (z92:Uy K (.ref zi) "needs"=some none)
  (zai:Uy K (.ref zi) "most"=some none)
  (z8t:Uy K (.ref zi) "member"=some none)
  (z9n:Uy K (.ref zi) "once"=some none)
  (z9v:Uy K (.ref zi) "lone"=some none)
  (z9u:Uy K (.ref zi) "__init__"=some (some (.ref zv))) (za3:Jh K (.ref zv)=true) (zaj:K.lookup zv=some ⟨z9m,z9j, .func (UM "__init__" "Marks.__init__" (kaD kaX) (kaA kaX) (kah kaX) (.ref z32) z4p z4h z4n z4o z1t z4q),z91⟩) (zad:U8 K z1t "Marks.__init__"=true) (za6:UO K (.ref zv)=true) (zq:K.lookup z32=some ⟨z8v,z90, .seq #[.none, .int 0 z2w, .none, .bool false, .bool false, .bool false] z97,z9h⟩)
  (zd9:UN K mainGlobals "Voucher"=some (some (.ref zf)))
  (zcr:UC K zf (.type "object")=some true) (zcs:UC K zf (.ref zf)=some true) (zd1:U7 K (.ref zf)=some (.type "type"))
  (zcn:U6 K zf Str.empty=true) (zci:Ja K zf=true) (zct:Jf K zf=true) (zck:Uy K (.ref zf) "__setattr__"=some (some (.builtin "object.__setattr__"))) (zcq:Jc K zf=true) (zcp:UO K (.ref zf)=true) (zco:Uy K (.ref zf) "__class__"=some (some (.builtin "object.__class__")))
  (z8g:Uy K (.ref zf) "__init__"=some (some (.ref zp))) (z87:Jh K (.ref zp)=true) (z8s:K.lookup zp=some ⟨z7g,z7c, .func (UM "__init__" "Voucher.__init__" (kaD kaO) (kaA kaO) (kah kaO) (.ref z1l) z36 z3n z37 z3l z1f z3b),z7u⟩) (z8b:U8 K z1f "Voucher.__init__"=true) (z8f:UO K (.ref zp)=true) (z3s:K.lookup z1l=some ⟨z7r,z7p, .seq #[.none] z7n,z7t⟩)
  (zeh:UN K mainGlobals "Off"=some (some (.ref zk)))
  (z6j:UC K zk (.type "object")=some true) (z6m:UC K zk (.ref zk)=some true) (z6c:U7 K (.ref zk)=some (.type "type"))
  (zfh:U6 K zk Str.empty=true) (zfo:Ja K zk=true) (zf8:Jf K zk=true) (zfi:Uy K (.ref zk) "__setattr__"=some (some (.builtin "object.__setattr__"))) (zfg:Jc K zk=true) (zfr:UO K (.ref zk)=true) (zf9:Uy K (.ref zk) "__class__"=some (some (.builtin "object.__class__")))
  (zah:Uy K (.ref zk) "amount"=some none)
  (zb4:Uy K (.ref zk) "marks"=some none)
  (zch:Uy K (.ref zk) "__init__"=some (some (.ref z1i))) (zcl:Jh K (.ref z1i)=true) (zc9:K.lookup z1i=some ⟨zc7,zbc, .func (UM "__init__" "Off.__init__" (kaD kbd) (kaA kbd) (kah kbd) (.ref z4r) z6f z6k z6t z6h z3p z6a),zbw⟩) (zcm:U8 K z3p "Off.__init__"=true) (zcd:UO K (.ref z1i)=true) (z86:K.lookup z4r=some ⟨zby,zc4, .seq #[.none] zb0,zbb⟩)
  (zce:UN K mainGlobals "Share"=some (some (.ref ze)))
  (z3f:UC K ze (.type "object")=some true) (z3i:UC K ze (.ref ze)=some true) (z3d:U7 K (.ref ze)=some (.type "type"))
  (zdv:U6 K ze Str.empty=true) (zdx:Ja K ze=true) (zdz:Jf K ze=true) (ze2:Uy K (.ref ze) "__setattr__"=some (some (.builtin "object.__setattr__"))) (zeb:Jc K ze=true) (ze1:UO K (.ref ze)=true) (zec:Uy K (.ref ze) "__class__"=some (some (.builtin "object.__class__")))
  (z8x:Uy K (.ref ze) "share"=some none)
  (z7q:Uy K (.ref ze) "by_line"=some none)
  (z8y:Uy K (.ref ze) "marks"=some none)
  (zae:Uy K (.ref ze) "__init__"=some (some (.ref zw))) (z9z:Jh K (.ref zw)=true) (z9w:K.lookup zw=some ⟨z98,z9a, .func (UM "__init__" "Share.__init__" (kaD kaW) (kaA kaW) (kah kaW) (.ref z2z) z4d z4k z4e z4i z1y z4l),z96⟩) (zac:U8 K z1y "Share.__init__"=true) (zap:UO K (.ref zw)=true) (z33:K.lookup z2z=some ⟨z8w,z9k, .seq #[.bool false, .none] z9b,z95⟩)
  (z83:UN K mainGlobals "Cheapest"=some (some (.ref za)))
  (z1b:UC K za (.type "object")=some true) (z1d:UC K za (.ref za)=some true) (z1c:U7 K (.ref za)=some (.type "type"))
  (zbm:U6 K za Str.empty=true) (zbf:Ja K za=true) (zc6:Jf K za=true) (zb6:Uy K (.ref za) "__setattr__"=some (some (.builtin "object.__setattr__"))) (zaw:Jc K za=true) (zb1:UO K (.ref za)=true) (zc2:Uy K (.ref za) "__class__"=some (some (.builtin "object.__class__")))
  (z7l:Uy K (.ref za) "many"=some none)
  (z79:Uy K (.ref za) "marks"=some none)
  (zat:UN K mainGlobals "Bundle"=some (some (.ref zc)))
  (z1z:UC K zc (.type "object")=some true) (z26:UC K zc (.ref zc)=some true) (z24:U7 K (.ref zc)=some (.type "type"))
  (zdk:U6 K zc Str.empty=true) (zde:Ja K zc=true) (zd8:Jf K zc=true) (zdg:Uy K (.ref zc) "__setattr__"=some (some (.builtin "object.__setattr__"))) (zd5:Jc K zc=true) (zdn:UO K (.ref zc)=true) (zdj:Uy K (.ref zc) "__class__"=some (some (.builtin "object.__class__")))
  (z99:Uy K (.ref zc) "many"=some none)
  (z8q:Uy K (.ref zc) "price"=some none)
  (z8k:Uy K (.ref zc) "marks"=some none)
  (z85:UN K mainGlobals "Carriage"=some (some (.ref zb)))
  (z19:UC K zb (.type "object")=some true) (zy:UC K zb (.ref zb)=some true) (z1e:U7 K (.ref zb)=some (.type "type"))
  (zaz:U6 K zb Str.empty=true) (zc3:Ja K zb=true) (zb9:Jf K zb=true) (zbt:Uy K (.ref zb) "__setattr__"=some (some (.builtin "object.__setattr__"))) (zb7:Jc K zb=true) (zbr:UO K (.ref zb)=true) (zbe:Uy K (.ref zb) "__class__"=some (some (.builtin "object.__class__")))
  (z6u:Uy K (.ref zb) "marks"=some none)
  (z7k:Uy K (.ref zb) "__init__"=some (some (.ref zr))) (z7y:Jh K (.ref zr)=true) (z7s:K.lookup zr=some ⟨z70,z6i, .func (UM "__init__" "Carriage.__init__" (kaD kaL) (kaA kaL) (kah kaL) (.ref z1g) z2x z2q z2k z2l zx z2r),z6r⟩) (z7d:U8 K zx "Carriage.__init__"=true) (z7x:UO K (.ref zr)=true) (z35:K.lookup z1g=some ⟨z6n,z78, .seq #[.none] z6z,z7a⟩)
  (zfp:UN K mainGlobals "Line"=some (some (.ref zn)))
  (zf5:UC K zn (.type "object")=some true) (zew:UC K zn (.ref zn)=some true) (zf2:U7 K (.ref zn)=some (.type "type"))
  (zej:U6 K zn Str.empty=true) (zes:Ja K zn=true) (zeu:Jf K zn=true) (zeq:Uy K (.ref zn) "__setattr__"=some (some (.builtin "object.__setattr__"))) (zep:Jc K zn=true) (zf0:UO K (.ref zn)=true) (zei:Uy K (.ref zn) "__class__"=some (some (.builtin "object.__class__")))
  (zb5:Uy K (.ref zn) "kind"=some none)
  (za9:Uy K (.ref zn) "price"=some none)
  (zc0:Uy K (.ref zn) "many"=some none)
  (z8l:Uy K (.ref zn) "special"=some none)
  (zc1:Uy K (.ref zn) "__init__"=some (some (.ref zz))) (zba:Jh K (.ref zz)=true) (zc5:K.lookup zz=some ⟨za2,zag, .func (UM "__init__" "Line.__init__" (kaD ka2) (kaA ka2) (kah ka2) (.ref z3o) z5g z5l z5i z59 z30 z58),z9o⟩) (zax:U8 K z30 "Line.__init__"=true) (zbg:UO K (.ref zz)=true) (z77:K.lookup z3o=some ⟨zab,z9y, .seq #[.none] za7,z9p⟩)
  (ze9:UN K mainGlobals "Basket"=some (some (.ref zj)))
  (zdh:UC K zj (.type "object")=some true) (zdc:UC K zj (.ref zj)=some true) (zd6:U7 K (.ref zj)=some (.type "type"))
  (zdi:U6 K zj Str.empty=true) (zdf:Ja K zj=true) (zdl:Jf K zj=true) (zdb:Uy K (.ref zj) "__setattr__"=some (some (.builtin "object.__setattr__"))) (zd7:Jc K zj=true) (zdd:UO K (.ref zj)=true) (zdm:Uy K (.ref zj) "__class__"=some (some (.builtin "object.__class__")))
  (z8r:Uy K (.ref zj) "lines"=some none)
  (z5o:Uy K (.ref zj) "carriage"=some none)
  (z7v:Uy K (.ref zj) "member"=some none)
  (z9l:Uy K (.ref zj) "__init__"=some (some (.ref zu))) (z93:Jh K (.ref zu)=true) (z8z:K.lookup zu=some ⟨z8m,z8e, .func (UM "__init__" "Basket.__init__" (kaD kaR) (kaA kaR) (kah kaR) (.ref z27) z3w z4c z44 z4b z1k z40),z8u⟩) (z9g:U8 K z1k "Basket.__init__"=true) (z9c:UO K (.ref zu)=true) (z23:K.lookup z27=some ⟨z8p,z88, .seq #[.int 0 z2c, .bool false] z8j,z89⟩)
  (zca:UN K mainGlobals "Standing"=some (some (.ref zd)))
  (zbu:UC K zd (.type "object")=some true) (zbo:UC K zd (.ref zd)=some true) (zb3:U7 K (.ref zd)=some (.type "type"))
  (zav:U6 K zd Str.empty=true) (zbn:Ja K zd=true) (zay:Jf K zd=true) (zbj:Uy K (.ref zd) "__setattr__"=some (some (.builtin "object.__setattr__"))) (zbh:Jc K zd=true) (zbi:UO K (.ref zd)=true) (zbz:Uy K (.ref zd) "__class__"=some (some (.builtin "object.__class__")))
  (z61:Uy K (.ref zd) "owners"=some none)
  (z5s:Uy K (.ref zd) "prices"=some none)
  (z4j:Uy K (.ref zd) "carriage"=some none)
  (z5r:Uy K (.ref zd) "marked"=some none)
  (z7f:MthT K zd "__init__" "Standing.__init__" kbG ["self","basket"] z3a z39)
  (zfw:UN K mainGlobals "Way"=some (some (.ref zo)))
  (zfb:UC K zo (.type "object")=some true) (zff:UC K zo (.ref zo)=some true) (zfn:U7 K (.ref zo)=some (.type "type"))
  (zfk:U6 K zo Str.empty=true) (zfa:Ja K zo=true) (zf7:Jf K zo=true) (zfj:Uy K (.ref zo) "__setattr__"=some (some (.builtin "object.__setattr__"))) (zfe:Jc K zo=true) (zfl:UO K (.ref zo)=true) (zfq:Uy K (.ref zo) "__class__"=some (some (.builtin "object.__class__")))
  (zcv:Uy K (.ref zo) "till"=some none)
  (zal:Uy K (.ref zo) "basket"=some none)
  (zcz:Uy K (.ref zo) "hand"=some none)
  (zcx:Uy K (.ref zo) "used"=some none)
  (z8n:Uy K (.ref zo) "standing"=some none)
  (zd2:MthT K zo "__init__" "Way.__init__" kde ["self","till","basket","hand"] z80 z84)
  (z8c:MthT K zo "word_for" "Way.word_for" kbW ["self","number"] z48 z41)
  (zaq:MthT K zo "behind" "Way.behind" kcl ["self","number"] z54 z5k)
  (z7e:MthT K zo "is_let_by" "Way.is_let_by" kbF ["self"] z3k z3g)
  (zf6:UN K mainGlobals "Till"=some (some (.ref zm)))
  (zeo:UC K zm (.type "object")=some true) (zf4:UC K zm (.ref zm)=some true) (zey:U7 K (.ref zm)=some (.type "type"))
  (zez:U6 K zm Str.empty=true) (zex:Ja K zm=true) (zf3:Jf K zm=true) (zee:Uy K (.ref zm) "__setattr__"=some (some (.builtin "object.__setattr__"))) (zek:Jc K zm=true) (zeg:UO K (.ref zm)=true) (zev:Uy K (.ref zm) "__class__"=some (some (.builtin "object.__class__")))
  (z8d:Uy K (.ref zm) "parents"=some none)
  (z7i:Uy K (.ref zm) "vouchers"=some none)
  (z9t:Uy K (.ref zm) "rules"=some none)
  (zb8:Uy K (.ref zm) "back"=some none)
  (zbx:Uy K (.ref zm) "__init__"=some (some (.ref z1a))) (zbs:Jh K (.ref z1a)=true) (zc8:K.lookup z1a=some ⟨z9s,za0, .func (UM "__init__" "Till.__init__" (kaD ka1) (kaA ka1) (kah ka1) (.ref z3q) z4z z50 z57 z5d z31 z4y),zan⟩) (zbp:U8 K z31 "Till.__init__"=true) (zbq:UO K (.ref z1a)=true) (z6s:K.lookup z3q=some ⟨zaf,zaa, .seq #[.str "again" z3j] za1,za8⟩)
  (z7z:PySem.W.readsIn K zf (.type "type")=true) (z7w:J6 K (.ref zf) "__getattribute__"=some (some (.builtin "type.__getattribute__"))) (z7h:PySem.W.findCls K (.ref zf) (.type "type") "__init__"=some (.val (.ref zp)))
  (z3u:UC K zk (.ref zb)=some false)
  (z2p:UC K ze (.ref zb)=some false)
  (z1h:UC K za (.ref zb)=some false)
  (z1s:UC K zc (.ref zb)=some false)
  (z6e:UC K ze (.ref zk)=some false)
  (z3r:UC K za (.ref zk)=some false)
  (z5c:UC K zc (.ref zk)=some false)
  (z3z:UC K zb (.ref zk)=some false)
  (z7b:UC K zk (.ref ze)=some false)
  (z2n:UC K za (.ref ze)=some false)
  (z4a:UC K zc (.ref ze)=some false)
  (z2s:UC K zb (.ref ze)=some false)
  (z46:UC K zk (.ref za)=some false)
  (z2j:UC K ze (.ref za)=some false)
  (z1q:UC K zc (.ref za)=some false)
  (z1j:UC K zb (.ref za)=some false)
  (z56:UC K zk (.ref zc)=some false)
  (z3y:UC K ze (.ref zc)=some false)
  (z2f:UC K za (.ref zc)=some false)
  (z1p:UC K zb (.ref zc)=some false)
  (z65:zs=.ref zl)
  (z5u:K.lookup zl=some ⟨z1m,z4t, .fields zg,z4v⟩)
  (z5w:z1m=.type "code")
  (z5x:zg[11]?=some (.ref zh))
  (z5v:zg.getD 11 .none=.ref zh)
  (z60:zg.getD 18 .none=.str z2b z21)
  (z64:zg.getD 7 .none=.int z22 z20)
  (z68:zg.getD 9 .none=.bool z1v)
  (z5t:zg.getD 10 .none=.int z1w z2a)
  (z5p:zl≠zh)
  (z66:K.lookup zh=none)
  (z63:zh∈ts)
  (z1:UN K mainGlobals "range"=some none)
  (z2:UN K mainGlobals "len"=some none)
  (z3:UN K mainGlobals "min"=some none)
  (z4:UN K mainGlobals "max"=some none)
  (z5:UN K mainGlobals "isinstance"=some none)
  (z6:UN K mainGlobals "bool"=some none)
  (z7:UN K mainGlobals "int"=some none)
  (z8:UN K mainGlobals "list"=some none)
  (z9:UN K mainGlobals "sum"=some none)
  (z10:UN K mainGlobals "enumerate"=some none)
  (z11:UN K mainGlobals "any"=some none)
  (z12:UN K mainGlobals "all"=some none)
  (z13:UN K mainGlobals "reversed"=some none)
  (z14:UN K mainGlobals "zip"=some none)
  (z15:UN K mainGlobals "abs"=some none)
  (z16:UN K mainGlobals "sorted"=some none)
  (z17:UN K mainGlobals "tuple"=some none)
  (z18:UN K mainGlobals "str"=some none)
  :∃(fd:FuncData)(tP c0:Addr),tP∈ts∧CodeK K c0 tP∧K.lookup tP=none∧(∀(s:Shared)(v:Value),BindsTo s fd ⟨[v],[]⟩ [("_law_script",v)])∧∀base:Heap,K.In base→base.Ns mainGlobals mg→BltM mg base→FnOk l.prog w K mg base CX0 9 fa fd ["_law_script"] (kfd K tP):=by
 have e:=hfa.symm.trans (UZ X G zet)
 have hf:z9e=fa:=by
  injection e with e
  injection e with e
  exact e.symm
 subst hf
 have B:TxtB mg:=⟨U4 X G z1,U4 X G z2,U4 X G z3,U4 X G z4,U4 X G z5,U4 X G z6,U4 X G z7,U4 X G z8,U4 X G z9,U4 X G z10,U4 X G z11,U4 X G z12,U4 X G z13,U4 X G z14,U4 X G z15,U4 X G z16,U4 X G z17,U4 X G z18⟩
 have W:Wld K mg ⟨(zcb),(zcg),(zcu),(zd0),(z2y),(z2h),(zcc),(zcj),(zdo),(zdq),(z6v),(z6l),(zd3),(zcw),(z2v),(z2o),(z2g),(z2d),(z4m),(z4g),(z2m),(z2t),(zt),(UM "falling_groups" "falling_groups" (kaD kaz) (kaA kaz) (kah kaz) .none z1r z1u z28 z2e zs z1x),(z3m),(z38),(z6g),(z6x),(z3e),(z3c),(z9d),(z9i),(zcf),(zd4),(zas),(zar),(z34),(z3h),(z45),(z47),(z3t),(z49),(z29),(z25),(z5b),(z5m),(z6o),(z6p),(z5n),(z5f),(z4x),(z5j),(z3v),(z3x),(z4s),(z4f),(z1n),(z1o),(z5e),(z55),(z42),(z43),(z76),(z6b),(z52),(z4w),(z51),(z53),(z5a),(z5h),(z2i),(z2u),(z75),(z69),(z81),(z82),(z9e),(UM "law" "law" (kaD s_law) (kaA s_law) (kah s_law) .none zdp zdu zdt zds zbd zdr),(zi),(zv),(UM "__init__" "Marks.__init__" (kaD kaX) (kaA kaX) (kah kaX) (.ref z32) z4p z4h z4n z4o z1t z4q),(z2w),(zf),(zp),(UM "__init__" "Voucher.__init__" (kaD kaO) (kaA kaO) (kah kaO) (.ref z1l) z36 z3n z37 z3l z1f z3b),(zk),(z1i),(UM "__init__" "Off.__init__" (kaD kbd) (kaA kbd) (kah kbd) (.ref z4r) z6f z6k z6t z6h z3p z6a),(ze),(zw),(UM "__init__" "Share.__init__" (kaD kaW) (kaA kaW) (kah kaW) (.ref z2z) z4d z4k z4e z4i z1y z4l),(za),(zc),(zb),(zr),(UM "__init__" "Carriage.__init__" (kaD kaL) (kaA kaL) (kah kaL) (.ref z1g) z2x z2q z2k z2l zx z2r),(zn),(zz),(UM "__init__" "Line.__init__" (kaD ka2) (kaA ka2) (kah ka2) (.ref z3o) z5g z5l z5i z59 z30 z58),(zj),(zu),(UM "__init__" "Basket.__init__" (kaD kaR) (kaA kaR) (kah kaR) (.ref z27) z3w z4c z44 z4b z1k z40),(z2c),(zd),(z3a),(z39),(zo),(z80),(z84),(z48),(z41),(z54),(z5k),(z3k),(z3g),(zm),(z1a),(UM "__init__" "Till.__init__" (kaD ka1) (kaA ka1) (kah ka1) (.ref z3q) z4z z50 z57 z5d z31 z4y),(z3j),(zl),(zh)⟩:=⟨B,zef,zem,z74,zf1,zfm,zau,zer,z6d,z62,z94,z6q,⟨(kbB z72 z73 z71),(Binds.all (nL3 fun _ _ _=>rfl)),UZ X G z6w⟩,z7j,zbl,z7o,zda,zen,zdy,z7m,z8h,z8i,z67,z9q,zbv,za5,zam,z8a,z9f,z4u,z9x,z8o,zb2,za4,zak,z9r,z6y,zbk,zcy,⟨(kbB zfu zft zfv),(Binds.all (nL1 fun _=>rfl)),UZ X G zet⟩,⟨⟨ze5,ze8,ze7,zed⟩,UZ X G zel,⟨ze6,inX,itX,zea⟩,ze4,ze3,zdw,ze0⟩,zao,z92,zai,z8t,z9n,z9v,⟨z9u,za3,(kbB zaj zad za6),(bd_mk (n:=7) rfl fun _ KX=>nL7 fun _ _ _ _ _ _ _=>BindsTo.of_defaults rfl (KX _ _ zq) rfl rfl rfl)⟩,(bd_mk (n:=6) rfl fun _ KX=>nL6 fun _ _ _ _ _ _=>BindsTo.of_defaults rfl (KX _ _ zq) rfl rfl rfl),(bd_mk (n:=5) rfl fun _ KX=>nL5 fun _ _ _ _ _=>BindsTo.of_defaults rfl (KX _ _ zq) rfl rfl rfl),(bd_mk (n:=4) rfl fun _ KX=>nL4 fun _ _ _ _=>BindsTo.of_defaults rfl (KX _ _ zq) rfl rfl rfl),(bd_mk (n:=3) rfl fun _ KX=>nL3 fun _ _ _=>BindsTo.of_defaults rfl (KX _ _ zq) rfl rfl rfl),(bd_mk (n:=2) rfl fun _ KX=>nL2 fun _ _=>BindsTo.of_defaults rfl (KX _ _ zq) rfl rfl rfl),(bd_mk (n:=1) rfl fun _ KX=>nL1 fun _=>BindsTo.of_defaults rfl (KX _ _ zq) rfl rfl rfl),⟨⟨zcn,zci,zct,zck⟩,UZ X G zd9,⟨zco,inX,itX,zcr⟩,zcs,zd1,zcq,zcp⟩,⟨z8g,z87,(kbB z8s z8b z8f),(bd_mk (n:=2) rfl fun _ KX=>nL2 fun _ _=>BindsTo.of_defaults rfl (KX _ _ z3s) rfl rfl rfl)⟩,(bd_mk (n:=1) rfl fun _ KX=>nL1 fun _=>BindsTo.of_defaults rfl (KX _ _ z3s) rfl rfl rfl),UZ X G zeh,⟨⟨zfh,zfo,zf8,zfi⟩,UZ X G zeh,⟨zf9,inX,itX,z6j⟩,z6m,z6c,zfg,zfr⟩,zah,zb4,⟨zch,zcl,(kbB zc9 zcm zcd),(bd_mk (n:=3) rfl fun _ KX=>nL3 fun _ _ _=>BindsTo.of_defaults rfl (KX _ _ z86) rfl rfl rfl)⟩,(bd_mk (n:=2) rfl fun _ KX=>nL2 fun _ _=>BindsTo.of_defaults rfl (KX _ _ z86) rfl rfl rfl),UZ X G zce,⟨⟨zdv,zdx,zdz,ze2⟩,UZ X G zce,⟨zec,inX,itX,z3f⟩,z3i,z3d,zeb,ze1⟩,z8x,z7q,z8y,⟨zae,z9z,(kbB z9w zac zap),(bd_mk (n:=4) rfl fun _ KX=>nL4 fun _ _ _ _=>BindsTo.of_defaults rfl (KX _ _ z33) rfl rfl rfl)⟩,(bd_mk (n:=3) rfl fun _ KX=>nL3 fun _ _ _=>BindsTo.of_defaults rfl (KX _ _ z33) rfl rfl rfl),(bd_mk (n:=2) rfl fun _ KX=>nL2 fun _ _=>BindsTo.of_defaults rfl (KX _ _ z33) rfl rfl rfl),UZ X G z83,⟨⟨zbm,zbf,zc6,zb6⟩,UZ X G z83,⟨zc2,inX,itX,z1b⟩,z1d,z1c,zaw,zb1⟩,z7l,z79,UZ X G zat,⟨⟨zdk,zde,zd8,zdg⟩,UZ X G zat,⟨zdj,inX,itX,z1z⟩,z26,z24,zd5,zdn⟩,z99,z8q,z8k,UZ X G z85,⟨⟨zaz,zc3,zb9,zbt⟩,UZ X G z85,⟨zbe,inX,itX,z19⟩,zy,z1e,zb7,zbr⟩,z6u,⟨z7k,z7y,(kbB z7s z7d z7x),(bd_mk (n:=2) rfl fun _ KX=>nL2 fun _ _=>BindsTo.of_defaults rfl (KX _ _ z35) rfl rfl rfl)⟩,(bd_mk (n:=1) rfl fun _ KX=>nL1 fun _=>BindsTo.of_defaults rfl (KX _ _ z35) rfl rfl rfl),⟨⟨zej,zes,zeu,zeq⟩,UZ X G zfp,⟨zei,inX,itX,zf5⟩,zew,zf2,zep,zf0⟩,zb5,za9,zc0,z8l,⟨zc1,zba,(kbB zc5 zax zbg),(bd_mk (n:=5) rfl fun _ KX=>nL5 fun _ _ _ _ _=>BindsTo.of_defaults rfl (KX _ _ z77) rfl rfl rfl)⟩,(bd_mk (n:=4) rfl fun _ KX=>nL4 fun _ _ _ _=>BindsTo.of_defaults rfl (KX _ _ z77) rfl rfl rfl),⟨⟨zdi,zdf,zdl,zdb⟩,UZ X G ze9,⟨zdm,inX,itX,zdh⟩,zdc,zd6,zd7,zdd⟩,z8r,z5o,z7v,⟨z9l,z93,(kbB z8z z9g z9c),(bd_mk (n:=4) rfl fun _ KX=>nL4 fun _ _ _ _=>BindsTo.of_defaults rfl (KX _ _ z23) rfl rfl rfl)⟩,(bd_mk (n:=3) rfl fun _ KX=>nL3 fun _ _ _=>BindsTo.of_defaults rfl (KX _ _ z23) rfl rfl rfl),(bd_mk (n:=2) rfl fun _ KX=>nL2 fun _ _=>BindsTo.of_defaults rfl (KX _ _ z23) rfl rfl rfl),⟨⟨zav,zbn,zay,zbj⟩,UZ X G zca,⟨zbz,inX,itX,zbu⟩,zbo,zb3,zbh,zbi⟩,z61,z5s,z4j,z5r,z7f,⟨⟨zfk,zfa,zf7,zfj⟩,UZ X G zfw,⟨zfq,inX,itX,zfb⟩,zff,zfn,zfe,zfl⟩,zcv,zal,zcz,zcx,z8n,zd2,z8c,zaq,z7e,⟨⟨zez,zex,zf3,zee⟩,UZ X G zf6,⟨zev,inX,itX,zeo⟩,zf4,zey,zek,zeg⟩,z8d,z7i,z9t,zb8,⟨zbx,zbs,(kbB zc8 zbp zbq),(bd_mk (n:=5) rfl fun _ KX=>nL5 fun _ _ _ _ _=>BindsTo.of_defaults rfl (KX _ _ z6s) rfl rfl rfl)⟩,(bd_mk (n:=4) rfl fun _ KX=>nL4 fun _ _ _ _=>BindsTo.of_defaults rfl (KX _ _ z6s) rfl rfl rfl),⟨z7z,z7w,z7h⟩,kaN z3u z19 z1e (kbg z3u z6m),kaN z2p z19 z1e (kbg z2p z3i),kaN z1h z19 z1e (kbg z1h z1d),kaN z1s z19 z1e (kbg z1s z26),kaN z6e z6j z6c (kbg z6e z3i),kaN z3r z6j z6c (kbg z3r z1d),kaN z5c z6j z6c (kbg z5c z26),kaN z3z z6j z6c (kbg z3z zy),kaN z7b z3f z3d (kbg z7b z6m),kaN z2n z3f z3d (kbg z2n z1d),kaN z4a z3f z3d (kbg z4a z26),kaN z2s z3f z3d (kbg z2s zy),kaN z46 z1b z1c (kbg z46 z6m),kaN z2j z1b z1c (kbg z2j z3i),kaN z1q z1b z1c (kbg z1q z26),kaN z1j z1b z1c (kbg z1j zy),kaN z56 z1z z24 (kbg z56 z6m),kaN z3y z1z z24 (kbg z3y z3i),kaN z2f z1z z24 (kbg z2f z1d),kaN z1p z1z z24 (kbg z1p zy),z65,⟨_,zg,z2b,z21,z22,z20,z1v,z1w,z2a,z5u,z5w,rfl,z5x,z5v,z60,z64,z68,z5t,z5p⟩⟩
 exact⟨_,zh,zl,z63,W.ck_falling_groups,z66,fun s v=>.of_eq rfl,fun base hK _ hB=>kld ⟨W,hB⟩⟩
end Vs
end Lake
open Lake
namespace PySem.W.Fast
def tw8922504082797208641:=0
def tw60247287857374625:=0
def tw932217960404135745:=0
def tw4302118072574987619:=0
def tw12279347556693614275:=0
def tw7368752231528816196:=0
def tw1348654457067061028:=0
def tw4959217493315595044:=0
def tw8916505841654530693:=0
def tw3845468186255930918:=0
def tw13965107533510855271:=0
def tw9269327185383183784:=0
def tw7694818359184855562:=0
def tw2933040731053076939:=0
def tw18330559102532214443:=0
def tw8778141389681597037:=0
def tw18033843718838260557:=0
def tw12383970521544262351:=0
def tw4733843018771845967:=0
def tw15570148867016167375:=0
def tw17981474578122404944:=0
def tw15182504316829828016:=0
def tw17586199830844115314:=0
def tw12098131281439278644:=0
def tw17358668031566581620:=0
def tw720435304452063448:=0
def tw4870025389304399834:=0
def tw5385472025993144668:=0
def tw4230064357873919580:=0
def tw7229695062293164061:=0
def tw7451943012985997277:=0
def tw6292617068049420734:=0
def tw13906367779488622494:=0
def tw15193213632312980159:=0
def tw16740823617950043797:=0
def tw6201711175571927347:=0
def tw13919980828247095462:=0
def tw16083516781761402292:=0
def tw11569934858024731522:=0
def tw12234183521177854887:=0
def tw2608634888331424475:=0
def tw7954181126746991787:=0
def tw16387014388627157133:=0
def tw10059214296495119665:=0
def tw12649389981124312075:=0
def tw5017293744996464703:=0
def tw9664424623826605645:=0
def tw3249622108723898064:=0
def tw4296516309999767192:=0
def tw4073879303257696866:=0
def tw9596960963409010000:=0
def tw2714108550910875246:=0
def tw8012535873516911757:=0
def tw11620567059870334064:=0
def tw16108646141945678829:=0
def tw12316116624911505556:=0
def tw15251914948705621158:=0
def tw250398006384737711:=0
def tw1272702377185583337:=0
def tw7976990548282482428:=0
def tw8405242862186463218:=0
def tw11610406803155622337:=0
def tw16091126692196367944:=0
def tw7501629312616955221:=0
def tw17496866946151685918:=0
def tw7988775526719680578:=0
def tw4948806708753726207:=0
def tw10901365476638170628:=0
def tw9306202488542354523:=0
def tw7957345007782270821:=0
def tw585320201849001334:=0
def tw8116524819931590196:=0
def tw15176657530122617861:=0
def tw11460117694162050641:=0
def tw1613313886420455592:=0
def tw14105550300520434056:=0
def tw12415444115278470781:=0
def tw13423294340809899016:=0
def tw13643401391128621832:=0
def tw11663227903931179033:=0
def tw18294413799381875445:=0
def tw7726401812908801456:=0
def tw12900662065494457577:=0
def tw9564526696987907914:=0
def tw16305397470237061976:=0
def tw15893999521586839834:=0
def tw5246876491267048226:=0
def tw5195118666808158361:=0
def tw6155496246985586897:=0
def tw8889669874792778955:=0
def tw8206179949005557219:=0
def tw16159005330023355357:=0
def tw1743852828753111116:=0
def tw1244901309095668730:=0
def tw5747771973876399603:=0
def tw17348816660078538292:=0
def tw7947824785056922827:=0
def tw11420895839066584638:=0
def tw17047218703540623001:=0
def tw2442364160264797872:=0
def tw8920372198725333307:=0
def tw11246889199930931841:=0
def tw12386001962253575513:=0
def tw14142353125433313690:=0
def tw3236590409327050248:=0
def tw6323122008162433282:=0
def tw13535478932912683429:=0
def tw13684757801438515165:=0
def tw794866476220492314:=0
def tw13589690372136240946:=0
def tw12469232602109037730:=0
def tw15313261440506637100:=0
def tw114628071495576321:=0
def tw2666147601483966412:=0
def tw18017030044693592469:=0
def tw656859289895086118:=0
def tw1583517795145201988:=0
def tw2721918659692601734:=0
def tw14478136319870293580:=0
def tw10110270973595085316:=0
def tw15258708176290426045:=0
def tw6132872596503029507:=0
def tw8121752462034975558:=0
def tw238314749599934919:=0
def tw6150259056000470349:=0
def tw14683502957398922643:=0
def tw5367664311149185926:=0
def tw15132164174094230705:=0
def tw1413420180631046684:=0
def tw12056707483518577701:=0
def tw12834047503392038548:=0
def tw12011102551247726791:=0
def tw11261364837241430330:=0
def tw14011765784992943367:=0
def tw18223540279733655738:=0
def tw11532033251626346399:=0
def tw9822962521162226432:=0
def tw8805566109569782884:=0
def tw4369207875031042886:=0
def tw11663618984481649309:=0
def tw1356818046077233040:=0
def tw5406206541809981487:=0
def tw7497874329638121837:=0
def tw8703432653303178052:=0
def tw9254029053200775208:=0
def tw18296669665974636799:=0
def tw16711613778027734747:=0
def tw3670369120517432275:=0
def tw12812891159860911766:=0
def tw1608374300866305052:=0
def tw3301969349003453883:=0
def tw15191683698144218825:=0
def tw17917522044375082421:=0
def tw5135269757568898866:=0
def tw10131089445833363085:=0
def tw17536486832192788312:=0
def tw16612109878778275002:=0
def tw18143624402958230930:=0
def tw5392995680748488074:=0
def tw16771887264240815788:=0
def tw4209878236376219536:=0
def tw11137598373726400024:=0
def tw6099424668692014676:=0
def tw16583149928452800620:=0
def tw7370284332533820643:=0
def tw5559892632510173743:=0
def tw9741091323269210870:=0
def tw5647002743408250351:=0
def tw5032547999533091404:=0
def tw13990049074241650133:=0
def tw7010779163693751689:=0
def tw4401079277907022655:=0
def tw10591941631297324177:=0
def tw17028918365624136116:=0
def tw9554293173199057689:=0
def tw5602558552378634313:=0
def tw1991450846782564161:=0
def tw4847924648839330907:=0
def tw18038257059233605104:=0
def tw2708958142571065906:=0
def tw4444727219354955603:=0
def tw534662951551554708:=0
def tw6675730314869841784:=0
def tw16750766951235352553:=0
def tw15580118859625581729:=0
def tw7654917108079142678:=0
def tw12893904660845675072:=0
def tw970108479557562858:=0
def tw9589227682605333491:=0
def tw17532334723582945718:=0
def tw7690728262153772366:=0
def tw7191996057453381262:=0
def tw9216226367100061643:=0
def tw4889335462904647882:=0
def tw12822874484040120503:=0
def tw7323406132932017070:=0
def tw6511878391353865759:=0
end PySem.W.Fast
open PySem PySem.W PyProof.Rows
set_option maxRecDepth 100000 in
set_option maxHeartbeats 0 in
theorem PySem.Challenge.cw_voucherstack_k21_hindrances_in_orders_holds : PySem.Challenge.rw_voucherstack_k21_hindrances_in_orders.Holds := by
 w_on;o_law;k_head;(case hw=>w_witness2)
 k_fill
 refine L2.walkT_of (l:=PySem.Challenge.rw_voucherstack_k21_hindrances_in_orders) (k:=9) (x:="_law_script") rfl rfl ⟨rfl,by decide,by decide⟩ (fun w h Y=>PySem.W.km_in_of Y) (fun w h Y=>PySem.W.km_tabs_of Y) ?F
 case F=>
  intro w mg fa h KX G hmg
  refine' Vs.all_mk KX G hmg ?Um ?Uo ?VN ?Ur ?Ut ?Ug ?Us ?VO ?VL ?V2 ?VQ ?afalling_groups ?lfalling_groups ?cfalling_groups ?kfalling_groups ?VS ?Uc ?VR ?Uk ?Uq ?Ul ?VU ?VY ?VZ ?VM ?V7 ?Ue ?V4 ?V8 ?VX ?V3 ?VJ ?Ub ?V0 ?Uh ?V5 ?Ua ?V9 ?VP ?Ud ?Uj ?alaw ?llaw ?claw ?klaw ?aMarks ?imMarks ?isMarks ?iyMarks ?inX ?itX ?pgMarks ?hdMarks ?poMarks ?saMarks ?mkMarks ?kcMarks ?iaMarks ?nMarks_kind ?nMarks_needs ?nMarks_most ?nMarks_member ?nMarks_once ?nMarks_lone ?hMarks_init ?iMarks_init ?lMarks_init ?cMarks_init ?kMarks_init ?tMarks_init ?aVoucher ?imVoucher ?isVoucher ?iyVoucher ?pgVoucher ?hdVoucher ?poVoucher ?saVoucher ?mkVoucher ?kcVoucher ?iaVoucher ?hVoucher_init ?iVoucher_init ?lVoucher_init ?cVoucher_init ?kVoucher_init ?tVoucher_init ?aOff ?imOff ?isOff ?iyOff ?pgOff ?hdOff ?poOff ?saOff ?mkOff ?kcOff ?iaOff ?nOff_amount ?nOff_marks ?hOff_init ?iOff_init ?lOff_init ?cOff_init ?kOff_init ?tOff_init ?aShare ?imShare ?isShare ?iyShare ?pgShare ?hdShare ?poShare ?saShare ?mkShare ?kcShare ?iaShare ?nShare_share ?nShare_by_line ?nShare_marks ?hShare_init ?iShare_init ?lShare_init ?cShare_init ?kShare_init ?tShare_init ?aCheapest ?imCheapest ?isCheapest ?iyCheapest ?pgCheapest ?hdCheapest ?poCheapest ?saCheapest ?mkCheapest ?kcCheapest ?iaCheapest ?nCheapest_many ?nCheapest_marks ?aBundle ?imBundle ?isBundle ?iyBundle ?pgBundle ?hdBundle ?poBundle ?saBundle ?mkBundle ?kcBundle ?iaBundle ?nBundle_many ?nBundle_price ?nBundle_marks ?aCarriage ?imCarriage ?isCarriage ?iyCarriage ?pgCarriage ?hdCarriage ?poCarriage ?saCarriage ?mkCarriage ?kcCarriage ?iaCarriage ?nCarriage_marks ?hCarriage_init ?iCarriage_init ?lCarriage_init ?cCarriage_init ?kCarriage_init ?tCarriage_init ?aLine ?imLine ?isLine ?iyLine ?pgLine ?hdLine ?poLine ?saLine ?mkLine ?kcLine ?iaLine ?nLine_kind ?nLine_price ?nLine_many ?nLine_special ?hLine_init ?iLine_init ?lLine_init ?cLine_init ?kLine_init ?tLine_init ?aBasket ?imBasket ?isBasket ?iyBasket ?pgBasket ?hdBasket ?poBasket ?saBasket ?mkBasket ?kcBasket ?iaBasket ?nBasket_lines ?nBasket_carriage ?nBasket_member ?hBasket_init ?iBasket_init ?lBasket_init ?cBasket_init ?kBasket_init ?tBasket_init ?aStanding ?imStanding ?isStanding ?iyStanding ?pgStanding ?hdStanding ?poStanding ?saStanding ?mkStanding ?kcStanding ?iaStanding ?nStanding_owners ?nStanding_prices ?nStanding_carriage ?nStanding_marked ?VW ?aWay ?imWay ?isWay ?iyWay ?pgWay ?hdWay ?poWay ?saWay ?mkWay ?kcWay ?iaWay ?nWay_till ?nWay_basket ?nWay_hand ?nWay_used ?nWay_standing ?Ui ?V1 ?V6 ?VT ?aTill ?imTill ?isTill ?iyTill ?pgTill ?hdTill ?poTill ?saTill ?mkTill ?kcTill ?iaTill ?nTill_parents ?nTill_vouchers ?nTill_rules ?nTill_back ?hTill_init ?iTill_init ?lTill_init ?cTill_init ?kTill_init ?tTill_init ?rdVoucher_init ?gaVoucher_init ?fcVoucher_init ?qOff_Carriage ?qShare_Carriage ?qCheapest_Carriage ?qBundle_Carriage ?qShare_Off ?qCheapest_Off ?qBundle_Off ?qCarriage_Off ?qOff_Share ?qCheapest_Share ?qBundle_Share ?qCarriage_Share ?qOff_Cheapest ?qShare_Cheapest ?qBundle_Cheapest ?qCarriage_Cheapest ?qOff_Bundle ?qShare_Bundle ?qCheapest_Bundle ?qCarriage_Bundle ?qafalling_groups ?qbfalling_groups ?qcfalling_groups ?qdfalling_groups ?qefalling_groups ?qffalling_groups ?qgfalling_groups ?qhfalling_groups ?qifalling_groups ?qjfalling_groups ?qkfalling_groups ?qlfalling_groups ?z1 ?z2 ?z3 ?z4 ?z5 ?z6 ?z7 ?z8 ?z9 ?z10 ?z11 ?z12 ?z13 ?z14 ?z15 ?z16 ?z17 ?z18
  any_goals k_is
  exists Um,Vs.nL2 fun _ _=>rfl,0,0,0
  exists Uo,Vs.nL3 fun _ _ _=>rfl,0,0,0
  exists VN,Vs.nL2 fun _ _=>rfl,0,0,0
  exists Ur,Vs.nL4 fun _ _ _ _=>rfl,0,0,0
  exists Ut,Vs.nL4 fun _ _ _ _=>rfl,0,0,0
  exists Ug,Vs.nL4 fun _ _ _ _=>rfl,0,0,0
  exists Us,Vs.nL4 fun _ _ _ _=>rfl,0,0,0
  exists VO,Vs.nL4 fun _ _ _ _=>rfl,0,0,0
  exists VL,Vs.nL2 fun _ _=>rfl,0,0,0
  exists V2,Vs.nL3 fun _ _ _=>rfl,0,0,0
  exists VQ,Vs.nL2 fun _ _=>rfl,0,0,0
  exists VS,Vs.nL3 fun _ _ _=>rfl,0,0,0
  exists Uc,Vs.nL2 fun _ _=>rfl,0,0,0
  exists VR,Vs.nL2 fun _ _=>rfl,0,0,0
  exists Uk,Vs.nL2 fun _ _=>rfl,0,0,0
  exists Uq,Vs.nL4 fun _ _ _ _=>rfl,0,0,0
  exists Ul,Vs.nL4 fun _ _ _ _=>rfl,0,0,0
  exists VU,Vs.nL4 fun _ _ _ _=>rfl,0,0,0
  exists VY,Vs.nL3 fun _ _ _=>rfl,0,0,0
  exists VZ,Vs.nL3 fun _ _ _=>rfl,0,0,0
  exists VM,Vs.nL2 fun _ _=>rfl,0,0,0
  exists V7,Vs.nL2 fun _ _=>rfl,0,0,0
  exists Ue,Vs.nL2 fun _ _=>rfl,0,0,0
  exists V4,Vs.nL2 fun _ _=>rfl,0,0,0
  exists V8,Vs.nL2 fun _ _=>rfl,0,0,0
  exists VX,Vs.nL1 fun _=>rfl,0,0,0
  exists V3,Vs.nL3 fun _ _ _=>rfl,0,0,0
  exists VJ,Vs.nL1 fun _=>rfl,0,0,0
  exists Ub,Vs.nL2 fun _ _=>rfl,0,0,0
  exists V0,Vs.nL4 fun _ _ _ _=>rfl,0,0,0
  exists Uh,Vs.nL1 fun _=>rfl,0,0,0
  exists V5,Vs.nL1 fun _=>rfl,0,0,0
  exists Ua,Vs.nL3 fun _ _ _=>rfl,0,0,0
  exists V9,Vs.nL4 fun _ _ _ _=>rfl,0,0,0
  exists VP,Vs.nL4 fun _ _ _ _=>rfl,0,0,0
  exists Ud,Vs.nL3 fun _ _ _=>rfl,0,0,0
  exists Uj,Vs.nL2 fun _ _=>rfl,0,0,0
  exists VW,Vs.nL2 fun _ _=>rfl,0,0,0,0,0
  exists Ui,Vs.nL4 fun _ _ _ _=>rfl,0,0,0,0,0
  exists V1,Vs.nL2 fun _ _=>rfl,0,0,0,0,0
  exists V6,Vs.nL2 fun _ _=>rfl,0,0,0,0,0
  exists VT,Vs.nL1 fun _=>rfl,0,0,0,0,0
  (try case qafalling_groups=>first|rfl|decide|k_is)
  (try case qbfalling_groups=>k_is)
  (try case qcfalling_groups=>first|rfl|decide|k_is)
  (try case qdfalling_groups=>first|rfl|decide|k_is)
  (try case qefalling_groups=>first|rfl|decide|k_is)
  (try case qffalling_groups=>first|rfl|decide|k_is)
  (try case qgfalling_groups=>first|rfl|decide|k_is)
  (try case qhfalling_groups=>first|rfl|decide|k_is)
  (try case qifalling_groups=>first|rfl|decide|k_is)
  (try case qjfalling_groups=>first|rfl|decide|k_is)
  (try case qkfalling_groups=>first|k_is|rfl|decide|decide +kernel)
  (try case qlfalling_groups=>decide)
