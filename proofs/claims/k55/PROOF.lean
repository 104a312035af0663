import PyProof.Rows.All
import Wide.All
import OpenK.AllK
import Wide.FinOn
import Lean
import PyProof.EqAt
import PyProof.EqKinds
import PyProof.TupleCall
import PySem.Challenge.RW_voucherstack_k55_whole_looks_against_all
set_option Elab.async false
set_option linter.all false
set_option compiler.extract_closed false
set_option maxHeartbeats 4000000
set_option maxRecDepth 100000
open Array renaming length_toList -> M7, size_zip -> EH, getElem?_eq_getElem -> Dc
open Bool renaming false_ne_true -> NB, false_eq_true -> Mn, eq_iff_iff -> Ed, and_eq_true -> Eh, false_and -> Ew, or_eq_true -> E9, or_false -> Dr
open List renaming length_map -> Nq, replicate -> Nu, range -> Nw, mem_of_getElem? -> Ny, getElem?_map -> Nz, map_append -> NC, getElem?_eq_some_iff -> NF, length_append -> NG, map_cons -> NJ, length_take -> NK, getD_eq_getElem?_getD -> NL, mem_map -> NO, size_toArray -> NP, map_map -> NQ, mem_cons_of_mem -> NR, mem_cons -> NS, mem_cons_self -> NV, length_cons -> NW, take_length -> NY, zipWith -> N2, flatten_cons -> N4, mem_filter -> N5, mem_append -> N6, lookup_cons -> Ma, mem_append_right -> Md, append_assoc -> Mg, range_succ -> Mh, map_congr_left -> Mj, append_nil -> Ml, length_replicate -> Mm, find?_cons -> Mo, mem_singleton -> Mq, lookup -> Ms, nodup_cons -> Mu, length_singleton -> Mv, nil_append -> Mw, filter_append -> Mx, drop_eq_getElem_cons -> My, any_cons -> Mz, replicate_succ -> MA, take_of_length_le -> MC, getElem?_eq_getElem -> MD, take_add_one -> ME, ext_getElem -> MF, drop_length -> MG, map_nil -> MI, not_mem_nil -> MJ, cons_append -> MK, length_zipWith -> ML, mem_flatten -> MM, of_mem_zip -> MO, length -> MP, getElem?_append_right -> MQ, Pairwise -> MR, filter_cons -> MT, map_take -> MU, getElem?_replicate -> MY, pairwise_iff_getElem -> M0, sum_cons -> M1, length_filter_le -> M3, mem_iff_getElem? -> M4, sum_append -> M5, mem_range -> M6, length_drop -> M8, drop_zero -> M9, getElem_map -> Eb, flatMap_cons -> Ec, getElem?_append_left -> Eg, nodup_append -> Ej, getElem_range -> Ek, Perm -> El, getElem?_zipWith -> Em, filter_nil -> Ep, map_set -> Er, filterMap_cons -> Es, getElem?_set_self -> Et, getElem?_set_ne -> Eu, length_set -> Ez, reverse_cons -> EA, all_eq_true -> ED, nodup_nil -> EE, flatten_append -> EI, nodup_range -> EJ, pairwise_cons -> EK, getElem?_range -> EL, pairwise_map -> EM, getLastD_eq_getLast? -> EN, replicate_succ' -> EO, sum_nil -> ET, flatMap_append -> EU, flatMap_nil -> EV, isPerm_iff -> EW, mem_flatMap -> EY, getElem?_eq_none_iff -> EZ, mem_append_left -> E2, count_cons -> De, length_nil -> Df, zipIdx_cons -> Dg, getElem_set -> Dh, pairwise_lt_range -> Dj, getElem?_eq_none -> Dk, take_append_drop -> Dm, map_drop -> Do, mem_of_mem_take -> Dp, mem_replicate -> Dq, getElem?_take_of_lt -> Dw, take_eq_take_iff -> DA, getElem_cons_drop -> DG, singleton_append -> DH, sublist_append_left -> DI, filter_eq_nil_iff -> DJ, getLast?_eq_some_getLast -> DK, drop_of_length_le -> DL, length_eq_zero_iff -> DN
open Nat renaming le_refl -> Nt, le_trans -> Nx, le_of_lt -> ND, lt_of_lt_of_le -> NT, ne_of_lt -> NU, zero_le -> N1, lt_irrefl -> Mi, ne_of_gt -> Mr, lt_of_le_of_lt -> MB, le_succ -> MX, min_self -> Ei, min_eq_left -> Eo, le_of_eq -> Ey, lt_trans -> EB, not_lt -> EC, zero_add -> EG, lt_succ_iff_lt_or_eq -> EX, lt_succ_self -> E5, mul_le_mul_right -> Dl
open Option renaming map_some -> MS, or_none -> En, getD_none -> E8, isSome_iff_exists -> Dv
open PySem.F renaming plainAttrs_list -> Mp, slot_list_append -> MV, type_list_append -> MW, slot_dict_setdefault -> EF, slot_list_extend -> ER, type_list_extend -> ES, plainAttrs_dict -> Da, slot_tuple_add -> Dx, entry_tuple_add -> Dy, args_tuple_add_2 -> Dz, entry_dict_setdefault -> DB, args_dict_setdefault_3 -> DC, slot_dict_values -> DD, type_dict_setdefault -> DM
open PySem.W renaming Frag -> Nr, findIn -> Nv, mroIn -> NA, keepIn -> NH, fnOf -> NI, nsIn -> NM, kitOne -> NN, mg_of -> NZ, codeIn -> N3, mg_none_of -> N7, plainGet -> N8, typeIn -> N9, hasDictIn -> Mb, makesIn -> Mc, isFn -> Me, plainOver -> Mf, kia_one -> Mt, emptyDict -> MH, instObj -> MN, kla_obj -> MZ, tabObj -> Ea, specialIn -> Ee, callWith_K -> Ef, lookIn -> Ex, methodObj -> E1, plainGet_of -> E3, takerIn -> E4, takesIn -> E6, methodCall_KW -> E7, kla_fn -> Dd, callWith_K0 -> Dt, cellsFrom_some -> Du, kla_callFunE -> DE, kla_codeExpr -> DF
set_option hygiene false
noncomputable section
local macro_rules|`(tactic|exists $a,$b)=>`(tactic|refine FunD.ok $a $b (by intro _ _ _ _ h;cases h;subst_vars;rfl) (fun cdv A outer s H vs Q E hr h=>?_))
local macro_rules|`(tactic|ac_rfl)=>`(tactic|exact⟨rfl,rfl,rfl,by decide +kernel,rfl,by decide +kernel,by decide +kernel⟩)
local macro_rules|`(tactic|exists $a:ident,$b,$c)=>`(tactic|have $a:ident:=$b (P:=P) (w:=w) $c)
local macro_rules|`(tactic|exists $a:ident,$b,$c,$_)=>`(tactic|have $a:ident:Room $b _:=($c).mono (by decide))
local macro_rules|`(tactic|exists $a:ident)=>`(tactic|try refine sN fun _ $a=>?_)
local macro_rules|`(tactic|exists $a,$b,$c:ident,$d:ident,$e:ident,$f)=>`(tactic|(generalize hg9:upd $a $b _=$c;obtain⟨$d:ident,$e:ident⟩:=kay hg9 $f;clear hg9))
local macro_rules|`(tactic|ac_nf)=>`(tactic|(repeat (first|rw[kab,if_pos rfl]|rw[kab,if_neg (by decide +kernel)])))
local macro_rules|`(tactic|symm)=>`(tactic|try apply Y4)
local macro_rules|`(tactic|nofun)=>`(tactic|try first|apply Y6|apply Y4)
local macro_rules|`(tactic|exists 3)=>`(tactic|try first|apply Y8|apply Y6|apply Y4)
local macro_rules|`(tactic|exists 4)=>`(tactic|try first|apply Y10|apply Y6|apply Y4)
local macro_rules|`(tactic|exists $a:ident,$b,$_,$_,$_)=>`(tactic|(case $a:ident=>refine' Vs.dn_mk KX G ?_ ?_ ?_ ?_ (fun _ _ _ _ _ _=>$b);any_goals k_is))
local macro_rules|`(tactic|exists $a:ident,$b,$_,$_,$_,$_,$_)=>`(tactic|(case $a:ident=>refine' Vs.mt_mk ?_ ?_ ?_ ?_ ?_ (fun _ _ _ _ _ _=>$b);any_goals k_is))
namespace Lake
namespace L2
open PySem PySem.Spec PyProof.Rows
abbrev Key:=Sum Int Str
def keyIs:Key->Value->Bool
 | .inl k,v=>Value.isInt k v
 | .inr x,v=>Value.isStrOf x v
def keyH(w:World):Key->Int
 | .inl k=>hashInt k
 | .inr x=>hashStr w x
theorem ka2:∀{k:Key}{v:Value},keyIs k v=true->(∃i t,k=Sum.inl i/\v=Value.int i t)∨(∃x t,k=Sum.inr x/\v=Value.str x t)
 | .inl i,v,h=>by
  obtain⟨t,e⟩:=Value.isInt_shape (k:=i) (v:=v) h
  exact .inl ⟨i,t,rfl,e⟩
 | .inr x,v,h=>by
  obtain⟨t,e⟩:=Value.isStrOf_shape (x:=x) (v:=v) h
  exact .inr ⟨x,t,rfl,e⟩
def kj9(i:Int)(t:Tok):keyIs (.inl i) (.int i t)=true:=by simp[keyIs,Value.isInt]
def kj8(x:Str)(t:Tok):keyIs (.inr x) (.str x t)=true:=by simp[keyIs,Value.isStrOf]
noncomputable def knp(a b:Int):decide ((Sum.inl a:Key)=Sum.inl b)=(a==b):=by
 by_cases e:a=b
 ·subst e;simp
 ·have h:¬(Sum.inl a:Key)=Sum.inl b:=fun q=>e (Sum.inl.inj q)
  rw[decide_eq_false h]
  exact(beq_eq_false_iff_ne.mpr e).symm
noncomputable def knm(a b:Str):decide ((Sum.inr a:Key)=Sum.inr b)=decide (a=b):=by
 by_cases e:a=b
 ·subst e;simp
 ·have h:¬(Sum.inr a:Key)=Sum.inr b:=fun q=>e (Sum.inr.inj q)
  rw[decide_eq_false h,decide_eq_false e]
def kno(a:Int)(b:Str):decide ((Sum.inl a:Key)=Sum.inr b)=false:=decide_eq_false (fun q=>nomatch q)
def knn(a:Str)(b:Int):decide ((Sum.inr a:Key)=Sum.inl b)=false:=decide_eq_false (fun q=>nomatch q)
noncomputable def ka5(prog:Program)(w:World):PySem.KeyKind prog w Key where
 is:=keyIs
 hash:=keyH w
 inj:=fun v a b ha hb=>by
  rcases ka2 ha with⟨i,t,rfl,rfl⟩|⟨x,t,rfl,rfl⟩
  ·rcases ka2 hb with⟨j,u,rfl,e⟩|⟨y,u,rfl,e⟩
   ·injection e with e1 _;rw[e1]
   ·exact nomatch e
  ·rcases ka2 hb with⟨j,u,rfl,e⟩|⟨y,u,rfl,e⟩
   ·exact nomatch e
   ·injection e with e1 _;rw[e1]
 byValue:=fun k v h=>by
  rcases ka2 h with⟨i,t,rfl,rfl⟩|⟨x,t,rfl,rfl⟩ <;> rfl
 pyHash:=fun hv h=>by
  rcases ka2 hv with⟨i,t,rfl,rfl⟩|⟨x,t,rfl,rfl⟩
  ·exact wpAny_pyHash_int h
  ·exact wpAny_pyHash_str h
 eqBool:=fun hu hv h=>by
  rcases ka2 hu with⟨i,t,rfl,rfl⟩|⟨x,t,rfl,rfl⟩
  ·rcases ka2 hv with⟨j,u,rfl,rfl⟩|⟨y,u,rfl,rfl⟩
   ·rw[knp] at h;exact wpAny_eqBool_int h
   ·rw[kno] at h;exact SeqAt.EqAt.int_str i t y u _ _ _ _ h
  ·rcases ka2 hv with⟨j,u,rfl,rfl⟩|⟨y,u,rfl,rfl⟩
   ·rw[knn] at h;exact SeqAt.EqAt.str_int x t j u _ _ _ _ h
   ·rw[knm] at h;exact wpAny_eqBool_str h
 «strs» :=fun k x t v h=>by
  rcases ka2 h with⟨i,u,rfl,e⟩|⟨y,u,rfl,e⟩
  ·exact nomatch e
  ·injection e with e1 _
   subst e1
   cases v <;> rfl
def keT(prog:Program)(w:World)(i:Int)(t:Tok):(ka5 prog w).is (.inl i) (.int i t)=true:=kj9 i t
def khD(prog:Program)(w:World)(x:Str)(t:Tok):(ka5 prog w).is (.inr x) (.str x t)=true:=kj8 x t
end L2
namespace L2
open PySem PySem.Spec PyProof.Rows
inductive V where
 |non|bl (b:Bool)|int (i:Int)|str (x:Str)|byt (b:Array UInt8)|flt (b:UInt64)|ref (a:Addr)|ty (n:String)
 deriving DecidableEq
noncomputable def RelV:V->Value->Prop
 | .non,u=>u=Value.none
 | .bl b,u=>u=Value.bool b
 | .int i,u=>∃t,u=Value.int i t
 | .str x,u=>∃t,u=Value.str x t
 | .byt b,u=>∃t,u=Value.bytes b t
 | .flt b,u=>∃t,u=Value.float b t
 | .ref a,u=>u=Value.ref a
 | .ty n,u=>u=Value.type n
abbrev Vals:List V->List Value->Prop:=Paired RelV
def Vals.length{xs:List V}{us:List Value}(r:Vals xs us):xs.length=us.length:=Paired.length r
theorem Vals.get:∀{xs:List V}{us:List Value}{i:Nat}{x:V},Vals xs us->xs[i]?=some x->∃u,us[i]?=some u/\RelV x u
 |_,_,_,_, .nil,e=>by simp at e
 |_,_,0,_, .cons r _,e=>by simp at e;subst e;exact⟨_,rfl,r⟩
 |_,_,i+1,x, .cons _ t,e=>by
  obtain⟨u,h1,h2⟩:=Vals.get (i:=i) (x:=x) t (by simpa using e)
  exact⟨u,by simpa using h1,h2⟩
theorem Vals.set{x:V}{u:Value}(r:RelV x u):∀{xs:List V}{us:List Value}(i:Nat),Vals xs us->Vals (xs.set i x) (us.set i u)
 |_,_,_, .nil=>.nil
 |_,_,0, .cons _ t=>.cons r t
 |_,_,i+1, .cons q t=>.cons q (Vals.set r i t)
theorem Vals.append:∀{xs ys:List V}{us ws:List Value},Vals xs us->Vals ys ws->Vals (xs++ys) (us++ws)
 |_,_,_,_, .nil,s=>s
 |_,_,_,_, .cons r t,s=>.cons r (Vals.append t s)
theorem Vals.take:∀{xs:List V}{us:List Value}(n:Nat),Vals xs us->Vals (xs.take n) (us.take n)
 |_,_,0,_=>.nil
 |_,_,_+1, .nil=>.nil
 |_,_,n+1, .cons r t=>.cons r (Vals.take n t)
theorem Vals.drop:∀{xs:List V}{us:List Value}(n:Nat),Vals xs us->Vals (xs.drop n) (us.drop n)
 |_,_,0,r=>r
 |_,_,_+1, .nil=>.nil
 |_,_,n+1, .cons _ t=>Vals.drop n t
noncomputable def Vals.none_of:∀{xs:List V}{us:List Value}{i:Nat},Vals xs us->xs[i]?=none->us[i]?=none:=fun {xs us i} r e=>by
 have h1:=r.length
 have h2:xs.length<=i:=EZ.mp e
 exact EZ.mpr (by omega)
def RelO:Option V->Option Value->Prop
 |some v,some u=>RelV v u
 |none,none=>True
 |_,_=>False
def KV{κ:Type}:List (κ×V)->List (κ×Value)->Prop:=Paired fun(p: κ×V)(q: κ×Value)=>p.1=q.1/\RelV p.2 q.2
def kV:Key->V
 | .inl i=>.int i
 | .inr x=>.str x
inductive HO where
 |lst (xs:List V)
 |tup (xs:List V)
 |dK (kvs:List (Key×V))|dT (kvs:List (List Key×V))
 |set (S:Int->Bool) (n:Nat)
 |ins (C dx:Addr) (fs:List (Str×V))
 |own (x:Addr)
 |xd (fs:List (Str×V))
 |met (f x:Addr)
 |rng (lo hi:Int)
 |frz (o:Obj) (u:HO)
 |tbl (ps:Array Value)
 |ext (φ:Heap->Prop)
abbrev Hp:=Addr->Option HO
def upd(H:Hp)(a:Addr)(o:HO):Hp:=fun b=>if b=a then some o else H b
def kad{H:Hp}{a:Addr}{o:HO}:upd H a o a=some o:=by unfold upd;rw[if_pos rfl]
def kaj{H:Hp}{a b:Addr}{o:HO}(h:b≠a):upd H a o b=H b:=by unfold upd;rw[if_neg h]
def kmd{H:Hp}{a:Addr}{o u:HO}:upd (upd H a o) a u=upd H a u:=by
 funext b;unfold upd;split <;> rfl
noncomputable def ne_of{H:Hp}{a b:Addr}{o u:HO}(h:H a=some o)(h':H b=some u)(d:o≠u):a≠b:=by
 intro e;subst e;rw[h] at h';exact d (Option.some.inj h')
def kah{H:Hp}{a b:Addr}{o:HO}(h:H a=some o)(h':H b=none):a≠b:=by
 intro e;subst e;rw[h] at h';cases h'
section
variable (P:Program) (w:World)
noncomputable def ObjOk(H:Hp)(h:Heap)(a:Addr):HO->Prop
 | .lst xs=>xs.length<=sizeLine/\∃(its:List Value)(n:Nat),Vals xs its/\h.get? a=some {cls:=.type "list",data:=.seq its.toArray n}
 | .tup xs=>xs.length<=sizeLine/\∃its:List Value,Vals xs its/\IsTup h a its.toArray
 | .dK kvs=>kvs.length<=sizeLine/\(a==sysModules)=false/\∃vs,KV kvs vs/\h.DictOf (ka5 P w) a vs
 | .dT kvs=>kvs.length<=sizeLine/\(a==sysModules)=false/\∃xs:List (List Key×Addr×Value),
   Paired (fun(p:List Key×V)(q:List Key×Addr×Value)=>p.1=q.1/\H q.2.1=some (.tup (p.1.map kV))/\RelV p.2 q.2.2) kvs xs/\
   ∃o es ep,h.get? a=some o/\o.ExactDict/\o.data=.dict es ep/\es.toList=xs.map (entryOfKey (tupleKind (ka5 P w)))/\(xs.map (·.1)).Nodup
 | .set S n=>h.SetOf (intKind P w) a S n
 | .ins C dx fs=>H dx=some (.own a)/\fs.length<=1000/\dx≠a/\h.get? a=some (MN C dx)/\
   ∃mA,h.Ns1 dx mA/\(∀f,RelO (fs.lookup f) (mA f))/\PySem.Within mA (fs.map (·.1))
 | .own _=>∃o,h.get? a=some o
 | .xd fs=>∃mA,h.Ns1 a mA/\∀f,RelO (fs.lookup f) (mA f)
 | .rng lo hi=>∃t u v,h.get? a=some {cls:=.type "range",data:=.fields #[.int lo t, .int hi u, .int 1 v]}
 | .frz o u=>h.get? a=some o/\ObjOk H h a u
 | .tbl ps=>h.get? a=some {cls:=.none,data:=.fields ps}
 | .met f x=>h.get? a=some (E1 (.ref f) (.ref x))
 | .ext φ=>φ h/\(∃o,h.get? a=some o)/\∀h1 h2:Heap,φ h1->(∀o,h1.get? a=some o->h2.get? a=some o)->φ h2
def HOk(H:Hp)(h:Heap):Prop:=∀a o,H a=some o->ObjOk P w H h a o
end
section
variable {P:Program} {w:World} {H H':Hp} {h h':Heap} {a:Addr} {o:HO}
theorem ObjOk.lt(x:ObjOk P w H h a o):a<h.objs.size:=by
 cases o with
 |lst xs=>obtain⟨_,_,_,_,e⟩:=x;exact Heap.lt_size e
 |tup xs=>obtain⟨_,_,_,p⟩:=x;exact p.lt
 |dK kvs=>obtain⟨_,_,_,_,o,_,_,e,_⟩:=x;exact Heap.lt_size e
 |dT kvs=>obtain⟨_,_,_,_,o,_,_,e,_⟩:=x;exact Heap.lt_size e
 |set S n=>obtain⟨o,_,_,_,e,_⟩:=x;exact Heap.lt_size e
 |ins C dx fs=>obtain⟨_,_,_,e,_⟩:=x;exact Heap.lt_size e
 |own y=>obtain⟨_,e⟩:=x;exact Heap.lt_size e
 |xd fs=>obtain⟨_,⟨_,_,_,e,_⟩,_⟩:=x;exact Heap.lt_size e
 |rng lo hi=>obtain⟨_,_,_,e⟩:=x;exact Heap.lt_size e
 |frz ob u=>obtain⟨e,_⟩:=x;exact Heap.lt_size e
 |tbl ps=>exact Heap.lt_size (show h.get? a=some _ from x)
 |met f y=>exact Heap.lt_size (show h.get? a=some _ from x)
 |ext φ=>obtain⟨_,⟨_,e⟩,_⟩:=x;exact Heap.lt_size e
theorem Paired.mapP{α β:Type}{F G: α->β->Prop}:∀{l₁:List α}{l₂:List β},Paired F l₁ l₂->(∀a b,F a b->G a b)->Paired G l₁ l₂
 |_,_, .nil,_=>.nil
 |_,_, .cons r t,f=>.cons (f _ _ r) (Paired.mapP t f)
theorem ObjOk.stay(x:ObjOk P w H h a o)(k:∀b u,(b=a∨H b=some (.own a))->h.get? b=some u->h'.get? b=some u)
  (ho:∀b,H b=some (.own a)->H' b=some (.own a)) (ht:∀b xs,H b=some (.tup xs)->H' b=some (.tup xs)):ObjOk P w H' h' a o:=by
 induction o with
 |lst xs=>obtain⟨z,its,n,r,e⟩:=x;exact⟨z,its,n,r,k _ _ (.inl rfl) e⟩
 |tup xs=>obtain⟨z,its,r,ob,e,c⟩:=x;exact⟨z,its,r,ob,k _ _ (.inl rfl) e,c⟩
 |dK kvs=>obtain⟨z,y,vs,r,ob,es,ep,e,c⟩:=x;exact⟨z,y,vs,r,ob,es,ep,k _ _ (.inl rfl) e,c⟩
 |dT kvs=>
  obtain⟨z,y,xs,r,ob,es,ep,e,c⟩:=x
  exact⟨z,y,xs,Paired.mapP r fun p q z=>⟨z.1,ht _ _ z.2.1,z.2.2⟩,ob,es,ep,k _ _ (.inl rfl) e,c⟩
 |set S n=>obtain⟨ob,es,ep,t,e,c⟩:=x;exact⟨ob,es,ep,t,k _ _ (.inl rfl) e,c⟩
 |ins C dx fs=>
  obtain⟨d,z,ne,e,mA,⟨od,es,ep,e2,c⟩,r⟩:=x
  exact⟨ho _ d,z,ne,k _ _ (.inl rfl) e,mA,⟨od,es,ep,k _ _ (.inr d) e2,c⟩,r⟩
 |own y=>obtain⟨ob,e⟩:=x;exact⟨ob,k _ _ (.inl rfl) e⟩
 |xd fs=>obtain⟨mA,⟨od,es,ep,e,c⟩,r⟩:=x;exact⟨mA,⟨od,es,ep,k _ _ (.inl rfl) e,c⟩,r⟩
 |rng lo hi=>obtain⟨t,u,v,e⟩:=x;exact⟨t,u,v,k _ _ (.inl rfl) e⟩
 |frz ob u ih=>obtain⟨e,q⟩:=x;exact⟨k _ _ (.inl rfl) e,ih q⟩
 |tbl ps=>
  have e:h.get? a=some {cls:=.none,data:=.fields ps}:=x
  show h'.get? a=some {cls:=.none,data:=.fields ps}
  exact k a _ (.inl rfl) e
 |met f y=>
  have e:h.get? a=some (E1 (.ref f) (.ref y)):=x
  show h'.get? a=some (E1 (.ref f) (.ref y))
  exact k a _ (.inl rfl) e
 |ext φ=>obtain⟨p,⟨o,e⟩,st⟩:=x;exact⟨st _ _ p fun o q=>k _ _ (.inl rfl) q,⟨o,k _ _ (.inl rfl) e⟩,st⟩
theorem HOk.lt(x:HOk P w H h)(e:H a=some o):a<h.objs.size:=(x a o e).lt
theorem HOk.fresh(x:HOk P w H h)(e:h.objs.size<=a):H a=none:=by
 cases q:H a with
 |none=>rfl
 |some u=>exact absurd (NT (x.lt q) e) (Mi _)
theorem HOk.kept(x:HOk P w H h)(k:∀b u,h.get? b=some u->h'.get? b=some u):HOk P w H h':=fun a o e=>
 (x a o e).stay (fun b u _ q=>k b u q) (fun _ q=>q) fun _ _ q=>q
theorem HOk.laid(x:HOk P w H h)(k:∀b u,h.get? b=some u->h'.get? b=some u)(hp:h.objs.size<=a)(new:ObjOk P w (upd H a o) h' a o):HOk P w (upd H a o) h':=fun b u e=>by
 have hn:=x.fresh hp
 by_cases hb:b=a
 ·subst hb;rw[kad] at e;cases e;exact new
 ·rw[kaj hb] at e
  exact(x b u e).stay (fun c v _ q=>k c v q) (fun c q=>by rw[kaj (kah q hn)];exact q) fun c xs q=>by rw[kaj (kah q hn)];exact q
end
def Rd(H:Hp)(a:Addr)(u:HO):Prop:=H a=some u∨∃o,H a=some (.frz o u)
def Rd.of{H:Hp}{a:Addr}{u:HO}(h:H a=some u):Rd H a u:=.inl h
noncomputable def Rd.ok{P:Program}{w:World}{H:Hp}{h:Heap}{a:Addr}{u:HO}(r:Rd H a u)(x:HOk P w H h):ObjOk P w H h a u:=by
 rcases r with r|⟨o,r⟩
 ·exact x a u r
 ·obtain⟨_,q⟩:=x a _ r
  exact q
noncomputable def Mut:Option HO->Prop
 |some (.lst _)=>True
 |some (.dK _)=>True
 |some (.dT _)=>True
 |some (.set _ _)=>True
 |some (.ins _ _ _)=>True
 |some (.ext _)=>True
 |_=>False
section
variable {P:Program} {w:World} {H:Hp} {h h':Heap} {x e:Addr} {o':HO}
theorem HOk.write(ok:HOk P w H h)(mu:Mut (H x))(he:e=x∨H e=some (.own x))(k:∀b u,b≠e->h.get? b=some u->h'.get? b=some u)(heo:∃u,h'.get? e=some u)
  (new:ObjOk P w (upd H x o') h' x o'):HOk P w (upd H x o') h':=fun b u q=>by
 have nown:∀c y,H c=some (.own y)->c≠x:=fun c y r z=>by subst z;rw[r] at mu;exact mu
 have ntup:∀c xs,H c=some (.tup xs)->c≠x:=fun c xs r z=>by subst z;rw[r] at mu;exact mu
 by_cases hb:b=x
 ·subst hb;rw[kad] at q;cases q;exact new
 ·rw[kaj hb] at q
  by_cases hbe:b=e
  ·have q':H b=some (.own x):=by
    rcases he with z|z
    ·exact absurd (hbe.trans z) hb
    ·rw[hbe];exact z
   rw[q] at q';cases q'
   obtain⟨v,hv⟩:=heo
   exact⟨v,by rw[hbe];exact hv⟩
  ·refine(ok b u q).stay (fun c v hc r=>k c v ?_ r) (fun c r=>by rw[kaj (nown c b r)];exact r) fun c xs r=>by rw[kaj (ntup c xs r)];exact r
   rcases hc with rfl|hc
   ·exact hbe
   ·rintro rfl
    rcases he with z|z
    ·exact nown c b hc z
    ·rw[hc] at z;cases z;exact hb rfl
end
structure Un (fs ex:List Addr) (H H':Hp) (h h':Heap):Prop where
 keep:∀b o,h.get? b=some o->H b=none->b∉fs->b∉ex->h'.get? b=some o
 slot:∀b o,h.get? b=some o->H b=none->b∈fs->b∉ex->∃sl,h'.get? b=some {o with slots:=sl}
 free:∀b o,h.get? b=some o->H b=none->b∉ex->H' b=none
 there:∀b o,h.get? b=some o->b∉ex->∃o',h'.get? b=some o'
 tups:∀b xs,H b=some (.tup xs)->H' b=some (.tup xs)
 frzs:∀b o u,H b=some (.frz o u)->H' b=some (.frz o u)
 tbls:∀b ps,H b=some (.tbl ps)->∃more,H' b=some (.tbl (ps++more))
section
variable {fs fs' ex ex':List Addr} {H H1 H2:Hp} {h h1 h2 h':Heap} {a x e:Addr} {o:HO}
theorem Un.any(u:Un fs ex H H1 h h1){b:Addr}{ob:Obj}(q:h.get? b=some ob)(n:H b=none)(hx:b∉ex):∃sl,h1.get? b=some {ob with slots:=sl}:=by
 by_cases hb:b∈fs
 ·exact u.slot b ob q n hb hx
 ·exact⟨ob.slots,u.keep b ob q n hb hx⟩
theorem Un.trans(a:Un fs ex H H1 h h1)(b:Un fs ex H1 H2 h1 h2):Un fs ex H H2 h h2 where
 keep:=fun c ob q n hc hx=>b.keep c ob (a.keep c ob q n hc hx) (a.free c ob q n hx) hc hx
 slot:=fun c ob q n hc hx=>by
  obtain⟨sl,e1⟩:=a.slot c ob q n hc hx
  obtain⟨sl',e2⟩:=b.slot c _ e1 (a.free c ob q n hx) hc hx
  exact⟨sl',e2⟩
 free:=fun c ob q n hx=>by
  obtain⟨o',e1⟩:=a.there c ob q hx
  exact b.free c o' e1 (a.free c ob q n hx) hx
 there:=fun c ob q hx=>by
  obtain⟨o',e1⟩:=a.there c ob q hx
  exact b.there c o' e1 hx
 tups:=fun c xs q=>b.tups c xs (a.tups c xs q)
 frzs:=fun c ob xs q=>b.frzs c ob xs (a.frzs c ob xs q)
 tbls:=fun c ps q=>by
  obtain⟨m1,e1⟩:=a.tbls c ps q
  obtain⟨m2,e2⟩:=b.tbls c _ e1
  exact⟨m1++m2,by rw[e2,Array.append_assoc]⟩
theorem Un.kept(k:∀b u,h.get? b=some u->h'.get? b=some u):Un fs ex H H h h':=
 ⟨fun b ob q _ _ _=>k b ob q,fun b ob q _ _ _=>⟨ob.slots,k b ob q⟩,fun _ _ _ n _=>n,fun b ob q _=>⟨ob,k b ob q⟩,fun _ _ q=>q,fun _ _ _ q=>q,fun _ ps q=>⟨#[],by rw[q];simp⟩⟩
theorem Un.refl:Un fs ex H H h h:=Un.kept fun _ _ q=>q
theorem Un.laid(k:∀b u,h.get? b=some u->h'.get? b=some u)(hp:h.objs.size<=a)(hn:H a=none):Un fs ex H (upd H a o) h h' where
 keep:=fun b u q _ _ _=>k b u q
 slot:=fun b u q _ _ _=>⟨u.slots,k b u q⟩
 free:=fun b u q n _=>by rw[kaj (NU (NT (Heap.lt_size q) hp))];exact n
 there:=fun b u q _=>⟨u,k b u q⟩
 tups:=fun b xs q=>by rw[kaj (kah q hn)];exact q
 frzs:=fun b u xs q=>by rw[kaj (kah q hn)];exact q
 tbls:=fun b ps q=>⟨#[],by rw[kaj (kah q hn),q];simp⟩
theorem Un.write(mu:Mut (H x))(he:e=x∨H e=some (.own x))(k:∀b u,b≠e->h.get? b=some u->h'.get? b=some u)(heo:∃u,h'.get? e=some u):Un fs ex H (upd H x o) h h':=by
 have hx:∀b,H b=none->b≠x:=fun b n z=>by subst z;rw[n] at mu;exact mu
 have hb:∀b,H b=none->b≠e:=fun b n z=>by
  subst z
  rcases he with r|r
  ·exact hx b n r
  ·rw[n] at r;cases r
 have hm:∀b u,H b=some u->¬Mut (some u)->b≠x:=fun b u q nm z=>by subst z;rw[q] at mu;exact nm mu
 refine⟨fun b u q n _ _=>k b u (hb b n) q,fun b u q n _ _=>⟨u.slots,k b u (hb b n) q⟩,fun b u q n _=>by rw[kaj (hx b n)];exact n,fun b u q _=>?_,
  fun b xs q=>by rw[kaj (hm b _ q fun z=>z)];exact q,fun b u xs q=>by rw[kaj (hm b _ q fun z=>z)];exact q,fun b ps q=>⟨#[],by rw[kaj (hm b _ q fun z=>z),q];simp⟩⟩
 by_cases hbe:b=e
 ·subst hbe;exact heo
 ·exact⟨u,k b u hbe q⟩
theorem Un.mono(u:Un fs ex H H1 h h1)(hs:∀b∈fs,b∈fs')(hx:∀b∈ex,b∈ex'):Un fs' ex' H H1 h h1:=
 ⟨fun b ob q n hb he=>u.keep b ob q n (fun z=>hb (hs b z)) fun z=>he (hx b z),fun _ _ q n _ he=>u.any q n fun z=>he (hx _ z),fun b ob q n he=>u.free b ob q n fun z=>he (hx b z),fun b ob q he=>u.there b ob q fun z=>he (hx b z),u.tups,u.frzs,u.tbls⟩
end
def trk(h:Heap)(H:Hp):List Addr:=(Nw h.objs.size).filter fun a=>(H a).isSome
def hidT(h:Heap)(H:Hp):Heap:=PySem.W.hideAll h (trk h H)
def kke(h:Heap)(H:Hp):(hidT h H).objs.size=h.objs.size:=PySem.W.hideAll_size _ _
noncomputable def klk{h:Heap}{H:Hp}{b:Addr}{o:Obj}(e:h.get? b=some o)(n:H b=none):(hidT h H).get? b=some o:=
 PySem.W.hideAll_get _ e fun hm=>by
  have q:(H b).isSome=true:=(N5.mp hm).2
  rw[n] at q;simp at q
theorem kmF{h:Heap}{H:Hp}{b:Addr}{o:Obj}(e:(hidT h H).get? b=some o):h.get? b=some o/\H b=none:=by
 have e':h.get? b=some o:=PySem.W.of_hideAll (trk h H) e
 refine⟨e',?_⟩
 cases q:H b with
 |none=>rfl
 |some x=>
  have hm:b∈trk h H:=N5.mpr ⟨M6.mpr (Heap.lt_size e'),by simp[q]⟩
  have z:(hidT h H).get? b=none:=PySem.W.hideAll_none (trk h H) hm
  rw[z] at e;cases e
noncomputable def kmZ(g h:Heap)(L:Addr):List (Addr×Obj):=(Nw h.objs.size).filterMap fun a=>if a=L∨(g.get? a).isSome=true then none else(h.get? a).map fun o=>(a,o)
def rest(g h:Heap)(L d:Addr):List (Addr×Obj):=(kmZ g h L).filter fun p=>decide (p.1≠d)
end L2
namespace L2
open PySem PySem.Spec PyProof.Rows
structure Mod (K:Nr) (mg:Str->Option Value) (base:Heap):Prop where
 kin:K.In base
 glob:base.Ns mainGlobals mg
 blt:∃mb,base.Ns builtinsNs mb/\∀x:Str,x≠"__name__"->mb x=bootBuiltins x
 nolimit:base.NoLimit
structure Cx where
 prog:Program
 w:World
 K:Nr
 mg:Str->Option Value
 base:Heap
 A:Around
 N:List Str
 s₀:Shared
 H₀:Hp
 env:Env
 outer:List Env
 stack:List Env
 ex:List Addr
 fn:Str->Bool
 calm:Bool
 pn:List (Addr×Obj)
 xe:Value->Shared->Prop
def frs(l:List Env):List Addr:=l.filterMap (·.frame)
abbrev Cx.fs(X:Cx):List Addr:=frs X.outer
def Vis(sc:Scope)(x:Str):Prop:=sc.names.lookup x=some .local∨sc.names.lookup x=some .cell∨sc.names.lookup x=some .free
def Loc(sc:Scope)(x:Str):Prop:=sc.names.lookup x=some .local∨sc.names.lookup x=some .cell
noncomputable def Look(env:Env)(h:Heap)(m:Str->Option Value)(x:Str)(u:Value):Prop:=
 (env.kindOf x=some .local/\m x=some u)∨((env.kindOf x=some .cell∨env.kindOf x=some .free)/\∃c,env.cells.lookup x=some c/\h.IsCell c (some u))
structure Cx.Ok (X:Cx):Prop where
 mod:Mod X.K X.mg X.base
 kind:X.env.scope.kind=.function
 glob:X.env.globals=mainGlobals
 blt:X.env.builtins=builtinsNs
 above:X.s₀.heap.objs.size<=X.env.locals
 inj:∀x y c,X.env.cells.lookup x=some c->X.env.cells.lookup y=some c->x=y
 has:∀x,(X.env.kindOf x=some .cell∨X.env.kindOf x=some .free)->∃c,X.env.cells.lookup x=some c
 cab:∀x c,X.fn x=true->X.env.cells.lookup x=some c->X.s₀.heap.objs.size<=c
 hd:X.calm=true->X.A.handled=none
 frames:X.A.frames=some X.stack
 stk:X.stack=X.outer∨(X.stack=X.env::X.outer/\X.env.frame=some X.env.locals)
 exf:∀b∈X.ex,b≠X.env.locals/\∀x c,X.env.cells.lookup x=some c->c≠b
 bs:∀b o,X.base.get? b=some o->X.s₀.heap.get? b=some o/\X.H₀ b=none
 bsz:X.base.objs.size<=X.s₀.heap.objs.size
 noex:∀b o,X.base.get? b=some o->b∉X.ex
 exfs:∀b∈X.ex,b∉X.fs
 funs:X.s₀.heap.FunFrames X.base X.outer
 frf:∀b∈X.fs,X.H₀ b=none
structure Inv (X:Cx) (pins:List (Addr×Obj)) (σ:List (Option V)) (H:Hp) (s:Shared):Prop where
 ok:X.Ok
 os:s.os=X.s₀.os
 bare:AllBare s.gens
 base:Un X.fs X.ex X.H₀ H X.s₀.heap s.heap
 loc:∃m,s.heap.Ns X.env.locals m/\∀(i:Nat)(x:Str)(v:V),X.N[i]?=some x->σ[i]?=some (some v)->Vis X.env.scope x->∃u,RelV v u/\Look X.env s.heap m x u
 cell:∀x c,X.env.cells.lookup x=some c->∃v,s.heap.IsCell c v
 free:H X.env.locals=none
 freeC:∀x c,X.env.cells.lookup x=some c->H c=none
 pin:∀p∈X.pn++pins,s.heap.get? p.1=some p.2/\H p.1=none/\p.1≠X.env.locals/\p.1∉X.fs/\∀v,p.2.data≠.cell v
 hok:HOk X.prog X.w H s.heap
 len: σ.length=X.N.length
section
variable {X:Cx} {pins:List (Addr×Obj)} {σ:List (Option V)} {H H':Hp} {s:Shared} {h':Heap}
theorem Cx.Ok.nofr(ok:X.Ok){b:Addr}{o:Obj}(e:X.base.get? b=some o):b∉X.fs:=fun hb=>by
 have:=(ok.funs.mem hb).1
 rw[e] at this;cases this
theorem Inv.bs(I:Inv X pins σ H s):∀b o,X.base.get? b=some o->s.heap.get? b=some o/\H b=none:=fun b o e=>
 ⟨I.base.keep b o (I.ok.bs b o e).1 (I.ok.bs b o e).2 (I.ok.nofr e) (I.ok.noex b o e),I.base.free b o (I.ok.bs b o e).1 (I.ok.bs b o e).2 (I.ok.noex b o e)⟩
theorem Inv.bk(I:Inv X pins σ H s):∀b o,X.base.get? b=some o->s.heap.get? b=some o:=fun b o e=>(I.bs b o e).1
theorem Inv.mod(I:Inv X pins σ H s):Mod X.K X.mg X.base:=I.ok.mod
theorem Inv.kIn(I:Inv X pins σ H s):X.K.In s.heap:=I.ok.mod.kin.keeps I.bk
theorem Inv.nolimit(I:Inv X pins σ H s):s.heap.NoLimit:=I.ok.mod.nolimit.keeps I.bk
theorem Inv.fr(I:Inv X pins σ H s):∃m,Fr X.base X.env.locals s.heap m:=
 let⟨m,hn,_⟩:=I.loc
 ⟨m,hn,I.bk,Nx I.ok.bsz I.ok.above⟩
theorem Inv.lt(I:Inv X pins σ H s):X.env.locals<s.heap.objs.size:=let⟨_,hn,_⟩:=I.loc;hn.lt
theorem Inv.sz(I:Inv X pins σ H s):X.s₀.heap.objs.size<=s.heap.objs.size:=Nx I.ok.above (ND I.lt)
theorem Inv.nofs(I:Inv X pins σ H s){a:Addr}(h:s.heap.objs.size<=a):a∉X.fs:=fun hb=>by
 obtain⟨_,o,ho,_⟩:=I.ok.funs.mem hb
 exact absurd (NT (Heap.lt_size ho) (Nx I.sz h)) (Mi _)
theorem Inv.cne(I:Inv X pins σ H s):∀x c,X.env.cells.lookup x=some c->c≠X.env.locals:=fun x c e z=>by
 obtain⟨v,o,ho,hd⟩:=I.cell x c e
 obtain⟨m,⟨o',es,ep,ho',hd',_⟩,_⟩:=I.loc
 rw[z,ho'] at ho;cases ho;rw[hd'] at hd;cases hd
theorem Inv.funs(I:Inv X pins σ H s):s.heap.FunFrames X.base X.outer:=by
 have all:∀(l:List Env),(∀b∈frs l,b∈X.fs)->X.s₀.heap.FunFrames X.base l->s.heap.FunFrames X.base l:=by
  intro l
  induction l with
  |nil=>intro _ _;trivial
  |cons env r ih=>
   intro hs hl
   obtain⟨hk,⟨L,o,hf,hn,ho,hd⟩,hr⟩:=hl
   have hL:L∈X.fs:=hs L (by unfold frs;rw[Es,hf];exact NV)
   obtain⟨sl,e⟩:=I.base.slot L o ho (I.ok.frf L hL) hL fun z=>I.ok.exfs L z hL
   exact⟨hk,⟨L,_,hf,hn,e,hd⟩,ih (fun b hb=>hs b (by unfold frs;rw[Es,hf];exact NR _ hb)) hr⟩
 exact all X.outer (fun _ hb=>hb) I.ok.funs
theorem Inv.stack(I:Inv X pins σ H s):s.heap.FunFrames X.base X.stack:=by
 rcases I.ok.stk with e|⟨e,hf⟩
 ·rw[e];exact I.funs
 ·rw[e]
  obtain⟨m,hn,_⟩:=I.loc
  refine .cons (by rw[I.ok.kind];decide) hf hn ?_ I.funs
  exact Heap.get?_none_of_le (Nx I.ok.bsz I.ok.above)
theorem Inv.stkSub(I:Inv X pins σ H s):∀b∈frs X.stack,b∈X.env.locals::X.fs:=fun b hb=>by
 rcases I.ok.stk with e|⟨e,hf⟩
 ·rw[e] at hb;exact NR _ hb
 ·rw[e] at hb
  unfold frs at hb
  rw[Es,hf] at hb
  exact hb
theorem Inv.stkFree(I:Inv X pins σ H s):∀b∈frs X.stack,H b=none:=fun b hb=>by
 rcases NS.mp (I.stkSub b hb) with e|hb
 ·rw[e];exact I.free
 ·obtain⟨_,o,ho,_⟩:=I.ok.funs.mem hb
  exact I.base.free b o ho (I.ok.frf b hb) fun z=>I.ok.exfs b z hb
theorem Inv.step{g':Array GenState}{t':Nat}{d':Drawn}{ch:List Addr}(I:Inv X pins σ H s)
  (hch:∀b∈ch,(b∈X.ex∨X.s₀.heap.objs.size<=b)/\b≠X.env.locals/\(∀x c,X.env.cells.lookup x=some c->c≠b)/\∀p∈X.pn++pins,p.1≠b)
  (keep:∀b o,b≠X.env.locals->b∉X.fs->b∉ch->s.heap.get? b=some o->H b=none->h'.get? b=some o)
  (slot:∀b o,b≠X.env.locals->b∈X.fs->b∉ch->s.heap.get? b=some o->H b=none->∃sl,h'.get? b=some {o with slots:=sl}) (free:∀b o,b∉ch->s.heap.get? b=some o->H b=none->H' b=none)
  (there:∀b o,b∉ch->s.heap.get? b=some o->∃o',h'.get? b=some o')
  (tups:∀b xs,H b=some (.tup xs)->H' b=some (.tup xs)) (frzs:∀b o u,H b=some (.frz o u)->H' b=some (.frz o u)) (tbls:∀b ps,H b=some (.tbl ps)->∃more,H' b=some (.tbl (ps++more)))
  (ns:∀m,s.heap.Ns X.env.locals m->h'.Ns X.env.locals m) (hok:HOk X.prog X.w H' h') (hg:AllBare g'):
  Inv X pins σ H' {s with heap:=h',gens:=g',drawn:=d',toks:=t'}:=by
 have neL:∀b o,X.s₀.heap.get? b=some o->b≠X.env.locals:=fun b o e=>NU (NT (Heap.lt_size e) I.ok.above)
 have neC:∀b o,X.s₀.heap.get? b=some o->b∉X.ex->b∉ch:=fun b o e hx hb=>by
  rcases(hch b hb).1 with z|z
  ·exact hx z
  ·exact absurd (NT (Heap.lt_size e) z) (Mi _)
 have cellK:∀x c,X.env.cells.lookup x=some c->∀v,s.heap.IsCell c v->h'.IsCell c v:=fun x c e v ⟨o,ho,hd⟩=>by
  have nch:c∉ch:=fun z=>(hch c z).2.2.1 x c e rfl
  by_cases hc:c∈X.fs
  ·obtain⟨sl,q⟩:=slot c o (I.cne x c e) hc nch ho (I.freeC x c e)
   exact⟨_,q,hd⟩
  ·exact⟨o,keep c o (I.cne x c e) hc nch ho (I.freeC x c e),hd⟩
 refine⟨I.ok,I.os,hg,⟨fun b o e n hb hx=>?_,fun b o e n hb hx=>?_,fun b o e n hx=>?_,fun b o e hx=>?_,fun b xs e=>tups b xs (I.base.tups b xs e),fun b o xs e=>frzs b o xs (I.base.frzs b o xs e),fun b ps e=>?_⟩,?_,fun x c e=>?_,?_,fun x c e=>?_,fun p hp=>?_,hok,I.len⟩
 ·exact keep b o (neL b o e) hb (neC b o e hx) (I.base.keep b o e n hb hx) (I.base.free b o e n hx)
 ·obtain⟨sl,e1⟩:=I.base.slot b o e n hb hx
  obtain⟨sl',e2⟩:=slot b _ (neL b o e) hb (neC b o e hx) e1 (I.base.free b o e n hx)
  exact⟨sl',e2⟩
 ·obtain⟨o',e1⟩:=I.base.there b o e hx
  exact free b o' (neC b o e hx) e1 (I.base.free b o e n hx)
 ·obtain⟨o',e1⟩:=I.base.there b o e hx
  exact there b o' (neC b o e hx) e1
 ·obtain⟨m1,e1⟩:=I.base.tbls b ps e
  obtain⟨m2,e2⟩:=tbls b _ e1
  exact⟨m1++m2,by rw[e2,Array.append_assoc]⟩
 ·obtain⟨m,hn,hl⟩:=I.loc
  refine⟨m,ns m hn,fun i x v e1 e2 e3=>?_⟩
  obtain⟨u,r,l⟩:=hl i x v e1 e2 e3
  refine⟨u,r,?_⟩
  rcases l with l|⟨k,c,e,z⟩
  ·exact .inl l
  ·exact .inr ⟨k,c,e,cellK x c e _ z⟩
 ·obtain⟨v,z⟩:=I.cell x c e
  exact⟨v,cellK x c e v z⟩
 ·obtain⟨m,⟨o,_,_,ho,_⟩,_⟩:=I.loc
  exact free _ o (fun z=>(hch _ z).2.1 rfl) ho I.free
 ·obtain⟨v,o,ho,hd⟩:=I.cell x c e
  exact free c o (fun z=>(hch c z).2.2.1 x c e rfl) ho (I.freeC x c e)
 ·obtain⟨e,n,ne,nf,d⟩:=I.pin p hp
  have nch:p.1∉ch:=fun z=>(hch p.1 z).2.2.2 p hp rfl
  exact⟨keep p.1 p.2 ne nf nch e n,free p.1 p.2 nch e n,ne,nf,d⟩
theorem Inv.un{t':Nat}(I:Inv X pins σ H s)(u:Un X.fs [] H H' s.heap h')(hok:HOk X.prog X.w H' h'):Inv X pins σ H' {s with heap:=h',toks:=t'}:=by
 obtain⟨m,⟨o,es,ep,ho,r⟩,_⟩:=id I.loc
 obtain⟨sl,hL⟩:=u.any ho I.free (by simp)
 exact I.step (g':=s.gens) (d':=s.drawn) (ch:=[]) (fun _ z=>nomatch z) (fun b o _ hb _ e n=>u.keep b o e n hb (by simp)) (fun b o _ hb _ e n=>u.slot b o e n hb (by simp)) (fun b o _ e n=>u.free b o e n (by simp)) (fun b o _ e=>u.there b o e (by simp)) u.tups u.frzs u.tbls (fun m' hm=>by
  obtain⟨o',es',ep',ho',r'⟩:=hm
  rw[ho] at ho';cases ho'
  exact⟨_,es',ep',hL,r'⟩) hok I.bare
theorem Inv.call{g':Array GenState}{t':Nat}{d':Drawn}{ch:List Addr}(I:Inv X pins σ H s)(u:Un (frs X.stack) ch H H' s.heap h')(hok:HOk X.prog X.w H' h')(hg:AllBare g')
  (hch:∀b∈ch,(b∈X.ex∨X.s₀.heap.objs.size<=b)/\b≠X.env.locals/\(∀x c,X.env.cells.lookup x=some c->c≠b)/\∀p∈X.pn++pins,p.1≠b):
  Inv X pins σ H' {s with heap:=h',gens:=g',drawn:=d',toks:=t'}:=by
 obtain⟨m,⟨o,es,ep,ho,r⟩,_⟩:=id I.loc
 obtain⟨sl,hL⟩:=u.any ho I.free fun z=>(hch _ z).2.1 rfl
 exact I.step (ch:=ch) hch (fun b o hL hb hc e n=>u.keep b o e n (fun z=>(NS.mp (I.stkSub b z)).elim hL hb) hc) (fun b o _ _ hc e n=>u.any e n hc) (fun b o hc e n=>u.free b o e n hc) (fun b o hc e=>u.there b o e hc) u.tups u.frzs u.tbls (fun m' hm=>by
  obtain⟨o',es',ep',ho',r'⟩:=hm
  rw[ho] at ho';cases ho'
  exact⟨_,es',ep',hL,r'⟩) hok hg
theorem Inv.turned{t':Nat}{it:Addr}(I:Inv X pins σ H s)(k:∀b o,b≠it->s.heap.get? b=some o->h'.get? b=some o)(hn:H it=none)(hL:it≠X.env.locals)
  (h1:it∈X.ex∨X.s₀.heap.objs.size<=it) (h2:∀x c,X.env.cells.lookup x=some c->c≠it) (h3:∀p∈X.pn++pins,p.1≠it):Inv X pins σ H {s with heap:=h',toks:=t'}:=by
 have nit:∀b u,H b=some u->b≠it:=fun b u e z=>by rw[z,hn] at e;cases e
 refine I.step (g':=s.gens) (d':=s.drawn) (ch:=[it]) (fun b hb=>?_) (fun b o _ _ hc e _=>k b o (fun z=>hc (by simp[z])) e) (fun b o _ _ hc e _=>⟨o.slots,k b o (fun z=>hc (by simp[z])) e⟩) (fun _ _ _ _ n=>n)
  (fun b o hc e=>⟨o,k b o (fun z=>hc (by simp[z])) e⟩) (fun _ _ e=>e) (fun _ _ _ e=>e) (fun b ps e=>⟨#[],by rw[e];simp⟩) (fun m hm=>?_) (fun b u e=>?_) I.bare
 ·have e:b=it:=by simpa using hb
  subst e
  exact⟨h1,hL,h2,h3⟩
 ·obtain⟨o,es,ep,ho,r⟩:=hm
  exact⟨o,es,ep,k _ o (Ne.symm hL) ho,r⟩
 ·refine(I.hok b u e).stay (fun c v hc q=>k c v ?_ q) (fun _ q=>q) fun _ _ q=>q
  rcases hc with z|z
  ·rw[z];exact nit b u e
  ·exact nit c _ z
theorem Inv.tok(I:Inv X pins σ H s)(t:Nat):Inv X pins σ H {s with toks:=t}:=I.un (h':=s.heap) (t':=t) Un.refl I.hok
theorem Inv.kept{t':Nat}(I:Inv X pins σ H s)(k:∀b u,s.heap.get? b=some u->h'.get? b=some u):Inv X pins σ H {s with heap:=h',toks:=t'}:=I.un (Un.kept k) (I.hok.kept k)
theorem Inv.laid{a:Addr}{o:HO}{t':Nat}(I:Inv X pins σ H s)(k:∀b u,s.heap.get? b=some u->h'.get? b=some u)(hp:s.heap.objs.size<=a)(new:ObjOk X.prog X.w (upd H a o) h' a o):
  Inv X pins σ (upd H a o) {s with heap:=h',toks:=t'}:=I.un (Un.laid k hp (I.hok.fresh hp)) (I.hok.laid k hp new)
theorem Inv.write{x e:Addr}{o:HO}{t':Nat}(I:Inv X pins σ H s)(mu:Mut (H x))(he:e=x∨H e=some (.own x))(k:∀b u,b≠e->s.heap.get? b=some u->h'.get? b=some u)(heo:∃u,h'.get? e=some u)
  (new:ObjOk X.prog X.w (upd H x o) h' x o):Inv X pins σ (upd H x o) {s with heap:=h',toks:=t'}:=I.un (Un.write mu he k heo) (I.hok.write mu he k heo new)
theorem Inv.pins_of{pins':List (Addr×Obj)}(I:Inv X pins σ H s)(h:∀p∈pins',s.heap.get? p.1=some p.2/\H p.1=none/\p.1≠X.env.locals/\p.1∉X.fs/\∀v,p.2.data≠.cell v):Inv X pins' σ H s:=
 ⟨I.ok,I.os,I.bare,I.base,I.loc,I.cell,I.free,I.freeC,fun p hp=>(N6.mp hp).elim (fun z=>I.pin p (E2 _ z)) (h p),I.hok,I.len⟩
theorem kit{N:List Str}(hN:N.Nodup){i j:Nat}{x:Str}(a:N[i]?=some x)(b:N[j]?=some x):i=j:=by
 obtain⟨h1,e1⟩:=NF.mp a
 obtain⟨h2,e2⟩:=NF.mp b
 exact(List.getElem_inj hN).mp (e1.trans e2.symm)
theorem kjf{M:Model}{A:Around}{E:Value->Shared->Prop}{i:Nat}{x:Str}{v:V}{u:Value}{Q:Unit->Shared->Prop}(I:Inv X pins σ H s)(hN:X.N.Nodup)(hi:X.N[i]?=some x)(hx:Loc X.env.scope x)(r:RelV v u)
  (h:∀s',Inv X pins (σ.set i (some v)) H s'->(∃a,Heap.SameBut a s.heap s'.heap/\(a=X.env.locals∨X.env.cells.lookup x=some a))->Q () s') (hf:X.fn x=true∨X.env.scope.names.lookup x=some .local:=by first|exact .inl rfl|exact .inr rfl|assumption):wpAny M A (storeName X.env x u) Q E s:=by
 obtain⟨m,hn,hl⟩:=id I.loc
 have hcls:(X.env.scope.kind== .class||(X.env.scope.kind== .module&&X.env.locals !=X.env.globals))=false:=by rw[I.ok.kind];rfl
 have hiσ:i< σ.length:=by rw[I.len];exact(NF.mp hi).1
 have cne:=I.cne
 have tracked:∀{a:Addr}{h':Heap},(∃o,s.heap.get? a=some o/\H a=none)->Heap.SameBut a s.heap h'->HOk X.prog X.w H h':=fun {a h'} ha hs b ob e=>by
  obtain⟨_,_,hfree⟩:=ha
  refine(I.hok b ob e).stay (fun c w' hc q=>(hs.2 c ?_).trans q) (fun _ q=>q) fun _ _ q=>q
  rintro rfl
  rcases hc with rfl|hc
  ·rw[hfree] at e;cases e
  ·rw[hfree] at hc;cases hc
 rcases hx with hk|hk
 ·refine wpAny_storeName_local hk hn (fun h' hn' hs=>?_) hcls
  obtain⟨oL,_,_,hoL,_⟩:=id hn
  refine h _ ⟨I.ok,I.os,I.bare,⟨fun b o e n hb hx=>?_,fun b o e n hb hx=>?_,I.base.free,fun b o e hx=>?_,I.base.tups,I.base.frzs,I.base.tbls⟩,⟨_,hn',fun j y v' e1 e2 e3=>?_⟩,fun y c e=>?_,I.free,I.freeC,fun p hp=>?_,tracked ⟨oL,hoL,I.free⟩ hs,by simpa using I.len⟩ ⟨_,hs, .inl rfl⟩
  ·exact(hs.2 b (NU (NT (Heap.lt_size e) I.ok.above))).trans (I.base.keep b o e n hb hx)
  ·obtain⟨sl,e1⟩:=I.base.slot b o e n hb hx
   exact⟨sl,(hs.2 b (NU (NT (Heap.lt_size e) I.ok.above))).trans e1⟩
  ·obtain⟨o',e1⟩:=I.base.there b o e hx
   exact⟨o',(hs.2 b (NU (NT (Heap.lt_size e) I.ok.above))).trans e1⟩
  ·by_cases hj:j=i
   ·subst hj
    rw[hi] at e1;cases e1
    rw[Et hiσ] at e2
    cases e2
    exact⟨u,r, .inl ⟨hk,by simp⟩⟩
   ·rw[Eu (Ne.symm hj)] at e2
    obtain⟨u',r',q⟩:=hl j y v' e1 e2 e3
    refine⟨u',r',?_⟩
    rcases q with⟨k,e⟩|⟨k,c,e,z⟩
    ·refine .inl ⟨k,?_⟩
     have:y≠x:=fun e=>hj (kit hN e1 (e▸hi))
     simp[this,e]
    ·exact .inr ⟨k,c,e,z.sameBut hs (cne y c e)⟩
  ·obtain⟨w',z⟩:=I.cell y c e
   exact⟨w',z.sameBut hs (cne y c e)⟩
  ·obtain⟨e,n,ne,nf,d⟩:=I.pin p hp
   exact⟨(hs.2 p.1 ne).trans e,n,ne,nf,d⟩
 ·have hfn:X.fn x=true:=by
   rcases hf with z|z
   ·exact z
   ·rw[z] at hk;cases hk
  obtain⟨c,hc⟩:=I.ok.has x (.inl hk)
  obtain⟨w',z⟩:=I.cell x c hc
  refine wpAny_storeName_cell I.ok.kind hk hc z (fun h' hc' hs=>?_)
  obtain⟨oc,hoc,hocd⟩:=id z
  refine h {s with heap:=h'} ⟨I.ok,I.os,I.bare,⟨fun b o e n hb hx=>?_,fun b o e n hb hx=>?_,I.base.free,fun b o e hx=>?_,I.base.tups,I.base.frzs,I.base.tbls⟩,⟨m,hn.sameBut hs (Ne.symm (cne x c hc)),fun j y v' e1 e2 e3=>?_⟩,fun y c' e=>?_,I.free,I.freeC,fun p hp=>?_,tracked ⟨oc,hoc,I.freeC x c hc⟩ hs,by simpa using I.len⟩ ⟨c,hs, .inr hc⟩
  ·exact(hs.2 b (NU (NT (Heap.lt_size e) (I.ok.cab x c hfn hc)))).trans (I.base.keep b o e n hb hx)
  ·obtain⟨sl,e1⟩:=I.base.slot b o e n hb hx
   exact⟨sl,(hs.2 b (NU (NT (Heap.lt_size e) (I.ok.cab x c hfn hc)))).trans e1⟩
  ·obtain⟨o',e1⟩:=I.base.there b o e hx
   exact⟨o',(hs.2 b (NU (NT (Heap.lt_size e) (I.ok.cab x c hfn hc)))).trans e1⟩
  ·by_cases hj:j=i
   ·subst hj
    rw[hi] at e1;cases e1
    rw[Et hiσ] at e2
    cases e2
    exact⟨u,r, .inr ⟨.inl hk,c,hc,hc'⟩⟩
   ·rw[Eu (Ne.symm hj)] at e2
    obtain⟨u',r',q⟩:=hl j y v' e1 e2 e3
    refine⟨u',r',?_⟩
    rcases q with q|⟨k,c',e,z'⟩
    ·exact .inl q
    ·refine .inr ⟨k,c',e,z'.sameBut hs ?_⟩
     rintro rfl
     exact hj (kit hN e1 (I.ok.inj _ _ _ e hc▸hi))
  ·by_cases hcc:c'=c
   ·subst hcc;exact⟨_,hc'⟩
   ·obtain⟨w2,z2⟩:=I.cell y c' e
    exact⟨w2,z2.sameBut hs hcc⟩
  ·obtain⟨e,n,ne,nf,d⟩:=I.pin p hp
   refine⟨(hs.2 p.1 ?_).trans e,n,ne,nf,d⟩
   intro q
   rw[q,hoc] at e
   have q':oc=p.2:=Option.some.inj e
   exact d w' (by rw[<-q'];exact hocd)
theorem kfE{M:Model}{A:Around}{E:Value->Shared->Prop}{i:Nat}{x:Str}{v:V}{u:Value}{Q:Unit->Shared->Prop}(I:Inv X pins σ H s)(hN:X.N.Nodup)(hi:X.N[i]?=some x)(hx:Loc X.env.scope x)(r:RelV v u)
  (h:∀s',Inv X pins (σ.set i (some v)) H s'->Q () s') (hf:X.fn x=true∨X.env.scope.names.lookup x=some .local:=by first|exact .inl rfl|exact .inr rfl|assumption):wpAny M A (storeName X.env x u) Q E s:=
 kjf I hN hi hx r (fun s' I' _=>h s' I') hf
theorem Inv.call'{s':Shared}{ch:List Addr}(I:Inv X pins σ H s)(ho:s'.os=s.os)(u:Un (frs X.stack) ch H H' s.heap s'.heap)(hok:HOk X.prog X.w H' s'.heap)(hg:AllBare s'.gens)
  (hch:∀b∈ch,(b∈X.ex∨X.s₀.heap.objs.size<=b)/\b≠X.env.locals/\(∀x c,X.env.cells.lookup x=some c->c≠b)/\∀p∈X.pn++pins,p.1≠b):Inv X pins σ H' s':=by
 obtain⟨h',g',d',t',o'⟩:=s'
 have e:o'=s.os:=ho
 subst e
 exact I.call (g':=g') (t':=t') (d':=d') u hok hg hch
end
abbrev XK:=Value->Option Addr->Hp->Prop
abbrev St:=List (Option V)
abbrev VK:=V->Hp->Prop
abbrev TE:=St->Hp->VK->Prop
abbrev TT:=St->Hp->(Bool->Hp->Prop)->Prop
abbrev TA:=St->Hp->(List V->Hp->Prop)->Prop
structure Ends where
 nx:St->Hp->Prop
 rt:VK
 bk:St->Hp->Prop:=fun _ _=>False
 ct:St->Hp->Prop:=fun _ _=>False
abbrev TS:=Ends->St->Hp->Prop
def EP(X:Cx)(pins:List (Addr×Obj))(σ:St)(Q:VK)(u:Value)(s':Shared):Prop:=∃v H',Inv X pins σ H' s'/\RelV v u/\Q v H'
def TP(X:Cx)(pins:List (Addr×Obj))(σ:St)(Q:Bool->Hp->Prop)(b:Bool)(s':Shared):Prop:=∃H',Inv X pins σ H' s'/\Q b H'
noncomputable def AP(X:Cx)(pins:List (Addr×Obj))(σ:St)(Q:List V->Hp->Prop)(us:List Value)(s':Shared):Prop:=∃vs H',Inv X pins σ H' s'/\Vals vs us/\Q vs H'
noncomputable def SP(X:Cx)(pins:List (Addr×Obj))(D:Ends)(f:Flow)(s':Shared):Prop:=
 match f with
 | .next=>∃σ' H',Inv X pins σ' H' s'/\D.nx σ' H'
 | .brk=>∃σ' H',Inv X pins σ' H' s'/\D.bk σ' H'
 | .cont=>∃σ' H',Inv X pins σ' H' s'/\D.ct σ' H'
 | .ret u=>∃v σ' H',Inv X pins σ' H' s'/\RelV v u/\D.rt v H'
noncomputable def PE(X:Cx)(e:Expr)(t:TE):Prop:=
 ∀(pins:List (Addr×Obj))(s:Shared)(σ:St)(H:Hp)(Q:VK),Inv X pins σ H s->t σ H Q->wpAny (model X.prog X.w) X.A (eval e X.env) (EP X pins σ Q) X.xe s
noncomputable def PT(X:Cx)(e:Expr)(t:TT):Prop:=
 ∀(pins:List (Addr×Obj))(s:Shared)(σ:St)(H:Hp)(Q:Bool->Hp->Prop),Inv X pins σ H s->t σ H Q->wpAny (model X.prog X.w) X.A (isTrue e X.env (eval e X.env)) (TP X pins σ Q) X.xe s
noncomputable def PW(X:Cx)(e:Expr)(t:TT):Prop:=
 ∀(whole:Sem Value)(pins:List (Addr×Obj))(s:Shared)(σ:St)(H:Hp)(Q:Bool->Hp->Prop),Inv X pins σ H s->t σ H Q->wpAny (model X.prog X.w) X.A (isTrue e X.env whole) (TP X pins σ Q) X.xe s
def PW.pt{X:Cx}{e:Expr}{t:TT}(h:PW X e t):PT X e t:=h _
noncomputable def PA(X:Cx)(es:List Expr)(t:TA):Prop:=
 ∀(pos:Pos)(pins:List (Addr×Obj))(s:Shared)(σ:St)(H:Hp)(Q:List V->Hp->Prop),Inv X pins σ H s->t σ H Q->wpAny (model X.prog X.w) X.A (spliced (backTo pos (starEach es X.env))) (AP X pins σ Q) X.xe s
noncomputable def PS(X:Cx)(st:Stmt)(t:TS):Prop:=
 ∀(pins:List (Addr×Obj))(s:Shared)(σ:St)(H:Hp)(D:Ends),Inv X pins σ H s->t D σ H->wpAny (model X.prog X.w) X.A (exec st X.env) (SP X pins D) X.xe s
noncomputable def PSs(X:Cx)(st:List Stmt)(t:TS):Prop:=
 ∀(pins:List (Addr×Obj))(s:Shared)(σ:St)(H:Hp)(D:Ends),Inv X pins σ H s->t D σ H->wpAny (model X.prog X.w) X.A (execs st X.env) (SP X pins D) X.xe s
noncomputable def thn{α:Type}{t:Sem α}{Q Q': α->Shared->Prop}{M:Model}{A:Around}{E:Value->Shared->Prop}{s:Shared}(h:wpAny M A t Q E s)(hQ:∀a s,Q a s->Q' a s):wpAny M A t Q' E s:=wpAny_mono h hQ fun _ _ x=>x
end L2
namespace L2
open PySem PySem.Spec PyProof.Rows
section
variable {X:Cx}
def tVar(i:Nat):TE:=fun σ H Q=>∃v,σ[i]?=some (some v)/\Q v H
def tC(v:V):TE:=fun _ H Q=>Q v H
theorem kne{i:Nat}{x:Str}{pos:Pos}(hN:X.N[i]?=some x)(hv:Vis X.env.scope x)(hd:(x==("__debug__" :Str))=false:=by decide)(hcd:(x==("__classdict__" :Str))=false:=by decide):PE X (.Name x pos) (tVar i):=by
 intro pins s σ H Q I h
 obtain⟨v,e,h⟩:=h
 obtain⟨m,hn,hl⟩:=I.loc
 obtain⟨u,r,l⟩:=hl i x v hN e hv
 have fin:EP X pins σ Q u s:=⟨v,H,I,r,h⟩
 rcases l with⟨hk,hm⟩|⟨hk,c,hc,hcell⟩
 ·exact wpAny_Name (wpAny_loadName_local I.ok.kind hk hn hm fin) hd
 ·rcases hk with hk|hk
  ·exact wpAny_Name (wpAny_loadName_cell I.ok.kind hk hc hcell fin) hd
  ·exact wpAny_Name (wpAny_loadName_free I.ok.kind hk hc hcell fin hcd) hd
theorem kai{i j pos}:PE X (.Constant (.int i) j pos) (tC (.int i)):=fun _ _ _ H _ I h=>wpAny_Constant_int ⟨.int i,H,I.tok _,⟨_,rfl⟩,h⟩
theorem pe_bl{b j pos}:PE X (.Constant (.bool b) j pos) (tC (.bl b)):=fun _ _ _ H _ I h=>Constant_bool ⟨.bl b,H,I,rfl,h⟩
theorem kaJ{j pos}:PE X (.Constant .none j pos) (tC .non):=fun _ _ _ H _ I h=>Constant_none ⟨.non,H,I,rfl,h⟩
theorem kb5{x j pos}:PE X (.Constant (.str x) j pos) (tC (.str x)):=fun _ _ _ H _ I h=>Calls.Constant_str ⟨.str x,H,I.tok _,⟨_,rfl⟩,h⟩
def Gl(X:Cx)(x:Str):Prop:=X.env.kindOf x=some .globalImplicit
theorem keX{E:Value->Shared->Prop}{pins:List (Addr×Obj)}{s:Shared}{σ:St}{H:Hp}{x:Str}{u:Value}{pos:Pos}{Q:Value->Shared->Prop}(I:Inv X pins σ H s)(hg:Gl X x)(hm:X.mg x=some u)(h:Q u s)
  (hd:(x==("__debug__" :Str))=false:=by decide):wpAny (model X.prog X.w) X.A (eval (.Name x pos) X.env) Q E s:=
 Calls.Name_function_global I.ok.kind hg (Calls.loadGlobal_global (by rw[I.ok.glob];exact I.mod.glob.keeps I.bk) hm h) hd
theorem kdz{E:Value->Shared->Prop}{pins:List (Addr×Obj)}{s:Shared}{σ:St}{H:Hp}{x:Str}{u:Value}{pos:Pos}{Q:Value->Shared->Prop}(I:Inv X pins σ H s)(hg:Gl X x)(hm:X.mg x=none)(hv:bootBuiltins x=some u)(h:Q u s)
  (hn:x≠"__name__":=by decide) (hd:(x==("__debug__" :Str))=false:=by decide):wpAny (model X.prog X.w) X.A (eval (.Name x pos) X.env) Q E s:=by
 obtain⟨mb,h1,h2⟩:=I.mod.blt
 exact Calls.Name_function_global I.ok.kind hg (Calls.loadGlobal_builtin (by rw[I.ok.glob];exact I.mod.glob.keeps I.bk) hm (by rw[I.ok.blt];exact h1.keeps I.bk) ((h2 x hn).trans hv) h) hd
theorem kcp{x:Str}{v:V}{u:Value}{pos:Pos}(hg:Gl X x)(hm:X.mg x=some u)(r:RelV v u)(hd:(x==("__debug__" :Str))=false:=by decide):PE X (.Name x pos) (tC v):=
 fun _ _ _ H _ I h=>keX I hg hm ⟨v,H,I,r,h⟩ hd
theorem keG{x:Str}{v:V}{u:Value}{pos:Pos}(hg:Gl X x)(hm:X.mg x=none)(hv:bootBuiltins x=some u)(r:RelV v u)(hn:x≠"__name__":=by decide)(hd:(x==("__debug__" :Str))=false:=by decide):PE X (.Name x pos) (tC v):=
 fun _ _ _ H _ I h=>kdz I hg hm hv ⟨v,H,I,r,h⟩ hn hd
variable {a b:Expr} {ta tb:TE} {pos:Pos}
noncomputable def PC(X:Cx)(op:CmpOp)(a b:Expr)(t:TE):Prop:=
 ∀(pins:List (Addr×Obj))(s:Shared)(σ:St)(H:Hp)(Q:VK),Inv X pins σ H s->t σ H Q->
  wpAny (model X.prog X.w) X.A (eval a X.env) (fun v s₁=>wpAny (model X.prog X.w) X.A (eval b X.env) (fun u s₂=>wpAny (model X.prog X.w) X.A (compareOp op v u) (EP X pins σ Q) X.xe s₂) X.xe s₁) X.xe s
theorem kla(b:Expr){op:CmpOp}(h:op≠.In)(h2:op≠.NotIn):behindInMarks op b=false:=by
 have e1:(op==CmpOp.In)=false:=by cases op <;> first|rfl|exact absurd rfl h
 have e2:(op==CmpOp.NotIn)=false:=by cases op <;> first|rfl|exact absurd rfl h2
 cases b <;> simp[behindInMarks,e1,e2]
def tB(t:TE):TT:=fun σ H Q=>t σ H fun x H1=>∃c,x=.bl c/\Q c H1
theorem kna{op:CmpOp}{t:TE}(h:PC X op a b t)(h1:behindInMarks op b=false:=by first|exact kla _ (by decide) (by decide)|rfl):PT X (.Compare a [op] [b] pos) (tB t):=by
 intro pins s σ H Q I hw
 refine wpAny_isTrue_Compare1 (thn (h pins s σ H _ I hw) fun v s1 h1=>thn h1 fun u s2 h2=>thn h2 fun c s3 zz=>?_) h1
 obtain⟨x,H1,I1,r1,q1⟩:=zz
 obtain⟨d,rfl,q⟩:=q1
 cases r1
 exact wpAny_truthy_bool ⟨H1,I1,q⟩
theorem kaR{e:Expr}{t:TE}(h:PE X e t)(he:∀whole,isTrue e X.env whole=(do let v <-whole;standAt e.pos;holding [v] (truthy v)):=by intro _;rfl):PT X e (tB t):=by
 intro pins s σ H Q I hw
 refine isTrue_plain (thn (h pins s σ H _ I hw) fun v s1 zz=>?_) (he _)
 obtain⟨x,H1,I1,r1,q1⟩:=zz
 obtain⟨d,rfl,q⟩:=q1
 cases r1
 exact wpAny_truthy_bool ⟨H1,I1,q⟩
variable {tA tB':TT} {rest:List Expr}
def tAnd(t u:TT):TT:=fun σ H Q=>t σ H fun c H1=>if c=true then u σ H1 Q else Q false H1
def tOr(t u:TT):TT:=fun σ H Q=>t σ H fun c H1=>if c=true then Q true H1 else u σ H1 Q
def tNot(t:TT):TT:=fun σ H Q=>t σ H fun c H1=>Q (!c) H1
theorem kbt(ha:PT X a tA):PW X (.BoolOp .And [a] pos) tA:=by
 intro wh pins s σ H Q I h
 refine isTrue_and (thn (ha pins s σ H Q I h) fun c s1 e=>?_)
 cases c with
 |true=>exact isTrue_and_nil e
 |false=>exact e
theorem keC(ha:PT X a tA):PW X (.BoolOp .Or [a] pos) tA:=by
 intro wh pins s σ H Q I h
 refine isTrue_or (thn (ha pins s σ H Q I h) fun c s1 e=>?_)
 cases c with
 |false=>exact isTrue_or_nil e
 |true=>exact e
theorem kbS(ha:PT X a tA)(hb:PW X (.BoolOp .And (b::rest) pos) tB'):PW X (.BoolOp .And (a::b::rest) pos) (tAnd tA tB'):=by
 intro wh pins s σ H Q I h
 refine isTrue_and (thn (ha pins s σ H _ I h) fun c s1 zz=>?_)
 obtain⟨H1,I1,q1⟩:=zz
 cases c with
 |true=>exact hb wh pins s1 σ H1 Q I1 q1
 |false=>exact⟨H1,I1,q1⟩
theorem pw_or(ha:PT X a tA)(hb:PW X (.BoolOp .Or (b::rest) pos) tB'):PW X (.BoolOp .Or (a::b::rest) pos) (tOr tA tB'):=by
 intro wh pins s σ H Q I h
 refine isTrue_or (thn (ha pins s σ H _ I h) fun c s1 zz=>?_)
 obtain⟨H1,I1,q1⟩:=zz
 cases c with
 |true=>exact⟨H1,I1,q1⟩
 |false=>exact hb wh pins s1 σ H1 Q I1 q1
theorem kc4(ha:PT X a tA):PT X (.UnaryOp .Not a pos) (tNot tA):=by
 intro pins s σ H Q I h
 exact isTrue_not (ha pins s σ H (fun c H1=>Q (!c) H1) I h)
def tAndV(ta tb:TE):TE:=fun σ H Q=>ta σ H fun x H1=>∃c,x=.bl c/\if c=true then tb σ H1 Q else Q (.bl false) H1
def tOrV(ta tb:TE):TE:=fun σ H Q=>ta σ H fun x H1=>∃c,x=.bl c/\if c=true then Q (.bl true) H1 else tb σ H1 Q
def tNotV(ta:TE):TE:=fun σ H Q=>ta σ H fun x H1=>∃c,x=.bl c/\Q (.bl (!c)) H1
theorem kjQ{op}{t:TE}(h:PE X a t):PE X (.BoolOp op [a] pos) t:=fun pins s σ H Q I hw=>BoolOp_one (h pins s σ H Q I hw)
theorem klT(ha:PE X a ta)(hb:PE X (.BoolOp .And (b::rest) pos) tb):PE X (.BoolOp .And (a::b::rest) pos) (tAndV ta tb):=by
 intro pins s σ H Q I h
 refine BoolOp_and (thn (ha pins s σ H _ I h) fun v s1 zz=>?_)
 obtain⟨x,H1,I1,r1,q1⟩:=zz
 obtain⟨c,rfl,q1⟩:=q1
 cases r1
 refine wpAny_truthy_bool ?_
 cases c with
 |true=>exact hb pins s1 σ H1 Q I1 q1
 |false=>exact⟨.bl false,H1,I1,rfl,q1⟩
theorem pe_or(ha:PE X a ta)(hb:PE X (.BoolOp .Or (b::rest) pos) tb):PE X (.BoolOp .Or (a::b::rest) pos) (tOrV ta tb):=by
 intro pins s σ H Q I h
 refine BoolOp_or (thn (ha pins s σ H _ I h) fun v s1 zz=>?_)
 obtain⟨x,H1,I1,r1,q1⟩:=zz
 obtain⟨c,rfl,q1⟩:=q1
 cases r1
 refine wpAny_truthy_bool ?_
 cases c with
 |false=>exact hb pins s1 σ H1 Q I1 q1
 |true=>exact⟨.bl true,H1,I1,rfl,q1⟩
theorem knf(ha:PE X a ta):PE X (.UnaryOp .Not a pos) (tNotV ta):=by
 intro pins s σ H Q I h
 refine UnaryOp_ (thn (ha pins s σ H _ I h) fun v s1 zz=>?_)
 obtain⟨x,H1,I1,r1,q1⟩:=zz
 obtain⟨c,rfl,q1⟩:=q1
 cases r1
 exact not_of (wpAny_truthy_bool ⟨.bl (!c),H1,I1,rfl,q1⟩)
def tIf(t:TT)(ta tb:TE):TE:=fun σ H Q=>t σ H fun c H1=>if c=true then ta σ H1 Q else tb σ H1 Q
theorem kbT{c:Expr}(hc:PT X c tA)(ha:PE X a ta)(hb:PE X b tb):PE X (.IfExp c a b pos) (tIf tA ta tb):=by
 intro pins s σ H Q I h
 refine wpAny_IfExp (thn (hc pins s σ H _ I h) fun d s1 zz=>?_)
 obtain⟨H1,I1,q1⟩:=zz
 cases d with
 |true=>exact ha pins s1 σ H1 Q I1 q1
 |false=>exact hb pins s1 σ H1 Q I1 q1
end
end L2
namespace L2
open PySem PySem.Spec PyProof.Rows
noncomputable def SqL(K:Nr)(H:Hp)(a:Addr)(xs:List V):Prop:=
 Rd H a (.lst xs)∨
  ∃(o:Obj)(its:Array Value)(n:Nat),K.lookup a=some o/\o.cls=.type "list"/\o.dict=none/\o.data=.seq its n/\its.size<=sizeLine/\Vals xs its.toList
noncomputable def SqT(K:Nr)(H:Hp)(a:Addr)(xs:List V):Prop:=
 Rd H a (.tup xs)∨
  ∃(o:Obj)(its:Array Value)(n:Nat),K.lookup a=some o/\o.cls=.type "tuple"/\o.data=.seq its n/\its.size<=sizeLine/\Vals xs its.toList
noncomputable def absV:Value->Option V
 | .none=>some .non
 | .bool b=>some (.bl b)
 | .int i _=>some (.int i)
 | .str x _=>some (.str x)
 | .bytes b _=>some (.byt b)
 | .float b _=>some (.flt b)
 | .ref a=>some (.ref a)
 | .type n=>some (.ty n)
 |_=>none
theorem RelV.abs{x:V}{u:Value}(r:RelV x u):absV u=some x:=by
 cases x with
 |non=>cases r;rfl
 |bl _=>cases r;rfl
 |int _=>obtain⟨t,rfl⟩:=r;rfl
 |str _=>obtain⟨t,rfl⟩:=r;rfl
 |byt _=>obtain⟨t,rfl⟩:=r;rfl
 |flt _=>obtain⟨t,rfl⟩:=r;rfl
 |ref _=>cases r;rfl
 |ty _=>cases r;rfl
def RelV.inj{x y:V}{u:Value}(r:RelV x u)(q:RelV y u):x=y:=Option.some.inj (r.abs.symm.trans q.abs)
theorem Vals.inj:∀{xs ys:List V}{us:List Value},Vals xs us->Vals ys us->xs=ys
 |_,_,_, .nil, .nil=>rfl
 |_,_,_, .cons r t, .cons r' t'=>by rw[r.inj r',Vals.inj t t']
section
variable {X:Cx} {pins:List (Addr×Obj)} {σ:St} {H:Hp} {s:Shared} {a:Addr} {xs ys:List V}
theorem SqL.of{K:Nr}(h:H a=some (.lst xs)):SqL K H a xs:=.inl (.inl h)
theorem SqT.of{K:Nr}(h:H a=some (.tup xs)):SqT K H a xs:=.inl (.inl h)
theorem Inv.list(I:Inv X pins σ H s)(h:SqL X.K H a xs):∃its:List Value,Vals xs its/\PlainL s.heap a its.toArray/\xs.length<=sizeLine:=by
 rcases h with h|⟨o,its,n,hk,hc,hd,hs,hz,r⟩
 ·obtain⟨z,its,n,r,e⟩:=h.ok I.hok
  exact⟨its,r,⟨_,n,e,rfl,rfl,rfl⟩,z⟩
 ·refine⟨its.toList,r,⟨o,n,I.kIn a o hk,hc,hd,by simpa using hs⟩,?_⟩
  have e:=r.length
  simp only[M7] at e
  omega
theorem Inv.tuple(I:Inv X pins σ H s)(h:SqT X.K H a xs):∃its:List Value,Vals xs its/\IsTup s.heap a its.toArray/\xs.length<=sizeLine:=by
 rcases h with h|⟨o,its,n,hk,hc,hs,hz,r⟩
 ·obtain⟨z,its,r,p⟩:=h.ok I.hok
  exact⟨its,r,p,z⟩
 ·refine⟨its.toList,r,⟨o,I.kIn a o hk,hc,n,by simpa using hs⟩,?_⟩
  have e:=r.length
  simp only[M7] at e
  omega
theorem Inv.list_inj(I:Inv X pins σ H s)(h:SqL X.K H a xs)(h':SqL X.K H a ys):xs=ys:=by
 obtain⟨its,r,⟨o,n,e,_,_,d⟩,_⟩:=I.list h
 obtain⟨its',r',⟨o',n',e',_,_,d'⟩,_⟩:=I.list h'
 rw[e] at e';cases e'
 rw[d] at d'
 injection d' with d1 _
 have:its=its':=by simpa using congrArg Array.toList d1
 subst this
 exact r.inj r'
end
abbrev Cx.wish(X:Cx)(E:Value->Shared->Prop):Cx:={X with xe:=E}
abbrev Cx.nox(X:Cx):Cx:=X.wish fun _ _=>False
noncomputable def Cx.Ok.wish{X:Cx}(ok:X.Ok)(E:Value->Shared->Prop):(X.wish E).Ok:=
 ⟨ok.mod,ok.kind,ok.glob,ok.blt,ok.above,ok.inj,ok.has,ok.cab,ok.hd,ok.frames,ok.stk,ok.exf,ok.bs,ok.bsz,ok.noex,ok.exfs,ok.funs,ok.frf⟩
noncomputable def Cx.Ok.unwish{X:Cx}{E:Value->Shared->Prop}(ok:(X.wish E).Ok):X.Ok:=
 ⟨ok.mod,ok.kind,ok.glob,ok.blt,ok.above,ok.inj,ok.has,ok.cab,ok.hd,ok.frames,ok.stk,ok.exf,ok.bs,ok.bsz,ok.noex,ok.exfs,ok.funs,ok.frf⟩
section
variable {X:Cx} {pins:List (Addr×Obj)} {σ:St} {H:Hp} {s:Shared} {E:Value->Shared->Prop}
theorem Inv.wish(I:Inv X pins σ H s)(E:Value->Shared->Prop):Inv (X.wish E) pins σ H s:=⟨I.ok.wish E,I.os,I.bare,I.base,I.loc,I.cell,I.free,I.freeC,I.pin,I.hok,I.len⟩
theorem Inv.unwish(I:Inv (X.wish E) pins σ H s):Inv X pins σ H s:=⟨I.ok.unwish,I.os,I.bare,I.base,I.loc,I.cell,I.free,I.freeC,I.pin,I.hok,I.len⟩
theorem SP.unwish{D:Ends}{f:Flow}{s':Shared}(h:SP (X.wish E) pins D f s'):SP X pins D f s':=by
 cases f with
 |next=>obtain⟨σ',H',I,q⟩:=h;exact⟨σ',H',I.unwish,q⟩
 |brk=>obtain⟨σ',H',I,q⟩:=h;exact⟨σ',H',I.unwish,q⟩
 |cont=>obtain⟨σ',H',I,q⟩:=h;exact⟨σ',H',I.unwish,q⟩
 |ret u=>obtain⟨v,σ',H',I,r,q⟩:=h;exact⟨v,σ',H',I.unwish,r,q⟩
theorem PE.nox{e:Expr}{t:TE}(h:PE X.nox e t):PE X e t:=fun pins s σ H Q I hw=>
 wpAny_mono (h pins s σ H Q (I.wish _) hw) (fun _ _ ⟨v,H',I',r,q⟩=>⟨v,H',I'.unwish,r,q⟩) fun _ _ z=>False.elim z
theorem PT.nox{e:Expr}{t:TT}(h:PT X.nox e t):PT X e t:=fun pins s σ H Q I hw=>
 wpAny_mono (h pins s σ H Q (I.wish _) hw) (fun _ _ ⟨H',I',q⟩=>⟨H',I'.unwish,q⟩) fun _ _ z=>False.elim z
theorem PSs.nox{st:List Stmt}{t:TS}(h:PSs X.nox st t):PSs X st t:=fun pins s σ H D I hw=>
 wpAny_mono (h pins s σ H D (I.wish _) hw) (fun _ _ q=>q.unwish) fun _ _ z=>False.elim z
end
section
variable {X:Cx} {st:Stmt} {rest:List Stmt} {t u:TS} {e:Expr} {te:TE} {pos:Pos}
def tNext:TS:=fun D σ H=>D.nx σ H
def tSeq(t u:TS):TS:=fun D σ H=>t {D with nx:=u D} σ H
theorem kas:PSs X [] tNext:=fun _ _ σ H _ I h=>wpAny_execs_nil ⟨σ,H,I,h⟩
theorem kac(h1:PS X st t)(h2:PSs X rest u):PSs X (st::rest) (tSeq t u):=by
 intro pins s σ H D I h
 refine wpAny_execs_cons (thn (h1 pins s σ H {D with nx:=u D} I h) fun f s1 q=>?_)
 cases f with
 |next=>
  obtain⟨σ',H',I',q⟩:=q
  exact h2 pins s1 σ' H' D I' q
 |ret v=>exact q
 |brk=>exact q
 |cont=>exact q
theorem kaf(h1:PS X st t):PSs X [st] t:=by
 intro pins s σ H D I h
 refine wpAny_execs_cons (thn (h1 pins s σ H D I h) fun f s1 q=>?_)
 cases f with
 |next=>exact wpAny_execs_nil q
 |ret v=>exact q
 |brk=>exact q
 |cont=>exact q
theorem Inv.quiet{pins:List (Addr×Obj)}{σ:St}{H:Hp}{s:Shared}(I:Inv X pins σ H s):interactive X.env=false:=by simp[interactive,I.ok.kind]
def tDrop(te:TE):TS:=fun D σ H=>te σ H fun _ H1=>D.nx σ H1
theorem ka9(he:PE X e te)(hs:swapsWith e none pos.line X.env=pure false:=by rfl):PS X (.Expr e pos) (tDrop te):=by
 intro pins s σ H D I h
 exact wpAny_Expr_any (thn (he pins s σ H _ I h) fun v s1 ⟨x,H1,I1,r1,q1⟩=>⟨σ,H1,I1,q1⟩) I.quiet hs
def tRet(te:TE):TS:=fun D σ H=>te σ H D.rt
theorem kan(he:PE X e te):PS X (.Return (some e) pos) (tRet te):=by
 intro pins s σ H D I h
 exact wpAny_Return_some (thn (he pins s σ H _ I h) fun v s1 ⟨x,H1,I1,r1,q1⟩=>⟨x,σ,H1,I1,r1,q1⟩)
def tIfS(c:TT)(t u:TS):TS:=fun D σ H=>c σ H fun b H1=>if b=true then t D σ H1 else u D σ H1
theorem ps_if{c:Expr}{a b:List Stmt}{tc:TT}(hc:PT X c tc)(ha:PSs X a t)(hb:PSs X b u):PS X (.If c a b pos) (tIfS tc t u):=by
 intro pins s σ H D I h
 refine wpAny_If (thn (hc pins s σ H _ I h) fun d s1 zz=>?_)
 obtain⟨H1,I1,q1⟩:=zz
 cases d with
 |true=>exact ha pins s1 σ H1 D I1 q1
 |false=>exact hb pins s1 σ H1 D I1 q1
end
abbrev TG:=V->St->Hp->(St->Hp->Prop)->Prop
abbrev TGs:=List V->St->Hp->(St->Hp->Prop)->Prop
noncomputable def PG(X:Cx)(target:Expr)(t:TG):Prop:=
 ∀(pins:List (Addr×Obj))(s:Shared)(σ:St)(H:Hp)(v:V)(u:Value)(Q:St->Hp->Prop),Inv X pins σ H s->RelV v u->t v σ H Q->
  wpAny (model X.prog X.w) X.A (assign target X.env u) (fun _ s'=>∃σ' H',Inv X pins σ' H' s'/\Q σ' H') X.xe s
noncomputable def PGs(X:Cx)(ts:List Expr)(t:TGs):Prop:=
 ∀(pins:List (Addr×Obj))(s:Shared)(σ:St)(H:Hp)(vs:List V)(us:List Value)(Q:St->Hp->Prop),Inv X pins σ H s->Vals vs us->t vs σ H Q->
  wpAny (model X.prog X.w) X.A (assignInOrder ((assignEach ts X.env).map (·.2)) us) (fun _ s'=>∃σ' H',Inv X pins σ' H' s'/\Q σ' H') X.xe s
abbrev TSet:=V->V->V->Hp->(Hp->Prop)->Prop
noncomputable def PSet(X:Cx)(t:TSet):Prop:=
 ∀(pins:List (Addr×Obj))(s:Shared)(σ:St)(H:Hp)(o i v:V)(ov iv u:Value)(Q:Hp->Prop),Inv X pins σ H s->RelV o ov->RelV i iv->RelV v u->t o i v H Q->
  wpAny (model X.prog X.w) X.A (setItem ov iv u) (fun _ s'=>∃H',Inv X pins σ H' s'/\Q H') X.xe s
abbrev TIp:=V->V->Hp->VK->Prop
noncomputable def PIp(X:Cx)(op:Operator)(t:TIp):Prop:=
 ∀(pins:List (Addr×Obj))(s:Shared)(σ:St)(H:Hp)(x y:V)(v u:Value)(Q:VK),Inv X pins σ H s->RelV x v->RelV y u->t x y H Q->
  wpAny (model X.prog X.w) X.A (inplaceOp op v u) (EP X pins σ Q) X.xe s
section
variable {X:Cx} {pos:Pos}
def gName(i:Nat):TG:=fun v σ H Q=>Q (σ.set i (some v)) H
theorem kmy{i:Nat}{x:Str}(hN:X.N.Nodup)(hi:X.N[i]?=some x)(hx:Loc X.env.scope x)(hf:X.fn x=true∨X.env.scope.names.lookup x=some .local:=by first|exact .inl rfl|exact .inr rfl|assumption):PG X (.Name x pos) (gName i):=by
 intro pins s σ H v u Q I r h
 exact wpAny_assign_Name (kfE I hN hi hx r (fun s' I'=>⟨_,H,I',h⟩) hf)
def gNil:TGs:=fun vs σ H Q=>vs=[]/\Q σ H
def gCons(t:TG)(u:TGs):TGs:=fun vs σ H Q=>∃v r,vs=v::r/\t v σ H fun σ' H'=>u r σ' H' Q
theorem kbx:PGs X [] gNil:=by
 intro pins s σ H vs us Q I r h
 obtain⟨e,h⟩:=h
 subst e
 cases r
 exact assignInOrder_nil ⟨σ,H,I,h⟩
theorem kaC{e:Expr}{es:List Expr}{t:TG}{u:TGs}(h1:PG X e t)(h2:PGs X es u)
  (hs:(assignEach (e::es) X.env).map (·.2)=assign e X.env::(assignEach es X.env).map (·.2):=by rfl):PGs X (e::es) (gCons t u):=by
 intro pins s σ H vs us Q I r h
 obtain⟨v,vr,e1,h⟩:=h
 subst e1
 cases r with
 |cons r rr=>
  rw[hs]
  refine assignInOrder_cons (thn (h1 pins s σ H _ _ _ I r h) fun _ s1 zz=>?_)
  obtain⟨σ1,H1,I1,q1⟩:=zz
  exact h2 pins s1 σ1 H1 _ _ Q I1 rr q1
def gTup(K:Nr)(n:Nat)(t:TGs):TG:=fun v σ H Q=>∃a xs,v=.ref a/\SqT K H a xs/\xs.length=n/\t xs σ H Q
theorem knc{es:List Expr}{k:Nat}{t:TGs}{n:Nat}(hc:X.calm=true)(h:PGs X es t)
  (hn:(assignEach es X.env).length=n:=by rfl) (hst:(assignEach es X.env).findIdx? (·.1)=none:=by rfl):PG X (.Tuple es k pos) (gTup X.K n t):=by
 intro pins s σ H v u Q I r hw
 obtain⟨a,xs,e1,hq,hl,hw⟩:=hw
 subst e1
 cases r
 obtain⟨its,rv,ht,hz⟩:=I.tuple hq
 refine assign_Tuple_tuple (I.ok.hd hc) ht (by simp[hn,<-hl,rv.length]) hst fun h' hx=>?_
 have I1:Inv X pins σ H {s with heap:=h'}:=I.kept (t':=s.toks) fun b o e=>hx b o (NU (Heap.lt_size e)) e
 exact h pins _ σ H xs _ Q I1 (by simpa using rv) hw
def gSub(to ti:TE)(t:TSet):TG:=fun v σ H Q=>to σ H fun o H1=>ti σ H1 fun i H2=>t o i v H2 fun H3=>Q σ H3
theorem keF{o i:Expr}{to ti:TE}{t:TSet}(ho:PE X o to)(hi:PE X i ti)(hs:PSet X t)
  (ha:∀v,assign (.Subscript o i pos) X.env v=(do
   let ov <-holding [v] (eval o X.env)
   let iv <-holding [v,ov] (eval i X.env)
   standAt pos
   holding [v,ov,iv] (setItem ov iv v)
   release [v,ov,iv] []):=by intro _;rfl):PG X (.Subscript o i pos) (gSub to ti t):=by
 intro pins s σ H v u Q I r h
 rw[ha]
 refine wpAny_bind (wpAny_holding (thn (ho pins s σ H _ I h) fun ov s1 zz=>?_))
 obtain⟨x,H1,I1,r1,q1⟩:=zz
 refine wpAny_bind (wpAny_holding (thn (hi pins s1 σ H1 _ I1 q1) fun iv s2 zz=>?_))
 obtain⟨y,H2,I2,r2,q2⟩:=zz
 refine wpAny_bind (wpAny_standAt (wpAny_bind (wpAny_holding (thn (hs pins s2 σ H2 x y v ov iv u _ I2 r1 r2 r q2) fun _ s3 zz=>?_))))
 obtain⟨H3,I3,q3⟩:=zz
 exact wpAny_release ⟨σ,H3,I3,q3⟩
def tAsg(te:TE)(g:TG):TS:=fun D σ H=>te σ H fun x H1=>g x σ H1 D.nx
theorem keE{tg e:Expr}{te:TE}{g:TG}(he:PE X e te)(hg:PG X tg g)(hs:swapsWithSole [tg] e pos.line X.env=pure false:=by rfl)(hw:swappedStores [tg] e X.env=pure none:=by rfl)
  (h1:(assignEach [tg] X.env).map (·.2)=[assign tg X.env]:=by rfl):PS X (.Assign [tg] e pos) (tAsg te g):=by
 intro pins s σ H D I h
 refine wpAny_Assign_stores (thn (he pins s σ H _ I h) fun v s1 zz=>?_) hs hw
 obtain⟨x,H1,I1,r1,q1⟩:=zz
 rw[h1]
 exact thn (hg pins s1 σ H1 x v _ I1 r1 q1) fun _ s2 q=>q
theorem knb{i:Nat}{x:Str}{e:Expr}{te:TE}{pos':Pos}(hN:X.N.Nodup)(hi:X.N[i]?=some x)(hx:Loc X.env.scope x)(he:PE X e te)(hs:swapsWith e (some (.Name x pos')) pos.line X.env=pure false:=by rfl)(hf:X.fn x=true∨X.env.scope.names.lookup x=some .local:=by first|exact .inl rfl|exact .inr rfl|assumption):
  PS X (.Assign [.Name x pos'] e pos) (tAsg te (gName i)):=by
 intro pins s σ H D I h
 refine wpAny_Assign_Name (thn (he pins s σ H _ I h) fun v s1 zz=>?_) hs
 obtain⟨y,H1,I1,r1,q1⟩:=zz
 exact kfE I1 hN hi hx r1 (fun s2 I2=>⟨_,H1,I2,q1⟩) hf
noncomputable def tAug(i:Nat)(te:TE)(ti:TIp):TS:=fun D σ H=>∃x,σ[i]?=some (some x)/\te σ H fun y H1=>ti x y H1 fun z H2=>D.nx (σ.set i (some z)) H2
theorem klR{i:Nat}{x:Str}{e:Expr}{te:TE}{op:Operator}{ti:TIp}{pos':Pos}(hN:X.N.Nodup)(hi:X.N[i]?=some x)(hx:Loc X.env.scope x)(he:PE X e te)(ho:PIp X op ti)(hf:X.fn x=true∨X.env.scope.names.lookup x=some .local:=by first|exact .inl rfl|exact .inr rfl|assumption):
  PS X (.AugAssign (.Name x pos') op e pos) (tAug i te ti):=by
 intro pins s σ H D I h
 obtain⟨v,e1,h⟩:=h
 obtain⟨m,hn,hl⟩:=I.loc
 have vis:Vis X.env.scope x:=by rcases hx with k|k;exact .inl k;exact .inr (.inl k)
 obtain⟨u,r,l⟩:=hl i x v hi e1 vis
 refine wpAny_AugAssign_Name ?_
 have go:wpAny (model X.prog X.w) X.A (eval e X.env) (fun w s₂=>wpAny (model X.prog X.w) X.A (inplaceOp op u w) (fun r s₃=>wpAny (model X.prog X.w) X.A (storeName X.env x r) (fun _=>SP X pins D .next) X.xe s₃) X.xe s₂) X.xe s:=by
  refine thn (he pins s σ H _ I h) fun w s1 zz=>?_
  obtain⟨y,H1,I1,r1,q1⟩:=zz
  refine thn (ho pins s1 σ H1 v y u w _ I1 r r1 q1) fun z s2 zz=>?_
  obtain⟨zv,H2,I2,r2,q2⟩:=zz
  exact kfE I2 hN hi hx r2 (fun s3 I3=>⟨_,H2,I3,q2⟩) hf
 rcases l with⟨hk,hm⟩|⟨hk,c,hc,hcell⟩
 ·exact wpAny_loadName_local I.ok.kind hk hn hm go
 ·rcases hk with hk|hk
  ·exact wpAny_loadName_cell I.ok.kind hk hc hcell go
  ·rcases hx with k|k
   ·have:X.env.scope.names.lookup x=some .free:=hk
    rw[k] at this;cases this
   ·have:X.env.scope.names.lookup x=some .free:=hk
    rw[k] at this;cases this
noncomputable def tAugS(to ti te:TE)(tget:V->V->Hp->VK->Prop)(tip:TIp)(tset:TSet):TS:=fun D σ H=>to σ H fun o H1=>ti σ H1 fun i H2=>tget o i H2 fun x H3=>te σ H3 fun y H4=>tip x y H4 fun z H5=>tset o i z H5 fun H6=>D.nx σ H6
noncomputable def PGet(X:Cx)(t:V->V->Hp->VK->Prop):Prop:=
 ∀(pins:List (Addr×Obj))(s:Shared)(σ:St)(H:Hp)(o i:V)(ov iv:Value)(Q:VK),Inv X pins σ H s->RelV o ov->RelV i iv->t o i H Q->
  wpAny (model X.prog X.w) X.A (getItem ov iv) (EP X pins σ Q) X.xe s
theorem kmv{o i e:Expr}{to ti te:TE}{tget:V->V->Hp->VK->Prop}{tip:TIp}{tset:TSet}{op:Operator}{tpos:Pos}(ho:PE X o to)(hi:PE X i ti)(hg:PGet X tget)(he:PE X e te)(hp:PIp X op tip)(hs:PSet X tset)
  (ha:∀ov iv new,augStore i ov iv new=(do holding [new,ov,iv] (setItem ov iv new);release [new,ov,iv] [];pure .next):=by intros;rfl):PS X (.AugAssign (.Subscript o i tpos) op e pos) (tAugS to ti te tget tip tset):=by
 intro pins s σ H D I h
 refine wpAny_AugAssign_SubscriptAny (thn (ho pins s σ H _ I h) fun ov s1 zz=>?_) ha
 obtain⟨x1,H1,I1,r1,q1⟩:=zz
 refine thn (hi pins s1 σ H1 _ I1 q1) fun iv s2 zz=>?_
 obtain⟨x2,H2,I2,r2,q2⟩:=zz
 refine thn (hg pins s2 σ H2 x1 x2 ov iv _ I2 r1 r2 q2) fun old s3 zz=>?_
 obtain⟨x3,H3,I3,r3,q3⟩:=zz
 refine thn (he pins s3 σ H3 _ I3 q3) fun v s4 zz=>?_
 obtain⟨x4,H4,I4,r4,q4⟩:=zz
 refine thn (hp pins s4 σ H4 x3 x4 old v _ I4 r3 r4 q4) fun new s5 zz=>?_
 obtain⟨x5,H5,I5,r5,q5⟩:=zz
 exact thn (hs pins s5 σ H5 x1 x2 x5 ov iv new _ I5 r1 r2 r5 q5) fun _ s6 ⟨H6,I6,q6⟩=>⟨σ,H6,I6,q6⟩
def ipI(f:Int->Int->Int):TIp:=fun x y H Q=>∃i j,x=.int i/\y=.int j/\Q (.int (f i j)) H
theorem klZ:PIp X .Add (ipI fun i j=>i+j):=by
 intro pins s σ H x y v u Q I r1 r2 h
 obtain⟨i,j,e1,e2,q⟩:=h
 subst e1;subst e2
 obtain⟨t,rfl⟩:=r1
 obtain⟨t',rfl⟩:=r2
 exact iadd_int ⟨.int _,H,I.tok _,⟨_,rfl⟩,q⟩
theorem knr:PIp X .Sub (ipI fun i j=>i-j):=by
 intro pins s σ H x y v u Q I r1 r2 h
 obtain⟨i,j,e1,e2,q⟩:=h
 subst e1;subst e2
 obtain⟨t,rfl⟩:=r1
 obtain⟨t',rfl⟩:=r2
 exact isub_int ⟨.int _,H,I.tok _,⟨_,rfl⟩,q⟩
end
section
variable {X:Cx} {pos:Pos}
noncomputable def klE(c:TT)(tb:TS):TS:=fun D σ H=>∃W:Nat->St->Hp->Prop,(∃m,W m σ H)/\∀m σ H,W m σ H->
 c σ H fun b H1=>if b=true then ∃N:St->Hp->Prop,(∀σ' H',N σ' H'->∃m',m'<m/\W m' σ' H')/\tb {D with nx:=N,ct:=N,bk:=D.nx} σ H1 else D.nx σ H1
theorem kil{c:Expr}{body:List Stmt}{tc:TT}{tb:TS}(hp:PassesOwn (model X.prog X.w) X.A X.env X.xe)(hc:PT X c tc)(hb:PSs X body tb):PS X (.While c body [] pos) (klE tc tb):=by
 intro pins s σ H D I h
 obtain⟨W,⟨m0,w0⟩,turn⟩:=h
 refine wpAny_While (codeAny_whileLoop (fun n s'=>∃σ' H',Inv X pins σ' H' s'/\W n σ' H') ?_ m0 ⟨σ,H,I,w0⟩)
 rintro n s1 ⟨σ1,H1,I1,w1⟩
 refine wpAny_passesOwn hp (thn (hc pins s1 σ1 H1 _ I1 (turn n σ1 H1 w1)) fun b s2 zz=>?_)
 obtain⟨H2,I2,q2⟩:=zz
 cases b with
 | true=>
  obtain⟨N,hN,q2⟩:=q2
  rw[if_pos rfl]
  refine wpAny_passesOwn hp (thn (hb pins s2 σ1 H2 _ I2 q2) fun f s3 q3=>?_)
  cases f with
  |next=>
   obtain⟨σ3,H3,I3,n3⟩:=q3
   obtain⟨m',hm,w3⟩:=hN σ3 H3 n3
   exact⟨m',hm,σ3,H3,I3,w3⟩
  |cont=>
   obtain⟨σ3,H3,I3,n3⟩:=q3
   obtain⟨m',hm,w3⟩:=hN σ3 H3 n3
   exact⟨m',hm,σ3,H3,I3,w3⟩
  |brk=>exact q3
  |ret v=>exact q3
 |false=>
  rw[if_neg NB]
  exact wpAny_execs_nil ⟨σ1,H2,I2,q2⟩
end
structure It where
 go:Nat->Hp->Prop
 yld:Nat->Hp->V->Hp->Prop
 stop:Nat->Hp->Prop
noncomputable def FpOk(X:Cx)(pins:List (Addr×Obj))(H:Hp)(b:Addr):Prop:=
 H b=none/\b≠X.env.locals/\b∉X.fs/\(b∈X.ex∨X.s₀.heap.objs.size<=b)/\(∀x c,X.env.cells.lookup x=some c->c≠b)/\∀p∈X.pn++pins,p.1≠b
noncomputable def Inv.fpOk{X:Cx}{pins:List (Addr×Obj)}{σ:St}{H H':Hp}{s:Shared}{b:Addr}(I:Inv X pins σ H s)(hb:s.heap.objs.size<=b)(hn:H' b=none):FpOk X pins H' b:=by
 refine⟨hn,Mr (NT I.lt hb),I.nofs hb, .inr (Nx I.sz hb),fun x c e z=>?_,fun p hp z=>?_⟩
 ·obtain⟨v,q⟩:=I.cell x c e
  exact absurd (NT q.lt (by rw[z];exact hb)) (Mi _)
 ·exact absurd (NT (Heap.lt_size (I.pin p hp).1) (by rw[z];exact hb)) (Mi _)
structure Turn (P:Program) (w:World) (K:Nr) (tg:Expr) (J:It) (fp:List Addr) (it:Addr) (tn:Nat->Heap->Prop):Prop where
 mem:it∈fp
 obj:∀i h,tn i h->∀b∈fp,∃o,h.get? b=some o/\∀v,o.data≠.cell v
 keep:∀i h h',tn i h->(∀b∈fp,∀o,h.get? b=some o->h'.get? b=some o)->tn i h'
 item:∀(X:Cx),X.prog=P->X.w=w->X.K=K->X.calm=true->∀(i:Nat)(pins:List (Addr×Obj))(s:Shared)(σ:St)(H:Hp)(E:Value->Shared->Prop),Inv X pins σ H s->(∀b∈fp,FpOk X pins H b)->tn i s.heap->J.go i H->
  wpAny (model P w) X.A (pyNext (.ref it)) (fun r s1=>∃u,r=some u/\
   wpAny (model P w) X.A (letOwnedTupleGo tg (.ref it) u) (fun _ s2=>∃x H',Inv X pins σ H' s2/\RelV x u/\J.yld i H x H'/\tn (i+1) s2.heap/\∀b∈fp,H' b=none) E s1) E s
 done:∀(X:Cx),X.prog=P->X.w=w->X.K=K->X.calm=true->∀(i:Nat)(pins:List (Addr×Obj))(s:Shared)(σ:St)(H:Hp)(E:Value->Shared->Prop),Inv X pins σ H s->(∀b∈fp,FpOk X pins H b)->tn i s.heap->J.stop i H->
  wpAny (model P w) X.A (pyNext (.ref it)) (fun r s1=>r=none/\Inv X pins σ H s1) E s
 self:∀(A:Around)(i:Nat)(s:Shared)(Q:Value->Shared->Prop)(E:Value->Shared->Prop),tn i s.heap->Q (.ref it) s->wpAny (model P w) A (pyIter (.ref it)) Q E s
abbrev TI:=St->Hp->(It->Hp->Prop)->Prop
noncomputable def PIE(X:Cx)(pins:List (Addr×Obj))(σ:St)(tg:Expr)(R:It->Hp->Prop)(itv:Value)(s2:Shared):Prop:=
 ∃(it:Addr)(fp:List Addr)(tn:Nat->Heap->Prop)(J:It)(H':Hp),itv=.ref it/\Inv X pins σ H' s2/\Turn X.prog X.w X.K tg J fp it tn/\tn 0 s2.heap/\(∀b∈fp,FpOk X pins H' b)/\R J H'
noncomputable def PI(X:Cx)(tg iter:Expr)(wi:TI):Prop:=
 ∀(pins:List (Addr×Obj))(s:Shared)(σ:St)(H:Hp)(R:It->Hp->Prop),Inv X pins σ H s->wi σ H R->
  wpAny (model X.prog X.w) X.A (eval iter X.env) (fun v s1=>wpAny (model X.prog X.w) X.A (pyIter v) (PIE X pins σ tg R) X.xe s1) X.xe s
theorem go_of{M:Model}{A:Around}{E:Value->Shared->Prop}{s:Shared}{tg:Expr}{it:Addr}{u:Value}{o:Obj}{n:String}{vs:Array Value}{Q:Unit->Shared->Prop}(ho:s.heap.get? it=some o)(hc:o.cls=.type n)(hd:o.data=.fields vs)
    (hn:["enumerate","zip","dict_itemiterator","dict_reverseitemiterator","odict_iterator","itertools.zip_longest","itertools.pairwise"].contains n=false) (hQ:Q () s):wpAny M A (letOwnedTupleGo tg (.ref it) u) Q E s:=by
  unfold letOwnedTupleGo
  cases tg <;> first
    |exact wpAny_pure hQ
    |(cases u <;> first
        |exact wpAny_pure hQ
        | (refine wpAny_bind (wpAny_load ho ?_)
           rw[hc,hd]
           show wpAny M A (if(["enumerate","zip","dict_itemiterator","dict_reverseitemiterator","odict_iterator","itertools.zip_longest","itertools.pairwise"].contains n&&vs[0]? ==some (rawInt _))=true then _ else _) Q E s
           rw[if_neg (by intro h;rw[hn,Ew] at h;cases h)]
           exact wpAny_pure hQ))
noncomputable def Itl(K:Nr)(a:Addr):It:=
 ⟨fun i H=>∃xs x,SqL K H a xs/\xs[i]?=some x,fun i H x H'=>H'=H/\∀xs,SqL K H a xs->xs[i]?=some x,fun i H=>∃xs,SqL K H a xs/\xs.length<=i⟩
def Itr(lo:Int)(n:Nat):It:=⟨fun i _=>i<n,fun i H x H'=>H'=H/\x=.int (lo+i),fun i _=>n<=i⟩
theorem kja{P:Program}{w:World}{K:Nr}{tg:Expr}(a it:Addr):Turn P w K tg (Itl K a) [it] it (fun i h=>h.IsListIter it a i) where
 mem:=by simp
 obj:=fun i h st b hb=>by
  have e:b=it:=by simpa using hb
  subst e
  obtain⟨o,e,c,d⟩:=st
  exact⟨o,e,fun v z=>by rw[d] at z;cases z⟩
 keep:=fun i h h' st k=>st.at fun o e=>k it (by simp) o e
 item:=by
  intro X hP hw hK hc i pins s σ H E I hf st hg
  subst hP hw hK
  obtain⟨xs,x,hq,hx⟩:=hg
  obtain⟨its,rv,p,hz⟩:=I.list hq
  obtain⟨u,hu,ru⟩:=rv.get hx
  obtain⟨f0,f1,f2,f3,f4,f5⟩:=hf it (by simp)
  refine wpAny_pyNext_list_item st p.isList (x:=u) (by simpa using hu) fun h' st' sb=>?_
  have I1:Inv X pins σ H {s with heap:=h'}:=I.turned (t':=s.toks) (fun b o hb e=>(sb.2 b hb).trans e) f0 f1 f3 f4 f5
  obtain⟨o,e,c,d⟩:=id st'
  exact⟨u,rfl,go_of (s:={s with heap:=h'}) e c d (by decide) ⟨x,H,I1,ru,⟨rfl,fun ys hy=>by rw[I.list_inj hy hq];exact hx⟩,st',fun b hb=>(hf b hb).1⟩⟩
 done:=by
  intro X hP hw hK hc i pins s σ H E I hf st hg
  subst hP hw hK
  obtain⟨xs,hq,hx⟩:=hg
  obtain⟨its,rv,p,hz⟩:=I.list hq
  obtain⟨f0,f1,f2,f3,f4,f5⟩:=hf it (by simp)
  have hl:=rv.length
  exact wpAny_pyNext_list_end (I.ok.hd hc) st p.isList (by simp;omega) fun h' eb=>⟨rfl,I.turned (t':=s.toks) (fun b o hb e=>eb b o hb e) f0 f1 f3 f4 f5⟩
 self:=fun _ _ _ _ _ st h=>wpAny_pyIter_listiter st h
theorem kiK{P:Program}{w:World}{K:Nr}{tg:Expr}(it:Addr)(lo:Int)(n:Nat):Turn P w K tg (Itr lo n) [it] it (fun i h=>IsRangeIter h it (lo+(i:Nat)*1) ((n:Int)-(i:Nat)) 1) where
 mem:=by simp
 obj:=fun i h st b hb=>by
  have e:b=it:=by simpa using hb
  subst e
  exact⟨_,st,fun v z=>by
   have z':Data.fields _=Data.cell v:=z
   cases z'⟩
 keep:=fun i h h' st k=>k it (by simp) _ st
 item:=by
  intro X hP hw hK hc i pins s σ H E I hf st hg
  subst hP hw hK
  obtain⟨f0,f1,f2,f3,f4,f5⟩:=hf it (by simp)
  have W:=Walks.range (prog:=X.prog) (w:=X.w) (I.ok.hd hc) it lo 1 n
  refine W.item i s _ _ hg st fun v h' tk hv st' kk=>?_
  obtain⟨t,rfl⟩:=hv
  have I1:Inv X pins σ H {s with heap:=h',toks:=tk}:=I.turned (fun b o hb e=>kk b o (by simpa using hb) e) f0 f1 f3 f4 f5
  refine⟨_,rfl,go_of (s:={s with heap:=h',toks:=tk}) (n:="range_iterator") st' rfl rfl (by decide) ⟨.int (lo+i),H,I1,⟨t,?_⟩,⟨rfl,rfl⟩,st',fun b hb=>(hf b hb).1⟩⟩
  rw[Int.mul_one]
 done:=by
  intro X hP hw hK hc i pins s σ H E I hf st hg
  subst hP hw hK
  obtain⟨f0,f1,f2,f3,f4,f5⟩:=hf it (by simp)
  exact wpAny_pyNext_range_end (I.ok.hd hc) st (by have:n<=i:=hg;omega) fun h' eb=>⟨rfl,I.turned (t':=s.toks) (fun b o hb e=>eb b o hb e) f0 f1 f3 f4 f5⟩
 self:=fun _ _ _ _ _ st h=>wpAny_pyIter_rangeiter st h
end L2
namespace L2
open PySem PySem.Spec PyProof.Rows
section
variable {X:Cx} {tg:Expr}
def iList(K:Nr)(tl:TE):TI:=fun σ H R=>tl σ H fun x H1=>∃a,x=.ref a/\(∃xs,SqL K H1 a xs)/\R (Itl K a) H1
theorem kmx{l:Expr}{tl:TE}(hl:PE X l tl):PI X tg l (iList X.K tl):=by
 intro pins s σ H R I h
 refine thn (hl pins s σ H _ I h) fun v s1 zz=>?_
 obtain⟨x,H1,I1,r1,q1⟩:=zz
 obtain⟨a,e,⟨xs,hq⟩,q⟩:=q1
 subst e
 cases r1
 obtain⟨its,rv,p,hz⟩:=I1.list hq
 refine wpAny_pyIter_list p.isList ?_
 refine⟨s1.heap.objs.size,[s1.heap.objs.size],_,_,H1,rfl,I1.kept (t':=s1.toks) fun b o e=>Heap.get?_push_of_some _ e,kja a _,⟨_,Heap.get?_push_size _ rfl,rfl,rfl⟩,fun b hb=>?_,q⟩
 have e:b=s1.heap.objs.size:=by simpa using hb
 subst e
 exact I1.fpOk (Nt _) (I1.hok.fresh (Nt _))
theorem kkT{pins:List (Addr×Obj)}{σ:St}{H:Hp}{s:Shared}{R:It->Hp->Prop}{E:Value->Shared->Prop}{lo hi:Int}{t u v:Tok}{tk:Nat}(I:Inv X pins σ H s)(h1: -(2 ^ 62)<=lo)(h2:lo<2 ^ 62)(h3: -(2 ^ 62)<=hi)(h4:hi<2 ^ 62)
  (q:R (Itr lo (hi-lo).toNat) H):wpAny (model X.prog X.w) X.A (pyIter (.ref s.heap.objs.size)) (PIE X pins σ tg R) E {s with heap:=s.heap.push {cls:=.type "range",data:=.fields #[.int lo t, .int hi u, .int 1 v]},toks:=tk}:=by
 refine wpAny_pyIter_range (IsRange.new ..) (small_one h1 h2 h3 h4) ?_
 have I1:Inv X pins σ H {s with heap:=s.heap.push {cls:=.type "range",data:=.fields #[.int lo t, .int hi u, .int 1 v]},toks:=tk}:=I.kept fun b o e=>Heap.get?_push_of_some _ e
 refine⟨(s.heap.push {cls:=.type "range",data:=.fields #[.int lo t, .int hi u, .int 1 v]}).objs.size,[(s.heap.push {cls:=.type "range",data:=.fields #[.int lo t, .int hi u, .int 1 v]}).objs.size],_,_,H,rfl,
  I1.kept (t':=tk) fun b o e=>Heap.get?_push_of_some _ e,kiK _ lo (hi-lo).toNat,?_,fun b hb=>?_,q⟩
 ·have e1:lo+((0:Nat):Int)*1=lo:=by simp
  have e2:(((hi-lo).toNat:Nat):Int)-((0:Nat):Int)=Builtin.Range.rangeSize lo hi 1:=by rw[rangeSize_one];split <;> omega
  show IsRangeIter _ _ (lo+((0:Nat):Int)*1) ((((hi-lo).toNat:Nat):Int)-((0:Nat):Int)) 1
  rw[e1,e2]
  exact Heap.get?_push_size _ rfl
 ·have e:b=(s.heap.push {cls:=.type "range",data:=.fields #[.int lo t, .int hi u, .int 1 v]}).objs.size:=by simpa using hb
  subst e
  exact I1.fpOk (Nt _) (I1.hok.fresh (Nt _))
def iRng1(ta:TA):TI:=fun σ H R=>ta σ H fun vs H1=>∃j:Int,vs=[.int j]/\-(2 ^ 62)<=j/\j<2 ^ 62/\R (Itr 0 j.toNat) H1
theorem kba{a:Expr}{ta:TA}{p pos:Pos}(hg:Gl X "range")(hm:X.mg "range"=none)(ha:PA X [a] ta)(hs:starEach [a] X.env=[(false,eval a X.env)]:=by rfl):PI X tg (.Call (.Name "range" p) [a] [] pos) (iRng1 ta):=by
 intro pins s σ H R I h
 refine Call_ (kdz I hg hm boot_range (PyProof.Rows.callWith_type1 (thn (ha pos pins s σ H _ I h) fun us s1 zz=>?_) hs rfl))
 obtain⟨vs,H1,I1,r1,q1⟩:=zz
 obtain⟨j,e,q1,q2,q⟩:=q1
 subst e
 cases r1 with
 |cons r rr=>
  cases rr
  obtain⟨t,rfl⟩:=r
  exact call_range_1 (kkT I1 (by omega) (by omega) q1 q2 (by simpa using q))
noncomputable def tFor(wi:TI)(g:TG)(tb:TS):TS:=fun D σ H=>wi σ H fun J H1=>∃W:Nat->Nat->St->Hp->Prop,(∃m,W 0 m σ H1)/\∀i m σ H,W i m σ H->
 (J.stop i H/\D.nx σ H)∨(J.go i H/\∃N:St->Hp->Prop,(∀σ' H',N σ' H'->∃m',m'<m/\W (i+1) m' σ' H')/\∀x H',J.yld i H x H'->g x σ H' fun σ2 H2=>tb {D with nx:=N,ct:=N,bk:=D.nx} σ2 H2)
def kio(fp:List Addr)(h:Heap):List (Addr×Obj):=fp.filterMap fun b=>(h.get? b).map fun o=>(b,o)
theorem kcY{fp:List Addr}{h:Heap}{b:Addr}{o:Obj}(hb:b∈fp)(e:h.get? b=some o):(b,o)∈kio fp h:=List.mem_filterMap.mpr ⟨b,hb,by rw[e];rfl⟩
theorem kjZ{fp:List Addr}{h:Heap}{p:Addr×Obj}(hp:p∈kio fp h):p.1∈fp/\h.get? p.1=some p.2:=by
 obtain⟨b,hb,e⟩:=List.mem_filterMap.mp hp
 cases q:h.get? b with
 |none=>rw[q] at e;cases e
 |some o=>
  rw[q] at e
  have e':(b,o)=p:=Option.some.inj e
  subst e'
  exact⟨hb,q⟩
theorem Inv.pinned{pins:List (Addr×Obj)}{σ:St}{H:Hp}{s:Shared}{fp:List Addr}(I:Inv X pins σ H s)(hf:∀b∈fp,FpOk X pins H b)(ho:∀b∈fp,∃o,s.heap.get? b=some o/\∀v,o.data≠.cell v):Inv X (pins++kio fp s.heap) σ H s:=
 I.pins_of fun p hp=>(N6.mp hp).elim (fun z=>I.pin p (Md _ z)) fun z=>by
  obtain⟨hb,e⟩:=kjZ z
  obtain⟨f0,f1,f2,_⟩:=hf p.1 hb
  obtain⟨o,e',d⟩:=ho p.1 hb
  rw[e] at e';cases e'
  exact⟨e,f0,f1,f2,d⟩
theorem Inv.unpinned{pins pl:List (Addr×Obj)}{σ:St}{H:Hp}{s:Shared}(I:Inv X (pins++pl) σ H s):Inv X pins σ H s:=I.pins_of fun p hp=>I.pin p (Md _ (E2 _ hp))
theorem kaU{iter:Expr}{body:List Stmt}{wi:TI}{g:TG}{tb:TS}{pos:Pos}(hp:PassesOwn (model X.prog X.w) X.A X.env X.xe)(hc:X.calm=true)(hi:PI X tg iter wi)(hg:PG X tg g)(hb:PSs X body tb)
  (hs:∀x,foldedSetIterable iter X.env x=pure x:=by intro _;rfl):PS X (.For tg iter body [] pos) (tFor wi g tb):=by
 intro pins s σ H D I h
 refine wpAny_For (thn (hi pins s σ H _ I h) fun v s1 h1=>thn h1 fun itv s2 h2=>?_) hs
 obtain⟨it,fp,tn,J,H2,e,I2,T,st2,f2,W,⟨m0,w0⟩,turn⟩:=h2
 subst e
 have stat:∀{H':Hp},(∀b∈fp,H' b=none)->∀b∈fp,FpOk X pins H' b:=fun hn b hb=>⟨hn b hb,(f2 b hb).2⟩
 refine codeAny_forLoop_any (fun n s'=>∃i σ' H',Inv X pins σ' H' s'/\tn i s'.heap/\(∀b∈fp,H' b=none)/\W i n σ' H') ?_ m0 ⟨0,σ,H2,I2,st2,fun b hb=>(f2 b hb).1,w0⟩
 rintro n s3 ⟨i,σ3,H3,I3,st3,fr3,w3⟩
 rcases turn i n σ3 H3 w3 with⟨stop,qn⟩|⟨go,N,hN,step⟩
 ·refine wpAny_passesOwn hp (thn (T.done X rfl rfl rfl hc i pins s3 σ3 H3 X.xe I3 (stat fr3) st3 stop) fun r s4 zz=>?_)
  obtain⟨hr,I4⟩:=zz
  subst hr
  exact wpAny_execs_nil ⟨σ3,H3,I4,qn⟩
 ·refine wpAny_passesOwn hp (thn (T.item X rfl rfl rfl hc i pins s3 σ3 H3 X.xe I3 (stat fr3) st3 go) fun r s4 zz=>?_)
  obtain⟨u,hr,h4⟩:=zz
  subst hr
  refine wpAny_passesOwn hp (thn h4 fun _ s5 zz=>?_)
  obtain⟨x,H5,I5,r5,y5,st5,fr5⟩:=zz
  have I5':=I5.pinned (stat fr5) (T.obj _ _ st5)
  refine wpAny_passesOwn hp (thn (hg _ s5 σ3 H5 x u _ I5' r5 (step x H5 y5)) fun _ s6 zz=>?_)
  obtain⟨σ6,H6,I6,q6⟩:=zz
  refine wpAny_passesOwn hp (thn (hb _ s6 σ6 H6 _ I6 q6) fun f s7 q7=>?_)
  have again:∀{σ7:St}{H7:Hp},Inv X (pins++kio fp s5.heap) σ7 H7 s7->N σ7 H7->∃m,m<n/\∃i σ' H',Inv X pins σ' H' s7/\tn i s7.heap/\(∀b∈fp,H' b=none)/\W i m σ' H':=fun {σ7 H7} I7 n7=>by
   obtain⟨m',hm,w7⟩:=hN σ7 H7 n7
   refine⟨m',hm,i+1,σ7,H7,I7.unpinned,T.keep _ _ _ st5 fun b hb o e=>(I7.pin (b,o) (Md _ (Md _ (kcY hb e)))).1,fun b hb=>?_,w7⟩
   obtain⟨o,e,d⟩:=T.obj _ _ st5 b hb
   exact(I7.pin (b,o) (Md _ (Md _ (kcY hb e)))).2.1
  cases f with
  |next=>obtain⟨σ7,H7,I7,n7⟩:=q7;exact again I7 n7
  |cont=>obtain⟨σ7,H7,I7,n7⟩:=q7;exact again I7 n7
  |brk=>obtain⟨σ7,H7,I7,q7⟩:=q7;exact⟨σ7,H7,I7.unpinned,q7⟩
  |ret v=>obtain⟨x7,σ7,H7,I7,r7,q7⟩:=q7;exact⟨x7,σ7,H7,I7.unpinned,r7,q7⟩
end
theorem ka3{K:Nr}{a:Addr}{xs:List V}{g:TG}{tb:TS}{D:Ends}{σ:St}{H:Hp}(Pv:Nat->St->Hp->Prop)(h0:Pv 0 σ H)(hl:∀i σ H,i<=xs.length->Pv i σ H->SqL K H a xs)
  (hs:∀i x σ H,xs[i]?=some x->Pv i σ H->g x σ H fun σ2 H2=>tb {D with nx:=Pv (i+1),ct:=Pv (i+1),bk:=D.nx} σ2 H2) (hd:∀σ H,Pv xs.length σ H->D.nx σ H):
  ∃W:Nat->Nat->St->Hp->Prop,(∃m,W 0 m σ H)/\∀i m σ H,W i m σ H->
   ((Itl K a).stop i H/\D.nx σ H)∨((Itl K a).go i H/\∃N:St->Hp->Prop,(∀σ' H',N σ' H'->∃m',m'<m/\W (i+1) m' σ' H')/\∀x H',(Itl K a).yld i H x H'->g x σ H' fun σ2 H2=>tb {D with nx:=N,ct:=N,bk:=D.nx} σ2 H2):=by
 refine⟨fun i m σ H=>m=xs.length-i/\i<=xs.length/\Pv i σ H,⟨xs.length,by simp,N1 _,h0⟩,?_⟩
 rintro i m σ H ⟨rfl,hi,p⟩
 have q:=hl i σ H hi p
 by_cases hlt:i<xs.length
 ·refine .inr ⟨⟨xs,xs[i],q,by simp[hlt]⟩,Pv (i+1),fun σ' H' p'=>⟨xs.length-(i+1),by omega,rfl,hlt,p'⟩,fun x H' y=>?_⟩
  obtain⟨e,y⟩:=y
  subst e
  exact hs i x σ _ (y xs q) p
 ·have e:i=xs.length:=by omega
  subst e
  exact .inl ⟨⟨xs,q,Nt _⟩,hd σ H p⟩
theorem kbi{lo:Int}{n:Nat}{g:TG}{tb:TS}{D:Ends}{σ:St}{H:Hp}(Pv:Nat->St->Hp->Prop)(h0:Pv 0 σ H)
  (hs:∀i σ H,i<n->Pv i σ H->g (.int (lo+i)) σ H fun σ2 H2=>tb {D with nx:=Pv (i+1),ct:=Pv (i+1),bk:=D.nx} σ2 H2) (hd:∀σ H,Pv n σ H->D.nx σ H):
  ∃W:Nat->Nat->St->Hp->Prop,(∃m,W 0 m σ H)/\∀i m σ H,W i m σ H->
   ((Itr lo n).stop i H/\D.nx σ H)∨((Itr lo n).go i H/\∃N:St->Hp->Prop,(∀σ' H',N σ' H'->∃m',m'<m/\W (i+1) m' σ' H')/\∀x H',(Itr lo n).yld i H x H'->g x σ H' fun σ2 H2=>tb {D with nx:=N,ct:=N,bk:=D.nx} σ2 H2):=by
 refine⟨fun i m σ H=>m=n-i/\i<=n/\Pv i σ H,⟨n,by simp,N1 _,h0⟩,?_⟩
 rintro i m σ H ⟨rfl,hi,p⟩
 by_cases hlt:i<n
 ·refine .inr ⟨hlt,Pv (i+1),fun σ' H' p'=>⟨n-(i+1),by omega,rfl,hlt,p'⟩,fun x H' y=>?_⟩
  obtain⟨e,y⟩:=y
  subst e y
  exact hs i σ _ hlt p
 ·have e:i=n:=by omega
  subst e
  exact .inl ⟨Nt _,hd σ H p⟩
theorem khW{c:TT}{tb:TS}{D:Ends}{σ:St}{H:Hp}(Pv:St->Hp->Prop)(μ:St->Hp->Nat)(h0:Pv σ H)
  (hs:∀σ H,Pv σ H->c σ H fun b H1=>if b=true then tb {D with nx:=fun σ' H'=>Pv σ' H'/\μ σ' H'< μ σ H,ct:=fun σ' H'=>Pv σ' H'/\μ σ' H'< μ σ H,bk:=D.nx} σ H1 else D.nx σ H1)
  (mono:∀σ H Q Q',(∀b H1,Q b H1->Q' b H1)->c σ H Q->c σ H Q'):klE c tb D σ H:=by
 refine⟨fun m σ H=>m= μ σ H/\Pv σ H,⟨_,rfl,h0⟩,?_⟩
 rintro m σ H ⟨rfl,p⟩
 refine mono σ H _ _ (fun b H1 q=>?_) (hs σ H p)
 cases b with
 |true=>exact⟨_,fun σ' H' ⟨p',l⟩=>⟨_,l,rfl,p'⟩,q⟩
 |false=>exact q
end L2
namespace L2
open PySem PySem.Spec PyProof.Rows
abbrev R2:=V->V->Hp->VK->Prop
noncomputable def OpR(X:Cx)(f:Value->Value->Sem Value)(r:R2):Prop:=
 ∀(pins:List (Addr×Obj))(s:Shared)(σ:St)(H:Hp)(x y:V)(v u:Value)(Q:VK),Inv X pins σ H s->RelV x v->RelV y u->r x y H Q->
  wpAny (model X.prog X.w) X.A (f v u) (EP X pins σ Q) X.xe s
noncomputable def UnR(X:Cx)(f:Value->Sem Value)(r:V->Hp->VK->Prop):Prop:=
 ∀(pins:List (Addr×Obj))(s:Shared)(σ:St)(H:Hp)(x:V)(v:Value)(Q:VK),Inv X pins σ H s->RelV x v->r x H Q->
  wpAny (model X.prog X.w) X.A (f v) (EP X pins σ Q) X.xe s
noncomputable def CallR(X:Cx)(f:Value)(r:List V->Hp->VK->Prop):Prop:=
 ∀(pins:List (Addr×Obj))(s:Shared)(σ:St)(H:Hp)(xs:List V)(us:List Value)(Q:VK),Inv X pins σ H s->Vals xs us->r xs H Q->
  wpAny (model X.prog X.w) X.A (call f us) (EP X pins σ Q) X.xe s
def tOp(r:R2)(ta tb:TE):TE:=fun σ H Q=>ta σ H fun x H1=>tb σ H1 fun y H2=>r x y H2 Q
def tUn(r:V->Hp->VK->Prop)(ta:TE):TE:=fun σ H Q=>ta σ H fun x H1=>r x H1 Q
def rI(C:Int->Int->Prop)(g:Int->Int->V):R2:=fun x y H Q=>∃i j,x=.int i/\y=.int j/\C i j/\Q (g i j) H
def rI0(g:Int->Int->V):R2:=fun x y H Q=>∃i j,x=.int i/\y=.int j/\Q (g i j) H
def rU(g:Int->V):V->Hp->VK->Prop:=fun x H Q=>∃i,x=.int i/\Q (g i) H
section
variable {X:Cx} {a b c:Expr} {ta tb tc:TE} {pos:Pos}
theorem binT(ha:PE X a ta)(hb:PE X b tb){pins:List (Addr×Obj)}{s:Shared}{σ:St}{H:Hp}{R:V->V->Hp->Prop}(I:Inv X pins σ H s)
  (h:ta σ H fun x H1=>tb σ H1 fun y H2=>R x y H2) {Q:Value->Shared->Prop} {f:Value->Value->Sem Value}
  (hf:∀v u s2 x y H2,Inv X pins σ H2 s2->RelV x v->RelV y u->R x y H2->wpAny (model X.prog X.w) X.A (f v u) Q X.xe s2):
  wpAny (model X.prog X.w) X.A (eval a X.env) (fun v s₁=>wpAny (model X.prog X.w) X.A (eval b X.env) (fun u s₂=>wpAny (model X.prog X.w) X.A (f v u) Q X.xe s₂) X.xe s₁) X.xe s:=by
 refine thn (ha pins s σ H _ I h) fun v s1 zz=>?_
 obtain⟨x,H1,I1,r1,q1⟩:=zz
 refine thn (hb pins s1 σ H1 _ I1 q1) fun u s2 zz=>?_
 obtain⟨y,H2,I2,r2,q2⟩:=zz
 exact hf v u s2 x y H2 I2 r1 r2 q2
theorem pe_op{op:Operator}{r:R2}(ho:OpR X (binaryOp op) r)(ha:PE X a ta)(hb:PE X b tb):PE X (.BinOp a op b pos) (tOp r ta tb):=by
 intro pins s σ H Q I h
 exact wpAny_BinOp (binT ha hb I h fun v u s2 x y H2 I2 rx ry q=>ho pins s2 σ H2 x y v u Q I2 rx ry q)
theorem pe_un{op:UnaryOp}{r:V->Hp->VK->Prop}(ho:UnR X (unaryOp op) r)(ha:PE X a ta):PE X (.UnaryOp op a pos) (tUn r ta):=by
 intro pins s σ H Q I h
 exact UnaryOp_ (thn (ha pins s σ H _ I h) fun v s1 ⟨x,H1,I1,r1,q1⟩=>ho pins s1 σ H1 x v Q I1 r1 q1)
theorem opI{f:Value->Value->Sem Value}{C:Int->Int->Prop}{g:Int->Int->Int}
  (rule:∀(i j:Int)(t u:Tok)(s:Shared)(Q:Value->Shared->Prop)(E:Value->Shared->Prop),C i j->Q (.int (g i j) s.toks) {s with toks:=s.toks+1}->wpAny (model X.prog X.w) X.A (f (.int i t) (.int j u)) Q E s):
  OpR X f (rI C fun i j=>.int (g i j)):=by
 intro pins s σ H x y v u Q I rx ry h
 obtain⟨i,j,rfl,rfl,hc,q⟩:=h
 obtain⟨t,rfl⟩:=rx
 obtain⟨t',rfl⟩:=ry
 exact rule i j t t' s _ _ hc ⟨.int (g i j),H,I.tok _,⟨_,rfl⟩,q⟩
theorem opI0{f:Value->Value->Sem Value}{g:Int->Int->Int}
  (rule:∀(i j:Int)(t u:Tok)(s:Shared)(Q:Value->Shared->Prop)(E:Value->Shared->Prop),Q (.int (g i j) s.toks) {s with toks:=s.toks+1}->wpAny (model X.prog X.w) X.A (f (.int i t) (.int j u)) Q E s):
  OpR X f (rI0 fun i j=>.int (g i j)):=by
 intro pins s σ H x y v u Q I rx ry h
 obtain⟨i,j,rfl,rfl,q⟩:=h
 obtain⟨t,rfl⟩:=rx
 obtain⟨t',rfl⟩:=ry
 exact rule i j t t' s _ _ ⟨.int (g i j),H,I.tok _,⟨_,rfl⟩,q⟩
theorem opB0{f:Value->Value->Sem Value}{g:Int->Int->Bool}
  (rule:∀(i j:Int)(t u:Tok)(s:Shared)(Q:Value->Shared->Prop)(E:Value->Shared->Prop),Q (.bool (g i j)) s->wpAny (model X.prog X.w) X.A (f (.int i t) (.int j u)) Q E s):
  OpR X f (rI0 fun i j=>.bl (g i j)):=by
 intro pins s σ H x y v u Q I rx ry h
 obtain⟨i,j,rfl,rfl,q⟩:=h
 obtain⟨t,rfl⟩:=rx
 obtain⟨t',rfl⟩:=ry
 exact rule i j t t' s _ _ ⟨.bl (g i j),H,I,rfl,q⟩
def CDiv(i j:Int):Prop:=0<j/\j<1073741824
def CMul(i j:Int):Prop:=(-(2 ^ 64)<i/\i<2 ^ 64)∨(-(2 ^ 64)<j/\j<2 ^ 64)
theorem CMul.ok{i j:Int}(h:CMul i j):IntMulOk i j:=by
 rcases h with⟨h1,h2⟩|⟨h1,h2⟩
 ·exact .of_left (intBits_le_64 h1 h2)
 ·exact .of_right (intBits_le_64 h1 h2)
theorem kbe:OpR X (binaryOp .Add) (rI0 fun i j=>.int (i+j)):=opI0 fun _ _ _ _ _ _ _ q=>add_int q
theorem kgA:OpR X (binaryOp .Sub) (rI0 fun i j=>.int (i-j)):=opI0 fun _ _ _ _ _ _ _ q=>sub_int q
theorem keM:OpR X (binaryOp .Mult) (rI CMul fun i j=>.int (i*j)):=opI fun _ _ _ _ _ _ _ hc q=>mul_int q hc.ok
theorem kaI:OpR X (binaryOp .FloorDiv) (rI CDiv fun i j=>.int (i/j)):=opI fun i j _ _ _ _ _ hc q=>by
 have h1:(0:Int)<j:=hc.1
 have h2:j<1073741824:=hc.2
 exact floordiv_int (by omega) (by rw[Int.fdiv_eq_ediv_of_nonneg i (by omega)];exact q) (.inl (PyProof.noPylong_small (by omega)))
theorem kaG:OpR X (binaryOp .Mod) (rI (fun _ j=>0<j) fun i j=>.int (i%j)):=opI fun i j _ _ _ _ _ hc q=>by
 have h1:(0:Int)<j:=hc
 exact mod_int' (by omega) (by rw[Int.fmod_eq_emod_of_nonneg i (by omega)];exact q)
theorem unI{f:Value->Sem Value}{g:Int->Int}
  (rule:∀(i:Int)(t:Tok)(s:Shared)(Q:Value->Shared->Prop)(E:Value->Shared->Prop),Q (.int (g i) s.toks) {s with toks:=s.toks+1}->wpAny (model X.prog X.w) X.A (f (.int i t)) Q E s):
  UnR X f (rU fun i=>.int (g i)):=by
 intro pins s σ H x v Q I rx h
 obtain⟨i,rfl,q⟩:=h
 obtain⟨t,rfl⟩:=rx
 exact rule i t s _ _ ⟨.int (g i),H,I.tok _,⟨_,rfl⟩,q⟩
theorem kh0:UnR X (unaryOp .USub) (rU fun i=>.int (-i)):=unI fun _ _ _ _ _ q=>neg_int q
end
noncomputable def scal:V->V->Bool
 | .non, .non=>true| .non, .int _=>true| .int _, .non=>true| .non, .bl _=>true| .bl _, .non=>true| .non, .str _=>true| .str _, .non=>true
 | .int _, .int _=>true| .bl _, .bl _=>true| .str _, .str _=>true| .byt _, .byt _=>true
 | .int _, .str _=>true| .str _, .int _=>true| .bl _, .str _=>true| .str _, .bl _=>true
 |_,_=>false
def rEq:R2:=fun x y H Q=>scal x y=true/\Q (.bl (decide (x=y))) H
def rNe:R2:=fun x y H Q=>scal x y=true/\Q (.bl (!decide (x=y))) H
def khP{i j:Int}:decide (V.int i=V.int j)=(i==j):=by
 rw[Ed]
 simp
def kl8{i j:Bool}:decide (V.bl i=V.bl j)=(i==j):=by
 rw[Ed]
 simp
def kkr{i j:Str}:decide (V.str i=V.str j)=(i==j):=by
 rw[Ed]
 simp
def kks{i j:Array UInt8}:decide (V.byt i=V.byt j)=(i.toList==j.toList):=by
 rw[Ed]
 cases i
 cases j
 simp
section
variable {X:Cx} {a b c:Expr} {ta tb tc:TE} {pos:Pos}
theorem kaT{pins:List (Addr×Obj)}{σ:St}{H:Hp}{s:Shared}{Q:VK}{k k':Bool}(I:Inv X pins σ H s)(q:Q (.bl k) H)(e:k=k'):EP X pins σ Q (.bool k') s:=by
 subst e
 exact⟨.bl k,H,I,rfl,q⟩
theorem op_eq:OpR X (compareOp .Eq) rEq:=by
 intro pins s σ H x y v u Q I rx ry h
 obtain⟨hs,q⟩:=h
 cases x with
 |non=>
  cases rx
  cases y with
  |non=>cases ry;exact PySem.EqNone.eq_none_none (kaT I q (by simp))
  |bl j=>cases ry;exact PySem.EqNone.eq_none_bool (kaT I q (by simp))
  |int j=>obtain⟨t',rfl⟩:=ry;exact PySem.EqNone.eq_none_int (kaT I q (by simp))
  |str j=>obtain⟨t',rfl⟩:=ry;exact PySem.EqNone.eq_none_str (kaT I q (by simp))
  |_=>exact absurd (show false=true from hs) NB
 |bl i=>
  cases rx
  cases y with
  |non=>cases ry;exact PySem.EqNone.eq_bool_none (kaT I q (by simp))
  |bl j=>cases ry;exact eq_bool (kaT I q kl8)
  |str j=>obtain⟨t',rfl⟩:=ry;exact PySem.EqMixed.eq_bool_str (kaT I q (by simp))
  |_=>exact absurd (show false=true from hs) NB
 |int i=>
  obtain⟨t,rfl⟩:=rx
  cases y with
  |non=>cases ry;exact PySem.EqNone.eq_int_none (kaT I q (by simp))
  |int j=>obtain⟨t',rfl⟩:=ry;exact eq_int (kaT I q khP)
  |str j=>obtain⟨t',rfl⟩:=ry;exact PySem.EqMixed.eq_int_str (kaT I q (by simp))
  |_=>exact absurd (show false=true from hs) NB
 |str i=>
  obtain⟨t,rfl⟩:=rx
  cases y with
  |non=>cases ry;exact PySem.EqNone.eq_str_none (kaT I q (by simp))
  |bl j=>cases ry;exact PySem.EqMixed.eq_str_bool (kaT I q (by simp))
  |int j=>obtain⟨t',rfl⟩:=ry;exact PySem.EqMixed.eq_str_int (kaT I q (by simp))
  |str j=>obtain⟨t',rfl⟩:=ry;exact eq_str (kaT I q kkr)
  |_=>exact absurd (show false=true from hs) NB
 |byt i=>
  obtain⟨t,rfl⟩:=rx
  cases y with
  |byt j=>obtain⟨t',rfl⟩:=ry;exact PySem.W.eq_bytes (kaT I q kks)
  |_=>exact absurd (show false=true from hs) NB
 |_=>cases y <;> exact absurd (show false=true from hs) NB
theorem op_ne:OpR X (compareOp .NotEq) rNe:=by
 intro pins s σ H x y v u Q I rx ry h
 obtain⟨hs,q⟩:=h
 cases x with
 |non=>
  cases rx
  cases y with
  |non=>cases ry;exact PySem.EqNone.ne_none_none (kaT I q (by simp))
  |bl j=>cases ry;exact PySem.EqNone.ne_none_bool (kaT I q (by simp))
  |int j=>obtain⟨t',rfl⟩:=ry;exact PySem.EqNone.ne_none_int (kaT I q (by simp))
  |str j=>obtain⟨t',rfl⟩:=ry;exact PySem.EqNone.ne_none_str (kaT I q (by simp))
  |_=>exact absurd (show false=true from hs) NB
 |bl i=>
  cases rx
  cases y with
  |non=>cases ry;exact PySem.EqNone.ne_bool_none (kaT I q (by simp))
  |bl j=>cases ry;exact ne_bool (kaT I q (congrArg not kl8))
  |str j=>obtain⟨t',rfl⟩:=ry;exact PySem.EqMixed.ne_bool_str (kaT I q (by simp))
  |_=>exact absurd (show false=true from hs) NB
 |int i=>
  obtain⟨t,rfl⟩:=rx
  cases y with
  |non=>cases ry;exact PySem.EqNone.ne_int_none (kaT I q (by simp))
  |int j=>obtain⟨t',rfl⟩:=ry;exact ne_int (kaT I q (congrArg not khP))
  |str j=>obtain⟨t',rfl⟩:=ry;exact PySem.EqMixed.ne_int_str (kaT I q (by simp))
  |_=>exact absurd (show false=true from hs) NB
 |str i=>
  obtain⟨t,rfl⟩:=rx
  cases y with
  |non=>cases ry;exact PySem.EqNone.ne_str_none (kaT I q (by simp))
  |bl j=>cases ry;exact PySem.EqMixed.ne_str_bool (kaT I q (by simp))
  |int j=>obtain⟨t',rfl⟩:=ry;exact PySem.EqMixed.ne_str_int (kaT I q (by simp))
  |str j=>obtain⟨t',rfl⟩:=ry;exact ne_str (kaT I q (congrArg not kkr))
  |_=>exact absurd (show false=true from hs) NB
 |byt i=>
  obtain⟨t,rfl⟩:=rx
  cases y with
  |byt j=>obtain⟨t',rfl⟩:=ry;exact PySem.W.ne_bytes (kaT I q (congrArg not kks))
  |_=>exact absurd (show false=true from hs) NB
 |_=>cases y <;> exact absurd (show false=true from hs) NB
theorem op_lt:OpR X (compareOp .Lt) (rI0 fun i j=>.bl (decide (i<j))):=opB0 fun _ _ _ _ _ _ _ q=>lt_int q
theorem op_gt:OpR X (compareOp .Gt) (rI0 fun i j=>.bl (decide (j<i))):=opB0 fun _ _ _ _ _ _ _ q=>gt_int q
theorem kcg:OpR X (compareOp .Is) (fun x y H Q=>y=.non/\Q (.bl (decide (x=.non))) H):=by
 intro pins s σ H x y v u Q I rx ry h
 obtain⟨rfl,q⟩:=h
 cases ry
 refine is_none_gen (kaT I q ?_)
 cases x <;> first
  |(cases rx;rfl)
  |(obtain⟨t,rfl⟩:=rx;rfl)
theorem kb6:OpR X (compareOp .IsNot) (fun x y H Q=>y=.non/\Q (.bl (!decide (x=.non))) H):=by
 intro pins s σ H x y v u Q I rx ry h
 obtain⟨rfl,q⟩:=h
 cases ry
 refine isnot_none_gen (kaT I q ?_)
 cases x <;> first
  |(cases rx;rfl)
  |(obtain⟨t,rfl⟩:=rx;rfl)
theorem OpR.or{f:Value->Value->Sem Value}{r r':R2}(h:OpR X f r)(h':OpR X f r'):OpR X f (fun x y H Q=>r x y H Q∨r' x y H Q):=by
 intro pins s σ H x y v u Q I rx ry q
 rcases q with q|q
 ·exact h pins s σ H x y v u Q I rx ry q
 ·exact h' pins s σ H x y v u Q I rx ry q
theorem kaw(b:Expr){op:CmpOp}(h:op≠.In:=by decide)(h2:op≠.NotIn:=by decide):behindInMarks op b=false:=by
 have e1:(op==CmpOp.In)=false:=by cases op <;> first|rfl|exact absurd rfl h
 have e2:(op==CmpOp.NotIn)=false:=by cases op <;> first|rfl|exact absurd rfl h2
 cases b <;> simp[behindInMarks,e1,e2]
theorem kbP{op:CmpOp}{r:R2}(ho:OpR X (compareOp op) r)(ha:PE X a ta)(hb:PE X b tb)(hm:behindInMarks op b=false):PE X (.Compare a [op] [b] pos) (tOp r ta tb):=by
 intro pins s σ H Q I h
 exact wpAny_Compare1 (binT ha hb I h fun v u s2 x y H2 I2 rx ry q=>ho pins s2 σ H2 x y v u Q I2 rx ry q) hm
def tTest(t:TE):TT:=fun σ H Q=>t σ H fun x H'=>∃k,x=.bl k/\Q k H'
theorem kar{op:CmpOp}{r:R2}(ho:OpR X (compareOp op) r)(ha:PE X a ta)(hb:PE X b tb)(hm:behindInMarks op b=false):PT X (.Compare a [op] [b] pos) (tTest (tOp r ta tb)):=by
 intro pins s σ H Q I h
 refine wpAny_isTrue_Compare1 (thn (ha pins s σ H _ I h) fun v s1 ⟨x,H1,I1,r1,q1⟩=>thn (hb pins s1 σ H1 _ I1 q1) fun u s2 ⟨y,H2,I2,r2,q2⟩=>
  thn (ho pins s2 σ H2 x y v u _ I2 r1 r2 q2) fun c s3 ⟨z,H3,I3,r3,k,e,q3⟩=>?_) hm
 subst e
 cases r3
 exact wpAny_truthy_bool ⟨H3,I3,q3⟩
theorem kgT:(sizeLine:Nat)<2 ^ 63:=by rw[sizeLine_eq];decide
theorem vals1{x:V}{us:List Value}(r:Vals [x] us):∃u,us=[u]/\RelV x u:=by
 cases r with
 |cons r1 r2=>cases r2;exact⟨_,rfl,r1⟩
theorem vals2{x y:V}{us:List Value}(r:Vals [x,y] us):∃u w',us=[u,w']/\RelV x u/\RelV y w':=by
 cases r with
 |cons r1 r2=>
  cases r2 with
  |cons r3 r4=>cases r4;exact⟨_,_,rfl,r1,r3⟩
theorem kkG(hc:X.calm=true):CallR X (.builtin "max") (fun xs H Q=>∃i j,xs=[.int i, .int j]/\Q (.int (if j > i then j else i)) H):=by
 intro pins s σ H xs us Q I r h
 obtain⟨i,j,rfl,q⟩:=h
 obtain⟨u,w',rfl,⟨t,rfl⟩,⟨t',rfl⟩⟩:=vals2 r
 refine max_two_ints (I.ok.hd hc) fun h' tk k=>⟨_,H,I.kept k,?_,q⟩
 by_cases hj:j > i
 ·rw[if_pos hj,if_pos hj];exact⟨_,rfl⟩
 ·rw[if_neg hj,if_neg hj];exact⟨_,rfl⟩
theorem kg4(hc:X.calm=true):CallR X (.builtin "min") (fun xs H Q=>∃i j,xs=[.int i, .int j]/\Q (.int (if j<i then j else i)) H):=by
 intro pins s σ H xs us Q I r h
 obtain⟨i,j,rfl,q⟩:=h
 obtain⟨u,w',rfl,⟨t,rfl⟩,⟨t',rfl⟩⟩:=vals2 r
 refine min_two_ints (I.ok.hd hc) fun h' tk k=>⟨_,H,I.kept k,?_,q⟩
 by_cases hj:j<i
 ·rw[if_pos hj,if_pos hj];exact⟨_,rfl⟩
 ·rw[if_neg hj,if_neg hj];exact⟨_,rfl⟩
theorem kg3:CallR X (.type "str") (fun xs H Q=>∃i,xs=[.int i]/\i.natAbs.log2<1920/\Q (.str (toString i)) H):=by
 intro pins s σ H xs us Q I r h
 obtain⟨i,rfl,hz,q⟩:=h
 obtain⟨u,rfl,t,rfl⟩:=vals1 r
 exact PySem.P.str_of_int hz ⟨.str _,H,I.tok _,⟨_,rfl⟩,q⟩
end
end L2
namespace L2
open PySem PySem.Spec PyProof.Rows
structure ObjM (h:Heap) (x dx C:Addr) (mA:Str->Option Value):Prop where
 obj:h.get? x=some (MN C dx)
 ns:h.Ns1 dx mA
 ne:dx≠x
noncomputable def kj4{h:Heap}{dx:Addr}{mA:Str->Option Value}(n:h.Ns1 dx mA):∃od,h.get? dx=some od/\∀name,Ex name od=some (mA name):=by
 obtain⟨o,es,ep,ho,hd,hk,_,hm⟩:=n
 refine⟨o,ho,fun name=>?_⟩
 have e:=hm name
 unfold nsFind findBy at e
 rw[<-Array.find?_toList] at e
 unfold Ex
 rw[hd]
 dsimp only
 split
 ·rename_i y q
  rw[q] at e
  exact congrArg some e
 ·rename_i q
  rw[q] at e
  have a:es.toList.any (·.refKey)=false:=by
   rw[List.any_eq_false]
   intro y hy
   obtain⟨z,t,hkey⟩:=hk y (Array.mem_toList_iff.mp hy)
   simp[DictEntry.refKey,hkey]
  have a':¬es.toList.any (·.refKey)=true:=by rw[a];exact NB
  rw[if_neg a']
  exact congrArg some e
noncomputable def ObjM.look{h:Heap}{x dx C:Addr}{mA:Str->Option Value}(I:ObjM h x dx C mA):∃od,PySem.W.InstAt h x (MN C dx) C (some od)/\∀name,Ex name od=some (mA name):=
 let⟨od,ho,hl⟩:=kj4 I.ns
 ⟨od,⟨I.obj,rfl,rfl,ho⟩,hl⟩
section
variable {prog:Program} {w:World} {A:Around} {E:Value->Shared->Prop} {s:Shared} {K:Nr} {x dx C f:Addr} {mA:Str->Option Value} {name:Str} {v:Value}
theorem get_map{expr:Bool}{Q:Value->Shared->Prop}(X:K.In s.heap)(I:ObjM s.heap x dx C mA)(hg:N8 K C name=true)(hh:Mb K C=true)
  (ha:Nv K (.ref C) name=some none) (hv:mA name=some v) (hv':PySem.W.handedIn v=true) (h:Q v {s with toks:=s.toks+1}):
  wpAny (model prog w) A (getAttr (.ref x) name expr) Q E s:=by
 obtain⟨od,J,hl⟩:=I.look
 exact PySem.W.get_value X J (E3 hg).1 (PySem.W.findObj_own hh ha rfl (by rw[hl,hv])) hv' h
theorem kln{pl:Sem Bool}{Q:Value×List Value->Shared->Prop}(X:K.In s.heap)(I:ObjM s.heap x dx C mA)(hg:N8 K C name=true)
  (hf:Nv K (.ref C) name=some (some (.ref f))) (ht:Me K (.ref f)=true) (hv:mA name=none) (h:Q (.ref f,[.ref x]) s):
  wpAny (model prog w) A (getMethod (.ref x) name pl) Q E s:=by
 obtain⟨od,J,hl⟩:=I.look
 exact PySem.W.method_fn X J (E3 hg).1 (E3 hg).2 hf (beq_iff_eq.mp ht) (by show(Ex name od).map (·.isSome)=some false;rw[hl,hv];rfl) h
theorem kmn{ns:List Str}{Q:Unit->Shared->Prop}(X:K.In s.heap)(I:ObjM s.heap x dx C mA)
  (hs:Nv K (.ref C) "__setattr__"=some (some (.builtin "object.__setattr__"))) (hp:Mf K C=true) (ht:E4 K C name=some none) (hh:Mb K C=true)
  (hw:PySem.Within mA ns) (hsz:ns.length<=sizeLine)
  (h:∀h',ObjM h' x dx C (fun y=>if y=name then some v else mA y)->Heap.SameBut dx s.heap h'->Q () {s with heap:=h',toks:=s.toks+2}):
  wpAny (model prog w) A (setAttr (.ref x) name v) Q E s:=by
 obtain⟨od,J,hl⟩:=I.look
 refine PySem.W.set_plain X J hs (PySem.W.osa_open (s:={s with toks:=s.toks+1}) (r:=none) X J hp ht fun b=>?_)
 obtain⟨cd,hc,hd'⟩:=PySem.W.any_some hh
 have hx:s.heap.get? x=some ⟨.ref C,some dx, .plain,#[]⟩:=I.obj
 refine wpAny_bind (wpAny_pure (wpAny_bind (wpAny_bind (wpAny_loadPart hx (wpAny_bind (PySem.W.Looks.here (s:={s with toks:=s.toks+1}) (PySem.W.looks_clsIn X hc) ?_))))))
 rw[hd']
 refine wpAny_pure (a:=some dx) (wpAny_bind (wpAny_pure (wpAny_bind ?_)))
 refine wpAny_nsSet1 (s:={s with toks:=s.toks+1}) I.ns fun h' hn2 hs2=>?_
 obtain⟨oD,esD,epD,hoD,hdD,hcD⟩:=hn2.count (PySem.Within.cons name v hw)
 refine wpAny_bind (wpAny_lookBehind hoD (by rw[hdD];exact pastItsLine_dict (Nx hcD (by rw[NW];omega))) ?_)
 exact wpAny_pure (h _ ⟨(hs2.2 _ (Ne.symm I.ne)).trans I.obj,hn2,I.ne⟩ hs2)
theorem kld{R:Result->Shared->Prop}{vs:List Value}{kw:List (Str×Value)}(X:K.In s.heap)(hm:Mc K C=true)
  (hi:Nv K (.ref C) "__init__"=some (some (.ref f))) (hf:N9 K (.ref f)=some (.type "function"))
  (h:codeAny (model prog w) (A.under (.builtin "type.__call__" ⟨.ref C::vs,kw⟩)) (.call (.ref f) ⟨.ref (s.heap.objs.size+1)::vs,kw⟩) (PySem.W.InitBack (s.heap.objs.size+1) R)
   {s with heap:=(s.heap.push MH).push (MN C s.heap.objs.size)}):
  codeAny (model prog w) A (.call (.ref C) ⟨vs,kw⟩) R s:=by
 obtain⟨hh,g,d,t,os⟩:=s
 exact PySem.W.make_core (PySem.W.makes_of X hm) (PySem.W.looks_findIn X hi) (fun self=>PySem.W.bind_fn X self hf) (.inl rfl) h
end
def putF(f:Str)(v:V):List (Str×V)->List (Str×V)
 |[]=>[(f,v)]
 |(g,x)::r=>if g=f then(g,v)::r else(g,x)::putF f v r
theorem kab(f g:Str)(v:V):∀fs:List (Str×V),(putF f v fs).lookup g=if g=f then some v else fs.lookup g
 | []=>by
  show Ms g [(f,v)]=_
  by_cases h:g=f
  ·have hb:(g==f)=true:=beq_iff_eq.mpr h
   simp only[Ms,hb,if_pos h]
  ·have hb:(g==f)=false:=beq_eq_false_iff_ne.mpr h
   simp only[Ms,hb,if_neg h]
 | (k,x)::r=>by
  have ih:=kab f g v r
  rw[show putF f v ((k,x)::r)=(if k=f then(k,v)::r else(k,x)::putF f v r) from rfl]
  by_cases hk:k=f
  ·rw[if_pos hk]
   by_cases h:g=k
   ·have hb:(g==k)=true:=beq_iff_eq.mpr h
    simp only[Ms,hb,if_pos (h.trans hk)]
   ·have hb:(g==k)=false:=beq_eq_false_iff_ne.mpr h
    simp only[Ms,hb,if_neg (fun e:g=f=>h (e.trans hk.symm))]
  ·rw[if_neg hk]
   by_cases h:g=k
   ·have hb:(g==k)=true:=beq_iff_eq.mpr h
    simp only[Ms,hb,if_neg (fun e:g=f=>hk (h.symm.trans e))]
   ·have hb:(g==k)=false:=beq_eq_false_iff_ne.mpr h
    simp only[Ms,hb]
    exact ih
theorem keY(f:Str)(v:V):∀fs:List (Str×V),f∈(putF f v fs).map (·.1)/\∀g,g∈fs.map (·.1)->g∈(putF f v fs).map (·.1)
 |[]=>⟨by simp[putF],fun g h=>by simp at h⟩
 | (k,x)::r=>by
  obtain⟨i1,i2⟩:=keY f v r
  rw[show putF f v ((k,x)::r)=(if k=f then(k,v)::r else(k,x)::putF f v r) from rfl]
  by_cases hk:k=f
  ·rw[if_pos hk]
   subst hk
   exact⟨by simp,fun g h=>by simpa using h⟩
  ·rw[if_neg hk]
   refine⟨?_,fun g h=>?_⟩
   ·rw[NJ]
    exact NR _ i1
   ·rw[NJ] at h⊢
    rcases NS.mp h with e|e
    ·exact NS.mpr (.inl e)
    ·exact NR _ (i2 g e)
theorem keW(f:Str)(v:V):∀fs:List (Str×V),(putF f v fs).length<=fs.length+1
 |[]=>by simp[putF]
 |(k,x)::r=>by
  have ih:=keW f v r
  rw[show putF f v ((k,x)::r)=(if k=f then(k,v)::r else(k,x)::putF f v r) from rfl]
  by_cases hk:k=f
  ·rw[if_pos hk,NW,NW];omega
  ·rw[if_neg hk,NW,NW];omega
theorem RelO.some_of{v:V}{o:Option Value}(r:RelO (some v) o):∃u,o=some u/\RelV v u:=by
 cases o with
 |none=>exact(show False from r).elim
 |some u=>exact⟨u,rfl,r⟩
theorem RelO.none_of{o:Option Value}(r:RelO none o):o=none:=by
 cases o with
 |none=>rfl
 |some u=>exact(show False from r).elim
theorem kkf{v:V}{u:Value}(r:RelV v u):PySem.W.handedIn u=true:=by
 cases v with
 |non=>cases(show u=Value.none from r);rfl
 |bl b=>cases(show u=Value.bool b from r);rfl
 |int i=>obtain⟨t,e⟩:=(show ∃t,u=Value.int i t from r);cases e;rfl
 |str x=>obtain⟨t,e⟩:=(show ∃t,u=Value.str x t from r);cases e;rfl
 |byt b=>obtain⟨t,e⟩:=(show ∃t,u=Value.bytes b t from r);cases e;rfl
 |flt b=>obtain⟨t,e⟩:=(show ∃t,u=Value.float b t from r);cases e;rfl
 |ref a=>cases(show u=Value.ref a from r);rfl
 |ty n=>cases(show u=Value.type n from r);rfl
section
variable {P:Program} {w:World} {H H':Hp} {h h':Heap} {a C dx:Addr} {fs fs':List (Str×V)}
theorem kf6(hok:HOk P w H h)(e:H a=some (.ins C dx fs)):∃mA,ObjM h a dx C mA/\(∀f,RelO (fs.lookup f) (mA f))/\PySem.Within mA (fs.map (·.1))/\fs.length<=1000/\H dx=some (.own a):=by
 obtain⟨d,z,ne,ob,mA,n,r,q⟩:=(show ObjOk P w H h a (.ins C dx fs) from hok a _ e)
 exact⟨mA,⟨ob,n,ne⟩,r,q,z,d⟩
end
structure Cls (K:Nr) (C:Addr):Prop where
 pg:N8 K C Str.empty=true
 hd:Mb K C=true
 po:Mf K C=true
 sa:Nv K (.ref C) "__setattr__"=some (some (.builtin "object.__setattr__"))
def Cls.get{K:Nr}{C:Addr}(c:Cls K C)(f:Str):N8 K C f=true:=c.pg
def NoAttr(K:Nr)(C:Addr)(f:Str):Prop:=Nv K (.ref C) f=some none
noncomputable def NoAttr.taker{K:Nr}{C:Addr}{f:Str}(n:NoAttr K C f):E4 K C f=some none:=by
 unfold E4
 rw[show Nv K (.ref C) f=some none from n]
 rfl
structure Meth (K:Nr) (C:Addr) (m:Str) (f:Addr):Prop where
 at_:Nv K (.ref C) m=some (some (.ref f))
 fn:Me K (.ref f)=true
 kp:NH K (.ref f)=true
section
variable {X:Cx} {pins:List (Addr×Obj)} {σ:St} {H:Hp} {s:Shared} {a C dx:Addr} {fs:List (Str×V)} {f:Str} {v:V} {A:Around} {E:Value->Shared->Prop}
theorem ki0{b:Bool}{Q:Value->Shared->Prop}(I:Inv X pins σ H s)(e:H a=some (.ins C dx fs))(c:Cls X.K C)(n:NoAttr X.K C f)(l:fs.lookup f=some v)
  (h:∀u s',Inv X pins σ H s'->RelV v u->Q u s'):wpAny (model X.prog X.w) A (getAttr (.ref a) f b) Q E s:=by
 obtain⟨mA,O,r,_,_,_⟩:=kf6 I.hok e
 obtain⟨u,hu,ru⟩:=RelO.some_of (v:=v) (o:=mA f) (by rw[<-l];exact r f)
 exact get_map I.kIn O (c.get f) c.hd n hu (kkf ru) (h u _ (I.tok _) ru)
theorem kfv{m:Str}{g:Addr}{pl:Sem Bool}{Q:Value×List Value->Shared->Prop}(I:Inv X pins σ H s)(e:H a=some (.ins C dx fs))(c:Cls X.K C)(k:Meth X.K C m g)(l:fs.lookup m=none)
  (h:Q (.ref g,[.ref a]) s):wpAny (model X.prog X.w) A (getMethod (.ref a) m pl) Q E s:=by
 obtain⟨mA,O,r,_,_,_⟩:=kf6 I.hok e
 have hn:mA m=none:=RelO.none_of (by rw[<-l];exact r m)
 exact kln I.kIn O (c.get m) k.at_ k.fn hn h
theorem kiN{y:V}{u:Value}{Q:Unit->Shared->Prop}(I:Inv X pins σ H s)(e:H a=some (.ins C dx fs))(c:Cls X.K C)(n:NoAttr X.K C f)(hl:fs.length<1000)(ry:RelV y u)
  (h:∀s',Inv X pins σ (upd H a (.ins C dx (putF f y fs))) s'->Q () s'):wpAny (model X.prog X.w) A (setAttr (.ref a) f u) Q E s:=by
 obtain⟨mA,O,r,wi,_,ho⟩:=kf6 I.hok e
 have hz:(fs.map (·.1)).length<=sizeLine:=by rw[Nq,sizeLine_eq];omega
 refine kmn I.kIn O c.sa c.po n.taker c.hd wi hz fun h' O' sb=>h _ ?_
 have hd:∃o,h'.get? dx=some o:=let⟨o,_,_,e',_⟩:=O'.ns;⟨o,e'⟩
 refine I.write (x:=a) (e:=dx) (by rw[e];exact True.intro) (.inr ho) (fun b q hb z=>(sb.2 b hb).trans z) hd ?_
 refine⟨by rw[kaj O.ne];exact ho,?_,O.ne,O'.obj,_,O'.ns,fun g=>?_,fun g hg=>?_⟩
 ·have:=keW f y fs;omega
 ·show RelO ((putF f y fs).lookup g) (if g=f then some u else mA g)
  rw[kab]
  by_cases q:g=f
  ·rw[if_pos q,if_pos q];exact ry
  ·rw[if_neg q,if_neg q];exact r g
 ·by_cases q:g=f
  ·rw[q];exact(keY f y fs).1
  ·refine(keY f y fs).2 g (wi g fun z=>hg ?_)
   show(if g=f then some u else mA g)=none
   rw[if_neg q];exact z
theorem Inv.made(I:Inv X pins σ H s):Inv X pins σ (upd (upd H s.heap.objs.size (.own (s.heap.objs.size+1))) (s.heap.objs.size+1) (.ins C s.heap.objs.size []))
  {s with heap:=(s.heap.push MH).push (MN C s.heap.objs.size)}:=by
 have e1:(s.heap.push MH).get? s.heap.objs.size=some MH:=Heap.get?_push_size s.heap rfl
 have e2:((s.heap.push MH).push (MN C s.heap.objs.size)).get? (s.heap.objs.size+1)=some (MN C s.heap.objs.size):=by
  have:=Heap.get?_push_size (s.heap.push MH) (o:=MN C s.heap.objs.size) rfl
  rwa [Heap.size_push] at this
 have e3:(s.heap.push MH).Ns s.heap.objs.size (fun _=>none):=⟨MH,#[],_,e1,rfl,(fun e he=>absurd he (by simp)),fun _=>rfl⟩
 have I1:=I.laid (a:=s.heap.objs.size) (o:=.own (s.heap.objs.size+1)) (h':=s.heap.push MH) (t':=s.toks) (fun b u q=>Heap.get?_push_of_some _ q) (Nt _) ⟨_,e1⟩
 refine I1.laid (a:=s.heap.objs.size+1) (o:=.ins C s.heap.objs.size []) (t':=s.toks) (fun b u q=>Heap.get?_push_of_some _ q) (Ey (Heap.size_push _ _)) ?_
 have ne:s.heap.objs.size≠s.heap.objs.size+1:=NU (E5 _)
 refine⟨by rw[kaj ne,kad],N1 _,ne,e2,fun _=>none,(Heap.Ns1.of_empty e3).at fun o q=>Heap.get?_push_of_some _ q,fun _=>True.intro,fun y hy=>absurd rfl hy⟩
theorem kmX{prog:Program}{w:World}{env:Env}{e:Expr}{f:Str}{pos:Pos}{s:Shared}{Q:Value->Shared->Prop}(hb:attributeBase e f env (eval e env)=eval e env)
  (h:wpAny (model prog w) A (eval e env) (fun o s₁=>wpAny (model prog w) A (getAttr o f true) Q E s₁) E s):wpAny (model prog w) A (eval (.Attribute e f pos) env) Q E s:=
 Attribute_any_ h (by rw[arm_eval_Attribute,hb])
end
noncomputable def tFld(K:Nr)(ta:TE)(f:Str):TE:=fun σ H Q=>ta σ H fun x H1=>∃a C dx fs v,x=.ref a/\H1 a=some (.ins C dx fs)/\Cls K C/\NoAttr K C f/\fs.lookup f=some v/\Q v H1
noncomputable def sFld(K:Nr)(ta tv:TE)(f:Str):TS:=fun D σ H=>tv σ H fun y H1=>ta σ H1 fun x H2=>∃a C dx fs,x=.ref a/\H2 a=some (.ins C dx fs)/\Cls K C/\NoAttr K C f/\fs.length<1000/\
 D.nx σ (upd H2 a (.ins C dx (putF f y fs)))
section
variable {X:Cx} {o e value:Expr} {f:Str} {pos pos' tpos:Pos} {ta tv:TE}
theorem knh(he:PE X e ta)(hb:attributeBase e f X.env (eval e X.env)=eval e X.env):PE X (.Attribute e f pos) (tFld X.K ta f):=by
 intro pins s σ H Q I h
 refine kmX hb (thn (he pins s σ H _ I h) fun u s1 zz=>?_)
 obtain⟨x,H1,I1,rx,a,C,dx,fs,v,ex,ea,c,n,l,q⟩:=zz
 subst ex
 obtain rfl:u=Value.ref a:=rx
 exact ki0 I1 ea c n l fun u' s2 I2 ru=>⟨v,H1,I2,ru,q⟩
theorem kaH(ha:PE X o ta)(hv:PE X value tv)(hs:swapsWith value (some (.Attribute o f pos')) pos.line X.env=pure false):PS X (.Assign [.Attribute o f pos'] value pos) (sFld X.K ta tv f):=by
 intro pins s σ H D I h
 refine plainObj_wpAny_Assign_Attribute (thn (hv pins s σ H _ I h) fun u s1 ⟨y,H1,I1,ry,q⟩=>thn (ha pins s1 σ H1 _ I1 q) fun ov s2 zz=>?_) hs
 obtain⟨x,H2,I2,rx,a,C,dx,fs,ex,ea,c,n,l,q2⟩:=zz
 subst ex
 obtain rfl:ov=Value.ref a:=rx
 exact kiN I2 ea c n l ry fun s3 I3=>⟨σ,_,I3,q2⟩
end
section
variable {X:Cx} {pins:List (Addr×Obj)} {σ:St} {H:Hp} {s:Shared} {A:Around} {E:Value->Shared->Prop} {Q:Value->Shared->Prop} {c:Value} {b:Bool}
inductive TyOf (K:Nr) (H:Hp):V->Value->Prop where
 |non:TyOf K H .non (.type "NoneType")
 |bl (x:Bool):TyOf K H (.bl x) (.type "bool")
 |int (i:Int):TyOf K H (.int i) (.type "int")
 |str (x:Str):TyOf K H (.str x) (.type "str")
 |flt (x:UInt64):TyOf K H (.flt x) (.type "float")
 |lst {a:Addr} {xs:List V} (e:H a=some (.lst xs)):TyOf K H (.ref a) (.type "list")
 |frz {a:Addr} {o:Obj} {xs:List V} (e:H a=some (.frz o (.lst xs))):TyOf K H (.ref a) (.type "list")
 |tup {a:Addr} {xs:List V} (e:H a=some (.tup xs)):TyOf K H (.ref a) (.type "tuple")
 |dK {a:Addr} {kvs:List (Key×V)} (e:H a=some (.dK kvs)):TyOf K H (.ref a) (.type "dict")
 |dT {a:Addr} {kvs:List (List Key×V)} (e:H a=some (.dT kvs)):TyOf K H (.ref a) (.type "dict")
 | ins {a C dx:Addr} {fs:List (Str×V)} (e:H a=some (.ins C dx fs)) (cl:Cls K C) (ha:Nv K (.ref C) "__class__"=some (some (.builtin "object.__class__")))
   (hn:Ee K (.builtin "object.__class__") "__get__"=some (some (.builtin "getset_descriptor.__get__"))) (htk:E6 K (.builtin "object.__class__")=some true)
   (hm:NA K C (.type "object")=some true):TyOf K H (.ref a) (.ref C)
theorem kkb{x:V}{u t:Value}(I:Inv X pins σ H s)(rx:RelV x u)(ty:TyOf X.K H x t)(e:NN X.K t c=some b)(h:∀tk,Q (.bool b) {s with toks:=tk}):
  wpAny (model X.prog X.w) A (call (.builtin "isinstance") [u,c]) Q E s:=by
 cases ty with
 |non=>cases(show u=Value.none from rx);exact Mt PySem.W.kitx_none I.kIn True.intro e (fun z=>nomatch z) h
 |bl y=>cases(show u=Value.bool y from rx);exact Mt PySem.W.kitx_bool I.kIn True.intro e (fun z=>nomatch z) h
 |int i=>obtain⟨t,q⟩:=(show ∃t,u=Value.int i t from rx);cases q;exact Mt PySem.W.kitx_int I.kIn True.intro e (fun z=>nomatch z) h
 |str y=>obtain⟨t,q⟩:=(show ∃t,u=Value.str y t from rx);cases q;exact Mt PySem.W.kitx_str I.kIn True.intro e (fun z=>nomatch z) h
 |flt y=>obtain⟨t,q⟩:=(show ∃t,u=Value.float y t from rx);cases q;exact Mt PySem.W.kitx_float I.kIn True.intro e (fun z=>nomatch z) h
 | @lst a xs ea=>
  cases(show u=Value.ref a from rx)
  obtain⟨_,_,n,_,h1⟩:=(show ObjOk X.prog X.w H s.heap a (.lst xs) from I.hok a _ ea)
  exact Mt PySem.W.kitx_list I.kIn ⟨_,h1,rfl⟩ e (fun z=>nomatch z) h
 | @frz a ob xs ea=>
  cases(show u=Value.ref a from rx)
  obtain⟨_,_,_,n,_,h1⟩:=(show ObjOk X.prog X.w H s.heap a (.frz ob (.lst xs)) from I.hok a _ ea)
  exact Mt PySem.W.kitx_list I.kIn ⟨_,h1,rfl⟩ e (fun z=>nomatch z) h
 | @tup a xs ea=>
  cases(show u=Value.ref a from rx)
  obtain⟨_,_,_,p⟩:=(show ObjOk X.prog X.w H s.heap a (.tup xs) from I.hok a _ ea)
  obtain⟨o,h1,h2,_⟩:=p
  exact Mt PySem.W.kitx_tuple I.kIn ⟨o,h1,h2⟩ e (fun z=>nomatch z) h
 | @dK a kvs ea=>
  cases(show u=Value.ref a from rx)
  obtain⟨_,_,vs,_,p⟩:=(show ObjOk X.prog X.w H s.heap a (.dK kvs) from I.hok a _ ea)
  obtain⟨o,es,ep,h1,h2,_⟩:=p
  exact Mt PySem.W.kitx_dict I.kIn ⟨o,h1,h2.1⟩ e (fun z=>nomatch z) h
 | @dT a kvs ea=>
  cases(show u=Value.ref a from rx)
  obtain⟨_,_,xs,_,o,es,ep,h1,h2,_⟩:=(show ObjOk X.prog X.w H s.heap a (.dT kvs) from I.hok a _ ea)
  exact Mt PySem.W.kitx_dict I.kIn ⟨o,h1,h2.1⟩ e (fun z=>nomatch z) h
 | @ins a C dx fs ea cl ha hn htk hm=>
  cases(show u=Value.ref a from rx)
  obtain⟨mA,O,_⟩:=kf6 I.hok ea
  obtain⟨od,J,_⟩:=O.look
  exact Mt (PySem.W.kitx_own (cl.get _) cl.hd ha hn htk hm) I.kIn J e (fun z=>nomatch z) h
end
end L2
namespace L2
open PySem PySem.Spec PyProof.Rows
structure Room (k:Nat) (A:Around):Prop where
 hd:A.handled=none
 dp:A.depth+3*k+5<recursionLimit
 un:A.units+16*k+200<cLine
def Room.mono{j k:Nat}{A:Around}(r:Room k A)(h:j<=k):Room j A:=⟨r.hd,by have:=r.dp;omega,by have:=r.un;omega⟩
noncomputable def Room.deeper{k:Nat}{A:Around}(r:Room (k+1) A)(env:Env):Room k (A.deeper env):=
 ⟨r.hd,by have:=r.dp;show A.depth+1+3*k+5<_;omega,by have:=r.un;show A.units+3+16*k+200<_;omega⟩
noncomputable def Room.in1{k:Nat}{A:Around}(r:Room (k+1) A):Room k A.in1:=
 ⟨r.hd,by have:=r.dp;show A.depth+3*k+5<_;omega,by have:=r.un;show A.units+1+16*k+200<_;omega⟩
noncomputable def kiX{A:Around}{C:Addr}{us:List Value}{kw:List (Str×Value)}:(A.under (.builtin "type.__call__" ⟨.ref C::us,kw⟩)).depth=A.depth+1:=by
 first|rfl|simp[Around.under,Code.weight,Code.isCreation,Code.isGuard,Code.isCaller,Code.frames,Code.isFrame,guardIds]
noncomputable def kiW{A:Around}{C:Addr}{us:List Value}{kw:List (Str×Value)}:(A.under (.builtin "type.__call__" ⟨.ref C::us,kw⟩)).units=A.units+1:=by
 first|rfl|simp[Around.under,Code.cUnits,Code.frames,Code.isFrame]
noncomputable def Room.make{k:Nat}{A:Around}(r:Room (k+1) A)(C:Addr)(us:List Value)(kw:List (Str×Value)):Room k (A.under (.builtin "type.__call__" ⟨.ref C::us,kw⟩)):=
 ⟨r.hd,by have:=r.dp;rw[kiX];omega,by have:=r.un;rw[kiW];omega⟩
def Room.depth{k:Nat}{A:Around}(r:Room k A):A.depth<recursionLimit:=by have:=r.dp;omega
def Room.units{k:Nat}{A:Around}(r:Room k A):A.units+64<cLine:=by have:=r.un;omega
def tNil:TA:=fun _ H Q=>Q [] H
def tCons(ta:TE)(tr:TA):TA:=fun σ H Q=>ta σ H fun x H1=>tr σ H1 fun xs H2=>Q (x::xs) H2
section
variable {X:Cx} {e:Expr} {es:List Expr} {te:TE} {t:TA} {pos:Pos}
theorem kae:PA X [] tNil:=fun _ _ _ _ H Q I h=>Calls.spliced_nil ⟨[],H,I, .nil,h⟩
theorem kaa(ha:PE X e te)(hr:PA X es t)(hs:starEach (e::es) X.env=(false,eval e X.env)::starEach es X.env:=by rfl):PA X (e::es) (tCons te t):=by
 intro pos pins s σ H Q I h
 rw[hs]
 show wpAny _ _ (spliced ((false,eval e X.env)::backTo pos (starEach es X.env))) _ _ s
 refine Calls.spliced_cons (thn (ha pins s σ H _ I h) fun u s1 zz=>?_)
 obtain⟨x,H1,I1,r1,q1⟩:=zz
 exact thn (hr pos pins s1 σ H1 _ I1 q1) fun us s2 ⟨xs,H2,I2,r2,q2⟩=>⟨x::xs,H2,I2, .cons r1 r2,q2⟩
def tTup(t:TA):TE:=fun σ H Q=>t σ H fun xs H1=>xs.length<=sizeLine/\∀p,H1 p=none->Q (.ref p) (upd H1 p (.tup xs))
def tLst(t:TA):TE:=fun σ H Q=>t σ H fun xs H1=>xs.length<=sizeLine/\∀p,H1 p=none->Q (.ref p) (upd H1 p (.lst xs))
theorem kbu{x1}(h:PA X es t):PE X (.Tuple es x1 pos) (tTup t):=by
 intro pins s σ H Q I hq
 refine wpAny_Tuple_spliced (thn (h pos pins s σ H _ I hq) fun us s1 ⟨xs,H1,I1,r,z,q⟩=>⟨by rw[<-r.length];exact z,?_⟩)
 have hf:H1 s1.heap.objs.size=none:=I1.hok.fresh (Nt _)
 refine⟨.ref s1.heap.objs.size,upd H1 s1.heap.objs.size (.tup xs),I1.laid (t':=s1.toks) (fun b u e=>Heap.get?_push_of_some _ e) (Nt _) ?_,rfl,q _ hf⟩
 exact⟨z,us,r,⟨_,Heap.get?_push_size _ rfl,rfl,_,rfl⟩⟩
theorem kaN(h:PA X es t):PE X (.List es pos) (tLst t):=by
 intro pins s σ H Q I hq
 refine wpAny_List_spliced (thn (h pos pins s σ H _ I hq) fun us s1 ⟨xs,H1,I1,r,z,q⟩=>⟨by rw[<-r.length];exact z,?_⟩)
 have hf:H1 s1.heap.objs.size=none:=I1.hok.fresh (Nt _)
 refine⟨.ref s1.heap.objs.size,upd H1 s1.heap.objs.size (.lst xs),I1.laid (t':=s1.toks) (fun b u e=>Heap.get?_push_of_some _ e) (Nt _) ?_,rfl,q _ hf⟩
 exact⟨z,us,0,r,Heap.get?_push_size _ rfl⟩
end
abbrev Sp:=List V->Hp->VK->XK->Prop
abbrev CXT:=List Env->Hp->Shared->XK->Value->Shared->Prop
structure Env0 (P:Program) (w:World) (K:Nr) (mg:Str->Option Value) (base:Heap) (A:Around) (outer:List Env) (s:Shared) (H:Hp):Prop where
 frames:A.frames=some outer
 mod:Mod K mg base
 bs:∀b o,base.get? b=some o->s.heap.get? b=some o/\H b=none
 bsz:base.objs.size<=s.heap.objs.size
 funs:s.heap.FunFrames base outer
 frf:∀b∈frs outer,H b=none
 hok:HOk P w H s.heap
 bare:AllBare s.gens
noncomputable def CE(outer:List Env)(P:Program)(w:World)(H:Hp)(s:Shared)(Q:VK)(u:Value)(s':Shared):Prop:=
 ∃v H',s'.os=s.os/\AllBare s'.gens/\Un (frs outer) [] H H' s.heap s'.heap/\HOk P w H' s'.heap/\RelV v u/\Q v H'
noncomputable def CR(CX:CXT)(outer:List Env)(P:Program)(w:World)(H:Hp)(s:Shared)(Q:VK)(E:XK)(r:Result)(s':Shared):Prop:=
 match r with
 | .ok (.ret u)=>CE outer P w H s Q u s'
 | .ok _=>False
 | .error e=>CX outer H s E e s'
structure FnOk (P:Program) (w:World) (K:Nr) (mg:Str->Option Value) (base:Heap) (CX:CXT) (k:Nat) (f:Addr) (fd:FuncData) (ps:List Str) (sp:Sp):Prop where
 len:∀vs H Q E,sp vs H Q E->vs.length=ps.length
 run:∀(A:Around)(outer:List Env)(s:Shared)(H:Hp)(args:Args)(us:List Value)(vs:List V)(Q:VK)(E:XK),Room k A->Env0 P w K mg base A outer s H->BindsTo s fd args (ps.zip us)->Vals vs us->sp vs H Q E->
  codeAny (model P w) A (.call (.ref f) args) (CR CX outer P w H s Q E) s
theorem FnOk.mono{P:Program}{w:World}{K:Nr}{mg:Str->Option Value}{base:Heap}{CX:CXT}{j k:Nat}{f:Addr}{fd:FuncData}{ps:List Str}{sp:Sp}(F:FnOk P w K mg base CX j f fd ps sp)(h:j<=k):
  FnOk P w K mg base CX k f fd ps sp:=⟨F.len,fun A outer s H args us vs Q E hr=>F.run A outer s H args us vs Q E (hr.mono h)⟩
theorem FnOk.imp{P:Program}{w:World}{K:Nr}{mg:Str->Option Value}{base:Heap}{CX:CXT}{k:Nat}{f:Addr}{fd:FuncData}{ps:List Str}{sp sp':Sp}(F:FnOk P w K mg base CX k f fd ps sp)
  (h:∀vs H Q E,sp' vs H Q E->sp vs H Q E):FnOk P w K mg base CX k f fd ps sp':=
 ⟨fun vs H Q E q=>F.len vs H Q E (h _ _ _ _ q),fun A outer s H args us vs Q E hr he hb hv hs=>F.run A outer s H args us vs Q E hr he hb hv (h _ _ _ _ hs)⟩
theorem Env0.make{P:Program}{w:World}{K:Nr}{mg:Str->Option Value}{base:Heap}{A:Around}{outer:List Env}{s:Shared}{H:Hp}(e:Env0 P w K mg base A outer s H)(C:Addr)(us:List Value)(kw:List (Str×Value)):
  Env0 P w K mg base (A.under (.builtin "type.__call__" ⟨.ref C::us,kw⟩)) outer s H:=⟨by first|exact e.frames|(simpa[Around.under,Code.envs,Code.isFrame,pushEnvs] using e.frames),e.mod,e.bs,e.bsz,e.funs,e.frf,e.hok,e.bare⟩
theorem Env0.in1{P:Program}{w:World}{K:Nr}{mg:Str->Option Value}{base:Heap}{A:Around}{outer:List Env}{s:Shared}{H:Hp}(e:Env0 P w K mg base A outer s H):
  Env0 P w K mg base A.in1 outer s H:=⟨e.frames,e.mod,e.bs,e.bsz,e.funs,e.frf,e.hok,e.bare⟩
section
variable {X:Cx} {pins:List (Addr×Obj)} {σ:St} {H:Hp} {s s':Shared}
theorem Inv.env0(I:Inv X pins σ H s):Env0 X.prog X.w X.K X.mg X.base X.A X.stack s H:=
 ⟨I.ok.frames,I.ok.mod,I.bs,Nx I.ok.bsz I.sz,I.stack,I.stkFree,I.hok,I.bare⟩
theorem Inv.after{Q:VK}{u:Value}(I:Inv X pins σ H s)(h:CE X.stack X.prog X.w H s Q u s'):EP X pins σ Q u s':=by
 obtain⟨v,H',os,bare,un,hok,r,q⟩:=h
 obtain⟨hh,g,d,t,os'⟩:=s'
 obtain rfl:os'=s.os:=os
 exact⟨v,H',I.call (h':=hh) (g':=g) (d':=d) (t':=t) (ch:=[]) un hok bare (fun b z=>absurd z (by simp)),r,q⟩
end
def tCall(sp:Sp)(dvs:List V)(E:XK)(t:TA):TE:=fun σ H Q=>t σ H fun vs H1=>sp (vs++dvs) H1 Q E
noncomputable def tMeth(C:Addr)(m:Str)(sp:Sp)(dvs:List V)(E:XK)(ta:TE)(t:TA):TE:=fun σ H Q=>ta σ H fun x H1=>∃a dx fs,x=.ref a/\H1 a=some (.ins C dx fs)/\fs.lookup m=none/\
 t σ H1 fun vs H2=>sp (x::(vs++dvs)) H2 Q E
noncomputable def tMake(C:Addr)(sp:Sp)(dvs:List V)(E:XK)(t:TA):TE:=fun σ H Q=>t σ H fun vs H1=>∀x dx,H1 x=none->H1 dx=none->dx≠x->
 sp (.ref x::(vs++dvs)) (upd (upd H1 dx (.own x)) x (.ins C dx [])) (fun v H2=>v=.non/\Q (.ref x) H2) E
noncomputable def Binds(K:Nr)(fd:FuncData)(ps:List Str)(ds:List Value):Prop:=
 ∀(s:Shared)(us:List Value),K.In s.heap->(us++ds).length=ps.length->BindsTo s fd ⟨us,[]⟩ (ps.zip (us++ds))
noncomputable def Binds.all{K:Nr}{fd:FuncData}{ps:List Str}(h:∀us:List Value,us.length=ps.length->bindArgs fd ⟨us,[]⟩=pure (ps.zip us)):Binds K fd ps []:=fun s us _ hl=>by
 rw[Ml] at hl⊢
 exact .of_eq (h us hl)
noncomputable def kdD(CX:CXT)(X:Cx)(E:XK):Prop:=∀(pins:List (Addr×Obj))(σ:St)(H:Hp)(s:Shared)(e:Value)(s':Shared),Inv X pins σ H s->CX X.stack H s E e s'->X.xe e s'
section
variable {X:Cx} {CX:CXT} {k:Nat} {f C:Addr} {fd:FuncData} {ps:List Str} {sp:Sp} {dvs:List V} {ds:List Value} {E:XK} {x m:Str} {p pos apos:Pos} {e o:Expr} {es:List Expr} {ta:TE} {t:TA}
theorem kgy{pins:List (Addr×Obj)}{σ:St}{H:Hp}{s:Shared}{Q:VK}{us:List Value}{vs:List V}(F:FnOk X.prog X.w X.K X.mg X.base CX k f fd ps sp)(hr:Room k X.A)(hb:Binds X.K fd ps ds)(hd:Vals dvs ds)(hx:kdD CX X E)
  (I:Inv X pins σ H s) (r:Vals vs us) (h:sp (vs++dvs) H Q E):wpAny (model X.prog X.w) X.A (call (.ref f) us) (EP X pins σ Q) X.xe s:=by
 have r2:Vals (vs++dvs) (us++ds):=r.append hd
 have hl:(us++ds).length=ps.length:=by rw[<-r2.length];exact F.len _ _ _ _ h
 refine wpAny_call (codeAny_mono (F.run X.A X.stack s H ⟨us,[]⟩ (us++ds) (vs++dvs) Q E hr I.env0 (hb s us I.kIn hl) r2 h) fun r s' hq=>?_)
 cases r with
 |error e=>exact hx pins σ H s e s' I hq
 |ok fl=>
  cases fl with
  |ret u=>exact I.after hq
  |next=>exact False.elim hq
  |brk=>exact False.elim hq
  |cont=>exact False.elim hq
theorem khz(F:FnOk X.prog X.w X.K X.mg X.base CX k f fd ps sp)(hr:Room k X.A)(hg:Gl X x)(hm:X.mg x=some (.ref f))(hk:NH X.K (.ref f)=true)(hb:Binds X.K fd ps ds)(hd:Vals dvs ds)(hx:kdD CX X E)
  (ha:PA X (e::es) t) (hdb:(x==("__debug__" :Str))=false:=by decide) (he:starEach (e::es) X.env=(false,eval e X.env)::starEach es X.env:=by rfl) (hpl:(backTo pos (starEach es X.env)).any (·.1)=false:=by rfl):
  PE X (.Call (.Name x p) (e::es) [] pos) (tCall sp dvs E t):=by
 intro pins s σ H Q I h
 refine wpAny_Call_Name_kw (keX I hg hm ?_ hdb)
 refine Ef (h₀:=X.base) I.ok.mod.kin hk (thn (ha pos pins s σ H _ I h) fun us s1 ⟨vs,H1,I1,r,q⟩=>⟨I1.kIn,?_⟩) he hpl
 exact kgy F hr hb hd hx I1 r q
theorem kdi{pl:Sem Bool}(he:PE X o ta)(c:Cls X.K C)(hm:Meth X.K C m f)(F:FnOk X.prog X.w X.K X.mg X.base CX k f fd ps sp)(hr:Room k X.A)(hb:Binds X.K fd ps ds)(hd:Vals dvs ds)(hx:kdD CX X E)(ha:PA X (e::es) t)
  (hst:starEach (e::es) X.env=(false,eval e X.env)::starEach es X.env:=by rfl) (hpl:(backTo pos (starEach es X.env)).any (·.1)=false:=by rfl)
  (ht:eval (.Call (.Attribute o m apos) (e::es) [] pos) X.env=(do
   let ov <-eval o X.env
   standAt apos.atName
   let(f,first) <-holding [ov] (getMethod ov m pl)
   callWith pos f first (backTo pos (starEach (e::es) X.env)) (backToKw pos (keywordEach [] X.env))):=by rfl):
  PE X (.Call (.Attribute o m apos) (e::es) [] pos) (tMeth C m sp dvs E ta t):=by
 intro pins s σ H Q I h
 refine E7 (pl:=pl) (thn (he pins s σ H _ I h) fun u s1 zz=>?_) ht
 obtain⟨x,H1,I1,rx,a,dx,fs,ex,ea,l,q⟩:=zz
 subst ex
 obtain rfl:u=Value.ref a:=rx
 refine kfv I1 ea c hm l ?_
 refine Ef (first:=[.ref a]) (h₀:=X.base) I.ok.mod.kin hm.kp (thn (ha pos pins s1 σ H1 _ I1 q) fun us s2 ⟨vs,H2,I2,r,q2⟩=>⟨I2.kIn,?_⟩) hst hpl
 exact kgy (us:=.ref a::us) (vs:=.ref a::vs) F hr hb hd hx I2 (.cons rfl r) q2
theorem kcX{pl:Sem Bool}(he:PE X o ta)(c:Cls X.K C)(hm:Meth X.K C m f)(F:FnOk X.prog X.w X.K X.mg X.base CX k f fd ps sp)(hr:Room k X.A)(hb:Binds X.K fd ps ds)(hd:Vals dvs ds)(hx:kdD CX X E)
  (ht:eval (.Call (.Attribute o m apos) [] [] pos) X.env=(do
   let ov <-eval o X.env
   standAt apos.atName
   let(f,first) <-holding [ov] (getMethod ov m pl)
   callWith pos f first (backTo pos (starEach [] X.env)) (backToKw pos (keywordEach [] X.env))):=by rfl):
  PE X (.Call (.Attribute o m apos) [] [] pos) (tMeth C m sp dvs E ta tNil):=by
 intro pins s σ H Q I h
 refine E7 (pl:=pl) (thn (he pins s σ H _ I h) fun u s1 zz=>?_) ht
 obtain⟨x,H1,I1,rx,a,dx,fs,ex,ea,l,q⟩:=zz
 subst ex
 obtain rfl:u=Value.ref a:=rx
 refine kfv I1 ea c hm l ?_
 exact Dt (first:=[.ref a]) I1.kIn hm.kp (kgy (us:=[.ref a]) (vs:=[.ref a]) F hr hb hd hx I1 (.cons rfl .nil) q)
structure Mk (K:Nr) (C f:Addr):Prop where
 makes:Mc K C=true
 init:Nv K (.ref C) "__init__"=some (some (.ref f))
 fn:Me K (.ref f)=true
 kp:NH K (.ref C)=true
theorem kij{pins:List (Addr×Obj)}{σ:St}{H:Hp}{s:Shared}{Q:VK}{us:List Value}{vs:List V}(M:Mk X.K C f)(F:FnOk X.prog X.w X.K X.mg X.base CX k f fd ps sp)(hr:Room (k+1) X.A)(hb:Binds X.K fd ps ds)(hd:Vals dvs ds)
  (hx:kdD CX X E) (I:Inv X pins σ H s) (r:Vals vs us)
  (h:∀x dx,H x=none->H dx=none->dx≠x->sp (.ref x::(vs++dvs)) (upd (upd H dx (.own x)) x (.ins C dx [])) (fun v H2=>v=.non/\Q (.ref x) H2) E):
  wpAny (model X.prog X.w) X.A (call (.ref C) us) (EP X pins σ Q) X.xe s:=by
 have hq:=h (s.heap.objs.size+1) s.heap.objs.size (I.hok.fresh (MX _)) (I.hok.fresh (Nt _)) (NU (E5 _))
 have I2:=Inv.made (C:=C) I
 have r2:Vals (V.ref (s.heap.objs.size+1)::(vs++dvs)) (Value.ref (s.heap.objs.size+1)::(us++ds)):=.cons rfl (r.append hd)
 have hl:(Value.ref (s.heap.objs.size+1)::us++ds).length=ps.length:=by
  have e:=r2.length
  rw[F.len _ _ _ _ hq] at e
  exact e.symm
 refine wpAny_call (kld (f:=f) I.kIn M.makes M.init (beq_iff_eq.mp M.fn) (codeAny_mono (F.run _ X.stack _ _ ⟨Value.ref (s.heap.objs.size+1)::us,[]⟩ (Value.ref (s.heap.objs.size+1)::(us++ds)) _ _ E (hr.make C us [])
  (I2.env0.make C us []) (hb _ (Value.ref (s.heap.objs.size+1)::us) I2.kIn hl) r2 hq) fun r s' hq'=>?_))
 cases r with
 |error e=>exact hx pins σ _ _ e s' I2 hq'
 | ok fl=>
  cases fl with
  |ret u=>
   obtain⟨v,H',I3,rv,ev,q3⟩:=I2.after hq'
   subst ev
   exact⟨rv,⟨V.ref (s.heap.objs.size+1),H',I3,rfl,q3⟩⟩
  |next=>exact False.elim hq'
  |brk=>exact False.elim hq'
  |cont=>exact False.elim hq'
theorem kaX(M:Mk X.K C f)(F:FnOk X.prog X.w X.K X.mg X.base CX k f fd ps sp)(hr:Room (k+1) X.A)(hg:Gl X x)(hm:X.mg x=some (.ref C))(hb:Binds X.K fd ps ds)(hd:Vals dvs ds)(hx:kdD CX X E)
  (ha:PA X (e::es) t) (hdb:(x==("__debug__" :Str))=false:=by decide) (he:starEach (e::es) X.env=(false,eval e X.env)::starEach es X.env:=by rfl) (hpl:(backTo pos (starEach es X.env)).any (·.1)=false:=by rfl):
  PE X (.Call (.Name x p) (e::es) [] pos) (tMake C sp dvs E t):=by
 intro pins s σ H Q I h
 refine wpAny_Call_Name_kw (keX I hg hm ?_ hdb)
 refine Ef (h₀:=X.base) I.ok.mod.kin M.kp (thn (ha pos pins s σ H _ I h) fun us s1 ⟨vs,H1,I1,r,q⟩=>⟨I1.kIn,?_⟩) he hpl
 exact kij M F hr hb hd hx I1 r q
theorem kkW(M:Mk X.K C f)(F:FnOk X.prog X.w X.K X.mg X.base CX k f fd ps sp)(hr:Room (k+1) X.A)(hg:Gl X x)(hm:X.mg x=some (.ref C))(hb:Binds X.K fd ps ds)(hd:Vals dvs ds)(hx:kdD CX X E)
  (hdb:(x==("__debug__" :Str))=false:=by decide):PE X (.Call (.Name x p) [] [] pos) (tMake C sp dvs E tNil):=by
 intro pins s σ H Q I h
 refine wpAny_Call_Name_kw (keX I hg hm ?_ hdb)
 exact Dt I.kIn M.kp (kij (us:=[]) M F hr hb hd hx I .nil h)
end
section
variable {X:Cx} {CX:CXT} {k:Nat} {f C:Addr} {fd:FuncData} {ps ks:List Str} {sp:Sp} {E:XK} {x m:Str} {p pos apos kpos:Pos} {e o:Expr} {es:List Expr} {kws:List Keyword} {te ta:TE} {t tk:TA} {nm:Option Str}
variable {g:List Value->List Value->List Value} {gV:List V->List V->List V}
end
structure kao (N P:List Str) (sc:Scope):Prop where
 kind:sc.kind=.function
 co:sc.isCoroutine=false
 gen:sc.isGenerator=false
 nd:N.Nodup
 pre:N.take P.length=P
 par:∀x∈P,sc.names.lookup x=some .local∨sc.names.lookup x=some .cell
 nofree:∀y∈sc.names,y.2≠.free
theorem kg6{kindOf:Str->Option NameKind}{x:Str}:∀{binds:List (Str×Value)}{m:Str->Option Value},(∀v,(x,v)∉binds)->bindL kindOf binds m x=m x
 |[],_,_=>rfl
 | (n,v)::r,m,h=>by
  unfold bindL
  rw[kg6 fun w hw=>h w (NR _ hw)]
  split
  ·have:x≠n:=by rintro rfl;exact h v NV
   simp[this]
  ·rfl
theorem kg8{kindOf:Str->Option NameKind}{x:Str}:∀{binds:List (Str×Value)}{m:Str->Option Value},(∀v,(x,v)∉binds)->bindC kindOf binds m x=m x
 |[],_,_=>rfl
 | (n,v)::r,m,h=>by
  unfold bindC
  rw[kg8 fun w hw=>h w (NR _ hw)]
  split
  ·rfl
  ·have:x≠n:=by rintro rfl;exact h v NV
   simp[this]
theorem kg7{kindOf:Str->Option NameKind}{x:Str}{v:Value}:∀{P:List Str}{vs:List Value}{i:Nat}{m:Str->Option Value},P.Nodup->P[i]?=some x->vs[i]?=some v->kindOf x=some .local->
  bindL kindOf (P.zip vs) m x=some v
 |[],_,_,_,_,h,_,_=>by simp at h
 |_::_,[],_,_,_,_,h,_=>by simp at h
 |p::P,w::vs,0,m,nd,h1,h2,hk=>by
  simp at h1 h2;subst h1;subst h2
  show bindL kindOf ((p,w)::P.zip vs) m p=_
  unfold bindL
  rw[kg6 fun v hv=>(Mu.mp nd).1 (MO hv).1,if_pos hk]
  simp
 |p::P,w::vs,i+1,m,nd,h1,h2,hk=>by
  show bindL kindOf ((p,w)::P.zip vs) m x=_
  unfold bindL
  exact kg7 (i:=i) (Mu.mp nd).2 (by simpa using h1) (by simpa using h2) hk
theorem kg9{kindOf:Str->Option NameKind}{x:Str}{v:Value}:∀{P:List Str}{vs:List Value}{i:Nat}{m:Str->Option Value},P.Nodup->P[i]?=some x->vs[i]?=some v->kindOf x≠some .local->
  bindC kindOf (P.zip vs) m x=some v
 |[],_,_,_,_,h,_,_=>by simp at h
 |_::_,[],_,_,_,_,h,_=>by simp at h
 |p::P,w::vs,0,m,nd,h1,h2,hk=>by
  simp at h1 h2;subst h1;subst h2
  show bindC kindOf ((p,w)::P.zip vs) m p=_
  unfold bindC
  rw[kg8 fun v hv=>(Mu.mp nd).1 (MO hv).1,if_neg hk]
  simp
 |p::P,w::vs,i+1,m,nd,h1,h2,hk=>by
  show bindC kindOf ((p,w)::P.zip vs) m x=_
  unfold bindC
  exact kg9 (i:=i) (Mu.mp nd).2 (by simpa using h1) (by simpa using h2) hk
def start(N:List Str)(vs:List V):St:=vs.map some++Nu (N.length-vs.length) none
noncomputable def cxOf(CX:CXT)(P:Program)(w:World)(K:Nr)(mg:Str->Option Value)(base:Heap)(N:List Str)(qual:Str)(scope:Scope)(f:Addr)(cd:Value)(A:Around)(outer:List Env)(s:Shared)(H:Hp)(E:XK):Cx where
 prog:=P
 w:=w
 K:=K
 mg:=mg
 base:=base
 A:=A.deeper (envOfC qual scope s.heap.objs.size f cd)
 N:=N
 s₀:=s
 H₀:=H
 env:=envOfC qual scope s.heap.objs.size f cd
 outer:=outer
 stack:=envOfC qual scope s.heap.objs.size f cd::outer
 ex:=[]
 calm:=true
 fn:=fun _=>true
 pn:=[]
 xe:=fun e s'=>wpAny (model P w) (A.deeper (envOfC qual scope s.heap.objs.size f cd)) (leaving (envOfC qual scope s.heap.objs.size f cd) e) (fun _ s''=>CX outer H s E e s'') (fun e' s''=>CX outer H s E e' s'') s'
noncomputable def ken{sc:Scope}{n:Nat}{x:Str}(h:sc.names.lookup x=some .cell):∃c,(cellsFrom n sc.names []).lookup x=some c:=by
 have q:=Du sc.names n [] (.inl h)
 exact Dv.mp q
theorem kkc{CX:CXT}{P:Program}{w:World}{K:Nr}{mg:Str->Option Value}{base:Heap}{N ps:List Str}{qual:Str}{scope:Scope}{f:Addr}{cd:Value}{A:Around}{outer:List Env}{s s1:Shared}{H:Hp}{E:XK}{us:List Value}{vs:List V}
  (S:kao N ps scope) (hd:A.handled=none) (e0:Env0 P w K mg base A outer s H) (hl:vs.length=ps.length) (r:Vals vs us)
  (x:InCallC s s.heap.objs.size (bindL (envOfC qual scope s.heap.objs.size f cd).kindOf (ps.zip us) fun _=>none) (cellsFrom (s.heap.objs.size+1) scope.names []) (bindC (envOfC qual scope s.heap.objs.size f cd).kindOf (ps.zip us) fun _=>none) s1):
  Inv (cxOf CX P w K mg base N qual scope f cd A outer s H E) [] (start N vs) H s1:=by
 have hpl:ps.length<=N.length:=by have:=congrArg MP S.pre;rw[NK] at this;omega
 obtain⟨h1,tk,rfl,hk⟩:=x.done
 have noA:∀b:Addr,b∉(cxOf CX P w K mg base N qual scope f cd A outer s H E).ex:=fun b z=>absurd (show b∈([]:List Addr) from z) (by simp)
 refine⟨⟨e0.mod,S.kind,rfl,rfl,Nt _,fun y z c h1 h2=>?_,fun y hy=>?_,fun y c _ h=>?_,fun _=>hd,Around.frames_deeper e0.frames, .inr ⟨rfl,rfl⟩,fun b z=>absurd z (noA b),e0.bs,e0.bsz,fun b _ _=>noA b,fun b z=>absurd z (noA b),e0.funs,e0.frf⟩,
  rfl,e0.bare,Un.kept hk,⟨_,x.toInCall.ns,fun i y v h1 h2 h3=>?_⟩,fun y c h=>⟨_,x.cell y c h⟩,e0.hok.fresh (Nt _),fun y c h=>?_,fun p hp=>absurd (show p∈([]:List (Addr×Obj)) from hp) (by simp),e0.hok.kept hk,?_⟩
 ·exact name_of_addr x.apart (PySem.mem_of_lookup h1) (PySem.mem_of_lookup h2)
 ·have hy:scope.names.lookup y=some .cell∨scope.names.lookup y=some .free:=hy
  rcases hy with hy|hy
  ·exact ken hy
  ·exact absurd rfl (S.nofree _ (PySem.mem_of_lookup hy))
 ·exact ND (x.above y c (PySem.mem_of_lookup h))
 ·have hi:i<vs.length:=by
   unfold start at h2
   by_cases hi:i<vs.length
   ·exact hi
   ·rw[MQ (by simpa using hi)] at h2
    rw[MY] at h2
    split at h2 <;> cases h2
  have ha:vs[i]?=some v:=by
   unfold start at h2
   rw[Eg (by simpa using hi),Nz] at h2
   cases e:vs[i]? with
   |none=>rw[e] at h2;cases h2
   |some a=>rw[e] at h2;cases h2;rfl
  obtain⟨u,hu,rv⟩:=r.get ha
  have hp:ps[i]?=some y:=by
   rw[<-S.pre,Dw (by omega)];exact h1
  have ndP:ps.Nodup:=by rw[<-S.pre];exact S.nd.sublist (List.take_sublist _ _)
  refine⟨u,rv,?_⟩
  rcases S.par y (Ny hp) with k|k
  ·exact .inl ⟨k,kg7 ndP hp hu k⟩
  ·obtain⟨c,e⟩:=ken (n:=s.heap.objs.size+1) k
   refine .inr ⟨.inl k,c,e,?_⟩
   have q:=x.cell y c e
   rw[kg9 ndP hp hu (by show scope.names.lookup y≠_;rw[k];decide)] at q
   exact q
 ·exact e0.hok.fresh (ND (x.above y c (PySem.mem_of_lookup h)))
 ·unfold start
  show _=N.length
  rw[NG,Nq,Mm]
  omega
theorem fn_of{CX:CXT}{P:Program}{w:World}{K:Nr}{mg:Str->Option Value}{base:Heap}{k:Nat}{f:Addr}{name qual:Str}{params:Arguments}{body:List Stmt}{scope:Scope}{dV kV doc pm cdv ct oc:Value}{an od:Option Addr}
  {osl:Array (Option Value)} {N ps:List Str} {sp:Sp} (lk:K.lookup f=some ⟨oc,od, .func (NI name qual params body scope dV kV doc pm an cdv ct),osl⟩) (hcd:N3 K cdv qual=true) (S:kao N ps scope)
  (len:∀vs H Q E,sp vs H Q E->vs.length=ps.length)
  (hbody:∀(A:Around)(outer:List Env)(s:Shared)(H:Hp)(vs:List V)(Q:VK)(E:XK),Room k (A.deeper (envOfC qual scope s.heap.objs.size f cdv))->sp vs H Q E->
   ∃t,PSs (cxOf CX P w K mg base N qual scope f cdv A outer s H E) body t/\t {nx:=fun _ H'=>Q .non H',rt:=Q} (start N vs) H):
  FnOk P w K mg base CX (k+1) f (NI name qual params body scope dV kV doc pm an cdv ct) ps sp:=by
 refine⟨len,fun A outer s H args us vs Q E hr e0 hb r hsp=>?_⟩
 have hl:=len _ _ _ _ hsp
 have KX:K.In s.heap:=e0.mod.kin.keeps fun b o e=>(e0.bs b o e).1
 have lim:s.heap.NoLimit:=e0.mod.nolimit.keeps fun b o e=>(e0.bs b o e).1
 have hkind:∀y∈ps.zip us,scope.names.lookup y.1=some .local∨(scope.names.lookup y.1=some .cell/\((cellsFrom (s.heap.objs.size+1) scope.names []).lookup y.1).isSome=true):=fun⟨n,v⟩ hy=>by
  rcases S.par n (MO hy).1 with q|q
  ·exact .inl q
  ·exact .inr ⟨q,Du _ _ _ (.inl q)⟩
 refine codeAny_call_function hr.depth (KX _ _ lk) rfl S.co S.gen rfl (PySem.W.codeRec_of KX hcd) (hb _ _ _ _ ?_)
 refine wpAny_newFunctionEnv_cells S.kind hkind fun env he s1 x=>?_
 subst he
 refine⟨lim.keeps x.toInCall.keep,codeAny_func ?_⟩
 obtain⟨t,ht,hq⟩:=hbody A outer s H vs Q E (hr.deeper _) hsp
 have I:Inv (cxOf CX P w K mg base N qual scope f cdv A outer s H E) [] (start N vs) H s1:=kkc S hr.hd e0 hl r x
 refine wpAny_mono (ht [] s1 (start N vs) H _ I hq) (fun fl s' hs=>?_) fun e s' hs=>hs
 have fin:∀{σ':St}{H':Hp}{v:V}{u:Value},Inv (cxOf CX P w K mg base N qual scope f cdv A outer s H E) [] σ' H' s'->RelV v u->Q v H'->CE outer P w H s Q u s':=
  fun {σ' H' v u} J rv q=>⟨v,H',J.os,J.bare,J.base,J.hok,rv,q⟩
 cases fl with
 |ret u=>
  obtain⟨v,σ',H',J,rv,q⟩:=hs
  exact fin J rv q
 |next=>
  obtain⟨σ',H',J,q⟩:=hs
  exact fin (v:=V.non) (u:=Value.none) J rfl q
 |brk=>
  obtain⟨_,_,_,q⟩:=hs
  exact False.elim q
 |cont=>
  obtain⟨_,_,_,q⟩:=hs
  exact False.elim q
end L2
namespace L2
open PySem PySem.Spec PyProof.Rows
section
variable {X:Cx} {x:Str} {p pos:Pos} {e:Expr} {es:List Expr} {t:TA} {id T:String} {r:List V->Hp->VK->Prop}
def tCB(r:List V->Hp->VK->Prop)(t:TA):TE:=fun σ H Q=>t σ H fun vs H1=>r vs H1 Q
theorem kat(hc:CallR X (.builtin id) r)(hg:Gl X x)(hm:X.mg x=none)(hv:bootBuiltins x=some (.builtin id))(ha:PA X (e::es) t)(hn:x≠"__name__":=by decide)(hdb:(x==("__debug__" :Str))=false:=by decide)
  (he:starEach (e::es) X.env=(false,eval e X.env)::starEach es X.env:=by rfl) (hpl:(backTo pos (starEach es X.env)).any (·.1)=false:=by rfl):PE X (.Call (.Name x p) (e::es) [] pos) (tCB r t):=by
 intro pins s σ H Q I h
 refine wpAny_Call_Name_kw (kdz I hg hm hv ?_ hn hdb)
 exact PyProof.Rows.callWith_builtin1 (thn (ha pos pins s σ H _ I h) fun us s1 ⟨vs,H1,I1,r1,q1⟩=>hc pins s1 σ H1 vs us Q I1 r1 q1) he hpl
theorem kaK(hc:CallR X (.type T) r)(hg:Gl X x)(hm:X.mg x=none)(hv:bootBuiltins x=some (.type T))(ha:PA X (e::es) t)(hn:x≠"__name__":=by decide)(hdb:(x==("__debug__" :Str))=false:=by decide)
  (he:starEach (e::es) X.env=(false,eval e X.env)::starEach es X.env:=by rfl) (hpl:(backTo pos (starEach es X.env)).any (·.1)=false:=by rfl):PE X (.Call (.Name x p) (e::es) [] pos) (tCB r t):=by
 intro pins s σ H Q I h
 refine wpAny_Call_Name_kw (kdz I hg hm hv ?_ hn hdb)
 exact PyProof.Rows.callWith_type1 (thn (ha pos pins s σ H _ I h) fun us s1 ⟨vs,H1,I1,r1,q1⟩=>hc pins s1 σ H1 vs us Q I1 r1 q1) he hpl
end
end L2
namespace HT
open PySem PyProof.Rows
section
open PySem.SeqAt
open PySem.AutoSeq1 (wpAny_loadPart')
open PySem.MeetsSeq PySem.MeetsSeq2 PySem.MeetsSeq3
end
section
variable {prog:Program} {w:World} {A:Around} {E:Value->Shared->Prop} {s:Shared}
theorem cat_tup{t b:Addr}{vs ws:List Value}{Q:Value->Shared->Prop}(ht:IsTup s.heap t vs.toArray)(hb:IsTup s.heap b ws.toArray)(hv:vs≠[])
  (h1:ws=[]->Q (.ref t) s) (h2:ws≠[]->Q (.ref s.heap.objs.size) {s with heap:=s.heap.push {cls:=.type "tuple",data:=.seq (vs++ws).toArray}})
  (hsz:vs.length+ws.length<=sizeLine):wpAny (model prog w) A (binaryOp .Add (.ref t) (.ref b)) Q E s:=by
 obtain⟨⟨cls,dd,data,sl⟩,ho,hc,n,hd⟩:=id ht
 obtain⟨⟨cls2,dd2,data2,sl2⟩,ho2,hc2,n2,hd2⟩:=id hb
 simp only at hc hd hc2 hd2
 subst hc hd hc2 hd2
 have e:vs.toArray++ws.toArray=(vs++ws).toArray:=by simp
 by_cases hw:ws=[]
 ·exact concat_meets ⟨_,ho,rfl⟩ ⟨_,ho2,rfl⟩ noFill_tuple_add seq_tuple_add Dx Dy (Dz _ _)
   (tuple_addW1 t b vs.toArray ws.toArray n n2 dd dd2 sl sl2 (by simpa using hv) (by simp[hw])) ⟨ho,ho2,h1 hw⟩
 ·refine concat_meets ⟨_,ho,rfl⟩ ⟨_,ho2,rfl⟩ noFill_tuple_add seq_tuple_add Dx Dy (Dz _ _)
   (tuple_addW2 t b vs.toArray ws.toArray n n2 dd dd2 sl sl2 (by simpa using hv) (by simpa using hw) (by rw[NP,NP];exact hsz)) ⟨ho,ho2,?_⟩
  rw[e]
  exact h2 hw
def sIx(n d:Nat):Option Int->Nat
 |none=>d
 |some v=>if v<0 then(v+(n:Int)).toNat else min v.toNat n
theorem sIx_none(n d:Nat):sIx n d none=d:=rfl
theorem sIx_nat(n d k:Nat):sIx n d (some (k:Int))=min k n:=by
 show(if(k:Int)<0 then((k:Int)+(n:Int)).toNat else min (k:Int).toNat n)=min k n
 rw[if_neg (by omega),Int.toNat_natCast]
end
end HT
namespace L2
open PySem PySem.Spec PyProof.Rows
abbrev TO:=St->Hp->(Option Int->Hp->Prop)->Prop
noncomputable def PO(X:Cx)(e:Option Expr)(t:TO):Prop:=
 ∀(pins:List (Addr×Obj))(s:Shared)(σ:St)(H:Hp)(Q:Option Int->Hp->Prop),Inv X pins σ H s->t σ H Q->
  wpAny (model X.prog X.w) X.A (evalPart e X.env) (fun u s'=>∃o H',Inv X pins σ H' s'/\IsPart u o/\Q o H') X.xe s
def kmh:TO:=fun _ H Q=>Q none H
def tPart(t:TE):TO:=fun σ H Q=>t σ H fun x H1=>∃i,x=.int i/\Q (some i) H1
theorem intsAre_of{ns:List Int}:∀{us:List Value},Vals (ns.map V.int) us->IntsAre us ns:=by
 induction ns with
 |nil=>intro us r;rw[MI] at r;cases r;exact .nil
 | cons n ns ih=>
  intro us r
  rw[NJ] at r
  cases r with
  |cons r1 r2=>
   obtain⟨t,e⟩:=r1
   subst e
   exact .cons n t (ih r2)
section
variable {X:Cx} {e:Expr} {te:TE} {lo hi:Option Expr} {tl th:TO} {pos p2:Pos}
theorem kfQ:PO X none kmh:=by
 intro pins s σ H Q I h
 rw[evalPart_none]
 exact wpAny_pure ⟨none,H,I, .none,h⟩
theorem kcP(h:PE X e te):PO X (some e) (tPart te):=by
 intro pins s σ H Q I hw
 rw[evalPart_some]
 refine thn (h pins s σ H _ I hw) fun u s1 zz=>?_
 obtain⟨x,H1,I1,r1,q1⟩:=zz
 obtain⟨i,rfl,q⟩:=q1
 obtain⟨t,rfl⟩:=r1
 exact⟨some i,H1,I1, .int i t,q⟩
noncomputable def SlR(X:Cx)(r:V->Option Int->Option Int->Hp->VK->Prop):Prop:=
 ∀(pins:List (Addr×Obj))(s:Shared)(σ:St)(H:Hp)(x:V)(v vl vu:Value)(lo hi:Option Int)(sl:Addr)(Q:VK),Inv X pins σ H s->RelV x v->s.heap.IsSliceOf sl vl vu .none->IsPart vl lo->IsPart vu hi->r x lo hi H Q->
  ∃T id,typeLookup (.type T) "__getitem__"=pure (some (.builtin id))/\s.TypeIs v T/\wpAny (model X.prog X.w) X.A (getItem v (.ref sl)) (EP X pins σ Q) X.xe s
theorem SlR.or{r r':V->Option Int->Option Int->Hp->VK->Prop}(h:SlR X r)(h':SlR X r'):SlR X (fun x lo hi H Q=>r x lo hi H Q∨r' x lo hi H Q):=by
 intro pins s σ H x v vl vu lo hi sl Q I rx hs pl pu q
 rcases q with q|q
 ·exact h pins s σ H x v vl vu lo hi sl Q I rx hs pl pu q
 ·exact h' pins s σ H x v vl vu lo hi sl Q I rx hs pl pu q
noncomputable def tSl(r:V->Option Int->Option Int->Hp->VK->Prop)(te:TE)(tl th:TO):TE:=fun σ H Q=>te σ H fun x H1=>tl σ H1 fun l H2=>th σ H2 fun u H3=>r x l u H3 Q
theorem kcW{r:V->Option Int->Option Int->Hp->VK->Prop}(hr:SlR X r)(he:PE X e te)(hl:PO X lo tl)(hu:PO X hi th):PE X (.Subscript e (.Slice lo hi none p2) pos) (tSl r te tl th):=by
 intro pins s σ H Q I h
 refine Subscript_ (thn (he pins s σ H _ I h) fun v s1 zz=>?_)
 obtain⟨x,H1,I1,r1,q1⟩:=zz
 refine wpAny_Slice (thn (hl pins s1 σ H1 _ I1 q1) fun vl s2 ⟨l,H2,I2,pl,q2⟩=>thn (hu pins s2 σ H2 _ I2 q2) fun vu s3 zz=>?_)
 obtain⟨u,H3,I3,pu,q3⟩:=zz
 rw[evalPart_none]
 refine wpAny_pure ?_
 have I4:Inv X pins σ H3 {s3 with heap:=s3.heap.push {cls:=.type "slice",data:=.fields #[vl,vu, .none]}}:=I3.kept (t':=s3.toks) fun b ob q=>Heap.get?_push_of_some _ q
 obtain⟨T,id,hT,ht,hg⟩:=hr pins {s3 with heap:=s3.heap.push {cls:=.type "slice",data:=.fields #[vl,vu, .none]}} σ H3 x v vl vu l u s3.heap.objs.size Q I4 r1 (Heap.IsSliceOf.new ..) pl pu q3
 show wpAny (model X.prog X.w) X.A (subscriptTail e (.Slice lo hi none p2) v (.ref s3.heap.objs.size)) (EP X pins σ Q) X.xe {s3 with heap:=s3.heap.push {cls:=.type "slice",data:=.fields #[vl,vu, .none]}}
 exact tail_any (ops:=[.ref s3.heap.objs.size,v]) ht hT hg (by with_unfolding_all rfl)
noncomputable def cutV(xs:List V)(lo hi:Option Int):List V:=(xs.drop (HT.sIx xs.length 0 lo)).take (HT.sIx xs.length xs.length hi-HT.sIx xs.length 0 lo)
theorem khR(xs:List V)(lo hi:Option Int):(cutV xs lo hi).length<=xs.length:=by
 unfold cutV
 rw[NK,M8]
 omega
noncomputable def rCatT(K:Nr):R2:=fun x y H Q=>∃a b xs ys,x=.ref a/\y=.ref b/\SqT K H a xs/\SqT K H b ys/\xs≠[]/\xs.length+ys.length<=sizeLine/\
 (ys=[]->Q (.ref a) H)/\(ys≠[]->∀p,H p=none->Q (.ref p) (upd H p (.tup (xs++ys))))
theorem Vals.nil_iff{xs:List V}{us:List Value}(r:Vals xs us):us=[]↔xs=[]:=by
 cases r with
 |nil=>simp
 |cons _ _=>simp
theorem kmB:OpR X (binaryOp .Add) (rCatT X.K):=by
 intro pins s σ H x y v u Q I rx ry h
 obtain⟨a,b,xs,ys,rfl,rfl,ha,hb,hx,hz,q1,q2⟩:=h
 cases rx
 cases ry
 obtain⟨its,r1,p1,_⟩:=I.tuple ha
 obtain⟨its2,r2,p2,_⟩:=I.tuple hb
 refine HT.cat_tup p1 p2 (fun z=>hx (r1.nil_iff.mp z)) (fun z=>⟨.ref a,H,I,rfl,q1 (r2.nil_iff.mp z)⟩) (fun z=>?_) (by rw[<-r1.length,<-r2.length];exact hz)
 refine⟨.ref s.heap.objs.size,_,I.laid (t':=s.toks) (o:=.tup (xs++ys)) (fun b ob q=>Heap.get?_push_of_some _ q) (Nt _) ?_,rfl,q2 (fun w=>z (r2.nil_iff.mpr w)) _ (I.hok.fresh (Nt _))⟩
 exact⟨by rw[NG];exact hz,_,r1.append r2,IsTup.new _ _⟩
end
end L2
namespace L2
open PySem PySem.Spec PyProof.Rows
noncomputable def ixN(n:Nat)(i:Int):Option Nat:=if 0<=i then(if i<n then some i.toNat else none) else if -(n:Int)<=i then some (i+n).toNat else none
def atI{α:Type}(xs:List α)(i:Int):Option α:=(ixN xs.length i).bind fun j=>xs[j]?
noncomputable def kka{n:Nat}{i:Int}{j:Nat}(h:ixN n i=some j):seqIndex? i n=some j/\j<n/\-(n:Int)<=i/\i<n:=by
 unfold ixN at h
 by_cases h0:0<=i
 ·rw[if_pos h0] at h
  by_cases h1:i<n
  ·rw[if_pos h1] at h
   have e:i.toNat=j:=Option.some.inj h
   exact⟨by rw[seqIndex_of h0 h1,e],by omega,by omega,h1⟩
  ·rw[if_neg h1] at h;cases h
 ·rw[if_neg h0] at h
  by_cases h1: -(n:Int)<=i
  ·rw[if_pos h1] at h
   have e:(i+n).toNat=j:=Option.some.inj h
   exact⟨by rw[seqIndex_neg (by omega) h1,e],by omega,h1,by omega⟩
  ·rw[if_neg h1] at h;cases h
theorem khV{α:Type}{xs:List α}{i:Int}{v: α}(h:atI xs i=some v):∃j,seqIndex? i xs.length=some j/\xs[j]?=some v/\j<xs.length/\-(xs.length:Int)<=i/\i<xs.length:=by
 unfold atI at h
 cases e:ixN xs.length i with
 |none=>rw[e] at h;cases h
 |some j=>
  rw[e] at h
  obtain⟨h1,h2,h3,h4⟩:=kka e
  exact⟨j,h1,h,h2,h3,h4⟩
noncomputable def kaz{α:Type}{xs:List α}{j:Nat}{v: α}(h:xs[j]?=some v):atI xs (j:Int)=some v:=by
 have hj:j<xs.length:=(NF.mp h).1
 have e:ixN xs.length (j:Int)=some j:=by
  unfold ixN
  rw[if_pos (by omega),if_pos (by omega)];simp
 unfold atI;rw[e];exact h
def km0(b:Expr):Prop:=∀o i,subscripted b false o i=operate [o,i] (getItem o i)
noncomputable def IxR(X:Cx)(r:R2):Prop:=
 ∀(value slice:Expr)(pins:List (Addr×Obj))(s:Shared)(σ:St)(H:Hp)(x y:V)(v u:Value)(Q:VK),Inv X pins σ H s->RelV x v->RelV y u->r x y H Q->
  subscripted slice false v u=operate [v,u] (getItem v u)->wpAny (model X.prog X.w) X.A (subscriptTail value slice v u) (EP X pins σ Q) X.xe s
noncomputable def MtR(X:Cx)(id:String)(r:V->List V->Hp->VK->Prop):Prop:=
 ∀(pins:List (Addr×Obj))(s:Shared)(σ:St)(H:Hp)(x:V)(xs:List V)(v:Value)(us:List Value)(Q:VK),Inv X pins σ H s->RelV x v->Vals xs us->r x xs H Q->
  wpAny (model X.prog X.w) X.A (call (.builtin id) (v::us)) (EP X pins σ Q) X.xe s
section
variable {X:Cx} {a b:Expr} {ta tb:TE} {pos:Pos}
theorem IxR.or{r r':R2}(h:IxR X r)(h':IxR X r'):IxR X (fun x y H Q=>r x y H Q∨r' x y H Q):=by
 intro value slice pins s σ H x y v u Q I rx ry q hs
 rcases q with q|q
 ·exact h value slice pins s σ H x y v u Q I rx ry q hs
 ·exact h' value slice pins s σ H x y v u Q I rx ry q hs
theorem MtR.or{id:String}{r r':V->List V->Hp->VK->Prop}(h:MtR X id r)(h':MtR X id r'):MtR X id (fun x xs H Q=>r x xs H Q∨r' x xs H Q):=by
 intro pins s σ H x xs v us Q I rx rs q
 rcases q with q|q
 ·exact h pins s σ H x xs v us Q I rx rs q
 ·exact h' pins s σ H x xs v us Q I rx rs q
theorem pe_ix{r:R2}(hr:IxR X r)(ha:PE X a ta)(hb:PE X b tb)(hs:km0 b):PE X (.Subscript a b pos) (tOp r ta tb):=by
 intro pins s σ H Q I h
 exact Subscript_ (binT ha hb I h fun v u s2 x y H2 I2 rx ry q=>hr a b pins s2 σ H2 x y v u Q I2 rx ry q (hs _ _))
def rIxL(K:Nr):R2:=fun x y H Q=>∃p xs i v,x=.ref p/\y=.int i/\SqL K H p xs/\atI xs i=some v/\Q v H
def rIxT(K:Nr):R2:=fun x y H Q=>∃p xs i v,x=.ref p/\y=.int i/\SqT K H p xs/\atI xs i=some v/\Q v H
theorem kax:IxR X (rIxL X.K):=by
 intro value slice pins s σ H x y v u Q I rx ry h hs
 obtain⟨p,xs,i,z,rfl,rfl,hq,he,q⟩:=h
 cases rx
 obtain⟨t,rfl⟩:=ry
 obtain⟨its,r,pl,hz⟩:=I.list hq
 obtain⟨j,h1,h2,h3,h4,h5⟩:=khV he
 obtain⟨w,ew,rw'⟩:=r.get h2
 have hl:=r.length
 have hn:=kgT
 have fin:EP X pins σ Q w s:=⟨z,H,I,rw',q⟩
 by_cases h0:0<=i
 ·have hj:i.toNat=j:=by
   rw[seqIndex_of h0 h5] at h1
   exact Option.some.inj h1
  exact item_listR pl.isList h0 (by omega) (by rw[hj];simpa using ew) fin hs
 ·have hj:(i+(its.toArray.size:Int)).toNat=j:=by
   rw[seqIndex_neg (by omega) h4] at h1
   rw[NP,<-hl]
   exact Option.some.inj h1
  exact subscriptTail_builtinR (x:=w) pl.isList.typeIs slot_list_getitem.lookup
   (wpAny_getItem_list_neg (Q:=fun r s'=>r=w/\EP X pins σ Q r s') pl.isList (by omega) (by rw[NP] <;> omega) (by omega) (by rw[hj];simpa using ew) ⟨rfl,fin⟩) hs
theorem kcG:IxR X (rIxT X.K):=by
 intro value slice pins s σ H x y v u Q I rx ry h hs
 obtain⟨p,xs,i,z,rfl,rfl,hq,he,q⟩:=h
 cases rx
 obtain⟨t,rfl⟩:=ry
 obtain⟨its,r,pl,hz⟩:=I.tuple hq
 obtain⟨j,h1,h2,h3,h4,h5⟩:=khV he
 obtain⟨w,ew,rw'⟩:=r.get h2
 have hl:=r.length
 have hn:=kgT
 have fin:EP X pins σ Q w s:=⟨z,H,I,rw',q⟩
 exact subscriptTail_builtinR (x:=w) pl.typeIs slot_tuple_getitem.lookup
  (getItem_tuple (j:=j) (Q:=fun r s'=>r=w/\EP X pins σ Q r s') pl (by omega) (by omega) (by rw[NP,<-hl];exact h1) (by simpa using ew) ⟨rfl,fin⟩) hs
theorem kiV(its:List Value)(n j:Nat)(u:Value):Obj.mapSeq (·.setIfInBounds j u) {cls:=.type "list",data:=.seq its.toArray n}= {cls:=.type "list",data:=.seq (its.set j u).toArray n}:=by
 simp[Obj.mapSeq]
theorem Inv.lst{pins:List (Addr×Obj)}{σ:St}{H:Hp}{s:Shared}{p:Addr}{xs:List V}(I:Inv X pins σ H s)(h:H p=some (.lst xs)):
  ∃(its:List Value)(n:Nat),Vals xs its/\s.heap.get? p=some {cls:=.type "list",data:=.seq its.toArray n}/\xs.length<=sizeLine:=by
 obtain⟨z,its,n,r,e⟩:=I.hok p _ h
 exact⟨its,n,r,e,z⟩
theorem Inv.lstUpd{pins:List (Addr×Obj)}{σ:St}{H:Hp}{s:Shared}{p:Addr}{xs ys:List V}{its its':List Value}{n n':Nat}{f:Obj->Obj}(I:Inv X pins σ H s)(h:H p=some (.lst xs))
  (ho:s.heap.get? p=some {cls:=.type "list",data:=.seq its.toArray n}) (hf:f {cls:=.type "list",data:=.seq its.toArray n}= {cls:=.type "list",data:=.seq its'.toArray n'}) (r:Vals ys its') (hz:ys.length<=sizeLine) (t:Nat):
  Inv X pins σ (upd H p (.lst ys)) {s with heap:=s.heap.update p f,toks:=t}:=by
 have e:(s.heap.update p f).get? p=some {cls:=.type "list",data:=.seq its'.toArray n'}:=by
  rw[Heap.get?_update_self f ho (by rw[hf] <;> rfl),hf]
 refine I.write (x:=p) (e:=p) (by rw[h];trivial) (.inl rfl) (fun b u hb q=>(Heap.get?_update_other _ _ (Ne.symm hb)).trans q) ⟨_,e⟩ ?_
 exact⟨hz,its',n',r,e⟩
noncomputable def rSetL:V->V->V->Hp->(Hp->Prop)->Prop:=fun o i v H Q=>∃p xs k j,o=.ref p/\i=.int k/\H p=some (.lst xs)/\ixN xs.length k=some j/\Q (upd H p (.lst (xs.set j v)))
theorem set_list:PSet X rSetL:=by
 intro pins s σ H o i v ov iv u Q I ro ri rv h
 obtain⟨p,xs,k,j,rfl,rfl,hp,hj,q⟩:=h
 cases ro
 obtain⟨t,rfl⟩:=ri
 obtain⟨its,n,r,ho,hz⟩:=I.lst hp
 obtain⟨h1,h2,h3,h4⟩:=kka hj
 have hl:=r.length
 have hn:=kgT
 have I':Inv X pins σ (upd H p (.lst (xs.set j v))) {s with heap:=s.heap.update p (Obj.mapSeq (·.setIfInBounds j u))}:=
  I.lstUpd hp ho (kiV its n j u) (r.set rv j) (by rw[Ez];exact hz) s.toks
 by_cases h0:0<=k
 ·have hk:k.toNat=j:=by
   rw[seqIndex_of h0 h4] at h1
   exact Option.some.inj h1
  exact PySem.W.ki_setAt ho h0 (by omega) (by rw[NP,<-hl];exact h4) (by rw[hk];exact⟨_,I',q⟩)
 ·have hk:(k+(its.toArray.size:Int)).toNat=j:=by
   rw[seqIndex_neg (by omega) h3] at h1
   rw[NP,<-hl]
   exact Option.some.inj h1
  exact PySem.W.ki_setBack ho (by omega) (by rw[NP,<-hl];exact h3) (by omega) (by rw[hk];exact⟨_,I',q⟩)
theorem kgq(lo hi:Option Int)(n:Nat):(sliceBounds lo hi none n).1=((HT.sIx n 0 lo:Nat):Int)/\(sliceBounds lo hi none n).2.1=((HT.sIx n n hi:Nat):Int)/\(sliceBounds lo hi none n).2.2=1:=by
 refine⟨?_,?_,rfl⟩
 ·cases lo with
  |none=>simp[sliceBounds,HT.sIx]
  |some i=>
   simp only[sliceBounds,HT.sIx,E8,show(1:Int) > 0 by decide,if_true]
   by_cases h:i<0
   ·simp only[h,if_true] <;> omega
   ·simp only[h,if_false] <;> omega
 ·cases hi with
  |none=>simp[sliceBounds,HT.sIx]
  |some i=>
   simp only[sliceBounds,HT.sIx,E8,show(1:Int) > 0 by decide,if_true]
   by_cases h:i<0
   ·simp only[h,if_true] <;> omega
   ·simp only[h,if_false] <;> omega
theorem kfG(its:List Value)(lo hi:Option Int):slicePick its.toArray lo hi none=((its.drop (HT.sIx its.length 0 lo)).take (HT.sIx its.length its.length hi-HT.sIx its.length 0 lo)).toArray:=by
 obtain⟨h1,h2,h3⟩:=kgq lo hi its.toArray.size
 unfold slicePick
 rw[h1,h2,h3]
 simp only[sliceRange_one,pick_run,NP] <;> rfl
noncomputable def rSlL(K:Nr):V->Option Int->Option Int->Hp->VK->Prop:=fun x lo hi H Q=>∃a xs,x=.ref a/\SqL K H a xs/\∀p,H p=none->Q (.ref p) (upd H p (.lst (cutV xs lo hi)))
theorem kdG:SlR X (rSlL X.K):=by
 intro pins s σ H x v vl vu lo hi sl Q I rx hs pl pu h
 obtain⟨a,xs,rfl,hx,q⟩:=h
 cases rx
 obtain⟨its,r,ht,hz⟩:=I.list hx
 have hlen:=r.length
 refine⟨"list",_,slot_list_getitem.lookup,ht.isList.typeIs,?_⟩
 refine wpAny_getItem_list_slice ht.isList hs pl pu .none (by simp) ?_ (by rw[NP] <;> omega)
 rw[kfG,<-hlen]
 refine⟨.ref s.heap.objs.size,_,I.laid (t':=s.toks) (o:=.lst (cutV xs lo hi)) (fun b ob q=>Heap.get?_push_of_some _ q) (Nt _) ?_,rfl,q _ (I.hok.fresh (Nt _))⟩
 exact⟨Nx (khR xs lo hi) hz,_,0,(r.drop (HT.sIx xs.length 0 lo)).take (HT.sIx xs.length xs.length hi-HT.sIx xs.length 0 lo),Heap.get?_push_size _ rfl⟩
def flatV:V->Bool
 | .non=>true
 | .bl _=>true
 | .int _=>true
 | .str _=>true
 |_=>false
noncomputable def eqV:V->V->Bool
 | .non, .non=>true
 | .bl a, .bl b=>a==b
 | .bl a, .int b=>(if a then 1 else 0)==b
 | .int a, .bl b=>a==(if b then 1 else 0)
 | .int a, .int b=>a==b
 | .str a, .str b=>a==b
 |_,_=>false
theorem kl3{A:Around}{s:Shared}{y x:V}{u v:Value}(ry:RelV y u)(rx:RelV x v)(fy:flatV y=true)(fx:flatV x=true):SeqAt.EqAt A s u v (eqV y x):=by
 cases y with
 |non=>
  cases ry
  cases x with
  |non=>cases rx;exact SeqAt.EqAt.same _
  |bl b=>cases rx;exact SeqAt.EqAt.none_bool b
  |int b=>obtain⟨t,rfl⟩:=rx;exact SeqAt.EqAt.none_int b t
  |str b=>obtain⟨t,rfl⟩:=rx;exact SeqAt.EqAt.none_str b t
  |_=>exact absurd (show false=true from fx) NB
 |bl a=>
  cases ry
  cases x with
  |non=>cases rx;exact SeqAt.EqAt.bool_none a
  |bl b=>cases rx;exact SeqAt.EqAt.bool_bool a b
  |int b=>obtain⟨t,rfl⟩:=rx;exact SeqAt.EqAt.bool_int a b t
  |str b=>obtain⟨t,rfl⟩:=rx;exact SeqAt.EqAt.bool_str a b t
  |_=>exact absurd (show false=true from fx) NB
 |int a=>
  obtain⟨t',rfl⟩:=ry
  cases x with
  |non=>cases rx;exact SeqAt.EqAt.int_none a t'
  |bl b=>cases rx;exact SeqAt.EqAt.int_bool a t' b
  |int b=>obtain⟨t,rfl⟩:=rx;exact SeqAt.EqAt.int_int a t' b t
  |str b=>obtain⟨t,rfl⟩:=rx;exact SeqAt.EqAt.int_str a t' b t
  |_=>exact absurd (show false=true from fx) NB
 |str a=>
  obtain⟨t',rfl⟩:=ry
  cases x with
  |non=>cases rx;exact SeqAt.EqAt.str_none a t'
  |bl b=>cases rx;exact SeqAt.EqAt.str_bool a t' b
  |int b=>obtain⟨t,rfl⟩:=rx;exact SeqAt.EqAt.str_int a t' b t
  |str b=>obtain⟨t,rfl⟩:=rx;exact SeqAt.EqAt.str_str a t' b t
  |_=>exact absurd (show false=true from fx) NB
 |_=>exact absurd (show false=true from fy) NB
noncomputable def eqU(x:V)(u:Value):Bool:=match u with
 | .none=>eqV .non x
 | .bool b=>eqV (.bl b) x
 | .int i _=>eqV (.int i) x
 | .str z _=>eqV (.str z) x
 |_=>false
theorem kl2{x y:V}{u:Value}(r:RelV y u)(f:flatV y=true):eqU x u=eqV y x:=by
 cases y with
 |non=>cases r;rfl
 |bl b=>cases r;rfl
 |int i=>obtain⟨t,rfl⟩:=r;rfl
 |str z=>obtain⟨t,rfl⟩:=r;rfl
 |_=>exact absurd (show false=true from f) NB
theorem ke8{x:V}:∀{xs:List V}{us:List Value},Vals xs us->xs.all flatV=true->us.any (eqU x)=xs.any fun y=>eqV y x
 |_,_, .nil,_=>rfl
 |y::xs,u::us, .cons r t,f=>by
  rw[List.all_cons,Eh] at f
  rw[Mz,Mz,kl2 r f.1,ke8 t f.2]
theorem kdw{A:Around}{s:Shared}{x:V}{v:Value}(rx:RelV x v)(fx:flatV x=true):∀{xs:List V}{us:List Value},Vals xs us->xs.all flatV=true->∀u∈us,SeqAt.EqAt A s u v (eqU x u)
 |_,_, .nil,_=>fun u hu=>by cases hu
 |y::xs,u::us, .cons r t,f=>fun u' hu=>by
  rw[List.all_cons,Eh] at f
  rcases NS.mp hu with rfl|hu
  ·rw[kl2 r f.1];exact kl3 r rx f.1 fx
  ·exact kdw rx fx t f.2 u' hu
def inV(x:V)(xs:List V):Bool:=xs.any fun y=>eqV y x
noncomputable def rIn(K:Nr)(neg:Bool):R2:=fun x y H Q=>∃p xs,y=.ref p/\(SqL K H p xs∨SqT K H p xs)/\flatV x=true/\xs.all flatV=true/\Q (.bl (if neg then !inV x xs else inV x xs)) H
theorem kb7:OpR X (compareOp .In) (rIn X.K false):=by
 intro pins s σ H x y v u Q I rx ry h
 obtain⟨p,xs,rfl,hq,fx,fs,q⟩:=h
 cases ry
 rcases hq with hq|hq
 ·obtain⟨its,r,pl,hz⟩:=I.list hq
  refine SeqAt.in_listAt (eqU x) pl.isList (fun w hw=>kdw rx fx r fs w (by simpa using hw)) ⟨.bl _,H,I,rfl,?_⟩
  rw[show its.toArray.any (eqU x)=its.any (eqU x) by simp,ke8 r fs]
  exact q
 ·obtain⟨its,r,pl,hz⟩:=I.tuple hq
  refine SeqAt.in_tupleAt (eqU x) pl (fun w hw=>kdw rx fx r fs w (by simpa using hw)) ⟨.bl _,H,I,rfl,?_⟩
  rw[show its.toArray.any (eqU x)=its.any (eqU x) by simp,ke8 r fs]
  exact q
theorem kdX:OpR X (compareOp .NotIn) (rIn X.K true):=by
 intro pins s σ H x y v u Q I rx ry h
 obtain⟨p,xs,rfl,hq,fx,fs,q⟩:=h
 cases ry
 rcases hq with hq|hq
 ·obtain⟨its,r,pl,hz⟩:=I.list hq
  refine SeqAt.notIn_listAt (eqU x) pl.isList (fun w hw=>kdw rx fx r fs w (by simpa using hw)) ⟨.bl _,H,I,rfl,?_⟩
  rw[show its.toArray.any (eqU x)=its.any (eqU x) by simp,ke8 r fs]
  exact q
 ·obtain⟨its,r,pl,hz⟩:=I.tuple hq
  refine SeqAt.notIn_tupleAt (eqU x) pl (fun w hw=>kdw rx fx r fs w (by simpa using hw)) ⟨.bl _,H,I,rfl,?_⟩
  rw[show its.toArray.any (eqU x)=its.any (eqU x) by simp,ke8 r fs]
  exact q
theorem kau:CallR X (.builtin "len") (fun xs H Q=>∃p ys,xs=[.ref p]/\(SqL X.K H p ys∨SqT X.K H p ys)/\Q (.int ys.length) H):=by
 intro pins s σ H xs us Q I r h
 obtain⟨p,ys,rfl,hq,q⟩:=h
 obtain⟨u,rfl,rx⟩:=vals1 r
 cases rx
 have hn:=kgT
 rcases hq with hq|hq
 ·obtain⟨its,r',pl,hz⟩:=I.list hq
  have hlen:=r'.length
  exact Calls.call_len_list pl.isList (by simp only[NP] <;> omega) ⟨.int ys.length,H,I.tok _,⟨s.toks+1,by rw[NP,hlen]⟩,q⟩
 ·obtain⟨its,r',pl,hz⟩:=I.tuple hq
  have hlen:=r'.length
  exact len_tuple pl (by simp only[NP] <;> omega) ⟨.int ys.length,H,I.tok _,⟨s.toks+1,by rw[NP,hlen]⟩,q⟩
theorem CallR.or{f:Value}{r r':List V->Hp->VK->Prop}(h:CallR X f r)(h':CallR X f r'):CallR X f (fun xs H Q=>r xs H Q∨r' xs H Q):=by
 intro pins s σ H xs us Q I rs q
 rcases q with q|q
 ·exact h pins s σ H xs us Q I rs q
 ·exact h' pins s σ H xs us Q I rs q
theorem kaA:CallR X (.type "list") (fun xs H Q=>∃p ys,xs=[.ref p]/\(SqL X.K H p ys∨SqT X.K H p ys)/\∀l,H l=none->Q (.ref l) (upd H l (.lst ys))):=by
 intro pins s σ H xs us Q I r h
 obtain⟨p,ys,rfl,hq,q⟩:=h
 obtain⟨u,rfl,rx⟩:=vals1 r
 cases rx
 have fin:∀(its:List Value),Vals ys its->ys.length<=sizeLine->∀(h':Heap)(c':Nat),(∀b o',s.heap.get? b=some o'->h'.get? b=some o')->
   h'.get? s.heap.objs.size=some {cls:=.type "list",dict:=none,data:=.seq its.toArray c',slots:=#[]}->EP X pins σ Q (.ref s.heap.objs.size) {s with heap:=h'}:=fun its r' hz h' c' kp e=>
  ⟨.ref s.heap.objs.size,_,I.laid (t':=s.toks) kp (Nt _) (show ObjOk X.prog X.w _ h' _ (.lst ys) from⟨hz,its,c',r',e⟩),rfl,q _ (I.hok.fresh (Nt _))⟩
 rcases hq with hq|hq
 ·obtain⟨its,r',pl,hz⟩:=I.list hq
  have hlen:=r'.length
  obtain⟨o,ho,hc,n,hd⟩:=pl.isList
  exact call_list_seq p (.inl rfl) ho hc hd (fun h' c' kp e=>fin its r' hz h' c' kp e) (by simp only[NP] <;> omega)
 ·obtain⟨its,r',pl,hz⟩:=I.tuple hq
  have hlen:=r'.length
  obtain⟨o,ho,hc,n,hd⟩:=pl
  exact call_list_seq p (.inr rfl) ho hc hd (fun h' c' kp e=>fin its r' hz h' c' kp e) (by simp only[NP] <;> omega)
theorem kgd:CallR X (.type "tuple") (fun xs H Q=>∃p ys,xs=[.ref p]/\((SqL X.K H p ys/\∀l,H l=none->Q (.ref l) (upd H l (.tup ys)))∨(SqT X.K H p ys/\Q (.ref p) H))):=by
 intro pins s σ H xs us Q I r h
 obtain⟨p,ys,rfl,h⟩:=h
 obtain⟨u,rfl,rx⟩:=vals1 r
 cases rx
 rcases h with⟨hq,q⟩|⟨hq,q⟩
 ·obtain⟨its,r',pl,hz⟩:=I.list hq
  have hlen:=r'.length
  refine call_tuple_list pl.isList (fun h' kp=>?_) (by simp only[NP] <;> omega)
  have I1:Inv X pins σ H {s with heap:=h'}:=I.kept (t':=s.toks) kp
  have I2:Inv X pins σ (upd H h'.objs.size (.tup ys)) {s with heap:=h'.push {cls:=.type "tuple",data:=.seq its.toArray}}:=
   I1.laid (t':=s.toks) (fun b o e=>Heap.get?_push_of_some _ e) (Nt _) (show ObjOk X.prog X.w _ _ _ (.tup ys) from⟨hz,its,r',IsTup.new _ _⟩)
  exact⟨.ref h'.objs.size,_,I2,rfl,q _ (I1.hok.fresh (Nt _))⟩
 ·obtain⟨its,r',pl,hz⟩:=I.tuple hq
  exact call_tuple_same pl ⟨.ref p,H,I,rfl,q⟩
noncomputable def tyV(K:Nr)(T:String)(x:V)(H:Hp):Prop:=match x with
 | .str _=>T="str"
 | .int _=>T="int"
 | .ref p=>(T="list"/\∃xs,SqL K H p xs)∨(T="tuple"/\∃o,K.lookup p=some o/\o.cls=.type "tuple"/\o.dict=none)∨
   (T="dict"/\((∃kvs,H p=some (.dK kvs))∨∃kvs,H p=some (.dT kvs)))∨(T="set"/\∃S n,H p=some (.set S n))
 |_=>False
theorem klC{pins:List (Addr×Obj)}{σ:St}{H:Hp}{s:Shared}{T:String}{x:V}{v:Value}(I:Inv X pins σ H s)(r:RelV x v)(ty:tyV X.K T x H):
  s.TypeIs v T/\∀a,v=.ref a->∃ob,s.heap.get? a=some ob/\ob.dict=none:=by
 cases x with
 |str z=>
  obtain⟨t,rfl⟩:=r
  cases(show T="str" from ty)
  exact⟨typeIs_str s z t,fun _ e=>nomatch e⟩
 |int i=>
  obtain⟨t,rfl⟩:=r
  cases(show T="int" from ty)
  exact⟨typeIs_int s i t,fun _ e=>nomatch e⟩
 | ref p=>
  cases r
  rcases ty with⟨rfl,xs,hq⟩|⟨rfl,o,hk,hc,hd⟩|⟨rfl,hk⟩|⟨rfl,S,n,hk⟩
  ·obtain⟨its,_,pl,_⟩:=I.list hq
   refine⟨pl.isList.typeIs,fun a e=>?_⟩
   cases e
   obtain⟨o,n,e,c,hd,_⟩:=pl
   exact⟨o,e,hd⟩
  ·refine⟨⟨o,I.kIn p o hk,hc⟩,fun a e=>?_⟩
   cases e
   exact⟨o,I.kIn _ o hk,hd⟩
  ·have z:∃o,s.heap.get? p=some o/\o.ExactDict:=by
    rcases hk with⟨kvs,hk⟩|⟨kvs,hk⟩
    ·obtain⟨_,_,_,_,o,_,_,e,ex,_⟩:=I.hok p _ hk
     exact⟨o,e,ex⟩
    ·obtain⟨_,_,_,_,o,_,_,e,ex,_⟩:=I.hok p _ hk
     exact⟨o,e,ex⟩
   obtain⟨o,e,ex⟩:=z
   refine⟨⟨o,e,ex.1⟩,fun a e2=>?_⟩
   cases e2
   exact⟨o,e,ex.2.1⟩
  ·obtain⟨o,_,_,_,e,ex,_⟩:=I.hok p _ hk
   refine⟨⟨o,e,ex.1⟩,fun a e2=>?_⟩
   cases e2
   exact⟨o,e,ex.2.1⟩
 |_=>exact False.elim ty
noncomputable def tBM(K:Nr)(T:String)(r:V->List V->Hp->VK->Prop)(to:TE)(t:TA):TE:=fun σ H Q=>to σ H fun x H1=>tyV K T x H1/\t σ H1 fun xs H2=>r x xs H2 Q
variable {o e:Expr} {es:List Expr} {to:TE} {t:TA} {name:Str} {apos cpos:Pos} {T id:String} {r:V->List V->Hp->VK->Prop}
theorem pe_bm(pa:PlainAttrs T)(slot:Slot T name id)(hty:typeOf (.builtin id)=pure (.type "method_descriptor"))(hm:MtR X id r)(ho:PE X o to)(ha:PA X (e::es) t)
  (hbase:attributeBase o name X.env (eval o X.env)=eval o X.env:=by rfl)
  (hfew:((backTo cpos (starEach (e::es) X.env)).all (fun x=>!x.1)&&(backToKw cpos (keywordEach [] X.env)).all (fun x=>x.1.isSome)
   &&decide ((e::es).length+([]:List Keyword).length+(if([]:List Keyword).isEmpty then 0 else 1)<30))=true:=by rfl)
  (hline:(apos.endLine==cpos.line)=true:=by rfl) (hs:starEach (e::es) X.env=(false,eval e X.env)::starEach es X.env:=by rfl) (hplain:(backTo cpos (starEach es X.env)).any (·.1)=false:=by rfl):
  PE X (.Call (.Attribute o name apos) (e::es) [] cpos) (tBM X.K T r to t):=by
 intro pins s σ H Q I h
 refine wpAny_Call_method_late hbase hfew hline rfl (thn (ho pins s σ H _ I h) fun v s1 zz=>?_)
 obtain⟨x,H1,I1,r1,ty,q1⟩:=zz
 obtain⟨h1,h2⟩:=klC I1 r1 ty
 refine⟨T,id,pa,slot,hty,h1,h2,?_⟩
 have hA:=ha cpos pins s1 σ H1 _ I1 q1
 rw[hs] at hA⊢
 refine Calls.callWith_builtin (by show(false||(backTo cpos (starEach es X.env)).any (·.1))=false;rw[hplain] <;> rfl) (Calls.evalArgs_plain ?_)
 exact thn hA fun us s2 ⟨vs,H2,I2,r2,q2⟩=>hm pins s2 σ H2 x vs v us Q I2 r1 r2 q2
end
end L2
namespace L2
open PySem PySem.Spec PyProof.Rows
noncomputable def MtM(X:Cx)(id:String)(r:V->List V->Hp->VK->Prop):Prop:=
 ∀(pins:List (Addr×Obj))(s:Shared)(σ:St)(H:Hp)(x:V)(xs:List V)(v:Value)(us:List Value)(Q:VK),Inv X pins σ H s->RelV x v->Vals xs us->r x xs H Q->
  wpAny (model X.prog X.w) X.A (call (.builtin id) (v::us)) (EP X pins σ Q) X.xe s
theorem Vals.one:∀{x:V}{us:List Value},Vals [x] us->∃u,us=[u]/\RelV x u
 |_,_, .cons r .nil=>⟨_,rfl,r⟩
theorem Vals.two:∀{x y:V}{us:List Value},Vals [x,y] us->∃u v,us=[u,v]/\RelV x u/\RelV y v
 |_,_,_, .cons r (.cons q .nil)=>⟨_,_,rfl,r,q⟩
theorem Vals.zero:∀{us:List Value},Vals [] us->us=[]
 |_, .nil=>rfl
theorem Vals.dropLast{xs:List V}{us:List Value}(h:Vals xs us):Vals xs.dropLast us.dropLast:=by
 induction h with
 |nil=>exact .nil
 |cons r t ih=>
  cases t with
  |nil=>exact .nil
  |cons q t'=>exact .cons r ih
theorem Vals.reverse{xs:List V}{us:List Value}(h:Vals xs us):Vals xs.reverse us.reverse:=by
 induction h with
 |nil=>exact .nil
 |cons r t ih=>rw[EA,EA];exact Vals.append ih (.cons r .nil)
theorem Vals.rep{xs:List V}{us:List Value}(h:Vals xs us):∀k:Nat,Vals (Nu k xs).flatten (Nu k us).flatten
 |0=>.nil
 |k+1=>by
  rw[MA,MA,N4,N4]
  exact Vals.append h (Vals.rep h k)
theorem foldl_rep(its:List Value):∀(k:Nat)(acc:List Value),
  List.foldl (fun x1 x2=>x1++x2) acc.toArray (Nu k its.toArray)=(acc++(Nu k its).flatten).toArray
 |0,acc=>by simp
 | k+1,acc=>by
  have e:acc.toArray++its.toArray=(acc++its).toArray:=by simp
  have e2:(acc++its)++(Nu k its).flatten=acc++(Nu (k+1) its).flatten:=by
   rw[MA,N4,Mg]
  rw[<-e2,<-foldl_rep its k (acc++its),<-e,MA,List.foldl_cons]
section
variable {X:Cx} {pins:List (Addr×Obj)} {σ:St} {H:Hp} {s:Shared} {l b:Addr} {xs ys zs:List V}
theorem Inv.lset{its its':List Value}{n:Nat}{f:Array Value->Array Value}{t':Nat}(I:Inv X pins σ H s)(hH:H l=some (.lst xs))
  (e:s.heap.get? l=some {cls:=.type "list",data:=.seq its.toArray n}) (hf:f its.toArray=its'.toArray) (hv:Vals ys its') (hz:ys.length<=sizeLine):
  Inv X pins σ (upd H l (.lst ys)) {s with heap:=s.heap.update l (Obj.mapSeq f),toks:=t'}:=by
 have q:=PySem.IsL.update e f
 rw[hf] at q
 refine I.write (x:=l) (e:=l) (by rw[hH];exact trivial) (.inl rfl) (fun b' u hb hu=>(Heap.get?_update_other s.heap (Obj.mapSeq f) (Ne.symm hb)).trans hu) ⟨_,q⟩ ?_
 exact⟨hz,its',_,hv,q⟩
theorem Inv.lnew{its:List Value}{t':Nat}(I:Inv X pins σ H s)(hv:Vals ys its)(hz:ys.length<=sizeLine):
  Inv X pins σ (upd H s.heap.objs.size (.lst ys)) {s with heap:=s.heap.push {cls:=.type "list",data:=.seq its.toArray},toks:=t'}:=
 I.laid (fun _ _ q=>Heap.get?_push_of_some _ q) (Nt _) ⟨hz,its,0,hv,Heap.get?_push_size _ rfl⟩
theorem Inv.fresh(I:Inv X pins σ H s):H s.heap.objs.size=none:=I.hok.fresh (Nt _)
theorem Inv.lstM(I:Inv X pins σ H s)(hH:H l=some (.lst xs)):xs.length<=sizeLine/\∃(its:List Value)(n:Nat),Vals xs its/\xs.length=its.length/\s.heap.get? l=some {cls:=.type "list",data:=.seq its.toArray n}:=by
 obtain⟨z,its,n,r,e⟩:=I.hok l _ hH
 exact⟨z,its,n,r,r.length,e⟩
theorem kis{n:Nat}(h:n<=sizeLine):Builtin.List.listTooLong n=false:=by
 unfold Builtin.List.listTooLong
 exact decide_eq_false (by omega)
end
section
variable {X:Cx}
noncomputable def kmt:V->List V->Hp->VK->Prop:=fun x vs H Q=>∃l xs y,x=.ref l/\vs=[y]/\H l=some (.lst xs)/\xs.length<sizeLine/\Q .non (upd H l (.lst (xs++[y])))
theorem kbF:MtM X "list.append" kmt:=by
 intro pins s σ H x vs v us Q I rx rv h
 obtain⟨l,xs,y,rfl,rfl,hH,hz,q⟩:=h
 cases rx
 obtain⟨u,rfl,ru⟩:=rv.one
 obtain⟨z,its,n,r,hl,e⟩:=I.lstM hH
 refine call_meets F.slot_list_append ⟨_,e,rfl⟩ F.entry_list_append (F.args_list_append_2 _ _) (PySem.list_append l its.toArray n u (by rw[NP];omega)) ⟨e,?_⟩
 refine⟨.non,_,I.lset (its':=its++[u]) hH e (by simp) (r.append (.cons ru .nil)) ?_,rfl,q⟩
 rw[NG,Mv]
 omega
noncomputable def kms:V->List V->Hp->VK->Prop:=fun x vs H Q=>∃l b xs zs,x=.ref l/\vs=[.ref b]/\H l=some (.lst xs)/\H b=some (.lst zs)/\xs.length+zs.length<=sizeLine/\Q .non (upd H l (.lst (xs++zs)))
theorem kdv:MtM X "list.extend" kms:=by
 intro pins s σ H x vs v us Q I rx rv h
 obtain⟨l,b,xs,zs,rfl,rfl,hH,hB,hz,q⟩:=h
 cases rx
 obtain⟨u,rfl,ru⟩:=rv.one
 cases ru
 obtain⟨z,its,n,r,hl,e⟩:=I.lstM hH
 obtain⟨z2,its2,n2,r2,hl2,e2⟩:=I.lstM hB
 have hsz:its.toArray.size+its2.toArray.size<=sizeLine:=by rw[NP,NP];omega
 have hlong:¬(!its.toArray.isEmpty&&Builtin.List.listTooLong (its.toArray.size+its2.toArray.size))=true:=by
  rw[kis hsz,Bool.and_false]
  exact NB
 refine call_meets F.slot_list_extend ⟨_,e,rfl⟩ F.entry_list_extend (F.args_list_extend_2 _ _)
  (AutoSeq1.list_extend_list_list_0 l its.toArray n b its2.toArray n2 hlong (by rw[NP];omega) (by omega)) ⟨e,e2,?_⟩
 refine⟨.non,_,I.lset (its':=its++its2) hH e (by simp) (r.append r2) ?_,rfl,q⟩
 rw[NG]
 omega
noncomputable def rCat:R2:=fun x y H Q=>∃l b xs zs,x=.ref l/\y=.ref b/\H l=some (.lst xs)/\H b=some (.lst zs)/\xs.length+zs.length<=sizeLine/\∀p,H p=none->Q (.ref p) (upd H p (.lst (xs++zs)))
theorem klV:OpR X (binaryOp .Add) rCat:=by
 intro pins s σ H x y v u Q I rx ry h
 obtain⟨l,b,xs,zs,rfl,rfl,hH,hB,hz,q⟩:=h
 cases rx
 cases ry
 obtain⟨z,its,n,r,hl,e⟩:=I.lstM hH
 obtain⟨z2,its2,n2,r2,hl2,e2⟩:=I.lstM hB
 refine PySem.P.add_list e e2 ?_ (by rw[NP,NP];omega)
 have ea:its.toArray++its2.toArray=(its++its2).toArray:=by simp
 rw[ea]
 exact⟨.ref _,_,I.lnew (t':=s.toks) (r.append r2) (by rw[NG];omega),rfl,q _ I.fresh⟩
noncomputable def rRep:R2:=fun x y H Q=>∃l k xs,x=.ref l/\y=.int k/\H l=some (.lst xs)/\-(2 ^ 63)<=k/\k<2 ^ 63/\xs.length*k.toNat<=sizeLine/\
 ∀p,H p=none->Q (.ref p) (upd H p (.lst (Nu k.toNat xs).flatten))
theorem len_rep{α:Type}(xs:List α)(k:Nat):(Nu k xs).flatten.length=k*xs.length:=by
 induction k with
 |zero=>simp
 |succ k ih=>rw[MA,N4,NG,ih,Nat.succ_mul,Nat.add_comm]
theorem keL:OpR X (binaryOp .Mult) rRep:=by
 intro pins s σ H x y v u Q I rx ry h
 obtain⟨l,k,xs,rfl,rfl,hH,h1,h2,hz,q⟩:=h
 cases rx
 obtain⟨t,rfl⟩:=ry
 obtain⟨z,its,n,r,hl,e⟩:=I.lstM hH
 have hlen:its.toArray.size*k.toNat<=sizeLine:=by rw[NP,<-hl];exact hz
 have hcap:¬its.toArray.size*k.toNat > (2 ^ 63-1)/8:=by
  have:(sizeLine:Nat)<=(2 ^ 63-1)/8:=by decide
  omega
 have hfit:¬(!Builtin.List.listFitsIndex k)=true:=by
  rw[fitsIndex_both h1 h2]
  exact NB
 have hlong:¬Builtin.List.listTooLong (its.toArray.size*k.toNat)=true:=by
  rw[kis hlen]
  exact NB
 have hnew:List.foldl (fun x1 x2=>x1++x2) #[] (Nu (if its.toArray.isEmpty=true then 0 else k.toNat) its.toArray)=(Nu k.toNat its).flatten.toArray:=by
  have f0:∀m:Nat,List.foldl (fun x1 x2=>x1++x2) #[] (Nu m its.toArray)=(Nu m its).flatten.toArray:=fun m=>by
   have:=foldl_rep its m []
   rw[Mw] at this
   exact this
  rw[f0]
  cases its with
  |nil=>simp
  |cons a r'=>rw[if_neg (by simp)]
 refine wpAny_binaryOp_repeat_ref (T:="list") (U:="int") (by decide) ⟨_,e,rfl⟩ (fun s'=>typeIs_int s' k t) noFill_list_mul F.fills_int_mul F.slot_int_rmul repeat_list F.slot_int_index.lookup
  (call_meets F.slot_int_rmul (typeIs_int s k t) F.entry_int_rmul (F.args_int_rmul_2 _ _) (int___rmul___int_list k t l its.toArray n)
   ⟨e,rfl,⟨_,e,rfl⟩,call_meets F.slot_list_mul ⟨_,e,rfl⟩ F.entry_list_mul (F.args_list_mul_2 _ _) (AutoListH.list___mul___list_int_3 l its.toArray n k t hfit hcap hlong) ⟨e,?_⟩⟩)
 rw[hnew]
 exact⟨.ref _,_,I.lnew (t':=s.toks) (r.rep k.toNat) (by rw[len_rep,Nat.mul_comm];exact hz),rfl,q _ I.fresh⟩
end
section
variable {prog:Program} {w:World} {A:Around} {E:Value->Shared->Prop} {s:Shared}
set_option maxRecDepth 100000 in
end
section
variable {X:Cx}
end
end L2
namespace Att
open PySem PySem.W PySem.Calls PyProof.Rows
theorem keZ{P:Params}{h:Heap}:∀(ns:List Int)(vs:List Value),WellAll P h vs (ns.map WData.int)->IntsAre vs ns:=by
 intro ns
 induction ns with
 |nil=>
  intro vs w
  rw[MI] at w
  cases w
  exact .nil
 | cons n ns ih=>
  intro vs w
  rw[NJ] at w
  cases w with
  |cons a b=>
   cases a
   exact .cons _ _ (ih _ b)
theorem kjC{l:OpenLaw}{n:Nat}(hn:l.most=some n){P:Params}{h:Heap}{args:List WData}{vals:List Value}
  (hpre:l.row.toRowW.claim.pre args=true) (hwl:WellAll P h vals args):
  ∃a vs ns,vals=[Value.ref a]/\args=[WData.list (ns.map WData.int)]/\h.get? a=some {cls:=.type "list",data:=.seq vs.toArray}/\IntsAre vs ns/\ns.length<=n:=by
 have hsh:WShape.hasAll [] args [.list .int]=true:=(pre_splitW hpre).1
 have hc:l.pre.holds [] {args:=args}=true:=(pre_splitW hpre).2
 obtain⟨d,r,rfl,h1,h2⟩:=hasAllW_cons hsh
 obtain rfl:=hasAllW_nil h2
 obtain⟨xs,rfl,h3⟩:=hasW_list h1
 obtain⟨ns,rfl⟩:=items_int h3
 have hlen:ns.length<=n:=by
  unfold OpenLaw.pre at hc
  have h4:(WTm.not (.lt (.lit (.int (n:Int))) (.len (.arg 0)))).holds [] {args:=[.list (ns.map .int)]}=true:=by
   have h4:=(holds_andW hc).1
   rw[hn] at h4
   exact h4
  have h5:=condW_of h4 (w_not (w_lt w_lit (w_len_list (w_arg rfl))))
  rw[Nq] at h5
  refine Nat.le_of_not_lt fun q=>?_
  have q':(n:Int)<((ns.length:Nat):Int):=by omega
  first
   |(rw[decide_eq_true q'] at h5;exact absurd h5 (by decide))
   |(simp at h5;omega)
 cases hwl with
 |cons w1 w2=>
  cases w2
  cases w1 with
  |list ho hall=>exact⟨_,_,ns,rfl,rfl,ho,keZ ns _ hall,hlen⟩
noncomputable def kjO(l:OpenLaw)(args:List WData):l.row.toRowW.claim.post args (.bool true) args=true:=
 postW_of (r:=l.row.toRowW) (X:=(true==true))
  (show WShape.has [] (.bool true) .bool=true by first|rfl|decide|simp[WShape.has,WShape.arms,WShape.armsAll])
  (show(WTm.eq .res (.lit (.bool true))).value [] {args:=args,res:=some (.bool true),after:=args}=some (.bool (true==true)) from w_eq_bool (w_res rfl) w_lit) rfl
theorem attach_call{l:OpenLaw}{n:Nat}{q:Program}{loose:List Str}{XP:(Str->Option Value)->Heap->Prop}{YP:World->Heap->Prop}{d:DefRec}
  (hn:l.most=some n) (hdf:d.params.defaults=[])
  (call:∀(w:World)(s₀ s₁:Shared)(mg mb:Str->Option Value)(fa:Addr)(o:Obj)(pm cd doc:Value)(a:Addr)(vs:List Value)(ns:List Int),
   Ground q loose [] XP w s₀ mg mb s₁.heap->YP w s₁.heap->
   s₁.heap.get? fa=some o->o.data=.func (docDef d.name d.params d.body d.scope pm cd doc)->s₁.heap.CodeRec cd d.name->mg d.name=some (.ref fa)->
   s₁.heap.get? a=some {cls:=.type "list",data:=.seq vs.toArray}->IntsAre vs ns->ns.length<=n->s₁.gens= #[]->
   codeAny (model l.prog w) callerA (.call (.ref fa) ⟨[.ref a],[]⟩) (fun r s'=>r=.ok (.ret (.bool true))/\OldK s₁.heap s'.heap/\s'.os=s₁.os/\AllBare s'.gens) s₁):
  WalkO q loose XP YP l.row.toRowW d [] (fun f vs=>PySem.call f vs):=by
 intro w s₀ s₁ mg mb G Y fa o pm cd doc dV kV ho hd hcd hD hmg hg args vals as hpre hlay hrd hwl hlo
 obtain rfl:dV=.none:=Dflts.none hD hdf
 obtain rfl:kV=.none:=Dflts.noKw hD
 obtain⟨a,vs,ns,rfl,rfl,hobj,hints,hlen⟩:=kjC hn hpre hwl
 refine enter_call (codeAny_mono (call w s₀ s₁ mg mb fa o pm cd doc a vs ns G Y ho (fd_plain hd) hcd hmg hobj hints hlen hg) fun r s' hq=>?_)
 obtain⟨rfl,h2,h3,h4⟩:=hq
 exact⟨.inl ⟨.bool true, .bool true,[],rfl,fun _=>rfl, .bool true,kjO l _,fun _=>⟨MR.nil,fun _ hm=>(nomatch hm)⟩⟩,h2,h3,h4⟩
section
variable {prog:Program} {w:World} {A:Around} {E:Value->Shared->Prop} {s:Shared} {K:Frag}
end
end Att
namespace L2
open PySem PySem.Spec PyProof.Rows
theorem kgj:∀{vs:List Value}{ns:List Int},IntsAre vs ns->Vals (ns.map V.int) vs
 |_,_, .nil=>.nil
 |_,_, .cons n t h=>.cons ⟨t,rfl⟩ (kgj h)
end L2
namespace L2
open PySem PySem.Spec PyProof.Rows
noncomputable def inClass(s:Stmt)(j:Nat):Stmt:=match s with
 | .ClassDef _ _ _ body _ _ _ _ _ _ _=>body.getD j (.Pass ⟨0,0,0,0⟩)
 |_=>.Pass ⟨0,0,0,0⟩
noncomputable def kaD(s:Stmt):Arguments:=match s with
 | .FunctionDef _ a _ _ _ _ _ _ _ _=>a
 |_=>{posonlyargs:=[],args:=[],vararg:=none,kwonlyargs:=[],kw_defaults:=[],kwarg:=none,defaults:=[]}
def kaB(s:Stmt):List Stmt:=match s with
 | .FunctionDef _ _ b _ _ _ _ _ _ _=>b
 |_=>[]
noncomputable def kag(s:Stmt):Scope:=match s with
 | .FunctionDef _ _ _ _ _ _ sc _ _ _=>sc
 |_=>{kind:=.function,names:=[],isGenerator:=false,isCoroutine:=false}
abbrev CX0:CXT:=fun _ _ _ _ _ _=>False
abbrev E0:XK:=fun _ _ _=>False
def pass0{X:Cx}:kdD CX0 X E0:=fun _ _ _ _ _ _ _ h=>h.elim
structure Fun (K:Nr) (x qual:Str) (st:Stmt) (f:Addr) (fd:FuncData):Prop where
 ex:∃(oc:Value)(od:Option Addr)(kV doc pm:Value)(an:Option Addr)(cdv ct:Value)(osl:Array (Option Value)),
  fd=NI x qual (kaD st) (kaB st) (kag st) .none kV doc pm an cdv ct/\K.lookup f=some ⟨oc,od, .func fd,osl⟩/\N3 K cdv qual=true
 kp:NH K (.ref f)=true
section
variable {P:Program} {w:World} {K:Nr} {mg:Str->Option Value} {base:Heap}
theorem Fun.ok{x qual:Str}{st:Stmt}{f:Addr}{fd:FuncData}{N ps:List Str}{k:Nat}{sp:Sp}(F:Fun K x qual st f fd)(S:kao N ps (kag st))(len:∀vs H Q E,sp vs H Q E->vs.length=ps.length)
  (hbody:∀(cdv:Value)(A:Around)(outer:List Env)(s:Shared)(H:Hp)(vs:List V)(Q:VK)(E:XK),Room k (A.deeper (envOfC qual (kag st) s.heap.objs.size f cdv))->sp vs H Q E->
   ∃t,PSs (cxOf CX0 P w K mg base N qual (kag st) f cdv A outer s H E).nox (kaB st) t/\t {nx:=fun _ H'=>Q .non H',rt:=Q} (start N vs) H):FnOk P w K mg base CX0 (k+1) f fd ps sp:=by
 obtain⟨oc,od,kV,doc,pm,an,cdv,ct,osl,rfl,lk,hcd⟩:=F.ex
 refine fn_of lk hcd S len fun A outer s H vs Q E hr hsp=>?_
 obtain⟨t,h,q⟩:=hbody cdv A outer s H vs Q E hr hsp
 exact⟨t,h.nox,q⟩
theorem Fun.binds{x qual:Str}{st:Stmt}{f:Addr}{fd:FuncData}{ps:List Str}(F:Fun K x qual st f fd)
  (h:∀(kV doc pm:Value)(an:Option Addr)(cdv ct:Value)(us:List Value),us.length=ps.length->bindArgs (NI x qual (kaD st) (kaB st) (kag st) .none kV doc pm an cdv ct) ⟨us,[]⟩=pure (ps.zip us)):Binds K fd ps []:=by
 obtain⟨oc,od,kV,doc,pm,an,cdv,ct,osl,rfl,lk,hcd⟩:=F.ex
 exact .all (h kV doc pm an cdv ct)
end
def hu_of{A:Around}{k:Nat}(hr:Room k A):A.units+1<cLine:=MB (Nat.add_le_add_left (by decide:1<=64) _) hr.units
def kap{n:Nat}(h:n<=1000):n<sizeLine:=MB h (by decide)
section
variable {X:Cx}
theorem pv(i:Nat){x:Str}{pos:Pos}(hN:X.N[i]?=some x:=by rfl)(hv:Vis X.env.scope x:=by first|exact Or.inl rfl|exact Or.inr (Or.inl rfl)|exact Or.inr (Or.inr rfl))(hd:(x==("__debug__" :Str))=false:=by decide)
  (hcd:(x==("__classdict__" :Str))=false:=by decide):PE X (.Name x pos) (tVar i):=kne hN hv hd hcd
end
def iteF{A B:Prop}(h:B):if false=true then A else B:=by
 rw[if_neg NB]
 exact h
def iteT{A B:Prop}(h:A):if true=true then A else B:=by
 rw[if_pos rfl]
 exact h
noncomputable def ite2{c A B:Prop} [Decidable c] (h1:c->A) (h2:¬c->B):if c then A else B:=by
 by_cases h:c
 ·rw[if_pos h]
  exact h1 h
 ·rw[if_neg h]
  exact h2 h
end L2
namespace L2
open PySem PySem.Spec PyProof.Rows
section
variable {X:Cx}
theorem log2_small{n:Nat}(h:n<2 ^ 200):n.log2<9000:=by
 by_cases h0:n=0
 ·subst h0
  decide
 ·have h1:n.log2<200:=(Nat.log2_lt h0).mpr h
  omega
def CDivB(_ j:Int):Prop:=0<j/\j<2 ^ 199
theorem kk6:OpR X (binaryOp .FloorDiv) (rI CDivB fun i j=>.int (i/j)):=opI fun i j _ _ _ _ _ hc q=>by
 have h1:(0:Int)<j:=hc.1
 have h2:j<2 ^ 199:=hc.2
 have h3:j.natAbs<2 ^ 200:=by omega
 exact floordiv_int (by omega) (by rw[Int.fdiv_eq_ediv_of_nonneg i (by omega)];exact q) (.inl (PyProof.noPylong_of_log2 (log2_small h3)))
theorem kc0(hc:X.calm=true):CallR X (.builtin "sum") (fun xs H Q=>∃(p:Addr)(ns:List Int),xs=[.ref p]/\SqL X.K H p (ns.map V.int)/\Q (.int ns.sum) H):=by
 intro pins s σ H xs us Q I r h
 obtain⟨p,ns,rfl,hq,q⟩:=h
 obtain⟨u,rfl,rx⟩:=vals1 r
 cases rx
 obtain⟨its,r',pl,hz⟩:=I.list hq
 have hi:IntsAre its ns:=intsAre_of r'
 have ha:=hi.allInts
 obtain⟨zs,hx⟩:=ha.items
 have hl:=pl.isList
 rw[hx] at hl
 refine sum_intListG (I.ok.hd hc) hl fun h' tk t' hk=>⟨.int ns.sum,H,I.kept hk,⟨t',?_⟩,q⟩
 have e2:preSum (numAt zs) zs.size=(numsOf (intItems zs).toList).sum:=by
  rw[nums_intItems,preSum_eq,MC (by simp)]
 have e3:numsOf its.toArray.toList=ns:=hi.numsOf
 rw[e2,<-hx,e3]
theorem klr:∀{x:V},flatV x=true->eqV x x=true
 | .non,_=>rfl
 | .bl b,_=>by simp[eqV]
 | .int i,_=>by simp[eqV]
 | .str z,_=>by simp[eqV]
def cV:V->Value
 | .ty n=>.type n
 | .ref a=>.ref a
 |_=>.none
theorem kaQ:CallR X (.builtin "isinstance") (fun xs H Q=>∃x c t b,xs=[x,c]/\((∃n,c=.ty n)∨∃a,c=.ref a)/\TyOf X.K H x t/\NN X.K t (cV c)=some b/\Q (.bl b) H):=by
 intro pins s σ H xs us Q I r h
 obtain⟨x,c,t,b,rfl,hc,ty,e,q⟩:=h
 obtain⟨u,w',rfl,r1,r2⟩:=vals2 r
 have ew:w'=cV c:=by
  rcases hc with⟨n,rfl⟩|⟨a,rfl⟩
  ·exact r2
  ·exact r2
 subst ew
 exact kkb I r1 ty e fun tk=>⟨.bl b,H,I.tok tk,rfl,q⟩
theorem b_isi:bootBuiltins "isinstance"=some (.builtin "isinstance"):=by decide +kernel
theorem b_int:bootBuiltins "int"=some (.type "int"):=by decide +kernel
theorem knz:bootBuiltins "bool"=some (.type "bool"):=by decide +kernel
theorem kbj:bootBuiltins "list"=some (.type "list"):=by decide +kernel
theorem b_sum:bootBuiltins "sum"=some (.builtin "sum"):=by decide +kernel
theorem b_min:bootBuiltins "min"=some (.builtin "min"):=by decide +kernel
theorem b_max:bootBuiltins "max"=some (.builtin "max"):=by decide +kernel
theorem b_len:bootBuiltins "len"=some (.builtin "len"):=by decide +kernel
theorem kbV(K:Nr)(t:Value):NN K t t=some true:=by
 unfold NN
 rw[if_pos (by simp)]
theorem kgU(K:Nr):NN K (.type "int") (.type "bool")=some false:=by
 have e:(Value.type "int" ==Value.type "bool")=false:=by decide +kernel
 unfold NN PySem.W.kitCls PySem.W.subIn
 rw[e,if_neg NB]
 show(if PySem.W.kitMeta "bool"=true then _ else _)=_
 rw[if_pos (by decide +kernel)]
 show(fastBuiltinMro "int").map (·.contains (Value.type "bool"))=some false
 decide +kernel
def tCut(t:TS):TS:=fun D σ H=>∃P:St->Hp->Prop,t {D with nx:=P} σ H/\∀σ' H',P σ' H'->D.nx σ' H'
theorem keD{st:Stmt}{t:TS}(h:PS X st t):PS X st (tCut t):=by
 intro pins s σ H D I hw
 obtain⟨P,h1,h2⟩:=hw
 refine thn (h pins s σ H {D with nx:=P} I h1) fun f s' q=>?_
 cases f with
 |next=>
  obtain⟨σ',H',I',q'⟩:=q
  exact⟨σ',H',I',h2 σ' H' q'⟩
 |brk=>exact q
 |cont=>exact q
 |ret u=>exact q
def tCutE(t:TE):TE:=fun σ H Q=>∃P:V->Hp->Prop,t σ H P/\∀v H',P v H'->Q v H'
theorem kdW{e:Expr}{t:TE}(h:PE X e t):PE X e (tCutE t):=by
 intro pins s σ H Q I hw
 obtain⟨P,h1,h2⟩:=hw
 exact thn (h pins s σ H P I h1) fun u s' ⟨v,H',I',r,q⟩=>⟨v,H',I',r,h2 v H' q⟩
def Its(lo st:Int)(n:Nat):It:=⟨fun i _=>i<n,fun i H x H'=>H'=H/\x=.int (lo+i*st),fun i _=>n<=i⟩
theorem ki9{P:Program}{w:World}{K:Nr}{tg:Expr}(it:Addr)(lo st:Int)(n:Nat):Turn P w K tg (Its lo st n) [it] it (fun i h=>IsRangeIter h it (lo+(i:Nat)*st) ((n:Int)-(i:Nat)) st) where
 mem:=by simp
 obj:=fun i h st b hb=>by
  have e:b=it:=by simpa using hb
  subst e
  exact⟨_,st,fun v z=>by
   have z':Data.fields _=Data.cell v:=z
   cases z'⟩
 keep:=fun i h h' st k=>k it (by simp) _ st
 item:=by
  intro X hP hw hK hc i pins s σ H E I hf st' hg
  subst hP hw hK
  obtain⟨f0,f1,f2,f3,f4,f5⟩:=hf it (by simp)
  have W:=Walks.range (prog:=X.prog) (w:=X.w) (I.ok.hd hc) it lo st n
  refine W.item i s _ _ hg st' fun v h' tk hv st'' kk=>?_
  obtain⟨t,rfl⟩:=hv
  have I1:Inv X pins σ H {s with heap:=h',toks:=tk}:=I.turned (fun b o hb e=>kk b o (by simpa using hb) e) f0 f1 f3 f4 f5
  exact⟨_,rfl,go_of (s:={s with heap:=h',toks:=tk}) (n:="range_iterator") st'' rfl rfl (by decide) ⟨.int (lo+i*st),H,I1,⟨t,rfl⟩,⟨rfl,rfl⟩,st'',fun b hb=>(hf b hb).1⟩⟩
 done:=by
  intro X hP hw hK hc i pins s σ H E I hf st hg
  subst hP hw hK
  obtain⟨f0,f1,f2,f3,f4,f5⟩:=hf it (by simp)
  exact wpAny_pyNext_range_end (I.ok.hd hc) st (by have:n<=i:=hg;omega) fun h' eb=>⟨rfl,I.turned (t':=s.toks) (fun b o hb e=>eb b o hb e) f0 f1 f3 f4 f5⟩
 self:=fun _ _ _ _ _ st h=>wpAny_pyIter_rangeiter st h
theorem kgr{a b c:Int}(hc:0<c)(ha: -(2 ^ 31)<=a/\a<2 ^ 31)(hb: -(2 ^ 31)<=b/\b<2 ^ 31):0<=Builtin.Range.rangeSize a b c/\Builtin.Range.rangeSize a b c<2 ^ 33:=by
 unfold Builtin.Range.rangeSize
 rw[if_pos hc]
 split
 ·have h1:0<=(b-a-1)/c:=Int.ediv_nonneg (by omega) (by omega)
  have h2:(b-a-1)/c<=b-a-1:=Int.ediv_le_self _ (by omega)
  omega
 ·omega
theorem kiM{a b c:Int}(hc:0<c)(hc2:c<2 ^ 30)(ha: -(2 ^ 31)<=a/\a<2 ^ 31)(hb: -(2 ^ 31)<=b/\b<2 ^ 31):Builtin.Range.small a b c=true:=by
 have h:=kgr hc ha hb
 unfold Builtin.Range.small
 generalize Builtin.Range.rangeSize a b c=n at h
 simp only[Builtin.Range.rangeFitsLong,Eh,E9,decide_eq_true_eq,beq_iff_eq,show c > 0 from hc,if_true]
 omega
end
theorem klp{lo st:Int}{n:Nat}{g:TG}{tb:TS}{D:Ends}{σ:St}{H:Hp}(Pv:Nat->St->Hp->Prop)(h0:Pv 0 σ H)
  (hs:∀i σ H,i<n->Pv i σ H->g (.int (lo+i*st)) σ H fun σ2 H2=>tb {D with nx:=Pv (i+1),ct:=Pv (i+1),bk:=D.nx} σ2 H2) (hd:∀σ H,Pv n σ H->D.nx σ H):
  ∃W:Nat->Nat->St->Hp->Prop,(∃m,W 0 m σ H)/\∀i m σ H,W i m σ H->
   ((Its lo st n).stop i H/\D.nx σ H)∨((Its lo st n).go i H/\∃N:St->Hp->Prop,(∀σ' H',N σ' H'->∃m',m'<m/\W (i+1) m' σ' H')/\∀x H',(Its lo st n).yld i H x H'->g x σ H' fun σ2 H2=>tb {D with nx:=N,ct:=N,bk:=D.nx} σ2 H2):=by
 refine⟨fun i m σ H=>m=n-i/\i<=n/\Pv i σ H,⟨n,by simp,N1 _,h0⟩,?_⟩
 rintro i m σ H ⟨rfl,hi,p⟩
 by_cases hlt:i<n
 ·refine .inr ⟨hlt,Pv (i+1),fun σ' H' p'=>⟨n-(i+1),by omega,rfl,hlt,p'⟩,fun x H' y=>?_⟩
  obtain⟨e,y⟩:=y
  subst e y
  exact hs i σ _ hlt p
 ·have e:i=n:=by omega
  subst e
  exact .inl ⟨Nt _,hd σ H p⟩
noncomputable def kiF(xs:List V)(k:Nat):cutV xs none (some (k:Int))=xs.take k:=by
 unfold cutV
 rw[HT.sIx_none,HT.sIx_nat,M9,Nat.sub_zero,DA]
 omega
end L2
namespace L2
open PySem PySem.Spec PyProof.Rows
noncomputable def Inv.adopt{X:Cx}{pins:List (Addr×Obj)}{σ:St}{H:Hp}{s:Shared}{a:Addr}{o:HO}(I:Inv X pins σ H s)(f:FpOk X pins H a)(h0:X.s₀.heap.objs.size<=a)(new:ObjOk X.prog X.w (upd H a o) s.heap a o):Inv X pins σ (upd H a o) s:=by
 obtain⟨hn,hL,_,_,hC,hp⟩:=f
 have nt:∀b u,H b=some u->b≠a:=fun b u e=>kah e hn
 refine⟨I.ok,I.os,I.bare,⟨I.base.keep,I.base.slot,fun b ob e n hx=>?_,I.base.there,fun b xs e=>?_,fun b ob u e=>?_,fun b ps e=>?_⟩,I.loc,I.cell,?_,fun x c e=>?_,fun p hp'=>?_,fun b u e=>?_,I.len⟩
 ·rw[kaj (NU (NT (Heap.lt_size e) h0))]
  exact I.base.free b ob e n hx
 ·have q:=I.base.tups b xs e
  rw[kaj (nt _ _ q)]
  exact q
 ·have q:=I.base.frzs b ob u e
  rw[kaj (nt _ _ q)]
  exact q
 ·obtain⟨m,q⟩:=I.base.tbls b ps e
  exact⟨m,by rw[kaj (nt _ _ q)];exact q⟩
 ·rw[kaj (Ne.symm hL)]
  exact I.free
 ·rw[kaj (hC x c e)]
  exact I.freeC x c e
 ·obtain⟨e,n,r⟩:=I.pin p hp'
  exact⟨e,by rw[kaj (hp p hp')];exact n,r⟩
 ·by_cases hb:b=a
  ·subst hb
   rw[kad] at e
   cases e
   exact new
  ·rw[kaj hb] at e
   exact(I.hok b u e).stay (fun c v _ q=>q) (fun c q=>by rw[kaj (nt _ _ q)];exact q) fun c xs q=>by rw[kaj (nt _ _ q)];exact q
def capσ(cap:List (Option Nat))(σ:St):St:=cap.map fun o=>match o with
 |some i=>(σ[i]?).getD none
 |none=>none
noncomputable def closL(cells:List (Str×Addr))(names:List (Str×NameKind)):List (Str×Addr)->List (Str×Addr):=fun acc=>names.foldl (fun acc p=>if p.2== .free then(p.1,(cells.lookup p.1).getD 0)::acc else acc) acc
theorem ke1{α β:Type}{f: α->β->Sem (ForInStep β)}{g: β->α->β}:∀(l:List α)(b: β),(∀x∈l,∀b,f x b=pure (.yield (g b x)))->forIn l b f=pure (l.foldl g b)
 |[],b,_=>by rw[List.forIn_nil];rfl
 |x::l,b,h=>by
  rw[List.forIn_cons,h x NV]
  show forIn l (g b x) f=_
  rw[ke1 l (g b x) fun y hy=>h y (NR _ hy)]
  rfl
noncomputable def kgc{scope:Scope}{env:Env}(h:∀x∈scope.names,x.2=.free->∃c,env.cells.lookup x.1=some c):closureFor scope env=pure (closL env.cells scope.names []):=by
 unfold closureFor
 dsimp only
 rw[ke1 (g:=fun acc p=>if p.2== .free then(p.1,(env.cells.lookup p.1).getD 0)::acc else acc) scope.names [] fun x hx b=>?_]
 ·rfl
 ·obtain⟨n,k⟩:=x
  by_cases hk:k=.free
  ·subst hk
   obtain⟨c,ec⟩:=h _ hx rfl
   have ec':env.cells.lookup n=some c:=ec
   have e1:cellOf env n=pure c:=by unfold cellOf;rw[ec']
   simp only[beq_self_eq_true,if_true,e1,ec',Option.getD_some]
   rfl
  ·have:(k==NameKind.free)=false:=by simpa using hk
   simp only[this,Mn,if_false]
noncomputable def kfx(cells:List (Str×Addr))(p:Str×NameKind)(r:List (Str×NameKind))(acc:List (Str×Addr)):closL cells (p::r) acc=closL cells r (if p.2== .free then(p.1,(cells.lookup p.1).getD 0)::acc else acc):=rfl
theorem kdC{cells:List (Str×Addr)}{x:Str}{c:Addr}:∀(names:List (Str×NameKind))(acc:List (Str×Addr)),(closL cells names acc).lookup x=some c->(((x,NameKind.free)∈names/\c=(cells.lookup x).getD 0)∨acc.lookup x=some c)
 |[],acc,h=>.inr h
 | (n,k)::r,acc,h=>by
  rw[kfx] at h
  rcases kdC r _ h with⟨h1,h2⟩|h1
  ·exact .inl ⟨NR _ h1,h2⟩
  ·by_cases hk:k=.free
   ·subst hk
    simp only[beq_self_eq_true,if_true] at h1
    rw[Ma] at h1
    by_cases hx:x=n
    ·subst hx
     simp only[beq_self_eq_true] at h1
     exact .inl ⟨NV,(Option.some.inj h1).symm⟩
    ·have hb:(x==n)=false:=beq_eq_false_iff_ne.mpr hx
     rw[hb] at h1
     exact .inr h1
   ·have:(k==NameKind.free)=false:=by simpa using hk
    simp only[this,Mn,if_false] at h1
    exact .inr h1
theorem kcx{cells:List (Str×Addr)}{x:Str}:∀(names:List (Str×NameKind))(acc:List (Str×Addr)),((x,NameKind.free)∈names∨∃c,acc.lookup x=some c)->∃c,(closL cells names acc).lookup x=some c
 |[],acc,h=>by
  rcases h with h|h
  ·cases h
  ·exact h
 | (n,k)::r,acc,h=>by
  rw[kfx]
  refine kcx r _ ?_
  by_cases hm:(x,NameKind.free)∈r
  ·exact .inl hm
  ·refine .inr ?_
   rcases h with h|⟨c,h⟩
   ·rcases NS.mp h with e|h
    ·cases e
     simp[Ma]
    ·exact absurd h hm
   ·split
    ·rw[Ma]
     by_cases hx:x=n
     ·subst hx
      simp
     ·have hb:(x==n)=false:=beq_eq_false_iff_ne.mpr hx
      rw[hb]
      exact⟨c,h⟩
    ·exact⟨c,h⟩
theorem kcD:∀(names:List (Str×NameKind))(n:Nat)(acc acc':List (Str×Addr)),cellsFrom n names (acc++acc')=cellsFrom n names acc++acc'
 |[],_,_,_=>rfl
 |(m,k)::r,n,acc,acc'=>by
  unfold cellsFrom
  split
  ·exact kcD r (n+1) ((m,n)::acc) acc'
  ·exact kcD r n acc acc'
noncomputable def kcc(names:List (Str×NameKind))(n:Nat)(acc:List (Str×Addr))(x:Str):(cellsFrom n names acc).lookup x=((cellsFrom n names []).lookup x).or (acc.lookup x):=by
 rw[<-List.lookup_append,<-kcD,Mw]
theorem kcC{x:Str}:∀(names:List (Str×NameKind))(n:Nat)(acc:List (Str×Addr)),(x,NameKind.cell)∉names->(cellsFrom n names acc).lookup x=acc.lookup x
 |[],_,_,_=>rfl
 | (m,k)::r,n,acc,h=>by
  unfold cellsFrom
  by_cases hk:k=.cell
  ·subst hk
   simp only[beq_self_eq_true,if_true]
   rw[kcC r _ _ fun z=>h (NR _ z),Ma]
   have hx:x≠m:=fun e=>h (by rw[e];exact NV)
   have hb:(x==m)=false:=beq_eq_false_iff_ne.mpr hx
   rw[hb]
  ·have:(k==NameKind.cell)=false:=by simpa using hk
   simp only[this,Mn,if_false]
   exact kcC r _ _ fun z=>h (NR _ z)
noncomputable def relN(names ns:List (Str×NameKind)):List (Str×NameKind):=names.map fun(n,k)=>if(k== .free&&ns.lookup n==some .cell) then(n, .cell) else(n,k)
noncomputable def kdn{scope:Scope}{env:Env}(hk:env.scope.kind=.function):(relabel scope env).names=relN scope.names env.scope.names:=by
 unfold relabel relN
 have e:(ScopeKind.function==ScopeKind.function)=true:=by decide
 simp only[hk,e,Bool.and_true]
 rfl
theorem kdh{ns:List (Str×NameKind)}{x:Str}:∀(names:List (Str×NameKind)),(relN names ns).lookup x=(names.lookup x).map fun k=>if(k== .free&&ns.lookup x==some .cell) then .cell else k
 |[]=>rfl
 | (n,k)::r=>by
  have ih:=kdh (ns:=ns) (x:=x) r
  show Ms x ((if(k== .free&&ns.lookup n==some .cell)=true then(n,NameKind.cell) else(n,k))::relN r ns)=_
  by_cases hx:x=n
  ·subst hx
   by_cases hc:(k== .free&&ns.lookup x==some .cell)=true
   ·rw[if_pos hc]
    simp only[Ma,beq_self_eq_true,MS]
    rw[if_pos hc]
   ·rw[if_neg hc]
    simp only[Ma,beq_self_eq_true,MS]
    rw[if_neg hc]
  ·have hb:(x==n)=false:=beq_eq_false_iff_ne.mpr hx
   by_cases hc:(k== .free&&ns.lookup n==some .cell)=true
   ·rw[if_pos hc]
    simp only[Ma,hb]
    exact ih
   ·rw[if_neg hc]
    simp only[Ma,hb]
    exact ih
theorem kmr{names ns:List (Str×NameKind)}{x:Str}(h:(relN names ns).lookup x=some .cell∨(relN names ns).lookup x=some .free):names.lookup x=some .cell∨names.lookup x=some .free:=by
 rw[kdh] at h
 cases e:names.lookup x with
 |none=>rw[e] at h;simp at h
 |some k=>
  rw[e] at h
  cases k <;> simp_all
noncomputable def kjJ{names ns:List (Str×NameKind)}{x:Str}(h:names.lookup x=some .free):(relN names ns).lookup x=some .cell∨(relN names ns).lookup x=some .free:=by
 rw[kdh,h]
 by_cases hc:ns.lookup x==some .cell
 ·left;simp[hc]
 ·right;simp[hc]
structure CompScope (X:Cx) (scope:Scope) (N:List Str) (cap:List (Option Nat)):Prop where
 kind:scope.kind=.function
 names:∀x∈scope.names,x.2=.local->scope.names.lookup x.1=some .local
 free:∀x∈scope.names,x.2=.free->X.env.scope.names.lookup x.1=some .cell∨X.env.scope.names.lookup x.1=some .free
 nd:N.Nodup
 len:cap.length=N.length
 cap:∀(j i:Nat)(x:Str),cap[j]?=some (some i)->N[j]?=some x->X.N[i]?=some x/\scope.names.lookup x=some .free/\(x,NameKind.cell)∉scope.names
def kd3(X:Cx)(scope:Scope)(C:Addr):List (Str×Addr):=cellsFrom (C+1) scope.names (closL X.env.cells scope.names [])
noncomputable def cxC(X:Cx)(scope:Scope)(N:List Str)(fp:List Addr)(s:Shared)(H:Hp)(C:Addr):Cx:=
 {X with N:=N,s₀:=s,H₀:=H,env:=compEnvC scope (kd3 X scope C) C X.env,outer:=X.stack,ex:=fp,fn:=fun x=>scope.names.lookup x==some .cell,pn:=[],xe:=fun _ _=>False}
theorem kf3{M:Model}{A:Around}{E:Value->Shared->Prop}{s:Shared}{scope:Scope}{globals:Addr}{cl:List (Str×Addr)}{qual:Str}{func:Option Addr}{code:Value}{outer:Env}{builtins:Addr}{Q:Env->Shared->Prop}
  (hQ:Q (newEnv scope s.heap.objs.size globals (cellsFrom (s.heap.objs.size+1) scope.names cl) qual func code (some outer) builtins) {s with heap:=pushCells (s.heap.push {cls:=.type "dict",data:=.dict #[]}) scope.names}):
  wpAny M A (newFunctionEnv scope globals cl [] qual func code (some outer) builtins) Q E s:=by
 simp only[newFunctionEnv,Option.isSome_some,if_true]
 refine wpAny_bind (wpAny_alloc ?_)
 refine wpAny_bind (wpAny_layCells _ (fun name kind cells=>by cases hkc:kind==NameKind.cell <;> simp[hkc]) _ _ _ _ ?_)
 rw[show({s with heap:=s.heap.push {cls:=.type "dict",data:=.dict #[]}}:Shared).heap.objs.size=s.heap.objs.size+1 from Heap.size_push ..]
 exact wpAny_bind (wpAny_pure (wpAny_pure hQ))
section
variable {X:Cx} {scope:Scope} {N:List Str} {cap:List (Option Nat)} {pins:List (Addr×Obj)} {σ:St} {H:Hp} {s:Shared}
theorem kjg(I:Inv X pins σ H s){b:Addr}(hb:b∈frs X.stack):b<s.heap.objs.size:=by
 obtain⟨_,o,ho,_⟩:=I.stack.mem hb
 exact Heap.lt_size ho
theorem kcU(S:CompScope X scope N cap)(I:Inv X pins σ H s):closureFor scope X.env=pure (closL X.env.cells scope.names []):=
 kgc fun x hx hf=>I.ok.has x.1 (S.free x hx hf)
theorem kcd{C:Addr}{x:Str}{c:Addr}(S:CompScope X scope N cap)(I:Inv X pins σ H s)(h:(kd3 X scope C).lookup x=some c):(cellsFrom (C+1) scope.names []).lookup x=some c∨X.env.cells.lookup x=some c:=by
 unfold kd3 at h
 rw[kcc] at h
 cases e:(cellsFrom (C+1) scope.names []).lookup x with
 |some c'=>
  rw[e] at h
  exact .inl h
 | none=>
  rw[e] at h
  have h':(closL X.env.cells scope.names []).lookup x=some c:=h
  rcases kdC _ _ h' with⟨h1,h2⟩|h1
  ·obtain⟨c',ec⟩:=I.ok.has x (S.free _ h1 rfl)
   rw[ec] at h2
   rw[h2]
   exact .inr ec
  ·cases h1
theorem klj{fp:List Addr}{C D:Addr}{o:Obj}{s4:Shared}{m:Str->Option Value}(S:CompScope X scope N cap)(I:Inv X pins σ H s)(f:∀b∈fp,FpOk X pins H b)(hfp:∀b∈fp,b<s.heap.objs.size)
  (hk:∀b u,s.heap.get? b=some u->s4.heap.get? b=some u) (hns:s4.heap.Ns C m) (hC:s.heap.objs.size<=C) (hD:s.heap.objs.size<=D) (hDC:D≠C) (eD:s4.heap.get? D=some o) (hcell:∀v,o.data≠.cell v)
  (hnew:CellsOk s4.heap (C+1) (cellsFrom (C+1) scope.names [])) (hos:s4.os=s.os) (hg:s4.gens=s.gens):Inv (cxC X scope N fp s H C) [(D,o)] (capσ cap σ) H s4:=by
 have stkne:∀b∈fp,b∉frs X.stack:=fun b hb hz=>by
  obtain⟨_,h1,h2,_⟩:=f b hb
  rcases NS.mp (I.stkSub b hz) with e|e
  ·exact h1 e
  ·exact h2 e
 have nw:∀{x:Str}{c:Addr},(cellsFrom (C+1) scope.names []).lookup x=some c->s4.heap.IsCell c none/\Nat.lt C c:=fun {x c} h=>hnew.empty x c (PySem.mem_of_lookup h)
 have od:∀{x:Str}{c:Addr},X.env.cells.lookup x=some c->c<s.heap.objs.size:=fun {x c} h=>let⟨_,q⟩:=I.cell x c h;q.lt
 refine⟨⟨I.ok.mod,S.kind,I.ok.glob,I.ok.blt,hC,fun x y c h1 h2=>?_,fun x h=>?_,fun x c h1 h2=>?_,I.ok.hd,I.ok.frames, .inl rfl,fun b hb=>⟨?_,fun x c e=>?_⟩,I.bs,Nx I.ok.bsz I.sz,fun b ob e hb=>?_,stkne,I.stack,I.stkFree⟩,
  hos,by rw[hg];exact I.bare,Un.kept hk,⟨m,hns,fun j x v e1 e2 e3=>?_⟩,fun x c e=>?_,I.hok.fresh hC,fun x c e=>?_,fun p hp=>?_,I.hok.kept hk,?_⟩
 ·rcases kcd S I h1 with q1|q1 <;> rcases kcd S I h2 with q2|q2
  ·exact name_of_addr hnew.apart (PySem.mem_of_lookup q1) (PySem.mem_of_lookup q2)
  ·exact absurd (MB hC (nw q1).2) (Nat.not_lt_of_lt (od q2))
  ·exact absurd (MB hC (nw q2).2) (Nat.not_lt_of_lt (od q1))
  ·exact I.ok.inj x y c q1 q2
 ·have h':(relabel scope X.env).names.lookup x=some .cell∨(relabel scope X.env).names.lookup x=some .free:=h
  rw[kdn I.ok.kind] at h'
  show ∃c,(cellsFrom (C+1) scope.names (closL X.env.cells scope.names [])).lookup x=some c
  rw[kcc]
  rcases kmr h' with q|q
  ·obtain⟨c,e⟩:=ken (n:=C+1) q
   exact⟨c,by rw[e];rfl⟩
  ·obtain⟨c,e⟩:=kcx (cells:=X.env.cells) scope.names [] (.inl (PySem.mem_of_lookup q))
   cases e2:(cellsFrom (C+1) scope.names []).lookup x with
   |some c'=>exact⟨c',rfl⟩
   |none=>exact⟨c,e⟩
 ·have h1':(scope.names.lookup x==some .cell)=true:=h1
  have q:scope.names.lookup x=some .cell:=by simpa using h1'
  obtain⟨c',e⟩:=ken (n:=C+1) q
  have h2':(cellsFrom (C+1) scope.names (closL X.env.cells scope.names [])).lookup x=some c:=h2
  rw[kcc,e] at h2'
  have h3:c'=c:=Option.some.inj h2'
  rw[<-h3]
  exact ND (MB hC (nw e).2)
 ·exact NU (NT (hfp b hb) hC)
 ·rcases kcd S I e with q|q
  ·exact Mr (EB (NT (hfp b hb) hC) (nw q).2)
  ·exact(f b hb).2.2.2.2.1 x c q
 ·obtain⟨_,_,_,h4,_⟩:=f b hb
  rcases h4 with h4|h4
  ·exact I.ok.noex b ob e h4
  ·exact absurd (NT (Heap.lt_size e) (Nx I.ok.bsz h4)) (Mi _)
 ·
  have e2':(cap.map fun o=>match o with|some i=>(σ[i]?).getD none|none=>none)[j]?=some (some v):=e2
  rw[Nz] at e2'
  cases ec:cap[j]? with
  |none=>rw[ec] at e2';cases e2'
  | some oi=>
   rw[ec] at e2'
   cases oi with
   |none=>cases e2'
   | some i=>
    have e4:(σ[i]?).getD none=some v:=Option.some.inj e2'
    have e5: σ[i]?=some (some v):=by
     cases q: σ[i]? with
     |none=>rw[q] at e4;cases e4
     |some w=>rw[q] at e4;exact congrArg some e4
    obtain⟨h1,hf,hnc⟩:=S.cap j i x ec e1
    have hm:=PySem.mem_of_lookup hf
    have h2:=S.free _ hm rfl
    obtain⟨mo,_,hl⟩:=I.loc
    obtain⟨u,ru,lk⟩:=hl i x v h1 e5 (.inr h2)
    have h3:(relabel scope X.env).names.lookup x=some .cell∨(relabel scope X.env).names.lookup x=some .free:=by
     rw[kdn I.ok.kind]
     exact kjJ hf
    refine⟨u,ru, .inr ⟨h3,?_⟩⟩
    rcases lk with⟨k1,_⟩|⟨_,c,ec',z⟩
    ·have k1':X.env.scope.names.lookup x=some .local:=k1
     rcases h2 with h2|h2 <;> rw[h2] at k1' <;> cases k1'
    ·obtain⟨c',ec2⟩:=kcx (cells:=X.env.cells) scope.names [] (.inl hm)
     have ec3:(kd3 X scope C).lookup x=some c':=by
      unfold kd3
      rw[kcC _ _ _ hnc]
      exact ec2
     rcases kdC _ _ ec2 with⟨_,q2⟩|q2
     ·rw[ec'] at q2
      have q3:c'=c:=q2
      subst q3
      obtain⟨oc,ho,hd⟩:=z
      exact⟨c',ec3,oc,hk _ _ ho,hd⟩
     ·cases q2
 ·rcases kcd S I e with q|q
  ·exact⟨none,(nw q).1⟩
  ·obtain⟨v,oc,ho,hd⟩:=I.cell x c q
   exact⟨v,oc,hk _ _ ho,hd⟩
 ·rcases kcd S I e with q|q
  ·exact I.hok.fresh (Nx hC (ND (nw q).2))
  ·exact I.freeC x c q
 ·have e:p=(D,o):=by simpa[cxC] using hp
  subst e
  exact⟨eD,I.hok.fresh hD,hDC,fun hz=>absurd (kjg I hz) (EC.mpr hD),hcell⟩
 ·show(cap.map _).length=N.length
  rw[Nq,S.len]
theorem comp_back{fp:List Addr}{C:Addr}{σ':St}{H':Hp}{s':Shared}(I:Inv X pins σ H s)(f:∀b∈fp,FpOk X pins H b)(J:Inv (cxC X scope N fp s H C) [] σ' H' s'):Inv X pins σ H' s':=
 I.call' (ch:=fp) J.os J.base J.hok J.bare fun b hb=>let⟨_,h1,_,h3,h4,h5⟩:=f b hb;⟨h3,h1,h4,h5⟩
end
noncomputable def PIf(X:Cx)(ifs:List Expr)(t:TT):Prop:=∀(pins:List (Addr×Obj))(s:Shared)(σ:St)(H:Hp)(Q:Bool->Hp->Prop),Inv X pins σ H s->t σ H Q->
 wpAny (model X.prog X.w) X.A (forIn ifs true fun c r=>if r=true then do let ok <-isTrue c X.env (eval c X.env);pure (ForInStep.yield ok) else pure (ForInStep.yield r)) (TP X pins σ Q) X.xe s
def tYes:TT:=fun _ H Q=>Q true H
def kjP{X:Cx}:PIf X [] tYes:=fun _ _ _ H _ I h=>wpAny_tests_nil ⟨H,I,h⟩
def khx{X:Cx}{c:Expr}{t:TT}(h:PT X c t):PIf X [c] t:=fun pins s σ H Q I hw=>wpAny_tests_one (h pins s σ H Q I hw)
theorem kg2{prog:Program}{w:World}{A:Around}{R:Result->Shared->Prop}{s:Shared}{elt target iter:Expr}{ifs:List Expr}{scope:Scope}{pos:Pos}{it acc:Value}{env:Env}(I:Nat->Shared->Prop)
  (turn:∀n s,I n s->wpAny (model prog w) A (pyNext it) (fun r s₁=>match r with
   |none=>R (.ok .next) s₁
   | some v=>wpAny (model prog w) A (letOwnedTupleGo target it v) (fun _ s₁'=>wpAny (model prog w) A (assign target env v) (fun _ s₂=>
     wpAny (model prog w) A (forIn ifs true fun c r=>if r=true then do let ok <-isTrue c env (eval c env);pure (ForInStep.yield ok) else pure (ForInStep.yield r)) (fun ok s₂'=>
      if ok=true then wpAny (model prog w) A (eval elt env) (fun x s₃=>
       wpAny (model prog w) A (call (.builtin "list.append") [acc,x]) (fun _ s₄=>∃m,m<n/\I m s₄) (fun _ _=>False) s₃) (fun _ _=>False) s₂'
      else ∃m,m<n/\I m s₂') (fun _ _=>False) s₂) (fun _ _=>False) s₁') (fun _ _=>False) s₁) (fun _ _=>False) s)
  (n:Nat) (h:I n s):codeAny (model prog w) A (.compLoop (.ListComp elt [⟨target,iter,ifs,0⟩] scope pos) 0 it acc env) R s:=by
 refine codeAny_loop rfl I (fun n s hI=>?_) n h
 show wpAny _ _ ((compTurn (.ListComp elt [⟨target,iter,ifs,0⟩] scope pos) 0 it acc env).onRaise (fun x=>do noteFrame x env;theTreesLotGoes x)) _ _ s
 refine wpAny_noted ?_
 rw[compTurn_list]
 refine wpAny_bind (wpAny_standAt (wpAny_bind (wpAny_mono (turn n s hI) (fun r s₁ h₁=>?_) fun _ _ h'=>h'.elim)))
 cases r with
 |none=>exact wpAny_pure h₁
 | some v=>
  refine wpAny_bind (wpAny_mono h₁ (fun _ s₁' h₁'=>?_) fun _ _ h'=>h'.elim)
  refine wpAny_bind (wpAny_mono h₁' (fun _ s₂ h₂=>wpAny_bind (wpAny_mono h₂ (fun ok s₂' h₂'=>?_) fun _ _ h'=>h'.elim)) fun _ _ h'=>h'.elim)
  cases ok with
  |false=>exact wpAny_pure ⟨rfl,h₂'⟩
  |true=>
   exact wpAny_bind (wpAny_bind (wpAny_mono h₂' (fun x s₃ h₃=>wpAny_bind (wpAny_mono h₃ (fun _ s₄ h₄=>wpAny_pure (wpAny_pure ⟨rfl,h₄⟩)) fun _ _ h'=>h'.elim)) fun _ _ h'=>h'.elim))
noncomputable def km4(wi:TI)(cap:List (Option Nat))(g:TG)(tt:TT)(te:TE):TE:=fun σ H Q=>wi σ H fun J H1=>∃W:Nat->Nat->St->List V->Hp->Prop,(∃m,W 0 m (capσ cap σ) [] H1)/\∀i m σ' ys H',W i m σ' ys H'->
 (J.stop i H'/\∀D,H' D=none->Q (.ref D) (upd H' D (.lst ys)))∨(J.go i H'/\ys.length<sizeLine/\∃(N:St->V->Hp->Prop)(N0:St->Hp->Prop),(∀σ2 y H4,N σ2 y H4->∃m',m'<m/\W (i+1) m' σ2 (ys++[y]) H4)/\(∀σ2 H4,N0 σ2 H4->∃m',m'<m/\W (i+1) m' σ2 ys H4)/\
  ∀x H2,J.yld i H' x H2->g x σ' H2 fun σ2 H3=>tt σ2 H3 fun b H4=>if b=true then te σ2 H4 (N σ2) else N0 σ2 H4)
noncomputable def tComp(wi:TI)(cap:List (Option Nat))(g:TG)(te:TE):TE:=fun σ H Q=>wi σ H fun J H1=>∃W:Nat->Nat->St->List V->Hp->Prop,(∃m,W 0 m (capσ cap σ) [] H1)/\∀i m σ' ys H',W i m σ' ys H'->
 (J.stop i H'/\∀D,H' D=none->Q (.ref D) (upd H' D (.lst ys)))∨(J.go i H'/\ys.length<sizeLine/\∃N:St->V->Hp->Prop,(∀σ2 y H4,N σ2 y H4->∃m',m'<m/\W (i+1) m' σ2 (ys++[y]) H4)/\
  ∀x H2,J.yld i H' x H2->g x σ' H2 fun σ2 H3=>te σ2 H3 (N σ2))
section
variable {X:Cx} {scope:Scope} {N:List Str} {cap:List (Option Nat)} {pins:List (Addr×Obj)} {σ:St} {H2:Hp} {s2:Shared} {tg elt iter:Expr} {ifs:List Expr} {pos:Pos} {g:TG} {tt:TT} {te:TE}
theorem kdT{fp:List Addr}{it:Addr}{tn:Nat->Heap->Prop}{J:It}{Q:VK}{RR:Value->Addr->Result->Shared->Prop}{E:Value->Shared->Prop}(S:CompScope X scope N cap)(hc:X.calm=true)
  (hg:∀fp s H C,PG (cxC X scope N fp s H C) tg g) (ht:∀fp s H C,PIf (cxC X scope N fp s H C) ifs tt) (he:∀fp s H C,PE (cxC X scope N fp s H C) elt te)
  (I2:Inv X pins σ H2 s2) (T:Turn X.prog X.w X.K tg J fp it tn) (st2:tn 0 s2.heap) (f2:∀b∈fp,FpOk X pins H2 b)
  (W:Nat->Nat->St->List V->Hp->Prop) {m0:Nat} (w0:W 0 m0 (capσ cap σ) [] H2)
  (turn:∀i m σ' ys H',W i m σ' ys H'->(J.stop i H'/\∀D,H' D=none->Q (.ref D) (upd H' D (.lst ys)))∨(J.go i H'/\ys.length<sizeLine/\∃(N:St->V->Hp->Prop)(N0:St->Hp->Prop),(∀σ2 y H4,N σ2 y H4->∃m',m'<m/\W (i+1) m' σ2 (ys++[y]) H4)/\(∀σ2 H4,N0 σ2 H4->∃m',m'<m/\W (i+1) m' σ2 ys H4)/\
   ∀x H2,J.yld i H' x H2->g x σ' H2 fun σ2 H3=>tt σ2 H3 fun b H4=>if b=true then te σ2 H4 (N σ2) else N0 σ2 H4))
  (hRR:∀(D C:Addr)(H':Hp)(s':Shared)(m:Str->Option Value),Inv X pins σ H' s'->FpOk X pins H' C->C≠D->s'.heap.Ns C m->Q (.ref D) H'->RR (.ref D) C (.ok .next) s'):
  wpAny (model X.prog X.w) X.A (newList []) (fun acc s₃=>wpAny (model X.prog X.w) X.A (newFunctionEnv scope X.env.globals (closL X.env.cells scope.names []) [] X.env.qual none .none (some X.env)) (fun cenv s₄=>
   codeAny (model X.prog X.w) X.A (.compStart (.ListComp elt [⟨tg,iter,ifs,0⟩] scope pos) 0 (.ref it) acc {cenv with scope:=relabel scope X.env}) (RR acc cenv.locals) s₄) E s₃) E s2:=by
 refine wpAny_newObj_type (kf3 ?_)
 dsimp only
 generalize hP:s2.heap.push {cls:=.type "list",dict:=none,data:=.seq ([]:List Value).toArray}=P
 have hnew:CellsOk (pushCells (P.push {cls:=.type "dict",data:=.dict #[]}) scope.names) (P.objs.size+1) (cellsFrom (P.objs.size+1) scope.names []):=by
  have q:=cellsFrom_ok scope.names (P.push {cls:=.type "dict",data:=.dict #[]}) (P.objs.size+1) [] ⟨fun _ _ hm=>(nomatch hm),MR.nil⟩ (by rw[Heap.size_push];exact Nt _)
  rwa [Heap.size_push] at q
 have hns₁:(pushCells (P.push {cls:=.type "dict",data:=.dict #[]}) scope.names).Ns P.objs.size (fun _=>none):=(Heap.Ns.new P (.type "dict")).keeps (pushCells_keeps _ _)
 have keep₁:∀b o,P.get? b=some o->(pushCells (P.push {cls:=.type "dict",data:=.dict #[]}) scope.names).get? b=some o:=fun b o e=>pushCells_keeps _ _ b o (Heap.get?_push_of_some _ e)
 generalize pushCells (P.push {cls:=.type "dict",data:=.dict #[]}) scope.names=h₁ at hnew hns₁ keep₁⊢
 have hC:P.objs.size=s2.heap.objs.size+1:=by rw[<-hP,Heap.size_push]
 have hDC:s2.heap.objs.size≠P.objs.size:=by rw[hC];exact NU (E5 _)
 have hCle:s2.heap.objs.size<=P.objs.size:=by rw[hC];exact MX _
 have hDle:s2.heap.objs.size<=s2.heap.objs.size:=Nt _
 have old:∀b o,s2.heap.get? b=some o->h₁.get? b=some o:=fun b o e=>keep₁ b o (hP▸Heap.get?_push_of_some _ e)
 have hacc:h₁.get? s2.heap.objs.size=some {cls:=.type "list",data:=.seq ([]:List Value).toArray}:=keep₁ _ _ (hP▸Heap.get?_push_size _ rfl)
 have hfp:∀b∈fp,b<s2.heap.objs.size:=fun b hb=>let⟨_,e,_⟩:=T.obj 0 _ st2 b hb;Heap.lt_size e
 generalize hDd:s2.heap.objs.size=D at hacc hDC hDle⊢
 rw[hDd] at hCle hC
 generalize P.objs.size=C at hnew hns₁ hC hDC hCle⊢
 have dne:∀b∈fp,D≠b:=fun b hb=>Mr (hDd▸hfp b hb)
 have cne:∀b∈fp,b≠C:=fun b hb=>NU (NT (hDd▸hfp b hb) hCle)
 have stkne:∀b∈fp,b∉frs X.stack:=fun b hb hz=>by
  obtain⟨_,h1,h2,_⟩:=f2 b hb
  rcases NS.mp (I2.stkSub b hz) with e|e
  ·exact h1 e
  ·exact h2 e
 have dfs:D∉frs X.stack:=fun hz=>absurd (kjg I2 hz) (by rw[hDd];exact Mi _)
 have dcell:∀x c,(kd3 X scope C).lookup x=some c->c≠D:=fun x c e z=>by
  rcases kcd S I2 e with e|e
  ·have q:Nat.lt C c:=(hnew.empty x c (PySem.mem_of_lookup e)).2
   rw[z] at q
   exact absurd (MB hCle q) (Mi _)
  ·obtain⟨v,q⟩:=I2.cell x c e
   have:=q.lt
   rw[z,hDd] at this
   exact absurd this (Mi _)
 have bcell:∀b∈fp,∀x c,(kd3 X scope C).lookup x=some c->c≠b:=fun b hb x c e=>by
  rcases kcd S I2 e with e|e
  ·have q:Nat.lt C c:=(hnew.empty x c (PySem.mem_of_lookup e)).2
   exact Mr (EB (NT (hDd▸hfp b hb) hCle) q)
  ·exact(f2 b hb).2.2.2.2.1 x c e
 have stat:∀{o:Obj}{H':Hp},(∀b∈fp,H' b=none)->∀b∈fp,FpOk (cxC X scope N fp s2 H2 C) [(D,o)] H' b:=fun {o H'} hn b hb=>
  ⟨hn b hb,cne b hb,stkne b hb, .inl hb,bcell b hb,fun p hp=>by
   have e:p=(D,o):=by simpa[cxC] using hp
   subst e
   exact dne b hb⟩
 have loop:∀s₃:Shared,s₃= {s2 with heap:=h₁}->
   codeAny (model X.prog X.w) X.A (.compLoop (.ListComp elt [⟨tg,iter,ifs,0⟩] scope pos) 0 (.ref it) (.ref D) (compEnvC scope (kd3 X scope C) C X.env)) (RR (.ref D) C) s₃:=by
  rintro s₃ rfl
  have I3:Inv (cxC X scope N fp s2 H2 C) [(D,_)] (capσ cap σ) H2 {s2 with heap:=h₁}:=
   klj S I2 f2 hfp old hns₁ (by rw[hDd];exact hCle) (by rw[hDd];exact Nt _) hDC hacc (fun v z=>by cases z) hnew rfl rfl
  refine kg2 (fun n s'=>∃i σ' ys H' its k,Inv (cxC X scope N fp s2 H2 C) [] σ' H' s'/\tn i s'.heap/\(∀b∈fp,H' b=none)/\H' D=none/\s'.heap.get? D=some {cls:=.type "list",data:=.seq (its:List Value).toArray k}/\Vals ys its/\ys.length<=sizeLine/\W i n σ' ys H') ?_ m0
   ⟨0,_,[],H2,[],_,I3.pins_of (fun p hp=>nomatch hp),T.keep _ _ _ st2 (fun b hb o e=>old b o e),fun b hb=>(f2 b hb).1,I2.hok.fresh (by rw[hDd];exact Nt _),hacc, .nil,N1 _,w0⟩
  rintro n s3 ⟨i,σ3,ys,H3,its,k,J3,st3,fr3,hD3,e3,r3,z3,w3⟩
  have J3':Inv (cxC X scope N fp s2 H2 C) [(D,{cls:=.type "list",data:=.seq its.toArray k})] σ3 H3 s3:=J3.pins_of fun p hp=>by
   have e:p=(D,{cls:=.type "list",data:=.seq its.toArray k}):=by simpa using hp
   subst e
   exact⟨e3,hD3,hDC,dfs,fun v z=>by cases z⟩
  rcases turn i n σ3 ys H3 w3 with⟨stop,qn⟩|⟨go,hlt,N',N0',hN,hN0,step⟩
  ·refine thn (T.done (cxC X scope N fp s2 H2 C) rfl rfl rfl hc i _ s3 σ3 H3 (fun _ _=>False) J3' (stat fr3) st3 stop) fun r s4 zz=>?_
   obtain⟨hr,I4⟩:=zz
   subst hr
   have e4:=(I4.pin (D,{cls:=.type "list",data:=.seq its.toArray k}) (by simp[cxC])).1
   have B:Inv X pins σ H3 s4:=comp_back I2 f2 (I4.pins_of fun p hp=>nomatch hp)
   obtain⟨m,hm,_⟩:=I4.loc
   have fD:FpOk X pins H3 D:=I2.fpOk (by rw[hDd];exact Nt _) hD3
   have B':Inv X pins σ (upd H3 D (.lst ys)) s4:=B.adopt fD (by rw[<-hDd];exact I2.sz) ⟨z3,its,k,r3,e4⟩
   refine hRR D C _ s4 m B' (I2.fpOk (by rw[hDd];exact hCle) ?_) hDC.symm hm (qn D hD3)
   rw[kaj hDC.symm]
   exact I4.free
  ·refine thn (T.item (cxC X scope N fp s2 H2 C) rfl rfl rfl hc i _ s3 σ3 H3 (fun _ _=>False) J3' (stat fr3) st3 go) fun r s4 zz=>?_
   obtain⟨u,hr,h4⟩:=zz
   subst hr
   refine thn h4 fun _ s5 zz=>?_
   obtain⟨x,H5,I5,r5,y5,st5,fr5⟩:=zz
   have I5':=I5.pinned (stat fr5) (T.obj _ _ st5)
   refine thn (hg fp s2 H2 C _ s5 σ3 H5 x u _ I5' r5 (step x H5 y5)) fun _ s6 zz=>?_
   obtain⟨σ6,H6,I6,q6⟩:=zz
   refine thn (ht fp s2 H2 C _ s6 σ6 H6 _ I6 q6) fun ok s6' zz=>?_
   obtain⟨H6',I6',q6'⟩:=zz
   cases ok with
   | false=>
    have q6':N0' σ6 H6':=by simpa using q6'
    obtain⟨m',hm',w7⟩:=hN0 σ6 H6' q6'
    have p7:=I6'.pin (D,{cls:=.type "list",data:=.seq its.toArray k}) (by simp[cxC])
    have e7:s6'.heap.get? D=some {cls:=.type "list",data:=.seq its.toArray k}:=p7.1
    have pf:∀b∈fp,∀o,s5.heap.get? b=some o->s6'.heap.get? b=some o/\H6' b=none:=fun b hb o e=>
     let z:=I6'.pin (b,o) (Md _ (Md _ (kcY hb e)))
     ⟨z.1,z.2.1⟩
    refine⟨m',hm',i+1,σ6,ys,H6',its,_,I6'.pins_of (fun p hp=>nomatch hp),T.keep _ _ _ st5 (fun b hb o e=>(pf b hb o e).1),fun b hb=>?_,p7.2.1,e7,r3,z3,w7⟩
    obtain⟨o,e,_⟩:=T.obj _ _ st5 b hb
    exact(pf b hb o e).2
   |true=>
   have q6':te σ6 H6' (N' σ6):=by simpa using q6'
   refine thn (he fp s2 H2 C _ s6' σ6 H6' _ I6' q6') fun v s7 zz=>?_
   obtain⟨y,H7,I7,r7,q7⟩:=zz
   obtain⟨m',hm',w7⟩:=hN σ6 y H7 q7
   have p7:=I7.pin (D,{cls:=.type "list",data:=.seq its.toArray k}) (by simp[cxC])
   have e7:s7.heap.get? D=some {cls:=.type "list",data:=.seq its.toArray k}:=p7.1
   have hl7:=r3.length
   refine call_meets F.slot_list_append ⟨_,e7,rfl⟩ F.entry_list_append (F.args_list_append_2 _ _) (PySem.list_append D its.toArray k v (by rw[NP];omega)) ⟨e7,?_⟩
   have q8:=PySem.IsL.update e7 (·.push v)
   have ex8:its.toArray.push v=(its++[v]).toArray:=by simp
   rw[ex8] at q8
   have pf:∀b∈fp,∀o,s5.heap.get? b=some o->s7.heap.get? b=some o/\H7 b=none:=fun b hb o e=>
    let z:=I7.pin (b,o) (Md _ (Md _ (kcY hb e)))
    ⟨z.1,z.2.1⟩
   have I7':Inv (cxC X scope N fp s2 H2 C) [] σ6 H7 s7:=I7.pins_of fun p hp=>nomatch hp
   refine⟨m',hm',i+1,σ6,ys++[y],H7,its++[v],_,I7'.turned (it:=D) (fun b o hb e=>(Heap.get?_update_other _ _ (Ne.symm hb)).trans e) p7.2.1 hDC (.inr (by show s2.heap.objs.size<=D;rw[hDd];exact Nt _)) dcell (fun p hp=>nomatch hp),
    T.keep _ _ _ st5 (fun b hb o e=>(Heap.get?_update_other _ _ (dne b hb)).trans (pf b hb o e).1),fun b hb=>?_,p7.2.1,q8,r3.append (.cons r7 .nil),by rw[NG,Mv];omega,w7⟩
   obtain⟨o,e,_⟩:=T.obj _ _ st5 b hb
   exact(pf b hb o e).2
 have st1:tn 0 h₁:=T.keep _ _ _ st2 (fun b hb o e=>old b o e)
 exact codeAny_compStart_list (loop _ rfl) (T.self X.A 0 _ _ _ st1 (loop _ rfl))
theorem kfT{wi:TI}(S:CompScope X scope N cap)(hc:X.calm=true)(hi:PI X tg iter wi)(hg:∀fp s H C,PG (cxC X scope N fp s H C) tg g)(ht:∀fp s H C,PIf (cxC X scope N fp s H C) ifs tt)(he:∀fp s H C,PE (cxC X scope N fp s H C) elt te)
  (hs:∀x,foldedSetIterable iter X.env x=pure x:=by intro _;rfl):PE X (.ListComp elt [⟨tg,iter,ifs,0⟩] scope pos) (km4 wi cap g tt te):=by
 intro pins s σ H Q I h
 rw[eval_ListComp]
 refine wpAny_comprehension_free (use:=none) rfl hs (kcU S I) S.kind S.names (thn (hi pins s σ H _ I h) fun v s1 h1=>thn h1 fun itv s2 h2=>?_)
 obtain⟨it,fp,tn,J,H2,e,I2,T,st2,f2,W,⟨m0,w0⟩,turn⟩:=h2
 subst e
 refine kdT (RR:=fun acc C=>compPost (model X.prog X.w) X.A X.xe none (EP X pins σ Q) acc C) S hc hg ht he I2 T st2 f2 W w0 turn fun D C H' s' m B fC hCD hm q=>?_
 obtain⟨c0,c1,c2,c3,c4,c5⟩:=fC
 exact⟨m,hm,fun h' hs'=>⟨.ref D,H',B.turned (t':=s'.toks) (fun b o hb e=>(hs'.2 b hb).trans e) c0 c1 c3 c4 c5,rfl,q⟩⟩
theorem kg1{J:It}{Q:VK}{W:Nat->Nat->St->List V->Hp->Prop}(h:∀i m σ' ys H',W i m σ' ys H'->(J.stop i H'/\∀D,H' D=none->Q (.ref D) (upd H' D (.lst ys)))∨(J.go i H'/\ys.length<sizeLine/\∃N:St->V->Hp->Prop,(∀σ2 y H4,N σ2 y H4->∃m',m'<m/\W (i+1) m' σ2 (ys++[y]) H4)/\
   ∀x H2,J.yld i H' x H2->g x σ' H2 fun σ2 H3=>te σ2 H3 (N σ2))):∀i m σ' ys H',W i m σ' ys H'->(J.stop i H'/\∀D,H' D=none->Q (.ref D) (upd H' D (.lst ys)))∨(J.go i H'/\ys.length<sizeLine/\∃(N:St->V->Hp->Prop)(N0:St->Hp->Prop),(∀σ2 y H4,N σ2 y H4->∃m',m'<m/\W (i+1) m' σ2 (ys++[y]) H4)/\(∀σ2 H4,N0 σ2 H4->∃m',m'<m/\W (i+1) m' σ2 ys H4)/\
   ∀x H2,J.yld i H' x H2->g x σ' H2 fun σ2 H3=>tYes σ2 H3 fun b H4=>if b=true then te σ2 H4 (N σ2) else N0 σ2 H4):=by
 intro i m σ' ys H' w
 rcases h i m σ' ys H' w with h|⟨go,hl,N,hN,st⟩
 ·exact .inl h
 ·refine .inr ⟨go,hl,N,fun _ _=>False,hN,(fun _ _ z=>z.elim),fun x H2 y=>?_⟩
  have e:(fun(σ2:St)(H3:Hp)=>tYes σ2 H3 fun b H4=>if b=true then te σ2 H4 (N σ2) else False)=fun σ2 H3=>te σ2 H3 (N σ2):=by
   funext σ2 H3
   show(if true=true then te σ2 H3 (N σ2) else False)=te σ2 H3 (N σ2)
   rw[if_pos rfl]
  rw[e]
  exact st x H2 y
theorem kbz{wi:TI}(S:CompScope X scope N cap)(hc:X.calm=true)(hi:PI X tg iter wi)(hg:∀fp s H C,PG (cxC X scope N fp s H C) tg g)(he:∀fp s H C,PE (cxC X scope N fp s H C) elt te)
  (hs:∀x,foldedSetIterable iter X.env x=pure x:=by intro _;rfl):PE X (.ListComp elt [⟨tg,iter,[],0⟩] scope pos) (tComp wi cap g te):=by
 intro pins s σ H Q I h
 rw[eval_ListComp]
 refine wpAny_comprehension_free (use:=none) rfl hs (kcU S I) S.kind S.names (thn (hi pins s σ H _ I h) fun v s1 h1=>thn h1 fun itv s2 h2=>?_)
 obtain⟨it,fp,tn,J,H2,e,I2,T,st2,f2,W,⟨m0,w0⟩,turn⟩:=h2
 subst e
 refine kdT (RR:=fun acc C=>compPost (model X.prog X.w) X.A X.xe none (EP X pins σ Q) acc C) S hc hg (fun _ _ _ _=>kjP) he I2 T st2 f2 W w0 (kg1 turn) fun D C H' s' m B fC hCD hm q=>?_
 obtain⟨c0,c1,c2,c3,c4,c5⟩:=fC
 exact⟨m,hm,fun h' hs'=>⟨.ref D,H',B.turned (t':=s'.toks) (fun b o hb e=>(hs'.2 b hb).trans e) c0 c1 c3 c4 c5,rfl,q⟩⟩
theorem khw{wi:TI}{i:Nat}{y:Str}{py spos:Pos}(S:CompScope X scope N cap)(hc:X.calm=true)(hi:PI X tg iter wi)(hg:∀fp s H C,PG (cxC X scope N fp s H C) tg g)(he:∀fp s H C,PE (cxC X scope N fp s H C) elt te)
  (hA:PG X (.Name y py) (gName i)) (hsw:swapsWith (.ListComp elt [⟨tg,iter,[],0⟩] scope pos) (some (.Name y py)) spos.line X.env=pure true:=by rfl)
  (hs:∀x,foldedSetIterable iter X.env x=pure x:=by intro _;rfl):PS X (.Assign [.Name y py] (.ListComp elt [⟨tg,iter,[],0⟩] scope pos) spos) (tAsg (tComp wi cap g te) (gName i)):=by
 intro pins s σ H D I h
 rw[exec_Assign_Name_used _ _ _ _ hsw]
 refine wpAny_bind (wpAny_standAt (wpAny_bind ?_))
 show wpAny _ X.A (do let _ <-comprehension (.ListComp elt [⟨tg,iter,[],0⟩] scope pos) scope X.env _ (newList []) false (eval iter X.env) (some (assign (.Name y py) X.env))) _ _ s
 refine wpAny_bind (wpAny_mono (wpAny_comprehension_free (use:=some (assign (.Name y py) X.env)) (Q:=fun _ s'=>SP X pins D .next s') rfl hs (kcU S I) S.kind S.names
  (thn (hi pins s σ H _ I h) fun v s1 h1=>thn h1 fun itv s2 h2=>?_)) (fun _ s' hq=>wpAny_pure (wpAny_pure hq)) fun _ _ e=>e)
 obtain⟨it,fp,tn,J,H2,e,I2,T,st2,f2,W,⟨m0,w0⟩,turn⟩:=h2
 subst e
 refine kdT (Q:=fun v H'=>gName i v σ H' D.nx) (RR:=fun acc C=>compPost (model X.prog X.w) X.A X.xe (some (assign (.Name y py) X.env)) (fun _ s'=>SP X pins D .next s') acc C) S hc hg (fun _ _ _ _=>kjP) he I2 T st2 f2 W w0 (kg1 (Q:=fun v H'=>gName i v σ H' D.nx) turn) fun D' C H' s' m B fC hCD hm q=>?_
 obtain⟨c0,c1,c2,c3,c4,c5⟩:=fC
 obtain⟨oC,es,ep,eC,dC,kC⟩:=hm
 have B':Inv X (pins++[(C,oC)]) σ H' s':=B.pins_of fun p hp=>by
  rcases N6.mp hp with hp|hp
  ·exact B.pin p (Md _ hp)
  ·have e:p=(C,oC):=by simpa using hp
   subst e
   exact⟨eC,c0,c1,c2,fun v z=>by rw[dC] at z;cases z⟩
 refine thn (hA _ s' σ H' (.ref D') (.ref D') _ B' rfl q) fun _ s'' zz=>?_
 obtain⟨σ2,H3,I3,q3⟩:=zz
 obtain⟨e3,n3,_⟩:=I3.pin (C,oC) (Md _ (Md _ (by simp)))
 exact⟨m,⟨oC,es,ep,e3,dC,kC⟩,fun h' hs'=>⟨σ2,H3,I3.unpinned.turned (t':=s''.toks) (fun b o hb e=>(hs'.2 b hb).trans e) n3 c1 c3 c4 c5,q3⟩⟩
end
section
variable {g:TG} {te:TE} {σ:St} {H:Hp} {R:List V->Hp->Addr->Prop}
theorem kaY{K:Nr}{a:Addr}{xs:List V}(Pv:Nat->St->List V->Hp->Prop)(h0:Pv 0 σ [] H)(hz:xs.length<=sizeLine)(hl:∀i σ ys H,i<=xs.length->Pv i σ ys H->SqL K H a xs/\ys.length=i)
  (hs:∀i x σ ys H,xs[i]?=some x->Pv i σ ys H->g x σ H fun σ2 H2=>te σ2 H2 fun y H3=>Pv (i+1) σ2 (ys++[y]) H3) (hd:∀σ ys H,Pv xs.length σ ys H->∀D,H D=none->R ys H D):
  ∃ W:Nat->Nat->St->List V->Hp->Prop,(∃m,W 0 m σ [] H)/\∀i m σ' ys H',W i m σ' ys H'->
   ((Itl K a).stop i H'/\∀D,H' D=none->R ys H' D)∨((Itl K a).go i H'/\ys.length<sizeLine/\∃N:St->V->Hp->Prop,(∀σ2 y H4,N σ2 y H4->∃m',m'<m/\W (i+1) m' σ2 (ys++[y]) H4)/\
    ∀x H2,(Itl K a).yld i H' x H2->g x σ' H2 fun σ2 H3=>te σ2 H3 (N σ2)):=by
 refine⟨fun i m σ ys H=>m=xs.length-i/\i<=xs.length/\Pv i σ ys H,⟨xs.length,by simp,N1 _,h0⟩,?_⟩
 rintro i m σ ys H ⟨rfl,hi,p⟩
 obtain⟨q,el⟩:=hl i σ ys H hi p
 by_cases hlt:i<xs.length
 ·refine .inr ⟨⟨xs,xs[i],q,by simp[hlt]⟩,by omega,fun σ2 y H3=>Pv (i+1) σ2 (ys++[y]) H3,fun σ' y H' p'=>⟨xs.length-(i+1),by omega,rfl,hlt,p'⟩,fun x H' yl=>?_⟩
  obtain⟨e,yl⟩:=yl
  subst e
  exact hs i x σ ys _ (yl xs q) p
 ·have e:i=xs.length:=by omega
  subst e
  exact .inl ⟨⟨xs,q,Nt _⟩,hd σ ys H p⟩
end
theorem CompScope.plain{X:Cx}{scope:Scope}{N:List Str}(kind:scope.kind=.function)(names:∀x∈scope.names,x.2=.local->scope.names.lookup x.1=some .local)(_:∀x∈scope.names,x.2≠.cell)(nf:∀x∈scope.names,x.2≠.free)(nd:N.Nodup):
  CompScope X scope N (Nu N.length none):=by
 refine⟨kind,names,fun x hx hf=>absurd hf (nf x hx),nd,by simp,fun j i x e _=>?_⟩
 rw[MY] at e
 split at e
 ·cases e
 ·cases e
noncomputable def kl9(scope:Scope)(ns:List (Str×NameKind))(XN N:List Str)(cap:List (Option Nat)):Bool:=
 scope.kind== .function&&scope.names.all (fun x=>!(x.2== .local)||scope.names.lookup x.1==some .local)&&scope.names.all (fun x=>!(x.2== .free)||(ns.lookup x.1==some .cell||ns.lookup x.1==some .free))&&decide N.Nodup&&decide (cap.length=N.length) &&
  (cap.zip N).all fun p=>match p.1 with
   |none=>true
   |some i=>XN[i]? ==some p.2&&scope.names.lookup p.2==some .free&&scope.names.all fun y=>!(y.1==p.2&&y.2== .cell)
noncomputable def CompScope.of{X:Cx}{scope:Scope}{N:List Str}{cap:List (Option Nat)}(ns:List (Str×NameKind))(XN:List Str)(hn:X.env.scope.names=ns)(hN:X.N=XN)(h:kl9 scope ns XN N cap=true):CompScope X scope N cap:=by
 unfold kl9 at h
 simp only[Eh,decide_eq_true_eq,ED,E9,Bool.not_eq_true',beq_iff_eq,beq_eq_false_iff_ne] at h
 obtain⟨⟨⟨⟨⟨h1,h2⟩,h3⟩,h4⟩,h5⟩,h6⟩:=h
 refine⟨h1,fun x hx hl=>?_,fun x hx hf=>?_,h4,h5,fun j i x e1 e2=>?_⟩
 ·rcases h2 x hx with q|q
  ·exact absurd hl q
  ·exact q
 ·rw[hn]
  rcases h3 x hx with q|q
  ·exact absurd hf q
  ·exact q
 ·have hz:(cap.zip N)[j]?=some (some i,x):=by
   rw[List.getElem?_zip_eq_some]
   exact⟨e1,e2⟩
  have q:=h6 _ (Ny hz)
  simp only[Eh,beq_iff_eq,ED,Bool.not_eq_true',Bool.and_eq_false_iff,beq_eq_false_iff_ne] at q
  obtain⟨⟨q1,q2⟩,q3⟩:=q
  refine⟨by rw[hN];exact q1,q2,fun z=>?_⟩
  rcases q3 _ z with q|q
  ·exact q rfl
  ·exact q rfl
end L2
namespace L2
open PySem PySem.Spec PyProof.Rows
theorem Inv.turnedL{X:Cx}{pins:List (Addr×Obj)}{σ:St}{H:Hp}{s:Shared}{h':Heap}{t':Nat}{ch:List Addr}(I:Inv X pins σ H s)(k:∀b o,b∉ch->s.heap.get? b=some o->h'.get? b=some o)(hf:∀b∈ch,FpOk X pins H b):
  Inv X pins σ H {s with heap:=h',toks:=t'}:=by
 have nch:∀b u,H b=some u->b∉ch:=fun b u e z=>by
  have:=(hf b z).1
  rw[this] at e
  cases e
 refine I.step (g':=s.gens) (d':=s.drawn) (ch:=ch) (fun b hb=>let⟨_,h1,_,h3,h4,h5⟩:=hf b hb;⟨h3,h1,h4,h5⟩) (fun b o _ _ hc e _=>k b o hc e) (fun b o _ _ hc e _=>⟨o.slots,k b o hc e⟩) (fun _ _ _ _ n=>n)
  (fun b o hc e=>⟨o,k b o hc e⟩) (fun _ _ e=>e) (fun _ _ _ e=>e) (fun b ps e=>⟨#[],by rw[e];simp⟩) (fun m hm=>?_) (fun b u e=>?_) I.bare
 ·obtain⟨o,es,ep,ho,r⟩:=hm
  exact⟨o,es,ep,k _ o (fun z=>(hf _ z).2.1 rfl) ho,r⟩
 ·refine(I.hok b u e).stay (fun c v hc q=>k c v ?_ q) (fun _ q=>q) fun _ _ q=>q
  rcases hc with z|z
  ·rw[z];exact nch b u e
  ·exact nch c _ z
noncomputable def Ite(a:Addr):It:=⟨fun i H=>∃xs x,H a=some (.lst xs)/\xs[i]?=some x,fun i H x H'=>∃t y,H t=none/\x=.ref t/\H'=upd H t (.tup [.int i,y])/\∀xs,H a=some (.lst xs)->xs[i]?=some y,fun i H=>∃xs,H a=some (.lst xs)/\xs.length<=i⟩
theorem kjb{P:Program}{w:World}{K:Nr}{es:List Expr}{k:Nat}{pos:Pos}(a e it:Addr)(hne:e≠it):Turn P w K (.Tuple es k pos) (Ite a) [e,it] e (fun i h=>(∃old,IsEnum h e it ((i:Nat):Int) old)/\h.IsListIter it a i) where
 mem:=by simp
 obj:=fun i h st b hb=>by
  obtain⟨⟨old,he⟩,o,eo,c,d⟩:=st
  have hb':b=e∨b=it:=by simpa using hb
  rcases hb' with rfl|rfl
  ·exact⟨_,he,fun v z=>by
    have z':Data.fields _=Data.cell v:=z
    cases z'⟩
  ·exact⟨o,eo,fun v z=>by rw[d] at z;cases z⟩
 keep:=fun i h h' st k=>⟨let⟨old,he⟩:=st.1;⟨old,k e (by simp) _ he⟩,st.2.at fun o eo=>k it (by simp) o eo⟩
 item:=by
  intro X hP hw hK hc i pins s σ H E I hf st hg
  subst hP hw hK
  obtain⟨⟨old,he⟩,hit⟩:=st
  obtain⟨xs,x,hq,hx⟩:=hg
  obtain⟨its,n,r,ho,hz⟩:=I.lst hq
  obtain⟨u,hu,ru⟩:=r.get hx
  have hl:s.heap.IsList a its.toArray:=⟨_,ho,rfl,n,rfl⟩
  refine wpAny_pyNext_enum_item he hit hl (x:=u) (by simpa using hu) hne fun h1 heo hit1 ht1 hz1 hk1=>?_
  refine⟨.ref s.heap.objs.size,rfl,wpAny_letOwnedTupleGo_enum heo fun h2 he2 hs2=>?_⟩
  have hs2':Heap.SameBut e h1 h2:=hs2
  have el:e<s.heap.objs.size:=Heap.lt_size he
  have kk:∀b o,b∉[e,it]->s.heap.get? b=some o->h2.get? b=some o:=fun b o hb eo=>by
   have hb':b≠e/\b≠it:=by simpa using hb
   exact(hs2'.2 b hb'.1).trans (hk1 b o hb'.1 hb'.2 eo)
  have I1:Inv X pins σ H {s with heap:=h2,toks:=s.toks+1}:=I.turnedL (ch:=[e,it]) kk hf
  have fr:H s.heap.objs.size=none:=I.hok.fresh (Nt _)
  have ft:FpOk X pins H s.heap.objs.size:=I.fpOk (Nt _) fr
  have ht2:h2.get? s.heap.objs.size=some {cls:=.type "tuple",data:=.seq #[.int i s.toks,u]}:=(hs2'.2 _ (Mr el)).trans ht1
  have I2:Inv X pins σ (upd H s.heap.objs.size (.tup [.int i,x])) {s with heap:=h2,toks:=s.toks+1}:=
   I1.adopt ft I.sz ⟨by show 2<=sizeLine;decide,[.int i s.toks,u], .cons ⟨_,rfl⟩ (.cons ru .nil),_,ht2,rfl,_,rfl⟩
  have hit2:h2.IsListIter it a (i+1):=hit1.extBut hs2'.extBut (Ne.symm hne)
  refine⟨.ref s.heap.objs.size,_,I2,rfl,⟨s.heap.objs.size,x,fr,rfl,rfl,fun ys hy=>by rw[hq] at hy;cases hy;exact hx⟩,⟨⟨u,?_⟩,hit2⟩,fun b hb=>?_⟩
  ·have e1:((i+1:Nat):Int)=(i:Int)+1:=rfl
   rw[e1]
   exact he2
  ·have hbl:b<s.heap.objs.size:=by
    have hb':b=e∨b=it:=by simpa using hb
    rcases hb' with rfl|rfl
    ·exact el
    ·obtain⟨o,eo,_⟩:=hit
     exact Heap.lt_size eo
   rw[kaj (NU hbl)]
   exact(hf b hb).1
 done:=by
  intro X hP hw hK hc i pins s σ H E I hf st hg
  subst hP hw hK
  obtain⟨⟨old,he⟩,hit⟩:=st
  obtain⟨xs,hq,hx⟩:=hg
  obtain⟨its,n,r,ho,hz⟩:=I.lst hq
  have hl:s.heap.IsList a its.toArray:=⟨_,ho,rfl,n,rfl⟩
  have hlen:=r.length
  obtain⟨f0,f1,f2,f3,f4,f5⟩:=hf it (by simp)
  exact wpAny_pyNext_enum_end (I.ok.hd hc) he hit hl (by simp;omega) fun h' eb=>⟨rfl,I.turned (t':=s.toks) (fun b o hb e=>eb b o hb e) f0 f1 f3 f4 f5⟩
 self:=fun _ _ _ _ _ st h=>let⟨_,he⟩:=st.1;wpAny_pyIter_enum he h
section
variable {X:Cx}
def iEnum(ta:TA):TI:=fun σ H R=>ta σ H fun vs H1=>∃a xs,vs=[.ref a]/\H1 a=some (.lst xs)/\R (Ite a) H1
theorem kfS{es:List Expr}{k:Nat}{tpos:Pos}{e:Expr}{ta:TA}{p pos:Pos}(hg:Gl X "enumerate")(hm:X.mg "enumerate"=none)(ha:PA X [e] ta)(he:starEach [e] X.env=(false,eval e X.env)::starEach [] X.env:=by rfl)
  (hpl:(backTo pos (starEach [] X.env)).any (·.1)=false:=by rfl):PI X (.Tuple es k tpos) (.Call (.Name "enumerate" p) [e] [] pos) (iEnum ta):=by
 intro pins s σ H R I h
 refine Call_ (kdz I hg hm boot_enumerate (PyProof.Rows.callWith_type1 (thn (ha pos pins s σ H _ I h) fun us s1 zz=>?_) he hpl))
 obtain⟨vs,H1,I1,r1,q1⟩:=zz
 obtain⟨a,xs,rfl,hq,q⟩:=q1
 obtain⟨u,rfl,rx⟩:=vals1 r1
 cases rx
 obtain⟨its,n,r,ho,hz⟩:=I1.lst hq
 refine call_enumerate_1 ho fun h' he' hit' hsz hk=>wpAny_pyIter_enum he' ?_
 have I2:Inv X pins σ H1 {s1 with heap:=h'}:=I1.kept (t':=s1.toks) hk
 refine⟨s1.heap.objs.size+1,[s1.heap.objs.size+1,s1.heap.objs.size],_,_,H1,rfl,I2,kjb a (s1.heap.objs.size+1) s1.heap.objs.size (Nat.succ_ne_self _),⟨⟨_,he'⟩,hit'⟩,fun b hb=>?_,q⟩
 have hb':b=s1.heap.objs.size+1∨b=s1.heap.objs.size:=by simpa using hb
 have hle:s1.heap.objs.size<=b:=by rcases hb' with rfl|rfl <;> omega
 exact I1.fpOk hle (I1.hok.fresh hle)
end
theorem kf7{a:Addr}{xs:List V}{g:TG}{tb:TS}{D:Ends}{σ:St}{H:Hp}(Pv:Nat->St->Hp->Prop)(h0:Pv 0 σ H)(hl:∀i σ H,i<=xs.length->Pv i σ H->H a=some (.lst xs))
  (hs:∀i y t σ H,xs[i]?=some y->Pv i σ H->H t=none->g (.ref t) σ (upd H t (.tup [.int (i:Nat),y])) fun σ2 H2=>tb {D with nx:=Pv (i+1),ct:=Pv (i+1),bk:=D.nx} σ2 H2) (hd:∀σ H,Pv xs.length σ H->D.nx σ H):
  ∃W:Nat->Nat->St->Hp->Prop,(∃m,W 0 m σ H)/\∀i m σ H,W i m σ H->
   ((Ite a).stop i H/\D.nx σ H)∨((Ite a).go i H/\∃N:St->Hp->Prop,(∀σ' H',N σ' H'->∃m',m'<m/\W (i+1) m' σ' H')/\∀x H',(Ite a).yld i H x H'->g x σ H' fun σ2 H2=>tb {D with nx:=N,ct:=N,bk:=D.nx} σ2 H2):=by
 refine⟨fun i m σ H=>m=xs.length-i/\i<=xs.length/\Pv i σ H,⟨xs.length,by simp,N1 _,h0⟩,?_⟩
 rintro i m σ H ⟨rfl,hi,p⟩
 have q:=hl i σ H hi p
 by_cases hlt:i<xs.length
 ·refine .inr ⟨⟨xs,xs[i],q,by simp[hlt]⟩,Pv (i+1),fun σ' H' p'=>⟨xs.length-(i+1),by omega,rfl,hlt,p'⟩,fun x H' y=>?_⟩
  obtain⟨t,y,hn,rfl,rfl,hy⟩:=y
  exact hs i y t σ _ (hy xs q) p hn
 ·have e:i=xs.length:=by omega
  subst e
  exact .inl ⟨⟨xs,q,Nt _⟩,hd σ H p⟩
section
variable {X:Cx}
end
section
variable {X:Cx}
end
end L2
namespace L2
open PySem PySem.Spec PyProof.Rows
section
variable {prog:Program} {w:World} {A:Around} {E:Value->Shared->Prop} {s:Shared}
end
section
variable {X:Cx}
end
section
variable {X:Cx} {CX:CXT} {k:Nat} {f C:Addr} {fd:FuncData} {ps ks:List Str} {sp:Sp} {E:XK} {x:Str} {p pos:Pos} {e:Expr} {es:List Expr} {kws:List Keyword} {t tk:TA} {g:List Value->List Value->List Value} {gV:List V->List V->List V}
end
end L2
namespace L2
open PySem PySem.Spec PyProof.Rows
noncomputable def ka4(K:Nr):List V->Hp->VK->Prop:=fun xs H Q=>∃p ys,xs=[.ref p]/\(SqL K H p ys∨SqT K H p ys)/\∀l,H l=none->Q (.ref l) (upd H l (.lst ys))
def kaP(K:Nr):List V->Hp->VK->Prop:=fun xs H Q=>∃p ys,xs=[.ref p]/\(SqL K H p ys∨SqT K H p ys)/\Q (.int ys.length) H
noncomputable def rSum(K:Nr):List V->Hp->VK->Prop:=fun xs H Q=>∃(p:Addr)(ns:List Int),xs=[.ref p]/\SqL K H p (ns.map V.int)/\Q (.int ns.sum) H
noncomputable def rIsi(K:Nr):List V->Hp->VK->Prop:=fun xs H Q=>∃x c t b,xs=[x,c]/\((∃n,c=.ty n)∨∃a,c=.ref a)/\TyOf K H x t/\NN K t (cV c)=some b/\Q (.bl b) H
section
variable {X:Cx} {K:Nr} {pos:Pos}
theorem kak{e:Expr}{ta:TE}{f:Str}(he:PE X e ta)(hb:attributeBase e f X.env (eval e X.env)=eval e X.env)(hK:X.K=K:=by rfl):PE X (.Attribute e f pos) (tFld K ta f):=by
 subst hK
 exact knh he hb
theorem kaE{tg l:Expr}{tl:TE}(hl:PE X l tl)(hK:X.K=K:=by rfl):PI X tg l (iList K tl):=by
 subst hK
 exact kmx hl
theorem kby{es:List Expr}{k:Nat}{t:TGs}{n:Nat}(hc:X.calm=true)(h:PGs X es t)(hK:X.K=K:=by rfl)
  (hn:(assignEach es X.env).length=n:=by rfl) (hst:(assignEach es X.env).findIdx? (·.1)=none:=by rfl):PG X (.Tuple es k pos) (gTup K n t):=by
 subst hK
 exact knc hc h hn hst
end
end L2
namespace L2
open PySem PySem.Spec PyProof.Rows
inductive DEq (K:Nr) (H:Hp):Nat->V->V->Prop
 |flat {n:Nat} {x y:V} (fx:flatV x=true) (fy:flatV y=true) (e:eqV x y=true):DEq K H n x y
 |same {n:Nat} (a:Addr):DEq K H n (.ref a) (.ref a)
 |lst {n:Nat} {a b:Addr} {xs ys:List V} (ha:SqL K H a xs) (hb:SqL K H b ys) (hl:xs.length=ys.length) (h:∀(i:Nat)(x y:V),xs[i]?=some x->ys[i]?=some y->DEq K H n x y):DEq K H (n+1) (.ref a) (.ref b)
 |tup {n:Nat} {a b:Addr} {xs ys:List V} (ha:SqT K H a xs) (hb:SqT K H b ys) (hl:xs.length=ys.length) (h:∀(i:Nat)(x y:V),xs[i]?=some x->ys[i]?=some y->DEq K H n x y):DEq K H (n+1) (.ref a) (.ref b)
def DEq.self{K:Nr}{H:Hp}{n:Nat}{x:V}(h:flatV x=true):DEq K H n x x:=.flat h h (klr h)
def DEq.int{K:Nr}{H:Hp}{n:Nat}(i:Int):DEq K H n (.int i) (.int i):=.self rfl
def DEq.bl{K:Nr}{H:Hp}{n:Nat}(i:Bool):DEq K H n (.bl i) (.bl i):=.self rfl
def DEq.non{K:Nr}{H:Hp}{n:Nat}:DEq K H n .non .non:=.self rfl
def DEq.str{K:Nr}{H:Hp}{n:Nat}(i:Str):DEq K H n (.str i) (.str i):=.self rfl
noncomputable def DEq.flats{K:Nr}{H:Hp}{n:Nat}{a b:Addr}{xs:List V}(ha:SqL K H a xs)(hb:SqL K H b xs)(f:xs.all flatV=true):DEq K H (n+1) (.ref a) (.ref b):=
 .lst ha hb rfl fun i x y e1 e2=>by
  rw[e1] at e2
  cases e2
  exact .self (ED.mp f _ (Ny e1))
section
variable {X:Cx}
theorem all_true(n:Nat):(Nw n).all (fun _=>true)=true:=by simp
theorem kd1{xs:List V}{us:List Value}(r:Vals xs us){j:Nat}(h:j<us.toArray.size):∃x,xs[j]?=some x/\RelV x us.toArray[j]:=by
 have h':j<us.length:=by simpa using h
 have l:=r.length
 obtain⟨u,e,ru⟩:=r.get (i:=j) (x:=xs[j]'(by omega)) (by simp[show j<xs.length by omega])
 refine⟨xs[j]'(by omega),by simp[show j<xs.length by omega],?_⟩
 have:us.toArray[j]=u:=by
  obtain⟨_,e'⟩:=NF.mp e
  simpa using e'
 rw[this]
 exact ru
theorem kl4{pins:List (Addr×Obj)}{σ:St}{H:Hp}{s:Shared}(I:Inv X pins σ H s){n:Nat}{x y:V}(h:DEq X.K H n x y):∀{A:Around}{u w:Value},A.units+n<cLine->RelV x u->RelV y w->SeqAt.EqAt A s u w true:=by
 induction h with
 |flat fx fy e=>
  intro A u w _ r1 r2
  have:=kl3 (A:=A) (s:=s) r1 r2 fx fy
  rw[e] at this
  exact this
 |same a=>
  intro A u w _ r1 r2
  cases r1
  cases r2
  exact SeqAt.EqAt.same _
 | @lst n a b xs ys ha hb hl h ih=>
  intro A u w hu r1 r2
  cases r1
  cases r2
  by_cases e:a=b
  ·subst e
   exact SeqAt.EqAt.same _
  obtain⟨us,q1,p1,z1⟩:=I.list ha
  obtain⟨ws,q2,p2,z2⟩:=I.list hb
  have l1:=q1.length
  have l2:=q2.length
  have key:=SeqAt.RcAt.lists (A:=A) (e:=fun _=>true) p1.isList p2.isList (by simp;omega) (by omega) fun j h1 h2=>by
   obtain⟨x,e1,g1⟩:=kd1 q1 h1
   obtain⟨y,e2,g2⟩:=kd1 q2 h2
   exact ih j x y e1 e2 (A:=A.in1) (by show A.units+1+n<cLine;omega) g1 g2
  rw[all_true] at key
  exact SeqAt.EqAt.of_refs e key
 | @tup n a b xs ys ha hb hl h ih=>
  intro A u w hu r1 r2
  cases r1
  cases r2
  by_cases e:a=b
  ·subst e
   exact SeqAt.EqAt.same _
  obtain⟨us,q1,p1,z1⟩:=I.tuple ha
  obtain⟨ws,q2,p2,z2⟩:=I.tuple hb
  have l1:=q1.length
  have l2:=q2.length
  have key:=SeqAt.RcAt.tuples (A:=A) (e:=fun _=>true) p1 p2 (by omega) fun j h1 h2=>by
   obtain⟨x,e1,g1⟩:=kd1 q1 h1
   obtain⟨y,e2,g2⟩:=kd1 q2 h2
   exact ih j x y e1 e2 (A:=A.in1) (by show A.units+1+n<cLine;omega) g1 g2
  rw[all_true,show(us.toArray.size==ws.toArray.size)=true by simp;omega] at key
  exact SeqAt.EqAt.of_refs e key
noncomputable def km9(K:Nr)(b:Bool):R2:=fun x y H Q=>∃(a c:Addr)(xs ys:List V),x=.ref a/\y=.ref c/\((SqL K H a xs/\SqL K H c ys)∨(SqT K H a xs/\SqT K H c ys))/\xs.length=ys.length/\(∀(i:Nat)(x y:V),xs[i]?=some x->ys[i]?=some y->DEq K H 32 x y)/\Q (.bl b) H
theorem kni(hu:X.A.units+64<cLine):OpR X (compareOp .Eq) (km9 X.K true):=by
 intro pins s σ H x y v u Q I rx ry h
 obtain⟨a,c,xs,ys,rfl,rfl,hq,hl,hd,q⟩:=h
 cases rx
 cases ry
 rcases hq with⟨ha,hb⟩|⟨ha,hb⟩
 ·obtain⟨us,q1,p1,z1⟩:=I.list ha
  obtain⟨ws,q2,p2,z2⟩:=I.list hb
  have l1:=q1.length
  have l2:=q2.length
  refine SeqAt.eq_listAt (e:=fun _=>true) p1.isList p2.isList (by simp;omega) (by omega) (fun j h1 h2=>?_) ⟨.bl true,H,I,?_,q⟩
  ·obtain⟨x,e1,g1⟩:=kd1 q1 h1
   obtain⟨y,e2,g2⟩:=kd1 q2 h2
   exact kl4 I (hd j x y e1 e2) (by show X.A.units+1+32<cLine;omega) g1 g2
  ·rw[all_true]
   rfl
 ·obtain⟨us,q1,p1,z1⟩:=I.tuple ha
  obtain⟨ws,q2,p2,z2⟩:=I.tuple hb
  have l1:=q1.length
  have l2:=q2.length
  refine SeqAt.eq_tupleAt (e:=fun _=>true) p1 p2 (by omega) (fun j h1 h2=>?_) ⟨.bl true,H,I,?_,q⟩
  ·obtain⟨x,e1,g1⟩:=kd1 q1 h1
   obtain⟨y,e2,g2⟩:=kd1 q2 h2
   exact kl4 I (hd j x y e1 e2) (by show X.A.units+1+32<cLine;omega) g1 g2
  ·rw[all_true,show(us.toArray.size==ws.toArray.size)=true by simp;omega]
   rfl
end
noncomputable def Itz(a b:Addr):It:=⟨fun i H=>∃xs ys x y,H a=some (.lst xs)/\H b=some (.lst ys)/\xs[i]?=some x/\ys[i]?=some y,
 fun i H v H'=>∃t x y,H t=none/\v=.ref t/\H'=upd H t (.tup [x,y])/\(∀xs,H a=some (.lst xs)->xs[i]?=some x)/\∀ys,H b=some (.lst ys)->ys[i]?=some y,
 fun i H=>∃xs ys,H a=some (.lst xs)/\H b=some (.lst ys)/\(xs.length<=i∨ys.length<=i)⟩
theorem kkP{P:Program}{w:World}{K:Nr}{es:List Expr}{k:Nat}{pos:Pos}(a b z TI TO i1 i2:Addr)(nd:[z,TI,TO,i1,i2].Nodup):
  Turn P w K (.Tuple es k pos) (Itz a b) [z,TI,TO,i1,i2] z (fun i h=>IsZip h z TI TO .none/\IsPair h TI (.ref i1) (.ref i2)/\(∃u v,IsPair h TO u v)/\h.IsListIter i1 a i/\h.IsListIter i2 b i) where
 mem:=by simp
 obj:=fun i h st b hb=>by
  obtain⟨hz,hI,⟨_,_,hO⟩,⟨o1,e1,_,d1⟩,⟨o2,e2,_,d2⟩⟩:=st
  simp only[NS,MJ,or_false] at hb
  rcases hb with rfl|rfl|rfl|rfl|rfl
  ·exact⟨_,hz,fun v q=>by cases(show Data.fields _=Data.cell v from q)⟩
  ·exact⟨_,hI,fun v q=>by cases(show Data.seq _ _=Data.cell v from q)⟩
  ·exact⟨_,hO,fun v q=>by cases(show Data.seq _ _=Data.cell v from q)⟩
  ·exact⟨o1,e1,fun v q=>by rw[d1] at q;cases q⟩
  ·exact⟨o2,e2,fun v q=>by rw[d2] at q;cases q⟩
 keep:=fun i h h' st kk=>by
  obtain⟨hz,hI,⟨u,v,hO⟩,h1,h2⟩:=st
  exact⟨kk z (by simp) _ hz,kk TI (by simp) _ hI,⟨u,v,kk TO (by simp) _ hO⟩,h1.at fun o e=>kk i1 (by simp) o e,h2.at fun o e=>kk i2 (by simp) o e⟩
 item:=by
  intro X hP hw hK hc i pins s σ H E I hf st hg
  subst hP hw hK
  obtain⟨hz,hI,⟨u,v,hO⟩,h1,h2⟩:=st
  obtain⟨xs,ys,x,y,ha,hb,hx,hy⟩:=hg
  obtain⟨its1,n1,r1,ho1,_⟩:=I.lst ha
  obtain⟨its2,n2,r2,ho2,_⟩:=I.lst hb
  obtain⟨u1,g1,ru1⟩:=r1.get hx
  obtain⟨u2,g2,ru2⟩:=r2.get hy
  have L1:s.heap.IsList a its1.toArray:=⟨_,ho1,rfl,n1,rfl⟩
  have L2':s.heap.IsList b its2.toArray:=⟨_,ho2,rfl,n2,rfl⟩
  have off:∀{l:Addr}{zs:List V},H l=some (.lst zs)->l∉[z,TI,TO,i1,i2]:=fun {l zs} e m=>by
   have:=(hf l m).1
   rw[this] at e
   cases e
  have oa:=off ha
  have ob:=off hb
  have nd':=nd
  simp only[Mu,NS,MJ,or_false,not_or,EE,and_true,not_false_eq_true] at nd' oa ob
  obtain⟨⟨nzI,nzO,nz1,nz2⟩,⟨nIO,nI1,nI2⟩,⟨nO1,nO2⟩,n12⟩:=nd'
  have D:ZipApart z TI TO i1 i2 a b:=⟨Ne.symm nzI,Ne.symm nzO,Ne.symm nz1,Ne.symm nz2,nIO,nI1,nI2,nO1,nO2,n12,oa.1,oa.2.2.1,oa.2.2.2.1,oa.2.2.2.2,ob.1,ob.2.2.1,ob.2.2.2.1,ob.2.2.2.2⟩
  refine wpAny_pyNext_zip_item D hz hI hO h1 h2 L1 L2' (x:=u1) (y:=u2) (by simpa using g1) (by simpa using g2) fun h' a1 a2 a3 a4 a5 a6 a7=>?_
  refine⟨.ref s.heap.objs.size,rfl,wpAny_letOwnedTupleGo_zip a1 fun h2' z2 s2=>?_⟩
  have s2':Heap.SameBut z h' h2':=s2
  have zl:z<s.heap.objs.size:=Heap.lt_size hz
  have kk:∀b o,b∉[z,TI,TO,i1,i2]->s.heap.get? b=some o->h2'.get? b=some o:=fun b o hb eo=>by
   simp only[NS,MJ,or_false,not_or] at hb
   exact(s2'.2 b hb.1).trans (a7 b o hb.1 hb.2.2.1 hb.2.2.2.1 hb.2.2.2.2 eo)
  have I1:Inv X pins σ H {s with heap:=h2',toks:=s.toks}:=I.turnedL (ch:=[z,TI,TO,i1,i2]) kk hf
  have fr:H s.heap.objs.size=none:=I.hok.fresh (Nt _)
  have ft:FpOk X pins H s.heap.objs.size:=I.fpOk (Nt _) fr
  have t2:h2'.get? s.heap.objs.size=some {cls:=.type "tuple",data:=.seq #[u1,u2]}:=(s2'.2 _ (Mr zl)).trans a5
  have I2:Inv X pins σ (upd H s.heap.objs.size (.tup [x,y])) {s with heap:=h2',toks:=s.toks}:=
   I1.adopt ft I.sz ⟨by show 2<=sizeLine;decide,[u1,u2], .cons ru1 (.cons ru2 .nil),_,t2,rfl,_,rfl⟩
  have hI2:IsPair h2' TI (.ref i1) (.ref i2):=(s2'.2 _ (Ne.symm nzI)).trans (a7 TI _ (Ne.symm nzI) nIO nI1 nI2 hI)
  refine⟨.ref s.heap.objs.size,_,I2,rfl,⟨s.heap.objs.size,x,y,fr,rfl,rfl,fun ws e=>by rw[ha] at e;cases e;exact hx,fun ws e=>by rw[hb] at e;cases e;exact hy⟩,
   ⟨z2,hI2,⟨_,_,(s2'.2 _ (Ne.symm nzO)).trans a2⟩,a3.extBut s2'.extBut (Ne.symm nz1),a4.extBut s2'.extBut (Ne.symm nz2)⟩,fun b hb=>?_⟩
  have hbl:b<s.heap.objs.size:=by
   simp only[NS,MJ,or_false] at hb
   rcases hb with rfl|rfl|rfl|rfl|rfl
   ·exact zl
   ·exact Heap.lt_size hI
   ·exact Heap.lt_size hO
   ·obtain⟨o,e,_⟩:=h1;exact Heap.lt_size e
   ·obtain⟨o,e,_⟩:=h2;exact Heap.lt_size e
  rw[kaj (NU hbl)]
  exact(hf b hb).1
 done:=by
  intro X hP hw hK hc i pins s σ H E I hf st hg
  subst hP hw hK
  obtain⟨hz,hI,⟨u,v,hO⟩,h1,h2⟩:=st
  obtain⟨xs,ys,ha,hb,hx⟩:=hg
  obtain⟨its1,n1,r1,ho1,_⟩:=I.lst ha
  obtain⟨its2,n2,r2,ho2,_⟩:=I.lst hb
  have L1:s.heap.IsList a its1.toArray:=⟨_,ho1,rfl,n1,rfl⟩
  have L2':s.heap.IsList b its2.toArray:=⟨_,ho2,rfl,n2,rfl⟩
  have hlen1:=r1.length
  have hlen2:=r2.length
  have off:∀{l:Addr}{zs:List V},H l=some (.lst zs)->l∉[z,TI,TO,i1,i2]:=fun {l zs} e m=>by
   have:=(hf l m).1
   rw[this] at e
   cases e
  have oa:=off ha
  have ob:=off hb
  have nd':=nd
  simp only[Mu,NS,MJ,or_false,not_or,EE,and_true,not_false_eq_true] at nd' oa ob
  obtain⟨⟨nzI,nzO,nz1,nz2⟩,⟨nIO,nI1,nI2⟩,⟨nO1,nO2⟩,n12⟩:=nd'
  have D:ZipApart z TI TO i1 i2 a b:=⟨Ne.symm nzI,Ne.symm nzO,Ne.symm nz1,Ne.symm nz2,nIO,nI1,nI2,nO1,nO2,n12,oa.1,oa.2.2.1,oa.2.2.2.1,oa.2.2.2.2,ob.1,ob.2.2.1,ob.2.2.2.1,ob.2.2.2.2⟩
  refine wpAny_pyNext_zip_end (I.ok.hd hc) D hz hI hO h1 h2 L1 L2' ?_ fun h' hk=>⟨rfl,?_⟩
  ·rcases hx with hx|hx
   ·exact .inl (by simp;omega)
   ·exact .inr (by simp;omega)
  ·refine I.turnedL (t':=s.toks) (ch:=[z,TI,TO,i1,i2]) (fun b o hb e=>?_) hf
   simp only[NS,MJ,or_false,not_or] at hb
   exact hk b o hb.1 hb.2.2.1 hb.2.2.2.1 hb.2.2.2.2 e
 self:=fun _ _ _ _ _ st h=>wpAny_pyIter_zip st.1 h
def kmQ(n:Nat):([n+4,n+2,n+3,n,n+1]:List Nat).Nodup:=by
 simp only[Mu,NS,MJ,or_false,not_or,EE,and_true,not_false_eq_true]
 omega
def kmR{n x:Nat}(h:x∈([n+4,n+2,n+3,n,n+1]:List Nat)):n<=x:=by
 simp only[NS,MJ,or_false] at h
 omega
section
variable {X:Cx}
noncomputable def iZip(ta:TA):TI:=fun σ H R=>ta σ H fun vs H1=>∃a b xs ys,vs=[.ref a, .ref b]/\H1 a=some (.lst xs)/\H1 b=some (.lst ys)/\R (Itz a b) H1
theorem kny:bootBuiltins "zip"=some (.type "zip"):=by decide +kernel
theorem kfR{es:List Expr}{k:Nat}{tpos:Pos}{e1 e2:Expr}{ta:TA}{p pos:Pos}(hg:Gl X "zip")(hm:X.mg "zip"=none)(ha:PA X [e1,e2] ta)(he:starEach [e1,e2] X.env=(false,eval e1 X.env)::starEach [e2] X.env:=by rfl)
  (hpl:(backTo pos (starEach [e2] X.env)).any (·.1)=false:=by rfl):PI X (.Tuple es k tpos) (.Call (.Name "zip" p) [e1,e2] [] pos) (iZip ta):=by
 intro pins s σ H R I h
 refine Call_ (kdz I hg hm kny (PyProof.Rows.callWith_type1 (thn (ha pos pins s σ H _ I h) fun us s1 zz=>?_) he hpl))
 obtain⟨vs,H1,I1,r1,q1⟩:=zz
 obtain⟨a,b,xs,ys,rfl,qa,qb,q⟩:=q1
 cases r1 with
 | cons ra rr=>
  cases rr with
  |cons rb rr=>
   cases rr
   cases ra
   cases rb
   obtain⟨its1,n1,_,ho1,_⟩:=I1.lst qa
   obtain⟨its2,n2,_,ho2,_⟩:=I1.lst qb
   refine call_zip_2 (xs:=its1.toArray) (ys:=its2.toArray) ⟨_,ho1,rfl,n1,rfl⟩ ⟨_,ho2,rfl,n2,rfl⟩ fun h' b1 b2 b3 b4 b5 _ hk=>wpAny_pyIter_zip b1 ?_
   have I2:Inv X pins σ H1 {s1 with heap:=h'}:=I1.kept (t':=s1.toks) hk
   refine⟨s1.heap.objs.size+4,[s1.heap.objs.size+4,s1.heap.objs.size+2,s1.heap.objs.size+3,s1.heap.objs.size,s1.heap.objs.size+1],_,_,H1,rfl,I2,kkP a b _ _ _ _ _ (kmQ _),⟨b1,b2,⟨_,_,b3⟩,b4,b5⟩,fun x hx=>?_,q⟩
   have hle:s1.heap.objs.size<=x:=kmR hx
   exact I1.fpOk hle (I1.hok.fresh hle)
end
theorem kkm{a b:Addr}{xs ys:List V}{g:TG}{tb:TS}{D:Ends}{σ:St}{H:Hp}(Pv:Nat->St->Hp->Prop)(h0:Pv 0 σ H)(hl:∀i σ H,i<=min xs.length ys.length->Pv i σ H->H a=some (.lst xs)/\H b=some (.lst ys))
  (hs:∀i x y t σ H,xs[i]?=some x->ys[i]?=some y->Pv i σ H->H t=none->g (.ref t) σ (upd H t (.tup [x,y])) fun σ2 H2=>tb {D with nx:=Pv (i+1),ct:=Pv (i+1),bk:=D.nx} σ2 H2) (hd:∀σ H,Pv (min xs.length ys.length) σ H->D.nx σ H):
  ∃W:Nat->Nat->St->Hp->Prop,(∃m,W 0 m σ H)/\∀i m σ H,W i m σ H->
   ((Itz a b).stop i H/\D.nx σ H)∨((Itz a b).go i H/\∃N:St->Hp->Prop,(∀σ' H',N σ' H'->∃m',m'<m/\W (i+1) m' σ' H')/\∀x H',(Itz a b).yld i H x H'->g x σ H' fun σ2 H2=>tb {D with nx:=N,ct:=N,bk:=D.nx} σ2 H2):=by
 refine⟨fun i m σ H=>m=min xs.length ys.length-i/\i<=min xs.length ys.length/\Pv i σ H,⟨min xs.length ys.length,by simp,N1 _,h0⟩,?_⟩
 rintro i m σ H ⟨rfl,hi,p⟩
 obtain⟨q1,q2⟩:=hl i σ H hi p
 by_cases hlt:i<min xs.length ys.length
 ·refine .inr ⟨⟨xs,ys,xs[i]'(by omega),ys[i]'(by omega),q1,q2,by simp[show i<xs.length by omega],by simp[show i<ys.length by omega]⟩,Pv (i+1),fun σ' H' p'=>⟨min xs.length ys.length-(i+1),by omega,rfl,hlt,p'⟩,fun x H' y=>?_⟩
  obtain⟨t,x,y,hn,rfl,rfl,h1,h2⟩:=y
  exact hs i x y t σ _ (h1 _ q1) (h2 _ q2) p hn
 ·have e:i=min xs.length ys.length:=by omega
  refine .inl ⟨⟨xs,ys,q1,q2,by omega⟩,?_⟩
  rw[e] at p
  exact hd σ H p
theorem kiG{a b:Addr}{xs ys:List V}{g:TG}{te:TE}{σ:St}{H:Hp}{R:List V->Hp->Addr->Prop}(Pv:Nat->St->List V->Hp->Prop)(h0:Pv 0 σ [] H)(hz:min xs.length ys.length<=sizeLine)(hl:∀i σ zs H,i<=min xs.length ys.length->Pv i σ zs H->H a=some (.lst xs)/\H b=some (.lst ys)/\zs.length=i)
  (hs:∀i x y t σ zs H,xs[i]?=some x->ys[i]?=some y->Pv i σ zs H->H t=none->g (.ref t) σ (upd H t (.tup [x,y])) fun σ2 H2=>te σ2 H2 fun z H3=>Pv (i+1) σ2 (zs++[z]) H3) (hd:∀σ zs H,Pv (min xs.length ys.length) σ zs H->∀D,H D=none->R zs H D):
  ∃ W:Nat->Nat->St->List V->Hp->Prop,(∃m,W 0 m σ [] H)/\∀i m σ' zs H',W i m σ' zs H'->
   ((Itz a b).stop i H'/\∀D,H' D=none->R zs H' D)∨((Itz a b).go i H'/\zs.length<sizeLine/\∃N:St->V->Hp->Prop,(∀σ2 y H4,N σ2 y H4->∃m',m'<m/\W (i+1) m' σ2 (zs++[y]) H4)/\
    ∀x H2,(Itz a b).yld i H' x H2->g x σ' H2 fun σ2 H3=>te σ2 H3 (N σ2)):=by
 refine⟨fun i m σ zs H=>m=min xs.length ys.length-i/\i<=min xs.length ys.length/\Pv i σ zs H,⟨min xs.length ys.length,by simp,N1 _,h0⟩,?_⟩
 rintro i m σ zs H ⟨rfl,hi,p⟩
 obtain⟨q1,q2,el⟩:=hl i σ zs H hi p
 by_cases hlt:i<min xs.length ys.length
 ·refine .inr ⟨⟨xs,ys,xs[i]'(by omega),ys[i]'(by omega),q1,q2,by simp[show i<xs.length by omega],by simp[show i<ys.length by omega]⟩,by omega,fun σ2 y H3=>Pv (i+1) σ2 (zs++[y]) H3,fun σ' y H' p'=>⟨min xs.length ys.length-(i+1),by omega,rfl,hlt,p'⟩,fun x H' yl=>?_⟩
  obtain⟨t,x,y,hn,rfl,rfl,h1,h2⟩:=yl
  exact hs i x y t σ zs _ (h1 _ q1) (h2 _ q2) p hn
 ·have e:i=min xs.length ys.length:=by omega
  refine .inl ⟨⟨xs,ys,q1,q2,by omega⟩,?_⟩
  rw[e] at p
  exact hd σ zs H p
end L2
namespace L2
open PySem PySem.Spec PyProof.Rows
section
variable {g:TG} {tt:TT} {te:TE} {σ:St} {H:Hp} {R:List V->Hp->Addr->Prop}
theorem kgb{J:It}{n:Nat}(Pv:Nat->St->List V->Hp->Prop)(h0:Pv 0 σ [] H)(hz:n<=sizeLine)(hl:∀i σ ys H,i<=n->Pv i σ ys H->ys.length<=i)(hgo:∀i σ ys H,i<n->Pv i σ ys H->J.go i H)(hst:∀σ ys H,Pv n σ ys H->J.stop n H)
  (hs:∀i σ ys H x H',i<n->Pv i σ ys H->J.yld i H x H'->g x σ H' fun σ2 H2=>tt σ2 H2 fun b H3=>if b=true then te σ2 H3 (fun y H4=>Pv (i+1) σ2 (ys++[y]) H4) else Pv (i+1) σ2 ys H3) (hd:∀σ ys H,Pv n σ ys H->∀D,H D=none->R ys H D):
  ∃ W:Nat->Nat->St->List V->Hp->Prop,(∃m,W 0 m σ [] H)/\∀i m σ' ys H',W i m σ' ys H'->
   (J.stop i H'/\∀D,H' D=none->R ys H' D)∨(J.go i H'/\ys.length<sizeLine/\∃(N:St->V->Hp->Prop)(N0:St->Hp->Prop),(∀σ2 y H4,N σ2 y H4->∃m',m'<m/\W (i+1) m' σ2 (ys++[y]) H4)/\(∀σ2 H4,N0 σ2 H4->∃m',m'<m/\W (i+1) m' σ2 ys H4)/\
    ∀x H2,J.yld i H' x H2->g x σ' H2 fun σ2 H3=>tt σ2 H3 fun b H4=>if b=true then te σ2 H4 (N σ2) else N0 σ2 H4):=by
 refine⟨fun i m σ ys H=>m=n-i/\i<=n/\Pv i σ ys H,⟨n,by simp,N1 _,h0⟩,?_⟩
 rintro i m σ ys H ⟨rfl,hi,p⟩
 have el:=hl i σ ys H hi p
 by_cases hlt:i<n
 ·refine .inr ⟨hgo i σ ys H hlt p,by omega,fun σ2 y H3=>Pv (i+1) σ2 (ys++[y]) H3,fun σ2 H3=>Pv (i+1) σ2 ys H3,fun σ' y H' p'=>⟨n-(i+1),by omega,rfl,hlt,p'⟩,fun σ' H' p'=>⟨n-(i+1),by omega,rfl,hlt,p'⟩,fun x H' yl=>?_⟩
  exact hs i σ ys H x H' hlt p yl
 ·have e:i=n:=by omega
  subst e
  exact .inl ⟨hst σ ys H p,hd σ ys H p⟩
theorem ki3{K:Nr}{a:Addr}{xs:List V}(Pv:Nat->St->List V->Hp->Prop)(h0:Pv 0 σ [] H)(hz:xs.length<=sizeLine)(hl:∀i σ ys H,i<=xs.length->Pv i σ ys H->SqL K H a xs/\ys.length<=i)
  (hs:∀i x σ ys H,xs[i]?=some x->Pv i σ ys H->g x σ H fun σ2 H2=>tt σ2 H2 fun b H3=>if b=true then te σ2 H3 (fun y H4=>Pv (i+1) σ2 (ys++[y]) H4) else Pv (i+1) σ2 ys H3) (hd:∀σ ys H,Pv xs.length σ ys H->∀D,H D=none->R ys H D):
  ∃ W:Nat->Nat->St->List V->Hp->Prop,(∃m,W 0 m σ [] H)/\∀i m σ' ys H',W i m σ' ys H'->
   ((Itl K a).stop i H'/\∀D,H' D=none->R ys H' D)∨((Itl K a).go i H'/\ys.length<sizeLine/\∃(N:St->V->Hp->Prop)(N0:St->Hp->Prop),(∀σ2 y H4,N σ2 y H4->∃m',m'<m/\W (i+1) m' σ2 (ys++[y]) H4)/\(∀σ2 H4,N0 σ2 H4->∃m',m'<m/\W (i+1) m' σ2 ys H4)/\
    ∀x H2,(Itl K a).yld i H' x H2->g x σ' H2 fun σ2 H3=>tt σ2 H3 fun b H4=>if b=true then te σ2 H4 (N σ2) else N0 σ2 H4):=
 kgb Pv h0 hz (fun i σ ys H hi p=>(hl i σ ys H hi p).2) (fun i σ ys H hi p=>⟨xs,xs[i],(hl i σ ys H (ND hi) p).1,by simp[hi]⟩) (fun σ ys H p=>⟨xs,(hl _ σ ys H (Nt _) p).1,Nt _⟩)
  (fun i σ ys H x H' hi p yl=>by
   obtain⟨e,q⟩:=yl
   subst e
   exact hs i x σ ys _ (q xs (hl i σ ys _ (ND hi) p).1) p) hd
theorem khS{lo:Int}{n:Nat}(Pv:Nat->St->List V->Hp->Prop)(h0:Pv 0 σ [] H)(hz:n<=sizeLine)(hl:∀i σ ys H,i<=n->Pv i σ ys H->ys.length<=i)
  (hs:∀i σ ys H,i<n->Pv i σ ys H->g (.int (lo+i)) σ H fun σ2 H2=>tt σ2 H2 fun b H3=>if b=true then te σ2 H3 (fun y H4=>Pv (i+1) σ2 (ys++[y]) H4) else Pv (i+1) σ2 ys H3) (hd:∀σ ys H,Pv n σ ys H->∀D,H D=none->R ys H D):
  ∃ W:Nat->Nat->St->List V->Hp->Prop,(∃m,W 0 m σ [] H)/\∀i m σ' ys H',W i m σ' ys H'->
   ((Itr lo n).stop i H'/\∀D,H' D=none->R ys H' D)∨((Itr lo n).go i H'/\ys.length<sizeLine/\∃(N:St->V->Hp->Prop)(N0:St->Hp->Prop),(∀σ2 y H4,N σ2 y H4->∃m',m'<m/\W (i+1) m' σ2 (ys++[y]) H4)/\(∀σ2 H4,N0 σ2 H4->∃m',m'<m/\W (i+1) m' σ2 ys H4)/\
    ∀x H2,(Itr lo n).yld i H' x H2->g x σ' H2 fun σ2 H3=>tt σ2 H3 fun b H4=>if b=true then te σ2 H4 (N σ2) else N0 σ2 H4):=
 kgb Pv h0 hz hl (fun _ _ _ _ hi _=>hi) (fun _ _ _ _=>Nt _) (fun i σ ys H x H' hi p yl=>by
  obtain⟨e,q⟩:=yl
  subst e q
  exact hs i σ ys _ hi p) hd
theorem ki4{a:Addr}{xs:List V}(Pv:Nat->St->List V->Hp->Prop)(h0:Pv 0 σ [] H)(hz:xs.length<=sizeLine)(hl:∀i σ ys H,i<=xs.length->Pv i σ ys H->H a=some (.lst xs)/\ys.length<=i)
  (hs:∀i y t σ ys H,xs[i]?=some y->Pv i σ ys H->H t=none->g (.ref t) σ (upd H t (.tup [.int (i:Nat),y])) fun σ2 H2=>tt σ2 H2 fun b H3=>if b=true then te σ2 H3 (fun y H4=>Pv (i+1) σ2 (ys++[y]) H4) else Pv (i+1) σ2 ys H3) (hd:∀σ ys H,Pv xs.length σ ys H->∀D,H D=none->R ys H D):
  ∃ W:Nat->Nat->St->List V->Hp->Prop,(∃m,W 0 m σ [] H)/\∀i m σ' ys H',W i m σ' ys H'->
   ((Ite a).stop i H'/\∀D,H' D=none->R ys H' D)∨((Ite a).go i H'/\ys.length<sizeLine/\∃(N:St->V->Hp->Prop)(N0:St->Hp->Prop),(∀σ2 y H4,N σ2 y H4->∃m',m'<m/\W (i+1) m' σ2 (ys++[y]) H4)/\(∀σ2 H4,N0 σ2 H4->∃m',m'<m/\W (i+1) m' σ2 ys H4)/\
    ∀x H2,(Ite a).yld i H' x H2->g x σ' H2 fun σ2 H3=>tt σ2 H3 fun b H4=>if b=true then te σ2 H4 (N σ2) else N0 σ2 H4):=
 kgb Pv h0 hz (fun i σ ys H hi p=>(hl i σ ys H hi p).2) (fun i σ ys H hi p=>⟨xs,xs[i],(hl i σ ys H (ND hi) p).1,by simp[hi]⟩) (fun σ ys H p=>⟨xs,(hl _ σ ys H (Nt _) p).1,Nt _⟩)
  (fun i σ ys H x H' hi p yl=>by
   obtain⟨t,y,hn,rfl,rfl,hy⟩:=yl
   exact hs i y t σ ys _ (hy xs (hl i σ ys _ (ND hi) p).1) p hn) hd
end
section
variable {X:Cx}
def isI(k:Int):Value->Bool
 | .int a _=>a==k
 |_=>false
theorem kgY:∀{ns:List Int}{us:List Value},Vals (ns.map V.int) us->∀(j:Nat)(n:Int),ns[j]?=some n->∃t,us[j]?=some (.int n t)
 |[],_,_,j,n,e=>by simp at e
 | m::ns,u::us, .cons r t,j,n,e=>by
  cases j with
  |zero=>
   have e':m=n:=by simpa using e
   subst e'
   obtain⟨t,rfl⟩:=r
   exact⟨t,rfl⟩
  |succ j=>
   obtain⟨q,h⟩:=kgY t j n (by simpa using e)
   exact⟨q,by simpa using h⟩
end
end L2
namespace L2
open PySem PySem.Spec PyProof.Rows
structure BaseT (K:Nr) (C:Addr) (m:Str) (f:Addr):Prop where
 rd:PySem.W.readsIn K C (.type "type")=true
 ga:Ee K (.ref C) "__getattribute__"=some (some (.builtin "type.__getattribute__"))
 fc:PySem.W.findCls K (.ref C) (.type "type") m=some (.val (.ref f))
section
variable {X:Cx} {CX:CXT} {k:Nat} {f C:Addr} {fd:FuncData} {ps:List Str} {sp:Sp} {dvs:List V} {ds:List Value} {E:XK} {x m:Str} {p pos apos:Pos} {e o:Expr} {es:List Expr} {ta:TE} {t:TA}
theorem keH{pl:Sem Bool}(B:BaseT X.K C m f)(F:FnOk X.prog X.w X.K X.mg X.base CX k f fd ps sp)(hr:Room k X.A)(hg:Gl X x)(hm:X.mg x=some (.ref C))(hk:NH X.K (.ref f)=true)(hb:Binds X.K fd ps ds)(hd:Vals dvs ds)(hx:kdD CX X E)
  (ha:PA X (e::es) t) (hdb:(x==("__debug__" :Str))=false:=by decide)
  (hst:starEach (e::es) X.env=(false,eval e X.env)::starEach es X.env:=by rfl) (hpl:(backTo pos (starEach es X.env)).any (·.1)=false:=by rfl)
  (ht:eval (.Call (.Attribute (.Name x p) m apos) (e::es) [] pos) X.env=(do
   let ov <-eval (.Name x p) X.env
   standAt apos.atName
   let(f,first) <-holding [ov] (getMethod ov m pl)
   callWith pos f first (backTo pos (starEach (e::es) X.env)) (backToKw pos (keywordEach [] X.env))):=by rfl):
  PE X (.Call (.Attribute (.Name x p) m apos) (e::es) [] pos) (tCall sp dvs E t):=by
 intro pins s σ H Q I h
 refine E7 (pl:=pl) (thn (kcp (v:=.ref C) hg hm rfl hdb pins s σ H (fun y H1=>y=.ref C/\H1=H) I ⟨rfl,rfl⟩) fun u s1 zz=>?_) ht
 obtain⟨y,H1,I1,ry,ey,eH⟩:=zz
 subst ey eH
 obtain rfl:u=Value.ref C:=ry
 refine PySem.W.method_cls I1.kIn B.ga (PySem.W.cls_value I1.kIn B.rd B.fc rfl ?_)
 have I2:=I1.tok (s1.toks+1)
 refine Ef (h₀:=X.base) I.ok.mod.kin hk (thn (ha pos pins _ σ H1 _ I2 h) fun us s2 ⟨vs,H2,I3,r,q2⟩=>⟨I3.kIn,?_⟩) hst hpl
 exact kgy F hr hb hd hx I3 r q2
end
def kkJ:bootBuiltins "tuple"=some (.type "tuple"):=by decide +kernel
def kdj{n j:Nat}(h:j<n):ixN n (j:Int)=some j:=by
 unfold ixN
 rw[if_pos (by omega),if_pos (by omega)]
 simp
section
variable {X:Cx}
end
section
variable {X:Cx}
noncomputable def kns(ta:TA):TI:=fun σ H R=>ta σ H fun vs H1=>∃i j k:Int,vs=[.int i, .int j, .int k]/\(-(2 ^ 31)<=i/\i<2 ^ 31)/\(-(2 ^ 31)<=j/\j<2 ^ 31)/\0<k/\k<2 ^ 30/\R (Its i k (Builtin.Range.rangeSize i j k).toNat) H1
theorem kfo{tg a b c:Expr}{ta:TA}{p pos:Pos}(hg:Gl X "range")(hm:X.mg "range"=none)(ha:PA X [a,b,c] ta)(he:starEach [a,b,c] X.env=(false,eval a X.env)::starEach [b,c] X.env:=by rfl)
  (hpl:(backTo pos (starEach [b,c] X.env)).any (·.1)=false:=by rfl):PI X tg (.Call (.Name "range" p) [a,b,c] [] pos) (kns ta):=by
 intro pins s σ H R I h
 refine Call_ (kdz I hg hm boot_range (PyProof.Rows.callWith_type1 (thn (ha pos pins s σ H _ I h) fun us s1 zz=>?_) he hpl))
 obtain⟨vs,H1,I1,r1,q1⟩:=zz
 obtain⟨i,j,k,e,hi,hj,hk,hk2,q⟩:=q1
 subst e
 cases r1 with
 | cons r rr=>
  cases rr with
  | cons r' rr=>
   cases rr with
   | cons r'' rr=>
    cases rr
    obtain⟨t,rfl⟩:=r
    obtain⟨t',rfl⟩:=r'
    obtain⟨t'',rfl⟩:=r''
    refine call_range_3 (by omega) ?_ (.inl (PyProof.noPylong_small (by omega)))
    refine wpAny_pyIter_range (IsRange.new ..) (kiM hk hk2 hi hj) ?_
    have I2:Inv X pins σ H1 {s1 with heap:=s1.heap.push {cls:=.type "range",data:=.fields #[.int i t, .int j t', .int k t'']},toks:=s1.toks}:=I1.kept fun b o e=>Heap.get?_push_of_some _ e
    have hn:=kgr hk hi hj
    refine⟨(s1.heap.push {cls:=.type "range",data:=.fields #[.int i t, .int j t', .int k t'']}).objs.size,[(s1.heap.push {cls:=.type "range",data:=.fields #[.int i t, .int j t', .int k t'']}).objs.size],_,_,H1,rfl,
     I2.kept (t':=s1.toks) fun b o e=>Heap.get?_push_of_some _ e,ki9 _ i k (Builtin.Range.rangeSize i j k).toNat,?_,fun b hb=>?_,q⟩
    ·have e1:i+((0:Nat):Int)*k=i:=by simp
     have e2:(((Builtin.Range.rangeSize i j k).toNat:Nat):Int)-((0:Nat):Int)=Builtin.Range.rangeSize i j k:=by omega
     show IsRangeIter _ _ (i+((0:Nat):Int)*k) ((((Builtin.Range.rangeSize i j k).toNat:Nat):Int)-((0:Nat):Int)) k
     rw[e1,e2]
     exact Heap.get?_push_size _ rfl
    ·have e:b=(s1.heap.push {cls:=.type "range",data:=.fields #[.int i t, .int j t', .int k t'']}).objs.size:=by simpa using hb
     subst e
     exact I2.fpOk (Nt _) (I2.hok.fresh (Nt _))
end
section
variable {g:TG} {te:TE} {σ:St} {H:Hp} {R:List V->Hp->Addr->Prop}
theorem kky{lo st:Int}{n:Nat}(Pv:Nat->St->List V->Hp->Prop)(h0:Pv 0 σ [] H)(hz:n<=sizeLine)(hl:∀i σ ys H,i<=n->Pv i σ ys H->ys.length=i)
  (hs:∀i σ ys H,i<n->Pv i σ ys H->g (.int (lo+i*st)) σ H fun σ2 H2=>te σ2 H2 fun y H3=>Pv (i+1) σ2 (ys++[y]) H3) (hd:∀σ ys H,Pv n σ ys H->∀D,H D=none->R ys H D):
  ∃ W:Nat->Nat->St->List V->Hp->Prop,(∃m,W 0 m σ [] H)/\∀i m σ' ys H',W i m σ' ys H'->
   ((Its lo st n).stop i H'/\∀D,H' D=none->R ys H' D)∨((Its lo st n).go i H'/\ys.length<sizeLine/\∃N:St->V->Hp->Prop,(∀σ2 y H4,N σ2 y H4->∃m',m'<m/\W (i+1) m' σ2 (ys++[y]) H4)/\
    ∀x H2,(Its lo st n).yld i H' x H2->g x σ' H2 fun σ2 H3=>te σ2 H3 (N σ2)):=by
 refine⟨fun i m σ ys H=>m=n-i/\i<=n/\Pv i σ ys H,⟨n,by simp,N1 _,h0⟩,?_⟩
 rintro i m σ ys H ⟨rfl,hi,p⟩
 have el:=hl i σ ys H hi p
 by_cases hlt:i<n
 ·refine .inr ⟨hlt,by omega,fun σ2 y H3=>Pv (i+1) σ2 (ys++[y]) H3,fun σ' y H' p'=>⟨n-(i+1),by omega,rfl,hlt,p'⟩,fun x H' yl=>?_⟩
  obtain⟨e,yl⟩:=yl
  subst e yl
  exact hs i σ ys _ hlt p
 ·have e:i=n:=by omega
  subst e
  exact .inl ⟨Nt _,hd σ ys H p⟩
end
noncomputable def kho{L m:Nat}(hm:0<m):(Builtin.Range.rangeSize 0 ((L:Int)-(m:Int)+1) (m:Int)).toNat=L/m:=by
 unfold Builtin.Range.rangeSize
 rw[if_pos (by omega)]
 by_cases h:m<=L
 ·rw[if_pos (by omega),show(L:Int)-(m:Int)+1-0-1=((L-m:Nat):Int) by omega,<-Int.natCast_ediv,Nat.div_eq_sub_div hm h]
  generalize (L-m)/m=q
  omega
 ·rw[if_neg (by omega),Nat.div_eq_of_lt (by omega)]
  rfl
def b_str:bootBuiltins "str"=some (.type "str"):=by decide +kernel
end L2
namespace L2
open PySem PySem.Spec PyProof.Rows
inductive Src where
 |p (i:Nat)
 |k (j:Nat)
 |d (v:Value) (x:V)
def Src.val(us ws:List Value):Src->Value
 | .p i=>us.getD i .none
 | .k j=>ws.getD j .none
 | .d v _=>v
def Src.abs(vs zs:List V):Src->V
 | .p i=>vs.getD i .non
 | .k j=>zs.getD j .non
 | .d _ x=>x
def Src.Ok:Src->Prop
 | .d v x=>RelV x v
 |_=>True
section
variable {X:Cx} {CX:CXT} {k:Nat} {f C:Addr} {fd:FuncData} {ps ks:List Str} {sp:Sp} {E:XK} {x:Str} {p pos:Pos} {kws:List Keyword} {tk:TA} {g:List Value->List Value->List Value} {gV:List V->List V->List V}
end
end L2
namespace L2
open PySem PySem.Spec PyProof.Rows
def atK(kvs:List (Key×V))(k:Key):Option V:=(kvs.find? fun p=>decide (p.1=k)).map Prod.snd
theorem khU:∀{kvs:List (Key×V)}{vs:List (Key×Value)},KV kvs vs->∀k,RelO (atK kvs k) (valueAt vs k)
 |_,_, .nil,_=>True.intro
 | p::ps,q::qs, .cons h t,k=>by
  obtain⟨h1,h2⟩:=h
  have ih:=khU t k
  unfold atK valueAt at *
  by_cases e:p.1=k
  ·have e':q.1=k:=h1.symm.trans e
   simp only[Mo,e,e',decide_true,MS]
   exact h2
  ·have e':¬q.1=k:=fun z=>e (h1.trans z)
   simp only[Mo,e,e',decide_false]
   exact ih
theorem kvAny:∀{kvs:List (Key×V)}{vs:List (Key×Value)},KV kvs vs->∀k:Key,atK kvs k=none->(vs.any fun p=>decide (p.1=k))=false
 |_,_, .nil,_,_=>rfl
 | p::ps,q::qs, .cons h t,k,hn=>by
  obtain⟨h1,h2⟩:=h
  unfold atK at hn
  by_cases e:p.1=k
  ·simp[Mo,e] at hn
  ·have e':¬q.1=k:=fun z=>e (h1.trans z)
   rw[Mz,decide_eq_false e',Bool.false_or]
   refine kvAny t k ?_
   unfold atK
   simpa[Mo,e] using hn
theorem klX:∀{kvs:List (Key×V)}{vs:List (Key×Value)},KV kvs vs->∀{k:Key}{y:V}{u:Value},RelV y u->KV (kvs++[(k,y)]) (vs++[(k,u)])
 |_,_, .nil,_,_,_,r=>.cons ⟨rfl,r⟩ .nil
 |_,_, .cons h t,_,_,_,r=>.cons h (klX t r)
theorem kvLen:∀{kvs:List (Key×V)}{vs:List (Key×Value)},KV kvs vs->kvs.length=vs.length
 |_,_, .nil=>rfl
 |_,_, .cons _ t=>by rw[NW,NW,kvLen t]
theorem klW:∀{kvs:List (Key×V)}{vs:List (Key×Value)},KV kvs vs->Vals (kvs.map Prod.snd) (vs.map Prod.snd)
 |_,_, .nil=>.nil
 |_,_, .cons h t=>.cons h.2 (klW t)
section
variable {X:Cx}
def km1:TE:=fun _ H Q=>∀p,H p=none->Q (.ref p) (upd H p (.dK []))
theorem kkZ{pos:Pos}:PE X (.Dict [] [] pos) km1:=fun pins s σ H Q I h=>
 have big:sysModules<s.heap.objs.size:=EB (by decide) (show mainGlobals<s.heap.objs.size from(I.mod.glob.keeps I.bk).lt)
 wpAny_Dict_empty ⟨.ref s.heap.objs.size,_,I.laid (a:=s.heap.objs.size) (o:=.dK []) (t':=s.toks) (fun _ _ q=>Heap.get?_push_of_some _ q) (Nt _)
  (show ObjOk X.prog X.w _ _ _ (.dK []) from⟨N1 _,beq_eq_false_iff_ne.mpr (Ne.symm (NU big)),[], .nil,Heap.DictOf.new _⟩),rfl,h _ (I.hok.fresh (Nt _))⟩
noncomputable def rSetd:V->List V->Hp->VK->Prop:=fun x vs H Q=>∃(a:Addr)(kvs:List (Key×V))(i:Int)(y:V),x=.ref a/\vs=[.int i,y]/\H a=some (.dK kvs)/\kvs.length<sizeLine/\(∀v,atK kvs (.inl i)=some v->Q v H)/\(atK kvs (.inl i)=none->Q y (upd H a (.dK (kvs++[(.inl i,y)]))))
theorem kf4:MtM X "dict.setdefault" rSetd:=by
 intro pins s σ H x vs v us Q I rx rv h
 obtain⟨a,kvs,i,y,rfl,rfl,e,hz,h1,h2⟩:=h
 cases rx
 obtain⟨u1,u2,rfl,⟨t,rfl⟩,ru2⟩:=vals2 rv
 obtain⟨z,hd,ws,rel,dd⟩:=(show ObjOk X.prog X.w H s.heap a (.dK kvs) from I.hok a _ e)
 have key:(ka5 X.prog X.w).is (Sum.inl i:Key) (.int i t)=true:=keT _ _ i t
 refine call_meetsIn EF dd.typeIs DB (DC _ _ _) (kt_meets_setdefault (ka5 X.prog X.w) a key hd u2)
  ⟨ws,dd,by rw[<-kvLen rel];exact z,fun v hv=>?_,fun hn h' dd' hs=>?_⟩
 ·have r:=khU rel (Sum.inl i)
  rw[hv] at r
  cases ea:atK kvs (Sum.inl i) with
  |none=>rw[ea] at r;exact(show False from r).elim
  |some w'=>
   rw[ea] at r
   exact⟨w',H,I.tok _,r,h1 w' ea⟩
 ·have r:=khU rel (Sum.inl i)
  rw[hn] at r
  have ea:atK kvs (Sum.inl i)=none:=by
   cases ea:atK kvs (Sum.inl i) with
   |none=>rfl
   |some w'=>rw[ea] at r;exact(show False from r).elim
  have est:stored ws (Sum.inl i:Key) u2=ws++[(Sum.inl i,u2)]:=by
   unfold stored
   rw[kvAny rel _ ea,if_neg NB]
  rw[est] at dd'
  have he:∃q,h'.get? a=some q:=let⟨q,_,_,hq,_⟩:=dd';⟨q,hq⟩
  refine⟨y,_,I.write (x:=a) (e:=a) (by rw[e];exact True.intro) (.inl rfl) (fun b q hb w'=>(hs.2 b hb).trans w') he ?_,ru2,h2 ea⟩
  exact(show ObjOk X.prog X.w _ h' a (.dK (kvs++[(.inl i,y)])) from⟨by rw[NG,Mv];omega,hd,_,klX rel ru2,dd'⟩)
noncomputable def kjd(te:TE):TE:=fun σ H Q=>te σ H fun v H1=>∃(a:Addr)(kvs:List (Key×V)),v=.ref a/\H1 a=some (.dK kvs)/\∀l,H1 l=none->Q (.ref l) (upd H1 l (.lst (kvs.map Prod.snd)))
theorem khy{e:Expr}{te:TE}{p1 pos1 apos cpos:Pos}(hc:X.calm=true)(h1:Gl X "list")(m1:X.mg "list"=none)(he:PE X e te)
  (hbase:attributeBase e "values" X.env (eval e X.env)=eval e X.env:=by rfl) (hline:(apos.endLine==cpos.line)=true:=by rfl)
  (s2:starEach [.Call (.Attribute e "values" apos) [] [] cpos] X.env=[(false,eval (.Call (.Attribute e "values" apos) [] [] cpos) X.env)]:=by rfl):PE X (.Call (.Name "list" p1) [.Call (.Attribute e "values" apos) [] [] cpos] [] pos1) (kjd te):=by
 intro pins s σ H Q I h
 refine wpAny_Call_Name_kw (kdz I h1 m1 kbj ?_ (by decide) (by decide))
 refine PyProof.Rows.callWith_type1 ?_ s2 rfl
 rw[s2]
 refine Calls.spliced_cons (wpAny_Call_method0_late hbase hline (thn (he pins s σ H _ I h) fun u s3 zz=>?_))
 obtain⟨v,H1,I1,r1,a,kvs,ev,ea,q⟩:=zz
 subst ev
 cases r1
 obtain⟨t1,t2⟩:=klC (T:="dict") (x:=.ref a) (v:=.ref a) I1 rfl (.inr (.inr (.inl ⟨rfl, .inl ⟨kvs,ea⟩⟩)))
 obtain⟨z,hd,ws,rel,dd⟩:=(show ObjOk X.prog X.w H1 s3.heap a (.dK kvs) from I1.hok a _ ea)
 obtain⟨ep,hat⟩:=dd.dictAt
 refine⟨"dict","dict.values",Da,DD,PySem.F.type_dict_values,t1,t2,Calls.callWith_builtin rfl (PySem.evalArgs_none ?_)⟩
 refine call_meetsIn DD dd.typeIs PySem.F.entry_dict_values (PySem.F.args_dict_values_1 _) (meets_dict_values (ka5 X.prog X.w) a hd) ⟨⟨ws,dd⟩,Calls.spliced_nil ?_⟩
 refine PySem.W.kdl_call (PySem.W.kdl_values (knd:=ka5 X.prog X.w) (kvs:=ws) (ep:=ep)) (I1.ok.hd hc) ⟨⟨_,Heap.get?_push_size _ rfl,rfl,rfl⟩,hat.push _⟩ (by rw[<-kvLen rel];exact z) fun h' tk acc' c' hk hS hacc=>?_
 have hv:acc'.toList=ws.map (·.2):=PySem.W.kdl_vals_eq acc'.toList (by rw[M7];exact hacc.1) fun j v' ej=>hacc.2 j v' (by rw[<-Array.getElem?_toList];exact ej)
 generalize ho:({cls:=.type "dict_values",data:=.fields #[.ref a]}:Obj)=ob at *
 have hsz:(s3.heap.push ob).objs.size=s3.heap.objs.size+1:=Heap.size_push ..
 have rv:Vals (kvs.map Prod.snd) acc'.toList:=by rw[hv];exact klW rel
 have I2:Inv X pins σ (upd H1 (s3.heap.push ob).objs.size (.lst (kvs.map Prod.snd))) {s3 with heap:=h',toks:=tk}:=
  I1.laid (fun b o e=>hk b o (Heap.get?_push_of_some _ e)) (by rw[hsz];exact MX _) (show ObjOk X.prog X.w _ h' _ (.lst (kvs.map Prod.snd)) from⟨by rw[Nq];exact z,acc'.toList,c',rv,by simpa using hS⟩)
 exact⟨.ref _,_,I2,rfl,q _ (I1.hok.fresh (by rw[hsz];exact MX _))⟩
end
end L2
namespace L2
open PySem PySem.Spec PyProof.Rows
section
variable {X:Cx}
noncomputable def rCatS(K:Nr):R2:=fun x y H Q=>∃(l b:Addr)(xs zs:List V),x=.ref l/\y=.ref b/\SqL K H l xs/\SqL K H b zs/\xs.length+zs.length<=sizeLine/\∀p,H p=none->Q (.ref p) (upd H p (.lst (xs++zs)))
theorem kmC:OpR X (binaryOp .Add) (rCatS X.K):=by
 intro pins s σ H x y v u Q I rx ry h
 obtain⟨l,b,xs,zs,rfl,rfl,hl,hb,hz,q⟩:=h
 cases rx
 cases ry
 obtain⟨us,r1,⟨⟨c1,d1,t1,f1⟩,n1,g1,z1,z2,z3⟩,_⟩:=I.list hl
 obtain⟨ws,r2,⟨⟨c2,d2,t2,f2⟩,n2,g2,y1,y2,y3⟩,_⟩:=I.list hb
 have lu:=r1.length
 have lw:=r2.length
 simp only at z1 z2 z3 y1 y2 y3
 subst z1 z2 z3 y1 y2 y3
 refine concat_meets ⟨_,g1,rfl⟩ ⟨_,g2,rfl⟩ noFill_list_add seq_list_add PySem.F.slot_list_add PySem.F.entry_list_add (PySem.F.args_list_add_2 _ _)
  (list_addW l b us.toArray ws.toArray n1 n2 none none f1 f2 (by rw[NP,NP];omega)) ⟨g1,g2,?_⟩
 have ea:us.toArray++ws.toArray=(us++ws).toArray:=by simp
 rw[ea]
 exact⟨.ref _,_,I.lnew (t':=s.toks) (r1.append r2) (by rw[NG];omega),rfl,q _ I.fresh⟩
end
end L2
namespace Stb
open PySem PyProof.Rows
def T(xs:Array Keyed)(i:Nat):Int:=match xs[i]? with
 |some p=>numOf p.2
 |none=>0
def T_at{xs ys:Array Keyed}{i j:Nat}(h:xs[i]?=ys[j]?):T xs i=T ys j:=by unfold T;rw[h]
def Lx(xs:Array Keyed)(i j:Nat):Prop:=K xs i<K xs j∨(K xs i=K xs j/\T xs i<T xs j)
def Lx.trans{xs:Array Keyed}{i j k:Nat}(h:Lx xs i j)(h':Lx xs j k):Lx xs i k:=by unfold Lx at *;omega
def Lx.le{xs:Array Keyed}{i j:Nat}(h:Lx xs i j):K xs i<=K xs j:=by unfold Lx at *;omega
def Up(xs:Array Keyed)(k:Nat):Prop:=∀i j,i<j->j<k->Lx xs i j
def Dn(xs:Array Keyed)(k:Nat):Prop:=∀i j,i<j->j<k->Lx xs j i
def Lat(a₀ xs:Array Keyed)(k:Nat):Prop:=∀i j,i<j->k<=j->j<a₀.size->T xs i<T xs j
def Lat.mono{a₀ xs:Array Keyed}{k k':Nat}(h:Lat a₀ xs k)(hk:k<=k'):Lat a₀ xs k':=fun i j h1 h2 h3=>h i j h1 (by omega) h3
theorem kiH{xs:Array Keyed}{src d:Nat}(hs:src<xs.size)(hd:d<=src)(k:Nat):
  ∃k',(K (bubble xs src d) k=K xs k'/\T (bubble xs src d) k=T xs k')/\k'=if k=src-d then src else if src-d<k/\k<=src then k-1 else k:=by
 refine⟨_,?_,rfl⟩
 have e:=getElem?_bubble hs d hd k
 have e':(bubble xs src d)[k]?=xs[if k=src-d then src else if src-d<k/\k<=src then k-1 else k]?:=by
  rw[e]
  split
  ·rfl
  ·split <;> rfl
 exact⟨K_congr e',T_at e'⟩
theorem kcF{xs:Array Keyed}{i j:Nat}(hj:j<=xs.size)(k:Nat):
  ∃k',(K (mirror xs i j ((j-i)/2)) k=K xs k'/\T (mirror xs i j ((j-i)/2)) k=T xs k')/\k'=if i<=k/\k<j then i+j-1-k else k:=by
 refine⟨_,?_,rfl⟩
 have e:=getElem?_mirror_all (i:=i) hj k
 have e':(mirror xs i j ((j-i)/2))[k]?=xs[if i<=k/\k<j then i+j-1-k else k]?:=by
  rw[e]
  split <;> rfl
 exact⟨K_congr e',T_at e'⟩
noncomputable def khG{a₀ xs:Array Keyed}{i j k:Nat}(hj:j<=xs.size)(hk:j<=k)(h:Lat a₀ xs k):Lat a₀ (mirror xs i j ((j-i)/2)) k:=by
 intro a b hab hkb hb
 obtain⟨a',⟨_,ea⟩,ha⟩:=kcF (i:=i) hj a
 obtain⟨b',⟨_,eb⟩,hb'⟩:=kcF (i:=i) hj b
 rw[ea,eb]
 rw[if_neg (by omega)] at hb'
 subst hb'
 refine h _ _ ?_ hkb hb
 rw[ha]
 split <;> omega
section
variable {prog:Program} {w:World} {A:Around} {E:Value->Shared->Prop} {s:Shared} {a₀:Array Keyed}
theorem asc{st:SortSt}{a nrem:Nat}{Q:AscSt->SortSt->Prop}(h0:IntKeys a₀)(hn:nrem<=a₀.size)(ha:1<=a)(han:a<=nrem)(hB:SBase a₀ st)(hs:Up (arrOf st) a)(hl:Lat a₀ (arrOf st) a)
  (h:∀n,a<=n->n<=nrem->Up (arrOf st) n->(n=nrem∨K (arrOf st) n<K (arrOf st) (n-1))->Q (none,n) st):wpS (model prog w) A E s (ascLoop a nrem) Q st:=by
 unfold ascLoop
 refine wpS_forRange (I:=fun x c st'=>st'=st/\c=(none,x)/\Up (arrOf st) x) ?turn ?over ⟨rfl,rfl,hs⟩
 case over=>
  rintro c st' ⟨rfl,rfl,u⟩
  rw[show max a nrem=nrem by omega] at u⊢
  exact h nrem han (Nt _) u (.inl rfl)
 case turn=>
  rintro x c st' hax hxn ⟨rfl,rfl,u⟩
  dsimp only
  refine wpS_bind (wpS_ltK hB h0 (by omega) (by omega) ?_)
  by_cases c1:K (arrOf st') x<K (arrOf st') (x-1)
  ·simp only[c1,decide_true,if_true]
   exact wpS_pure (h x hax (by omega) u (.inr c1))
  ·simp only[c1,decide_false,Mn,if_false]
   refine wpS_pure ⟨rfl,rfl,fun i j hij hj=>?_⟩
   by_cases hjx:j<x
   ·exact u i j hij hjx
   ·have e:j=x:=by omega
    subst e
    have t1:=hl (j-1) j (by omega) hax (by omega)
    have l1:Lx (arrOf st') (j-1) j:=by unfold Lx;omega
    by_cases e2:i=j-1
    ·rw[e2];exact l1
    ·exact(u i (j-1) (by omega) (by omega)).trans l1
theorem tail{st:SortSt}{n nrem:Nat}{Q:Option Nat->SortSt->Prop}(h0:IntKeys a₀)(hn:nrem<=a₀.size)(h1:1<=n)(hnn:n<=nrem)(hB:SBase a₀ st)(hs:Dn (arrOf st) n)(hl:Lat a₀ (arrOf st) n)
  (h:∀m st',SBase a₀ st'->1<=m->m<=nrem->Up (arrOf st') m->Lat a₀ (arrOf st') m->Q (some m) st'):wpS (model prog w) A E s (tail3 n nrem) Q st:=by
 unfold tail3
 have sz:n<=(arrOf st).size:=by rw[hB.size];omega
 refine wpS_bind (wpS_reverse ?_)
 have hB2:SBase a₀ (setArr st (mirror (arrOf st) 0 n ((n-0)/2))):=hB.setArr (mirror_perm _ _ _ _)
 have hl2:Lat a₀ (mirror (arrOf st) 0 n ((n-0)/2)) n:=khG sz (Nt _) hl
 refine wpS_bind (asc h0 hn h1 hnn hB2 ?_ hl2 fun m hm1 hm2 hu _=>wpS_pure (h m _ hB2 (by omega) hm2 hu (hl2.mono hm1)))
 intro i j hij hj
 show Lx (mirror (arrOf st) 0 n ((n-0)/2)) i j
 obtain⟨i',⟨k1,t1⟩,e1⟩:=kcF (i:=0) sz i
 obtain⟨j',⟨k2,t2⟩,e2⟩:=kcF (i:=0) sz j
 rw[if_pos (by omega)] at e1 e2
 have:=hs j' i' (by omega) (by omega)
 unfold Lx at this⊢
 rw[k1,k2,t1,t2]
 exact this
structure Fl (a₀ xs:Array Keyed) (x neq:Nat):Prop where
 few:neq+1<=x
 hd:Dn xs (x-(neq+1))
 cr:∀i j,i<x-(neq+1)->x-(neq+1)<=j->j<x->K xs j<K xs i
 tl:∀i j,x-(neq+1)<=i->i<j->j<x->K xs i=K xs j/\T xs i<T xs j
 lat:Lat a₀ xs x
theorem Fl.turned{xs:Array Keyed}{x neq:Nat}(h:Fl a₀ xs x neq)(hx:x<=xs.size):Dn (mirror xs (x-(neq+1)) x ((x-(x-(neq+1)))/2)) x/\(∀i,i<x->K xs (x-1)<=K (mirror xs (x-(neq+1)) x ((x-(x-(neq+1)))/2)) i)/\Lat a₀ (mirror xs (x-(neq+1)) x ((x-(x-(neq+1)))/2)) x/\
  ∀k,x<=k->K (mirror xs (x-(neq+1)) x ((x-(x-(neq+1)))/2)) k=K xs k:=by
 have hf:=h.few
 refine⟨fun i j hij hj=>?_,fun i hi=>?_,khG hx (Nt _) h.lat,fun k hk=>?_⟩
 ·obtain⟨i',⟨k1,t1⟩,e1⟩:=kcF (i:=x-(neq+1)) hx i
  obtain⟨j',⟨k2,t2⟩,e2⟩:=kcF (i:=x-(neq+1)) hx j
  unfold Lx
  rw[k1,k2,t1,t2]
  by_cases c1:j<x-(neq+1)
  ·rw[if_neg (by omega)] at e1 e2
   subst e1 e2
   exact h.hd i' j' hij c1
  ·rw[if_pos (by omega)] at e2
   by_cases c2:i<x-(neq+1)
   ·rw[if_neg (by omega)] at e1
    subst e1
    exact .inl (h.cr i' j' c2 (by omega) (by omega))
   ·rw[if_pos (by omega)] at e1
    have:=h.tl j' i' (by omega) (by omega) (by omega)
    omega
 ·obtain⟨i',⟨k1,_⟩,e1⟩:=kcF (i:=x-(neq+1)) hx i
  rw[k1]
  by_cases c2:i<x-(neq+1)
  ·rw[if_neg (by omega)] at e1
   subst e1
   have:=h.cr i' (x-1) c2 (by omega) (by omega)
   omega
  ·rw[if_pos (by omega)] at e1
   by_cases c3:i'=x-1
   ·rw[c3];exact Int.le_refl _
   ·have:=h.tl i' (x-1) (by omega) (by omega) (by omega)
    omega
 ·obtain⟨k',⟨k1,_⟩,e1⟩:=kcF (i:=x-(neq+1)) hx k
  rw[if_neg (by omega)] at e1
  rw[k1,e1]
theorem Fl.plain{xs:Array Keyed}{x:Nat}(h:Fl a₀ xs x 0):Dn xs x/\(∀i,i<x->K xs (x-1)<=K xs i):=by
 have hf:=h.few
 refine⟨fun i j hij hj=>?_,fun i hi=>?_⟩
 ·by_cases c1:j<x-(0+1)
  ·exact h.hd i j hij c1
  ·exact .inl (h.cr i j (by omega) (by omega) hj)
 ·by_cases c3:i=x-1
  ·rw[c3];exact Int.le_refl _
  ·have:=h.cr i (x-1) (by omega) (by omega) (by omega)
   omega
theorem Fl.next{xs:Array Keyed}{x:Nat}(hd:Dn xs x)(hk:∀i,i<x->K xs x<K xs i)(hl:Lat a₀ xs x):Fl a₀ xs (x+1) 0:=
 ⟨by omega,fun i j h1 h2=>hd i j h1 (by omega),fun i j h1 h2 h3=>by
  have e:j=x:=by omega
  subst e
  exact hk i (by omega),fun i j h1 h2 h3=>by omega,hl.mono (by omega)⟩
theorem desc{st:SortSt}{n nrem:Nat}{Q:DescSt->SortSt->Prop}(h0:IntKeys a₀)(hn:nrem<=a₀.size)(hnn:n<=nrem)(hB:SBase a₀ st)(hs:Fl a₀ (arrOf st) n 0)
  (h:∀m neq st',SBase a₀ st'->n<=m->m<=nrem->Fl a₀ (arrOf st') m neq->Q (none,m,neq) st'):wpS (model prog w) A E s (descLoop n nrem) Q st:=by
 unfold descLoop
 refine wpS_forRange (I:=fun x c st'=>∃neq,c=(none,x,neq)/\SBase a₀ st'/\Fl a₀ (arrOf st') x neq) ?turn ?over ⟨0,rfl,hB,hs⟩
 case over=>
  rintro c st' ⟨neq,rfl,hB',f⟩
  rw[show max n nrem=nrem by omega] at f⊢
  exact h nrem neq st' hB' hnn (Nt _) f
 case turn=>
  rintro x c st' hax hxn ⟨neq,rfl,hB',f⟩
  dsimp only
  have few:=f.few
  have sz:x<=(arrOf st').size:=by rw[hB'.size];omega
  refine wpS_bind (wpS_ltK hB' h0 (by omega) (by omega) ?_)
  by_cases c1:K (arrOf st') x<K (arrOf st') (x-1)
  ·simp only[c1,decide_true,if_true]
   by_cases c2:neq > 0
   ·rw[if_pos c2]
    obtain⟨d1,d2,d3,d4⟩:=f.turned sz
    refine wpS_bind (wpS_reverse (wpS_pure ⟨0,rfl,hB'.setArr (mirror_perm _ _ _ _),Fl.next d1 (fun i hi=>?_) d3⟩))
    have:=d2 i hi
    have e:=d4 x (Nt _)
    show K (mirror (arrOf st') _ _ _) x<K (mirror (arrOf st') _ _ _) i
    omega
   ·rw[if_neg c2]
    have e:neq=0:=by omega
    subst e
    obtain⟨d1,d2⟩:=f.plain
    exact wpS_pure ⟨0,rfl,hB',Fl.next d1 (fun i hi=>by have:=d2 i hi;omega) f.lat⟩
  ·simp only[c1,decide_false,Mn,if_false]
   refine wpS_bind (wpS_ltK hB' h0 (by omega) (by omega) ?_)
   by_cases c2:K (arrOf st') (x-1)<K (arrOf st') x
   ·simp only[c2,decide_true,if_true]
    exact wpS_pure (h x neq st' hB' hax (by omega) f)
   ·simp only[c2,decide_false,Mn,if_false]
    have ek:K (arrOf st') x=K (arrOf st') (x-1):=by omega
    refine wpS_pure ⟨neq+1,rfl,hB',⟨by omega,?_,?_,?_,f.lat.mono (by omega)⟩⟩
    ·rw[show x+1-(neq+1+1)=x-(neq+1) by omega]
     exact f.hd
    ·rw[show x+1-(neq+1+1)=x-(neq+1) by omega]
     intro i j h1 h2 h3
     by_cases c3:j<x
     ·exact f.cr i j h1 h2 c3
     ·have e:j=x:=by omega
      subst e
      rw[ek]
      exact f.cr i (j-1) h1 (by omega) (by omega)
    ·rw[show x+1-(neq+1+1)=x-(neq+1) by omega]
     intro i j h1 h2 h3
     by_cases c3:j<x
     ·exact f.tl i j h1 h2 c3
     ·have e:j=x:=by omega
      subst e
      refine⟨?_,f.lat i j h2 (Nt _) (by omega)⟩
      rw[ek]
      by_cases c4:i=j-1
      ·rw[c4]
      ·exact(f.tl i (j-1) h1 (by omega) (by omega)).1
theorem falls{st:SortSt}{n nrem:Nat}{Q:Option Nat->SortSt->Prop}(h0:IntKeys a₀)(hn:nrem<=a₀.size)(hnn:n+1<=nrem)(hB:SBase a₀ st)(hs:Fl a₀ (arrOf st) (n+1) 0)
  (h:∀m st',SBase a₀ st'->1<=m->m<=nrem->Up (arrOf st') m->Lat a₀ (arrOf st') m->Q (some m) st'):wpS (model prog w) A E s (descPart n nrem) Q st:=by
 unfold descPart
 refine wpS_bind (wpS_lift (wpAny_rule ⟨rfl,?_⟩))
 refine wpS_bind (desc h0 hn hnn hB hs fun m neq st' hB' hm1 hm2 f=>?_)
 dsimp only
 have sz:m<=(arrOf st').size:=by rw[hB'.size];omega
 by_cases c2:neq > 0
 ·rw[if_pos c2]
  obtain⟨d1,_,d3,_⟩:=f.turned sz
  exact wpS_bind (wpS_reverse (tail h0 hn (by omega) hm2 (hB'.setArr (mirror_perm _ _ _ _)) d1 d3 h))
 ·rw[if_neg c2]
  have e:neq=0:=by omega
  subst e
  exact tail h0 hn (by omega) hm2 hB' f.plain.1 f.lat h
theorem count{st:SortSt}{nrem:Nat}{Q:Option Nat->SortSt->Prop}(h0:IntKeys a₀)(hn:nrem<=a₀.size)(h1:1<=nrem)(hB:SBase a₀ st)(hl:Lat a₀ (arrOf st) 1)
  (h:∀m st',SBase a₀ st'->1<=m->m<=nrem->Up (arrOf st') m->Lat a₀ (arrOf st') m->Q (some m) st'):wpS (model prog w) A E s (countRun' 0 nrem) Q st:=by
 rw[countRun0_eq]
 refine wpS_bind (asc h0 hn (Nt 1) h1 hB (fun i j hij hj=>by omega) hl fun n hn1 hn2 hu hor=>?_)
 dsimp only
 by_cases c1:n=nrem
 ·rw[if_pos (by simpa using c1)]
  exact wpS_pure (h n st hB hn1 hn2 hu (hl.mono hn1))
 ·rw [if_neg (by simpa using c1)]
  have lt:K (arrOf st) n<K (arrOf st) (n-1):=hor.resolve_left c1
  by_cases c2:n > 1
  ·rw [if_pos c2]
   refine wpS_bind (wpS_ltK hB h0 (by omega) (by omega) ?_)
   by_cases c3:K (arrOf st) 0<K (arrOf st) (n-1)
   ·simp only[c3,decide_true,if_true]
    exact wpS_pure (h n st hB hn1 hn2 hu (hl.mono hn1))
   ·simp only[c3,decide_false,Mn,if_false]
    have sz:n<=(arrOf st).size:=by rw[hB.size];omega
    have same:∀i,i<n->K (arrOf st) i=K (arrOf st) (n-1):=fun i hi=>by
     by_cases z:i=0
     ·subst z
      have:=(hu 0 (n-1) (by omega) (by omega)).le
      omega
     ·have a1:=(hu 0 i (by omega) hi).le
      by_cases z2:i=n-1
      ·rw[z2]
      ·have a2:=(hu i (n-1) (by omega) (by omega)).le
       omega
    refine wpS_bind (wpS_reverse (falls h0 hn (by omega) (hB.setArr (mirror_perm _ _ _ _)) (Fl.next (fun i j hij hj=>?_) (fun i hi=>?_) (khG sz (Nt _) (hl.mono hn1))) h))
    ·show Lx (mirror (arrOf st) 0 n ((n-0)/2)) j i
     obtain⟨i',⟨k1,t1⟩,e1⟩:=kcF (i:=0) sz i
     obtain⟨j',⟨k2,t2⟩,e2⟩:=kcF (i:=0) sz j
     rw[if_pos (by omega)] at e1 e2
     have:=hu j' i' (by omega) (by omega)
     unfold Lx at this⊢
     rw[k1,k2,t1,t2]
     exact this
    ·show K (mirror (arrOf st) 0 n ((n-0)/2)) n<K (mirror (arrOf st) 0 n ((n-0)/2)) i
     obtain⟨i',⟨k1,_⟩,e1⟩:=kcF (i:=0) sz i
     obtain⟨n',⟨k2,_⟩,e2⟩:=kcF (i:=0) sz n
     rw[if_pos (by omega)] at e1
     rw[if_neg (by omega)] at e2
     subst e2
     rw[k1,k2,same i' (by omega)]
     exact lt
  ·rw[if_neg c2]
   have e:n=1:=by omega
   subst e
   refine falls h0 hn (by omega) hB (Fl.next (fun i j hij hj=>by omega) (fun i hi=>?_) hl) h
   have z:i=0:=by omega
   subst z
   exact lt
theorem insert{st:SortSt}{n ok:Nat}{Q:Bool->SortSt->Prop}(h0:IntKeys a₀)(hn:n<=a₀.size)(h1:1<=ok)(hok:ok<=n)(hB:SBase a₀ st)(hs:Up (arrOf st) ok)(hl:Lat a₀ (arrOf st) ok)
  (h:∀st',SBase a₀ st'->Up (arrOf st') n->Q true st'):wpS (model prog w) A E s (binarySort' 0 n ok) Q st:=by
 rw[binarySort'_eq]
 simp only[EG]
 refine wpS_bind (wpS_mono (wpS_forRange (I:=fun k c st'=>c=(none,())/\SBase a₀ st'/\Up (arrOf st') (min k n)/\Lat a₀ (arrOf st') (min k n)) (Q:=fun c st'=>c=(none,())/\SBase a₀ st'/\Up (arrOf st') n) ?turn ?over ?begin) ?behind)
 case behind=>
  rintro c st' ⟨rfl,hB',hu⟩
  exact wpS_pure (h st' hB' hu)
 case begin=>
  rw[show max ok 1=ok by omega,show min ok n=ok by omega]
  exact⟨rfl,hB,hs,hl⟩
 case over=>
  rintro c st' ⟨hc,hB',hu,_⟩
  refine⟨hc,hB',?_⟩
  rwa [show min (max (max ok 1) n) n=n by omega] at hu
 case turn=>
  rintro k c st' hak hkn ⟨rfl,hB',hu,hla⟩
  rw[show min k n=k by omega] at hu hla
  have hk:k<a₀.size:=by omega
  refine wpS_bind (wpS_mono (wpS_forRange (I:=fun x c st''=>st''=st'/\∃l r,c=(none,l,r)/\l<=r/\r<=k/\r-l<=k-x/\(∀i,i<l->K (arrOf st') i<=K (arrOf st') k)/\(∀i,r<=i->i<k->K (arrOf st') k<K (arrOf st') i))
   (Q:=fun c st''=>st''=st'/\∃l r,c=(none,l,r)/\l<=k/\(∀i,i<l->K (arrOf st') i<=K (arrOf st') k)/\(∀i,l<=i->i<k->K (arrOf st') k<K (arrOf st') i)) ?turn2 ?over2 ?begin2) ?behind2)
  case begin2=>exact⟨rfl,0,k,rfl,by omega,by omega,by omega,fun i hi=>by omega,fun i a b=>by omega⟩
  case over2=>
   rintro c st'' ⟨rfl,l,r,rfl,hlr,hrk,hm,lo,hi⟩
   have e:l=r:=by omega
   subst e
   exact⟨rfl,l,l,rfl,hrk,lo,hi⟩
  case turn2=>
   rintro x c st'' _ hxk ⟨rfl,l,r,rfl,hlr,hrk,hm,lo,hi⟩
   dsimp only
   by_cases c1:l≥r
   ·rw[if_pos c1]
    have e:l=r:=by omega
    subst e
    exact wpS_pure ⟨rfl,l,l,rfl,hrk,lo,hi⟩
   ·rw[if_neg c1]
    refine wpS_bind (wpS_ltK hB' h0 hk (by omega) ?_)
    by_cases c2:K (arrOf st'') k<K (arrOf st'') ((l+r)/2)
    ·simp only[c2,decide_true,if_true]
     refine wpS_pure ⟨rfl,l,(l+r)/2,rfl,by omega,by omega,by omega,lo,fun i a b=>?_⟩
     by_cases z:i=(l+r)/2
     ·rw[z];exact c2
     ·exact Int.lt_of_lt_of_le c2 (hu _ _ (by omega) b).le
    ·simp only[c2,decide_false,Mn,if_false]
     refine wpS_pure ⟨rfl,(l+r)/2+1,r,rfl,by omega,by omega,by omega,fun i a=>?_,hi⟩
     by_cases z:i=(l+r)/2
     ·rw[z];omega
     ·exact Int.le_trans (hu i ((l+r)/2) (by omega) (by omega)).le (Int.not_lt.mp c2)
  case behind2=>
   rintro c st'' ⟨rfl,l,r,rfl,hlk,lo,hi⟩
   show wpS _ _ _ _ (do moveDown' k l;pure (ForInStep.yield (none,()))) _ _
   rw[moveDown'_eq]
   have hks:k<(arrOf st'').size:=by rw[hB'.size];exact hk
   refine wpS_bind (wpS_modify (wpS_pure ⟨rfl,hB'.setArr (bubble_perm _ _ _),?_,?_⟩))
   ·rw [show min (k+1) n=k+1 by omega]
    intro i j hij hj
    show Lx (bubble (arrOf st'') k (k-l)) i j
    obtain⟨i',⟨k1,t1⟩,e1⟩:=kiH hks (show k-l<=k by omega) i
    obtain⟨j',⟨k2,t2⟩,e2⟩:=kiH hks (show k-l<=k by omega) j
    rw[show k-(k-l)=l by omega] at e1 e2
    unfold Lx
    rw[k1,k2,t1,t2]
    by_cases z1:i=l
    ·rw[if_pos z1] at e1
     rw[if_neg (by omega),if_pos (by omega)] at e2
     subst e1
     exact .inl (hi j' (by omega) (by omega))
    ·rw[if_neg z1] at e1
     by_cases z2:j=l
     ·rw[if_pos z2] at e2
      rw[if_neg (by omega)] at e1
      subst e2
      have a1:=lo i' (by omega)
      have a2:=hla i' j' (by omega) (Nt _) hk
      omega
     ·rw[if_neg z2] at e2
      refine hu i' j' ?_ ?_
      ·rw[e1,e2]
       repeat' split
       all_goals omega
      ·rw[e2]
       split <;> omega
   ·rw[show min (k+1) n=k+1 by omega]
    intro a b hab hkb hb
    show T (bubble (arrOf st'') k (k-l)) a<T (bubble (arrOf st'') k (k-l)) b
    obtain⟨a',⟨_,t1⟩,e1⟩:=kiH hks (show k-l<=k by omega) a
    obtain⟨b',⟨_,t2⟩,e2⟩:=kiH hks (show k-l<=k by omega) b
    rw[show k-(k-l)=l by omega] at e1 e2
    rw[if_neg (by omega),if_neg (by omega)] at e2
    subst e2
    rw[t1,t2]
    refine hla a' b' ?_ (by omega) hb
    rw[e1]
    repeat' split
    all_goals omega
noncomputable def Done(a₀:Array Keyed)(st:SortSt):Prop:=(arrOf st).Perm a₀/\failedOf st=none/\pendingOf st= #[(0,a₀.size,0)]/\Up (arrOf st) a₀.size
theorem done{st:SortSt}(hB:SBase a₀ st)(hu:Up (arrOf st) a₀.size):Done a₀ (setPending st ((pendingOf st).push (0,a₀.size,0))):=⟨hB.perm,hB.failed,by show(pendingOf st).push _=_;rw[hB.pend];rfl,hu⟩
theorem runs{st:SortSt}{Q:Unit->SortSt->Prop}(h0:IntKeys a₀)(hB:SBase a₀ st)(h2:2<=a₀.size)(h64:a₀.size<64)(hl:Lat a₀ (arrOf st) 1)
  (h:∀st',(arrOf st').Perm a₀->failedOf st'=none->Up (arrOf st') a₀.size->Q () st'):wpS (model prog w) A E s sortRuns' Q st:=by
 rw[sortRuns'_eq]
 refine wpS_bind (wpS_get ?_)
 dsimp only
 have mr:minRun' a₀.size a₀.size 0=a₀.size:=by
  obtain⟨f,hf⟩:∃f,a₀.size=f+1:=⟨a₀.size-1,by omega⟩
  have z:minRun' (f+1) a₀.size 0=a₀.size:=by rw[minRun'_succ,if_pos h64];rfl
  rwa [<-hf] at z
 simp only[hB.size,mr]
 refine wpS_bind (wpS_mono (wpS_forRange (I:=fun x c st'=>(x=0/\c=(none,0)/\st'=st)∨(1<=x/\c=(none,a₀.size)/\Done a₀ st')) (Q:=fun c st'=>c=(none,a₀.size)/\Done a₀ st') ?turn ?over (.inl ⟨rfl,rfl,rfl⟩)) ?behind)
 case over=>
  rintro c st' (⟨hx,_,_⟩|⟨_,hc,hD⟩)
  ·omega
  ·exact⟨hc,hD⟩
 case turn=>
  rintro x c st' _ hx (⟨rfl,rfl,rfl⟩|⟨hx1,rfl,hD⟩)
  ·dsimp only
   rw[if_neg (by omega)]
   simp only[Nat.sub_zero,Ei,EG]
   refine wpS_bind (count h0 (Nt _) (by omega) hB hl fun m st2 hB2 hm1 hm2 hu2 hl2=>?_)
   dsimp only
   by_cases c1:m<a₀.size
   ·rw[if_pos c1]
    refine wpS_bind (wpS_lift (wpAny_rule ⟨rfl,?_⟩))
    refine wpS_bind (insert h0 (Nt _) hm1 hm2 hB2 hu2 hl2 fun st3 hB3 hu3=>?_)
    simp only[Bool.not_true,Mn,if_false]
    refine wpS_bind (wpS_get ?_)
    have hb:(pendingOf st3).back?=none:=by rw[hB3.pend];rfl
    rw[hb]
    dsimp only
    exact wpS_bind (wpS_modify (wpS_pure (.inr ⟨by omega,rfl,done hB3 hu3⟩)))
   ·rw[if_neg c1]
    have e:m=a₀.size:=by omega
    subst e
    refine wpS_bind (wpS_get ?_)
    have hb:(pendingOf st2).back?=none:=by rw[hB2.pend];rfl
    rw[hb]
    dsimp only
    exact wpS_bind (wpS_modify (wpS_pure (.inr ⟨by omega,rfl,done hB2 hu2⟩)))
  ·dsimp only
   rw[if_pos (Nt _)]
   exact wpS_pure ⟨rfl,hD⟩
 case behind=>
  rintro c st' ⟨rfl,hD⟩
  dsimp only
  refine wpS_bind (wpS_mono (wpS_forRange (I:=fun _ c st''=>st''=st'/\c=(none,())) (Q:=fun c st''=>st''=st'/\c=(none,())) ?_ (fun _ _ z=>z) ⟨rfl,rfl⟩) ?_)
  ·rintro x c st'' _ _ ⟨rfl,rfl⟩
   refine wpS_bind (wpS_get ?_)
   rw[if_pos (by rw[hD.2.2.1];exact Nt 1)]
   exact wpS_pure ⟨rfl,rfl⟩
  ·rintro c st'' ⟨rfl,rfl⟩
   exact wpS_pure (h _ hD.1 hD.2.1 hD.2.2.2)
end
end Stb
namespace Stb
open PySem PyProof.Rows
structure SJ (J:Shared->Prop) (n0:Nat):Prop where
 sz:∀s,J s->n0<=s.heap.objs.size
 push:∀s c xs n,J s->J {s with heap:=s.heap.push (seqObj c xs n)}
 upd:∀s b g,J s->n0<=b->J {s with heap:=s.heap.update b (Obj.mapSeq g)}
noncomputable def Tells(J:Shared->Prop)(n0:Nat)(k:Int)(s:Shared)(v:Value)(s':Shared):Prop:=(∃t,v=.int k t)/\J s'/\∀b o,n0<=b->s.heap.get? b=some o->s'.heap.get? b=some o
noncomputable def Rows(keys:Array Value)(vs:List Value)(out:Array Value):Prop:=∃xs:Array Keyed,xs.Perm (keys.zip vs.toArray)/\Up xs xs.size/\out=xs.map (·.2)
section
variable {prog:Program} {w:World} {A:Around} {E:Value->Shared->Prop} {s:Shared} {J:Shared->Prop} {n0:Nat} {a kS:Addr} {vs:List Value} {kz:List Int} {keys:Array Value} {e e1:Nat} {P:PySem.Fin->Shared->Prop}
theorem tailK(S:SJ J n0)(hJ:J s)(hk:s.heap.get? kS=some (seqObj "list" keys e))(ha:s.heap.get? a=some (seqObj "list" #[] e1))(ne:kS≠a)(nk:n0<=kS)(na:n0<=a){st:SortSt}(hz:keys.size<=64)(hp:(arrOf st).Perm (keys.zip vs.toArray))(hu:Up (arrOf st) (arrOf st).size)
  (hf:failedOf st=none) (hv:vs.length<=64) (h:∀h' out c,J {s with heap:=h'}->h'.get? a=some (seqObj "list" out c)->Rows keys vs out->P (.done (.ret .none)) {s with heap:=h'}):wpAny (model prog w) A (ksk_tail a false e1 (.ref kS) st) P E s:=by
 have sz2:(arrOf st).size<=64:=by
  have hvs:vs.toArray.size=vs.length:=by simp
  rw[hp.size_eq,EH]
  omega
 have q1:=Heap.SameBut.update s.heap kS (Obj.mapSeq fun _=>(#[]:Array Value))
 have g1:(s.heap.update kS (Obj.mapSeq fun _=>(#[]:Array Value))).get? a=some (seqObj "list" #[] e1):=(q1.2 a ne.symm).trans ha
 have J1:=S.upd s kS (fun _=>#[]) hJ nk
 have J2:=S.upd _ a (fun _=>(arrOf st).map (·.2)) J1 na
 unfold ksk_tail
 try dsimp only
 refine wpAny_bind (listUpdate_at hk rfl ?_ (by rw[sizeLine_eq];omega) (N1 _))
 refine wpAny_bind (wpAny_letGo ?_)
 refine wpAny_bind (seqEpoch_at g1 rfl ?_)
 refine wpAny_bind (listUpdate_at g1 rfl ?_ (N1 _) (by simp only[Mn,if_false,Array.size_map];rw[sizeLine_eq];omega))
 rw[hf]
 simp only[bne_self_eq_false,Mn,if_false]
 exact wpAny_pure (h _ _ _ J2 (get?_update_seq g1 fun _=>(arrOf st).map (·.2)) ⟨arrOf st,hp,hu,rfl⟩)
theorem zip_T{keys:Array Value}{vs:List Value}{i:Nat}(hl:keys.size=vs.length):T (keys.zip vs.toArray) i=match vs[i]? with|some v=>numOf v|none=>0:=by
 unfold T
 have hvs:vs.toArray.size=vs.length:=by simp
 cases ev:vs[i]? with
 |none=>
  have hi:vs.length<=i:=EZ.mp ev
  have e:(keys.zip vs.toArray)[i]?=none:=Array.getElem?_eq_none (by rw[EH];omega)
  rw[e]
 | some v=>
  have hi:i<vs.length:=(NF.mp ev).1
  have hz:i<(keys.zip vs.toArray).size:=by rw[EH];omega
  have ev':vs[i]=v:=by
   rw[MD hi] at ev
   exact Option.some.inj ev
  have e:(keys.zip vs.toArray)[i]?=some (keys[i]'(by omega),vs[i]):=by
   rw[Dc hz]
   simp
  rw[e,ev']
theorem endK(S:SJ J n0)(hJ:J s)(hk:s.heap.get? kS=some (seqObj "list" keys e))(ha:s.heap.get? a=some (seqObj "list" #[] e1))(ne:kS≠a)(nk:n0<=kS)(na:n0<=a)(hi:IntsAre keys.toList kz)(hl:keys.size=vs.length)(h64:vs.length<64)
  (up:∀(i j:Nat)(x y:Value),i<j->vs[i]?=some x->vs[j]?=some y->numOf x<numOf y)
  (h:∀h' out c,J {s with heap:=h'}->h'.get? a=some (seqObj "list" out c)->Rows keys vs out->P (.done (.ret .none)) {s with heap:=h'}):wpAny (model prog w) A (ksk_end a false vs.toArray e1 (.ref kS) keys) P E s:=by
 have hvs:vs.toArray.size=vs.length:=by simp
 have zs:(keys.zip vs.toArray).size=vs.length:=by rw[EH];omega
 unfold ksk_end
 try dsimp only
 simp only[Mn,if_false]
 by_cases h2:vs.toArray.size<2
 ·rw[if_pos h2,if_pos h2]
  refine wpAny_bind (wpAny_pure ?_)
  rw[StateT.run_pure]
  refine wpAny_bind (wpAny_pure ?_)
  try dsimp only
  refine tailK (st:=SortSt.mk' general' (keys.zip vs.toArray) #[] 7 none) S hJ hk ha ne nk na (by omega) (Array.Perm.refl _) ?_ rfl (by omega) h
  intro i j hij hj
  have hj2:j<(keys.zip vs.toArray).size:=hj
  rw[zs] at hj2
  rw[NP] at h2
  omega
 ·rw[if_neg h2,if_neg h2]
  rw[NP] at h2
  rw[ksk_kind hi (by rw[hl];omega)]
  refine wpAny_bind (wpAny_pure ?_)
  have lat:Lat (keys.zip vs.toArray) (keys.zip vs.toArray) 1:=fun i j hij _ hj=>by
   rw[zs] at hj
   rw[zip_T hl,zip_T hl,MD (show i<vs.length by omega),MD hj]
   exact up i j _ _ hij (MD (show i<vs.length by omega)) (MD hj)
  refine wpAny_bind (wpAny_mono (runs (a₀:=keys.zip vs.toArray) (st:=SortSt.mk' oneType' (keys.zip vs.toArray) #[] 7 none) (Q:=fun _ st'=>(arrOf st').Perm (keys.zip vs.toArray)/\failedOf st'=none/\Up (arrOf st') (keys.zip vs.toArray).size)
   (ksk_intKeys hi) ⟨Array.Perm.refl _,rfl,rfl,rfl⟩ (by rw[zs];omega) (by rw[zs];exact h64) lat fun st' b1 b2 b3=>⟨b1,b2,b3⟩) ?_ fun _ _ z=>z)
  rintro⟨⟨⟩,st'⟩ s' ⟨rfl,b1,b2,b3⟩
  try dsimp only
  exact tailK S hJ hk ha ne nk na (by omega) b1 (by rw[b1.size_eq];exact b3) b2 (by omega) h
theorem restK{f:Value}(S:SJ J n0)(hJ:J s)(hk:s.heap.get? kS=some (seqObj "list" #[] 0))(ha:s.heap.get? a=some (seqObj "list" #[] e1))(ne:kS≠a)(nk:n0<=kS)(na:n0<=a)(hl:kz.length=vs.length)(h64:vs.length<64)
  (up:∀(i j:Nat)(x y:Value),i<j->vs[i]?=some x->vs[j]?=some y->numOf x<numOf y)
  (turn:∀(i:Nat)(v:Value)(k:Int),vs[i]?=some v->kz[i]?=some k->∀s',J s'->wpAny (model prog w) A (call f [v]) (Tells J n0 k s') (fun _ _=>False) s')
  (h:∀s' keys out c,J s'->s'.heap.get? a=some (seqObj "list" out c)->IntsAre keys.toList kz->keys.size=vs.length->Rows keys vs out->P (.done (.ret .none)) s'):wpAny (model prog w) A (ksk_rest a f false vs.toArray e1 (.ref kS)) P E s:=by
 unfold ksk_rest
 refine wpAny_bind (wpAny_rule ?_)
 first
  |rw[List.forIn_toArray]
  |rw[<-Array.forIn_toList]
 refine wpAny_bind (ksk_fold (fun i s'=>J s'/\∃kA e,s'.heap.get? kS=some (seqObj "list" kA e)/\s'.heap.get? a=some (seqObj "list" #[] e1)/\IntsAre kA.toList (kz.take i)) vs 0 s ⟨hJ,#[],0,hk,ha,by simpa using IntsAre.nil⟩ ?turnP ?doneP)
 case turnP=>
  rintro j x s' hx ⟨J',kA,e,g1,g2,hi⟩
  simp only[EG] at hi⊢
  have hj:j<vs.length:=(NF.mp hx).1
  obtain⟨k,ek⟩:∃k,kz[j]?=some k:=⟨_,MD (by omega)⟩
  have lz:kA.size<=vs.length:=by
   have h1:=hi.length
   rw[M7,NK] at h1
   omega
  refine wpAny_bind (wpAny_attempt (wpAny_mono (turn j x k hx ek s' J') (fun v s'' hT=>?_) fun _ _ z=>z.elim))
  obtain⟨⟨t,rfl⟩,J2,kp⟩:=hT
  try dsimp only
  have g1':=kp _ _ nk g1
  have g2':=kp _ _ na g2
  have q1:=Heap.SameBut.update s''.heap kS (Obj.mapSeq (·.push (.int k t)))
  refine wpAny_bind (listUpdate_at g1' rfl ?_ (by rw[sizeLine_eq];omega) (Nx (Ey (Array.size_push ..)) (by rw[sizeLine_eq];omega)))
  have et:kz.take (j+1)=kz.take j++[k]:=by rw[ME,ek];simp
  have ep:(kA.push (Value.int k t)).toList=kA.toList++[Value.int k t]:=by simp
  exact wpAny_pure ⟨rfl,S.upd _ kS _ J2 nk,kA.push (.int k t),_,get?_update_seq g1' (·.push (.int k t)),(q1.2 a ne.symm).trans g2',by rw[ep,et];exact ksk_snoc hi⟩
 case doneP=>
  rintro s' ⟨J',kA,e,g1,g2,hi⟩
  have e3:kz.take (0+vs.length)=kz:=MC (by omega)
  rw[e3] at hi
  have lk:kA.size=vs.length:=by
   have:=hi.length
   rw[M7] at this
   omega
  try dsimp only
  refine wpAny_bind (listItems_at g1 rfl ?_)
  exact endK S J' g1 g2 ne nk na hi lk h64 up fun h' out c z1 z2 z3=>h _ kA out c z1 z2 hi lk z3
theorem sortK{f:Value}{n:Nat}(S:SJ J n0)(hJ:J s)(ho:s.heap.get? a=some (seqObj "list" vs.toArray n))(na:n0<=a)(hl:kz.length=vs.length)(h64:vs.length<64)
  (up:∀(i j:Nat)(x y:Value),i<j->vs[i]?=some x->vs[j]?=some y->numOf x<numOf y)
  (turn:∀(i:Nat)(v:Value)(k:Int),vs[i]?=some v->kz[i]?=some k->∀s',J s'->wpAny (model prog w) A (call f [v]) (Tells J n0 k s') (fun _ _=>False) s')
  (h:∀s' keys out c,J s'->s'.heap.get? a=some (seqObj "list" out c)->IntsAre keys.toList kz->keys.size=vs.length->Rows keys vs out->P (.done (.ret .none)) s'):wpAny (model prog w) A (ksk_tree a f false) P E s:=by
 have la:a<s.heap.objs.size:=Heap.lt_size ho
 have J1:=S.upd s a (fun _=>#[]) hJ na
 have J2:=S.push _ "tuple" vs.toArray 0 J1
 have J3:=S.push _ "list" #[] 0 J2
 obtain⟨e1,g1⟩:∃e1,(s.heap.update a (Obj.mapSeq fun _=>(#[]:Array Value))).get? a=some (seqObj "list" #[] e1):=⟨_,get?_update_seq ho fun _=>#[]⟩
 have sz:((s.heap.update a (Obj.mapSeq fun _=>(#[]:Array Value))).push (seqObj "tuple" vs.toArray 0)).objs.size=s.heap.objs.size+1:=by rw[size_push',Heap.size_update]
 have n0s:=S.sz s hJ
 unfold ksk_tree
 refine wpAny_bind (listItems_at ho rfl ?_)
 refine wpAny_bind (listUpdate_at ho rfl ?_ (by rw[NP,sizeLine_eq];omega) (N1 _))
 refine wpAny_bind (seqEpoch_at g1 rfl ?_)
 refine wpAny_bind (wpAny_newTuple ?_ (by show vs.length<=_;rw[sizeLine_eq];omega))
 refine wpAny_bind (wpAny_newList ?_ (N1 _))
 refine wpAny_holding ?_
 refine restK (s:={s with heap:=((s.heap.update a (Obj.mapSeq fun _=>(#[]:Array Value))).push (seqObj "tuple" vs.toArray 0)).push (seqObj "list" #[] 0)}) (kS:=((s.heap.update a (Obj.mapSeq fun _=>(#[]:Array Value))).push (seqObj "tuple" vs.toArray 0)).objs.size)
  S J3 (Heap.get?_push_size _ rfl) (Heap.get?_push_of_some _ (Heap.get?_push_of_some _ g1)) (by rw[sz];exact Mr (Nat.lt_succ_of_lt la)) (by rw[sz];omega) na hl h64 up turn h
end
section
variable {prog:Program} {w:World} {A:Around} {E:Value->Shared->Prop} {s:Shared} {J:Shared->Prop} {n0:Nat} {vs:List Value} {kz:List Int} {Q:Value->Shared->Prop}
theorem sortedK{l f:Addr}(S:SJ J n0)(hJ:J s)(hL:s.heap.IsList l vs.toArray)(hl:kz.length=vs.length)(h64:vs.length<64)
  (up:∀(i j:Nat)(x y:Value),i<j->vs[i]?=some x->vs[j]?=some y->numOf x<numOf y)
  (turn:∀(i:Nat)(v:Value)(k:Int),vs[i]?=some v->kz[i]?=some k->∀s',J s'->wpAny (model prog w) A.in1.in1 (call (.ref f) [v]) (Tells J n0 k s') (fun _ _=>False) s')
  (h:∀s' D keys out c,n0<=D->J s'->s'.heap.get? D=some (seqObj "list" out c)->IntsAre keys.toList kz->keys.size=vs.length->Rows keys vs out->Q (.ref D) s'):wpAny (model prog w) A (call (.builtin "sorted") [.ref l] [(Str.ofString "key", .ref f)]) Q E s:=by
 refine call_function_entry_kw kind_sorted plain_sorted entry_sorted (ksk_s1 _ _) ?_
 unfold Builtin.«sorted»
 refine wpAny_bind (m:=checkCount "sorted" 1 1 _) (wpAny_pure ?_)
 refine wpAny_bind (collect_list hL ?_ (by rw[sizeLine_eq];omega))
 refine wpAny_bind (wpAny_newList ?_ (by rw[sizeLine_eq];omega))
 have n0s:=S.sz s hJ
 have J1:=S.push s "list" #[] 0 hJ
 have J2:=S.upd _ s.heap.objs.size (· ++vs.toArray) J1 n0s
 have J3:=S.push _ "list" vs.toArray 0 J2
 have sz:((s.heap.push (seqObj "list" #[] 0)).update s.heap.objs.size (Obj.mapSeq (· ++vs.toArray))).objs.size=s.heap.objs.size+1:=by rw[Heap.size_update,size_push']
 have g1:(((s.heap.push (seqObj "list" #[] 0)).update s.heap.objs.size (Obj.mapSeq (· ++vs.toArray))).push (seqObj "list" vs.toArray 0)).get? (s.heap.objs.size+1)=some (seqObj "list" vs.toArray 0):=by
  rw[<-sz]
  exact Heap.get?_push_size _ rfl
 show wpAny _ _ _ _ _ {s with heap:=((s.heap.push (seqObj "list" #[] 0)).update s.heap.objs.size (Obj.mapSeq (· ++vs.toArray))).push (seqObj "list" vs.toArray 0)}
 rw[sz]
 refine wpAny_bind (wpAny_holding (wpAny_call_entry_kw slot_list_sort ⟨_,g1,rfl⟩ entry_list_sort ?inner (ksk_l1 _ _)))
 case inner=>
  show wpAny (model prog w) A.in1.in1 (Builtin.«list.sort» ⟨[.ref (s.heap.objs.size+1)],[(Str.ofString "key", .ref f)]⟩) _ _ _
  rw[ksk_t1]
  refine sortK (s:={s with heap:=((s.heap.push (seqObj "list" #[] 0)).update s.heap.objs.size (Obj.mapSeq (· ++vs.toArray))).push (seqObj "list" vs.toArray 0)}) S J3 g1 (by omega) hl h64 up turn fun s' keys out c z1 z2 z3 z4 z5=>⟨_,rfl,?_⟩
  exact wpAny_pure ⟨_,rfl,h s' _ keys out c (by omega) z1 z2 z3 z4 z5⟩
end
end Stb
namespace L2
open PySem PySem.Spec PyProof.Rows
structure kc1 (X:Cx) (scope:Scope) (x:Str) (N:List Str) (cap:List (Option Nat)):Prop where
 S:CompScope X scope N (none::cap)
 hd:N[0]?=some x
 par:scope.names.lookup x=some .local
 co:scope.isCoroutine=false
 gen:scope.isGenerator=false
 nocell:∀y∈scope.names,y.2≠.cell
abbrev kj6(X:Cx)(scope:Scope)(qual:Str)(L f c:Addr):Env:=PySem.W.envX qual scope L f (.ref c) (closL X.env.cells scope.names [])
noncomputable def cxL(X:Cx)(A:Around)(scope:Scope)(N:List Str)(qual:Str)(f c:Addr)(s:Shared)(H:Hp):Cx:=
 {X with A:=A.deeper (kj6 X scope qual s.heap.objs.size f c),N:=N,s₀:=s,H₀:=H,env:=kj6 X scope qual s.heap.objs.size f c,outer:=X.stack,stack:=kj6 X scope qual s.heap.objs.size f c::X.stack,ex:=[],fn:=fun _=>false,calm:=true,pn:=[],xe:=fun _ _=>False}
section
variable {X:Cx} {A:Around} {scope:Scope} {x:Str} {N:List Str} {cap:List (Option Nat)} {pins:List (Addr×Obj)} {σ:St} {H:Hp} {s s1:Shared} {qual:Str} {f c:Addr}
theorem kcR(S:kc1 X scope x N cap)(I:Inv X pins σ H s){y:Str}{a:Addr}(h:(closL X.env.cells scope.names []).lookup y=some a):X.env.cells.lookup y=some a:=by
 rcases kdC _ _ h with⟨h1,h2⟩|h1
 ·obtain⟨a',ea⟩:=I.ok.has y (S.S.free _ h1 rfl)
  rw[ea] at h2
  rw[h2]
  exact ea
 ·cases h1
theorem kmN(S:kc1 X scope x N cap)(I:Inv X pins σ H s)(hfr:A.frames=some X.stack)(hh:A.handled=none){v:V}{u:Value}(r:RelV v u){h1:Heap}{t:Nat}(hns:h1.Ns s.heap.objs.size fun y=>[(x,u)].reverse.lookup y)(hk:∀b o,s.heap.get? b=some o->h1.get? b=some o):
  Inv (cxL X A scope N qual f c s H) [] (some v::capσ cap σ) H {s with heap:=h1,toks:=t}:=by
 have noA:∀b:Addr,b∉(cxL X A scope N qual f c s H).ex:=fun b z=>absurd (show b∈([]:List Addr) from z) (by simp)
 have od:∀{y:Str}{a:Addr},X.env.cells.lookup y=some a->a<s.heap.objs.size:=fun {y a} h=>let⟨_,q⟩:=I.cell y a h;q.lt
 refine⟨⟨I.ok.mod,S.S.kind,rfl,rfl,Nt _,fun y z a e1 e2=>I.ok.inj y z a (kcR S I e1) (kcR S I e2),fun y hy=>?_,fun y a e1 _=>?_,fun _=>hh,Around.frames_deeper hfr, .inr ⟨rfl,rfl⟩,fun b z=>absurd z (noA b),I.bs,Nx I.ok.bsz I.sz,fun b _ _=>noA b,fun b z=>absurd z (noA b),I.stack,I.stkFree⟩,
  rfl,I.bare,Un.kept hk,⟨_,hns,fun j y w e1 e2 e3=>?_⟩,fun y a e=>?_,I.hok.fresh (Nt _),fun y a e=>I.freeC y a (kcR S I e),fun p hp=>absurd (show p∈([]:List (Addr×Obj)) from hp) (by simp),I.hok.kept hk,?_⟩
 ·have hy':scope.names.lookup y=some .cell∨scope.names.lookup y=some .free:=hy
  rcases hy' with q|q
  ·exact absurd rfl (S.nocell _ (PySem.mem_of_lookup q))
  ·exact kcx (cells:=X.env.cells) scope.names [] (.inl (PySem.mem_of_lookup q))
 ·cases(show false=true from e1)
 ·cases j with
  | zero=>
   have ex:y=x:=by
    have e1':N[0]?=some y:=e1
    rw[S.hd] at e1'
    exact(Option.some.inj e1').symm
   have ev:w=v:=by
    have e2':some (some v)=some (some w):=e2
    exact(Option.some.inj (Option.some.inj e2')).symm
   subst ex ev
   refine⟨u,r, .inl ⟨S.par,?_⟩⟩
   simp
  | succ j=>
   have e2':(capσ cap σ)[j]?=some (some w):=by simpa using e2
   have e2'':(cap.map fun o=>match o with|some i=>(σ[i]?).getD none|none=>none)[j]?=some (some w):=e2'
   rw[Nz] at e2''
   cases ec:cap[j]? with
   |none=>rw[ec] at e2'';cases e2''
   | some oi=>
    rw[ec] at e2''
    cases oi with
    |none=>cases e2''
    | some i=>
     have e4:(σ[i]?).getD none=some w:=Option.some.inj e2''
     have e5: σ[i]?=some (some w):=by
      cases q: σ[i]? with
      |none=>rw[q] at e4;cases e4
      |some w'=>rw[q] at e4;exact congrArg some e4
     obtain⟨q1,hf,_⟩:=S.S.cap (j+1) i y (by simpa using ec) e1
     have hm:=PySem.mem_of_lookup hf
     have q2:=S.S.free _ hm rfl
     obtain⟨mo,_,hl⟩:=I.loc
     obtain⟨u',ru,lk⟩:=hl i y w q1 e5 (.inr q2)
     refine⟨u',ru, .inr ⟨.inr hf,?_⟩⟩
     rcases lk with⟨k1,_⟩|⟨_,a,ea,z⟩
     ·have k1':X.env.scope.names.lookup y=some .local:=k1
      rcases q2 with q2|q2 <;> rw[q2] at k1' <;> cases k1'
     ·obtain⟨a',ea2⟩:=kcx (cells:=X.env.cells) scope.names [] (.inl hm)
      have e6:=kcR S I ea2
      rw[ea] at e6
      have e7:a=a':=Option.some.inj e6
      subst e7
      obtain⟨oc,ho,hd⟩:=z
      exact⟨a,ea2,oc,hk _ _ ho,hd⟩
 ·obtain⟨w,oc,ho,hd⟩:=I.cell y a (kcR S I e)
  exact⟨w,oc,hk _ _ ho,hd⟩
 ·have:=S.S.len
  show(some v::capσ cap σ).length=N.length
  rw[<-this,NW,NW]
  unfold capσ
  rw[Nq]
theorem klf{name:Str}{params:Arguments}{body:Expr}{pm ctv:Value}{te:TE}{v:V}{u:Value}{Q:VK}(S:kc1 X scope x N cap)(I:Inv X pins σ H s)(hfr:A.frames=some X.stack)(hh:A.handled=none)(hdp:A.depth<recursionLimit)
  (ho:s.heap.get? f=some (MZ name qual params body scope (closL X.env.cells scope.names []) pm c ctv)) (hcd:s.heap.CodeRec (.ref c) qual)
  (hbind:bindArgs (Dd name qual params body scope (closL X.env.cells scope.names []) pm (.ref c) ctv) ⟨[u],[]⟩=pure [(x,u)]) (r:RelV v u) (he:PE (cxL X A scope N qual f c s H) body te) (hq:te (some v::capσ cap σ) H Q):
  wpAny (model X.prog X.w) A (call (.ref f) [u]) (fun w' s'=>∃v' H',Inv X pins σ H' s'/\RelV v' w'/\Q v' H'/\Un (frs X.stack) [] H H' s.heap s'.heap/\s.heap.objs.size<=s'.heap.objs.size) (fun _ _=>False) s:=by
 refine wpAny_call (DE hdp ho rfl S.co S.gen rfl hcd ?_)
 rw[hbind]
 refine wpAny_pure (wpAny_newFunctionEnv S.nocell (fun y hy=>?_) (fun h1 hns hsb=>⟨I.nolimit.fresh _ hsb,?_⟩) S.S.kind)
 ·rw[Mq] at hy
  subst hy
  exact S.par
 have hk:∀b o,s.heap.get? b=some o->h1.get? b=some o:=fun b o e=>hsb.extBut b o (NU (Heap.lt_size e)) (Heap.get?_push_of_some _ e)
 have J:=kmN (A:=A) (qual:=qual) (f:=f) (c:=c) (t:=s.toks+1) S I hfr hh r hns hk
 refine DF (wpAny_mono (he [] _ _ _ Q J hq) (fun w' s' hw=>?_) fun _ _ z=>z.elim)
 obtain⟨v',H',J',rv,qv⟩:=hw
 exact⟨v',H',I.call' (ch:=[]) J'.os J'.base J'.hok J'.bare (fun b hb=>by simp at hb),rv,qv,J'.base,J'.sz⟩
end
end L2
namespace L2
open PySem PySem.Spec PyProof.Rows
def CodeO(c:Addr)(qual:Str):HO:=.ext fun h=>h.CodeRec (.ref c) qual
def lamN(p:Pos):Str:=if p.col=38 then "first_use.<locals>.<lambda>" else "falling_groups.<locals>.<lambda>"
def klg{p p':Pos}(h:p.col=p'.col):lamN p=lamN p':=by unfold lamN;rw[h]
noncomputable def TbAt(P:Addr)(H:Hp):Prop:=∃ps:Array Value,H P=some (.tbl ps)/\TriplesOk ps.toList/\∀pos c,codeAmong pos ps.toList=some c->∃c',c=.ref c'/\H c'=some (CodeO c' (lamN pos))
structure Grew (P:Addr) (H H':Hp):Prop where
 kp:∀b o,b≠P->H b=some o->H' b=some o
 tb:TbAt P H'
theorem kkM{pos:Pos}{a b:Int}{c:Value}(l:List Value)(h:TriplesOk l){x:Value}(e:codeAmong pos (l++[rawInt a,rawInt b,c])=some x):codeAmong pos l=some x∨(x=c/\b=pos.col):=by
 fun_induction TriplesOk l with
 |case1=>
  right
  unfold rawInt codeAmong at e
  simp only[Mw] at e
  split at e
  next hc=>exact⟨(Option.some.inj e).symm,by simpa using(Bool.and_eq_true_iff.mp hc).2⟩
  ·simp[codeAmong] at e
 | case2 n t m u d rest ih=>
  simp only[MK,codeAmong] at e⊢
  split at e
  ·left
   rename_i hc
   rw[if_pos hc]
   exact e
  ·rename_i hc
   rw[if_neg hc]
   exact ih h e
 |case3=>exact h.elim
noncomputable def CodeK(K:Nr)(c P:Addr):Prop:=
 ∃o vs file tf flags tg inF text tt,K.lookup c=some o/\o.cls=.type "code"/\o.data=.fields vs/\vs[11]?=some (.ref P)/\vs.getD 11 .none=.ref P/\vs.getD 18 .none=.str file tf/\vs.getD 7 .none=.int flags tg/\vs.getD 9 .none=.bool inF/\vs.getD 10 .none=.int text tt/\c≠P
noncomputable def CodeK.hd{K:Nr}{c P:Addr}{h:Heap}(x:CodeK K c P)(X:K.In h):PySem.W.CodeHd h c P:=by
 obtain⟨o,vs,file,tf,flags,tg,inF,text,tt,e,r⟩:=x
 exact⟨o,vs,file,tf,flags,tg,inF,text,tt,X _ _ e,r⟩
noncomputable def BltM(mg:Str->Option Value)(base:Heap):Prop:=∃bm ob,mg "__builtins__"=some (.ref bm)/\bm≠builtinsNs/\base.get? bm=some ob/\ob.cls=.type "module"/\ob.dict=some builtinsNs/\ob.data=.plain
section
variable {X:Cx} {scope:Scope} {x:Str} {N:List Str} {cap:List (Option Nat)} {pins:List (Addr×Obj)} {σ:St} {H:Hp} {s:Shared} {c0 P:Addr} {params:Arguments} {body:Expr} {lpos:Pos}
theorem kiy{E:Value->Shared->Prop}{Q:Value->Shared->Prop}(S:kc1 X scope x N cap)(I:Inv X pins σ H s)(hcode:X.env.code=.ref c0)(CK:CodeK X.K c0 P)(hB:BltM X.mg X.base)(TB:TbAt P H)(hq:X.env.qual++ "<lambda>"=(lamN lpos))(hdef:defaultsOf params X.env=([],[]))
  (h:∀(s':Shared)(H':Hp)(f c:Addr)(pm ctv:Value),Inv X pins σ H' s'->Grew P H H'->s'.heap.get? f=some (MZ "<lambda>" (lamN lpos) params body scope (closL X.env.cells scope.names []) pm c ctv)->H' f=none->s.heap.objs.size<=f->(∀b,s.heap.objs.size<=b->s'.heap.objs.size<=b->H' b=none)->H' c=some (CodeO c (lamN lpos))->Q (.ref f) s'):
  wpAny (model X.prog X.w) X.A (eval (.Lambda params body scope lpos) X.env) Q E s:=by
 obtain⟨ps,eP,ht,hor⟩:=TB
 have hP:s.heap.get? P=some (Ea ps):=(show ObjOk X.prog X.w H s.heap P (.tbl ps) from I.hok P _ eP)
 have hg:=I.mod.glob.keeps I.bk
 have nbP:∀b o,X.base.get? b=some o->b≠P:=fun b o e z=>by
  have:=(I.bs b o e).2
  rw[z,eP] at this
  cases this
 have hgP:mainGlobals≠P:=by
  obtain⟨o,_,_,e,_⟩:=I.mod.glob
  exact nbP _ o e
 have hb:s.heap.BuiltinsAt X.mg P:=by
  obtain⟨bm,ob,b1,b2,b3,b4,b5,b6⟩:=hB
  refine⟨bm,ob,b1,b2,fun z=>?_,nbP _ ob b3,I.bk _ _ b3,b4,b5,b6⟩
  obtain⟨o,es,ep,e,hd,_⟩:=I.mod.glob
  rw[<-z,b3] at e
  cases e
  rw[b6] at hd
  cases hd
 have CH:=CK.hd I.kIn
 refine PySem.W.kla_eval hdef ?_
 rw[hq]
 cases hor':codeAmong lpos ps.toList with
 | none=>
  have hnf:=hor'
  refine PySem.W.kla_makeFunction (mg:=X.mg) (kcU S.S I) I.ok.glob hg hcode CH hP ht hnf hgP hb fun c' ctv h' tk hx hge hlt hrec htb=>?_
  have hc0:H c'=none:=I.hok.fresh hge
  have nPc:P≠c':=kah eP hc0
  have szP:P<s.heap.objs.size:=Heap.lt_size hP
  generalize hob:MZ "<lambda>" (lamN lpos) params body scope (closL X.env.cells scope.names []) ((X.mg "__name__").getD .none) c' ctv=ob
  have k2:∀b o,b≠P->s.heap.get? b=some o->(h'.push ob).get? b=some o:=fun b o hbp e=>Heap.get?_push_of_some _ (hx b o hbp e)
  have nN:∀{b:Addr},H b=none->b≠P:=fun {b} n z=>by rw[z,eP] at n;cases n
  have at2:∀{b:Addr},b≠P->b≠c'->(upd (upd H P (.tbl (ps++ #[rawInt lpos.line,rawInt lpos.col, .ref c']))) c' (CodeO c' (lamN lpos))) b=H b:=fun {b} h1 h2=>by rw[kaj h2,kaj h1]
  have eP2:(upd (upd H P (.tbl (ps++ #[rawInt lpos.line,rawInt lpos.col, .ref c']))) c' (CodeO c' (lamN lpos))) P=some (.tbl (ps++ #[rawInt lpos.line,rawInt lpos.col, .ref c'])):=by rw[kaj nPc,kad]
  have ec2:(upd (upd H P (.tbl (ps++ #[rawInt lpos.line,rawInt lpos.col, .ref c']))) c' (CodeO c' (lamN lpos))) c'=some (CodeO c' (lamN lpos)):=kad
  have fresh2:∀b,s.heap.objs.size<=b->(h'.push ob).objs.size<=b->(upd (upd H P (.tbl (ps++ #[rawInt lpos.line,rawInt lpos.col, .ref c']))) c' (CodeO c' (lamN lpos))) b=none:=fun b h1 h2=>by
   rw[Heap.size_push] at h2
   rw[at2 (Mr (NT szP h1)) (Mr (NT hlt (Nat.le_of_succ_le h2)))]
   exact I.hok.fresh h1
  have ff:(upd (upd H P (.tbl (ps++ #[rawInt lpos.line,rawInt lpos.col, .ref c']))) c' (CodeO c' (lamN lpos))) h'.objs.size=none:=by
   have h1:s.heap.objs.size<=h'.objs.size:=Nx hge (ND hlt)
   rw[at2 (Mr (NT szP h1)) (Mr hlt)]
   exact I.hok.fresh h1
  generalize upd (upd H P (.tbl (ps++ #[rawInt lpos.line,rawInt lpos.col, .ref c']))) c' (CodeO c' (lamN lpos))=H2 at *
  have un:Un X.fs [] H H2 s.heap (h'.push ob):=by
   refine⟨fun b o e n _ _=>k2 b o (nN n) e,fun b o e n _ _=>⟨o.slots,k2 b o (nN n) e⟩,fun b o e n _=>?_,fun b o e _=>?_,fun b xs e=>?_,fun b o u e=>?_,fun b qs e=>?_⟩
   ·rw[at2 (nN n) (NU (NT (Heap.lt_size e) hge))]
    exact n
   ·by_cases hbp:b=P
    ·subst hbp
     exact⟨_,Heap.get?_push_of_some _ htb⟩
    ·exact⟨o,k2 b o hbp e⟩
   ·rw[at2 (ne_of e eP (by intro z;cases z)) (kah e hc0)]
    exact e
   ·rw[at2 (ne_of e eP (by intro z;cases z)) (kah e hc0)]
    exact e
   ·by_cases hbp:b=P
    ·subst hbp
     rw[eP] at e
     cases e
     exact⟨_,eP2⟩
    ·refine⟨#[],?_⟩
     rw[at2 hbp (kah e hc0),e]
     simp
  have hok2:HOk X.prog X.w H2 (h'.push ob):=fun b u e=>by
   by_cases hbp:b=P
   ·subst hbp
    rw[eP2] at e
    cases e
    exact(show(h'.push ob).get? b=some _ from Heap.get?_push_of_some _ htb)
   ·by_cases hbc:b=c'
    ·subst hbc
     rw[ec2] at e
     cases e
     obtain⟨cc,oc,vs,t,e1,e2,e3,e4⟩:=hrec
     cases e1
     refine(show ObjOk X.prog X.w H2 (h'.push ob) b (CodeO b (lamN lpos)) from⟨⟨b,oc,vs,t,rfl,Heap.get?_push_of_some _ e2,e3,e4⟩,⟨oc,Heap.get?_push_of_some _ e2⟩,fun h1 h2 q k=>?_⟩)
     obtain⟨c3,o3,vs3,t3,z1,z2,z3,z4⟩:=q
     cases z1
     exact⟨b,o3,vs3,t3,rfl,k _ z2,z3,z4⟩
    ·rw[at2 hbp hbc] at e
     have nown:∀d y,H d=some (.own y)->d≠P/\d≠c':=fun d y r=>⟨ne_of r eP (by intro z;cases z),kah r hc0⟩
     refine(I.hok b u e).stay (fun d v hd r=>k2 d v ?_ r) (fun d r=>by rw[at2 (nown d b r).1 (nown d b r).2];exact r) fun d xs r=>by rw[at2 (ne_of r eP (by intro z;cases z)) (kah r hc0)];exact r
     rcases hd with rfl|hd
     ·exact hbp
     ·exact(nown d b hd).1
  subst hob
  refine h _ H2 h'.objs.size c' _ ctv (I.un (t':=tk) un hok2) ⟨fun b o hbp e=>by rw[at2 hbp (kah e hc0)];exact e,_,eP2,?_,fun pos d ed=>?_⟩ (Heap.get?_push_size _ rfl) ff (Nx hge (ND hlt)) fresh2 ec2
  ·have:=TriplesOk_snoc lpos.line lpos.col (.ref c') ps.toList ht
   simpa using this
  ·have ed':codeAmong pos (ps.toList++[rawInt lpos.line,rawInt lpos.col, .ref c'])=some d:=by simpa using ed
   rcases kkM ps.toList ht ed' with z|z
   ·obtain⟨d',rfl,ed2⟩:=hor pos d z
    exact⟨d',rfl,by rw[at2 (ne_of ed2 eP (by intro z;cases z)) (kah ed2 hc0)];exact ed2⟩
   ·exact⟨c',z.1,by rw[klg (p:=pos) (p':=lpos) (by have:=z.2;omega)];exact ec2⟩
 |some cv=>
  have hf:=hor'
  obtain⟨c',rfl,ec'⟩:=hor lpos cv hf
  refine PySem.W.kla_makeFunctionHit (mg:=X.mg) (kcU S.S I) I.ok.glob hg hcode CH hP ht hf hb fun ctv h' tk hk hsz=>?_
  have k2:∀b o,s.heap.get? b=some o->(h'.push (MZ "<lambda>" (lamN lpos) params body scope (closL X.env.cells scope.names []) ((X.mg "__name__").getD .none) c' ctv)).get? b=some o:=fun b o e=>Heap.get?_push_of_some _ (hk b o e)
  exact h _ H h'.objs.size c' _ ctv (I.kept (t':=tk) k2) ⟨fun b o _ e=>e,ps,eP,ht,hor⟩ (Heap.get?_push_size _ rfl) (I.hok.fresh hsz) hsz (fun b h1 _=>I.hok.fresh h1) ec'
end
end L2
namespace L2
open PySem PySem.Spec PyProof.Rows
theorem kf5:∀{ns:List Int}{us:List Value},Vals (ns.map V.int) us->IntsAre us ns
 |[],_, .nil=>.nil
 |n::ns,_, .cons h t=>by
  obtain⟨tk,rfl⟩:=h
  exact .cons n tk (kf5 t)
theorem kfC:∀{us:List Value}{ns:List Int},IntsAre us ns->Vals (ns.map V.int) us
 |_,_, .nil=>.nil
 |_,_, .cons n t h=>.cons ⟨t,rfl⟩ (kfC h)
theorem kkS{ns:List Int}{key:Int->Int}{keys:Array Value}{us:List Value}{out:Array Value}(hu:IntsAre us ns)(hk:IntsAre keys.toList (ns.map key))(hl:keys.size=us.length)(h:Stb.Rows keys us out):
  ∃ms:List Int,IntsAre out.toList ms/\ms.Perm ns/\ms.Pairwise fun a b=>key a<key b∨(key a=key b/\a<b):=by
 obtain⟨xs,hp,hup,rfl⟩:=h
 have pl:xs.toList.Perm (keys.toList.zip us):=by
  rw[<-ksk_zip]
  exact Array.perm_iff_toList_perm.mp hp
 have mem:∀p∈keys.toList.zip us,p.2∈us/\numOf p.1=key (numOf p.2):=fun p hp=>by
  obtain⟨i,hi,rfl⟩:=List.mem_iff_getElem.mp hp
  have l1:i<keys.toList.length:=by
   rw[List.length_zip] at hi
   omega
  have l2:i<us.length:=by
   rw[List.length_zip] at hi
   omega
  rw[List.getElem_zip]
  refine⟨List.getElem_mem l2,?_⟩
  have e1:(keys.toList.map numOf)[i]?=(ns.map key)[i]?:=by rw[hk.nums]
  have e2:(us.map numOf)[i]?=ns[i]?:=by rw[hu.nums]
  rw[Nz,MD l1,Nz] at e1
  rw[Nz,MD l2] at e2
  rw[<-e2] at e1
  exact Option.some.inj e1
 have memx:∀p∈xs.toList,p.2∈us/\numOf p.1=key (numOf p.2):=fun p hp=>mem p (pl.mem_iff.mp hp)
 refine⟨xs.toList.map fun p=>numOf p.2,?_,?_,?_⟩
 ·have e:(xs.map (·.2)).toList=xs.toList.map (·.2):=by simp
  rw[e]
  have:=intsAre_map (xs.toList.map (·.2)) fun v hv=>by
   obtain⟨p,hp',rfl⟩:=NO.mp hv
   exact hu.all _ (memx p hp').1
  rw[NQ] at this
  exact this
 ·have h1:=pl.map (fun p:Keyed=>numOf p.2)
  have e2:(keys.toList.zip us).map (fun p:Keyed=>numOf p.2)=ns:=by
   have e3:(keys.toList.zip us).map (fun p:Keyed=>numOf p.2)=((keys.toList.zip us).map Prod.snd).map numOf:=by rw[NQ];rfl
   rw[e3,List.map_snd_zip (by have e:=M7 (xs:=keys);omega),hu.nums]
  rw[e2] at h1
  exact h1
 ·rw[M0]
  intro i j hi hj hij
  have hi':i<xs.size:=by simpa using hi
  have hj':j<xs.size:=by simpa using hj
  have q:=hup i j hij hj'
  have ki:=(memx xs[i] (by simp)).2
  have kj:=(memx xs[j] (by simp)).2
  unfold Stb.Lx Stb.T at q
  rw[K_eq hi',K_eq hj',Dc hi',Dc hj'] at q
  simp only[Eb,Array.getElem_toList]
  rw[<-ki,<-kj]
  exact q
section
variable {X:Cx} {scope:Scope} {x:Str} {N:List Str} {cap:List (Option Nat)} {pins:List (Addr×Obj)} {σ:St} {H:Hp} {s1:Shared} {f:Addr} {fo:Obj}
noncomputable def Held(X:Cx)(pins:List (Addr×Obj))(σ:St)(H:Hp)(n0:Nat)(f:Addr)(fo:Obj)(s:Shared):Prop:=Inv X pins σ H s/\n0<=s.heap.objs.size/\s.heap.get? f=some fo
theorem kmO(I:Inv X pins σ H s1)(hf:f<s1.heap.objs.size):Stb.SJ (Held X pins σ H s1.heap.objs.size f fo) s1.heap.objs.size where
 sz:=fun s h=>h.2.1
 push:=fun s c xs n h=>⟨h.1.kept (t':=s.toks) fun b o e=>Heap.get?_push_of_some _ e,Nx h.2.1 (by rw[Heap.size_push];exact MX _),Heap.get?_push_of_some _ h.2.2⟩
 upd:=fun s b g h hb=>by
  obtain⟨q1,q2,q3,q4,q5,q6⟩:=I.fpOk hb (I.hok.fresh hb)
  have sb:=Heap.SameBut.update s.heap b (Obj.mapSeq g)
  exact⟨h.1.turned (t':=s.toks) (it:=b) (fun d o hd e=>(sb.2 d hd).trans e) q1 q2 q4 q5 q6,by rw[Heap.size_update];exact h.2.1,(sb.2 f (NU (NT hf hb))).trans h.2.2⟩
noncomputable def kkQ(K:Nr)(P:Addr)(tl:TE)(cap:List (Option Nat))(te:TE):TE:=fun σ H Q=>tl σ H fun v H1=>∃(a:Addr)(ns:List Int)(key:Int->Int),v=.ref a/\SqL K H1 a (ns.map V.int)/\ns.length<64/\ns.Pairwise (· < ·)/\TbAt P H1/\a≠P/\
 (∀H2,Grew P H1 H2->∀n∈ns,te (some (.int n)::capσ cap σ) H2 fun v H3=>v=.int (key n)/\H3=H2)/\
 ∀(H2:Hp)(l:Addr)(ms:List Int),Grew P H1 H2->H1 l=none->H2 l=none->ms.Perm ns->(ms.Pairwise fun a b=>key a<key b∨(key a=key b/\a<b))->Q (.ref l) (upd H2 l (.lst (ms.map V.int)))
theorem kge:bootBuiltins "sorted"=some (.builtin "sorted"):=by decide +kernel
theorem Grew.seq{K:Nr}{P:Addr}{H H':Hp}{a:Addr}{xs:List V}(g:Grew P H H')(ha:a≠P)(h:SqL K H a xs):SqL K H' a xs:=by
 rcases h with(h|⟨o,h⟩)|h
 ·exact .inl (.inl (g.kp _ _ ha h))
 ·exact .inl (.inr ⟨o,g.kp _ _ ha h⟩)
 ·exact .inr h
theorem kiQ{l:Expr}{tl te:TE}{c0 P:Addr}{params:Arguments}{body:Expr}{lpos p pos kpos:Pos}(hl:PE X l tl)(S:kc1 X scope x N cap)(hc:X.calm=true)(hdp:X.A.depth<recursionLimit)(hcode:X.env.code=.ref c0)(CK:CodeK X.K c0 P)(hB:BltM X.mg X.base)
  (hg:Gl X "sorted") (hm:X.mg "sorted"=none) (hbind:∀(cl:List (Str×Addr))(pm:Value)(c:Addr)(ctv u:Value),bindArgs (Dd "<lambda>" (lamN lpos) params body scope cl pm (.ref c) ctv) ⟨[u],[]⟩=pure [(x,u)])
  (he:∀A f c s H,PE (cxL X A scope N (lamN lpos) f c s H) body te) (hq:X.env.qual++ "<lambda>"=(lamN lpos)) (hdef:defaultsOf params X.env=([],[]):=by rfl) (s1:starEach [l] X.env=[(false,eval l X.env)]:=by rfl):
  PE X (.Call (.Name "sorted" p) [l] [⟨some "key", .Lambda params body scope lpos,kpos⟩] pos) (kkQ X.K P tl cap te):=by
 intro pins s σ H Q I h
 refine wpAny_Call_Name_kw (kdz I hg hm kge ?_ (by decide) (by decide))
 refine callWith_kw ?_ (by rw[s1];rfl) (by rw[s1];rfl)
 rw[s1]
 refine Calls.spliced_cons (thn (hl pins s σ H _ I h) fun u s3 ⟨v,H1,I1,r1,a,ns,key,ev,hS,h64,hup,TB,haP,hte,q⟩=>Calls.spliced_nil ?_)
 subst ev
 cases r1
 show wpAny _ _ (evalAll ((do let v <-eval (.Lambda params body scope lpos) X.env;standAt pos;pure v):: [])) _ _ s3
 refine wpAny_evalAll_cons (wpAny_bind (kiy S I1 hcode CK hB TB hq hdef fun s4 H4 lf c pm ctv I4 G ef ff hsf hfr ec=>wpAny_bind (wpAny_standAt (wpAny_pure (wpAny_evalAll_nil ?_)))))
 show wpAny _ _ (call (.builtin "sorted") [.ref a] [(Str.ofString "key", .ref lf)]) _ _ s4
 obtain⟨its,rv,pl,hz⟩:=I4.list (G.seq haP hS)
 have hi:=kf5 rv
 have lu:=hi.length
 have lf4:lf<s4.heap.objs.size:=Heap.lt_size ef
 have rising:∀(i j:Nat)(y z:Value),i<j->its[i]?=some y->its[j]?=some z->numOf y<numOf z:=fun i j y z hij ey ez=>by
  have e1:ns[i]?=some (numOf y):=by rw[<-hi.nums,Nz,ey];rfl
  have e2:ns[j]?=some (numOf z):=by rw[<-hi.nums,Nz,ez];rfl
  obtain⟨l1,q1⟩:=NF.mp e1
  obtain⟨l2,q2⟩:=NF.mp e2
  have:=M0.mp hup i j l1 l2 hij
  rw[q1,q2] at this
  exact this
 refine Stb.sortedK (kz:=ns.map key) (J:=Held X pins σ H4 s4.heap.objs.size lf _) (kmO I4 lf4) ⟨I4,Nt _,ef⟩ pl.isList (by rw[Nq,lu]) (by omega) rising (fun i v k ev ek s5 hJ=>?_) fun s5 D keys out cc hD hJ eD hk hkl hR=>?_
 ·have en:ns[i]?=some (numOf v):=by rw[<-hi.nums,Nz,ev];rfl
  have ek':k=key (numOf v):=by
   rw[Nz,en] at ek
   exact(Option.some.inj ek).symm
  subst ek'
  obtain⟨n,t,rfl⟩:=hi.all v (Ny ev)
  have hcr:s5.heap.CodeRec (.ref c) (lamN lpos):=(show ObjOk X.prog X.w H4 s5.heap c (CodeO c (lamN lpos)) from hJ.1.hok c _ ec).1
  refine wpAny_mono (klf (A:=X.A.in1.in1) (v:=.int n) (u:=.int n t) S hJ.1 I.ok.frames (I.ok.hd hc) hdp hJ.2.2 hcr (hbind _ _ _ _ _) ⟨t,rfl⟩ (he _ _ _ _ _) (hte H4 G n (Ny en))) (fun w' s6 hw=>?_) fun _ _ z=>z
  obtain⟨v',H6,I6,rv',⟨e1,e2⟩,un,sz6⟩:=hw
  subst e1 e2
  have nst:∀b,s3.heap.objs.size<=b->b∉frs X.stack:=fun b hb z=>absurd (kjg I1 z) (EC.mpr hb)
  have s34:s3.heap.objs.size<=s4.heap.objs.size:=ND (MB hsf lf4)
  have kp:∀b o,s3.heap.objs.size<=b->H6 b=none->s5.heap.get? b=some o->s6.heap.get? b=some o:=fun b o hb hn e=>un.keep b o e hn (nst b hb) (by simp)
  refine⟨rv',⟨I6,?_,kp lf _ hsf ff hJ.2.2⟩,fun b o hb e=>kp b o (Nx s34 hb) (I4.hok.fresh hb) e⟩
  exact Nx hJ.2.1 sz6
 ·obtain⟨ms,m1,m2,m3⟩:=kkS hi hk (by omega) hR
  have hn:H4 D=none:=I4.hok.fresh hD
  have fp:=I4.fpOk hD hn
  have h10:H1 D=none:=I1.hok.fresh (Nx (ND (MB hsf lf4)) hD)
  have vm:=kfC m1
  have lz:(ms.map V.int).length<=sizeLine:=by
   rw[Nq,m2.length_eq,sizeLine_eq]
   omega
  refine⟨.ref D,_,hJ.1.adopt (a:=D) (o:=.lst (ms.map V.int)) fp ?_ ?_,rfl,q H4 D ms G h10 hn m2 m3⟩
  ·exact Nx I4.sz hD
  ·exact(show ObjOk X.prog X.w _ s5.heap D (.lst (ms.map V.int)) from⟨lz,out.toList,cc,vm,by simpa using eD⟩)
end
end L2
namespace L2
open PySem PySem.W PyProof.Rows
section
variable {X:Cx}
noncomputable def km8:V->List V->Hp->VK->Prop:=fun x vs H Q=>∃(l:Addr)(ns:List Int)(k:Int),x=.ref l/\vs=[.int k]/\H l=some (.lst (ns.map V.int))/\Q (.int (ns.count k:Nat)) H
theorem ke5:∀{ns:List Int}{us:List Value}(k:Int),Vals (ns.map V.int) us->us.countP (isI k)=ns.count k
 |[],_,_, .nil=>rfl
 |m::ns,_::us,k, .cons r t=>by
  obtain⟨tk,rfl⟩:=r
  rw[List.countP_cons,De,ke5 k t]
  rfl
theorem klb:MtM X "list.count" km8:=by
 intro pins s σ H x vs v us Q I rx rv h
 obtain⟨l,ns,k,rfl,rfl,hH,q⟩:=h
 cases rx
 obtain⟨u,rfl,ru⟩:=rv.one
 obtain⟨t,rfl⟩:=ru
 obtain⟨z,its,n,r,hl,e⟩:=I.lstM hH
 refine call_meets F.slot_list_count ⟨_,e,rfl⟩ F.entry_list_count (F.args_list_count_2 _ _)
  (MeetsSeq.list_count l its.toArray n (.int k t) (isI k) (fun y hy=>?_)) ⟨e,?_⟩
 ·obtain⟨j,hj',rfl⟩:=Array.mem_iff_getElem.mp hy
  have hjl:j<its.length:=by simpa using hj'
  have hln:its.length=ns.length:=by rw[<-hl,Nq]
  obtain⟨tk,et⟩:=kgY r j ns[j] (by simp)
  obtain⟨_,e'⟩:=NF.mp et
  have e2:its.toArray[j]=.int ns[j] tk:=by simpa using e'
  rw[e2]
  exact MeetsSeq.EqGives.int _ k tk t
 ·refine⟨.int (ns.count k:Nat),H,I.tok _,⟨s.toks,?_⟩,q⟩
  rw[List.toList_toArray,ke5 k r]
end
end L2
namespace L2
open PySem PySem.W PyProof.Rows
section
variable {X:Cx} {pins:List (Addr×Obj)} {σ:St} {H:Hp} {s:Shared} {A:Around} {E:Value->Shared->Prop} {Q:Value->Shared->Prop}
theorem knl{K:Nr}{n m:String}(e:(Value.type n==Value.type m)=false)(hk:kitMeta m=true)(hf:(fastBuiltinMro n).map (·.contains (Value.type m))=some false):kitOne K (.type n) (.type m)=some false:=by
 unfold kitOne kitCls subIn
 rw[e,if_neg NB]
 show(if kitMeta m=true then _ else _)=_
 rw[if_pos hk]
 exact hf
noncomputable def kjK(K:Nr):List V->Hp->VK->Prop:=fun xs H Q=>∃(a:Addr)(ns:List Int),xs=[.ref a]/\SqL K H a (ns.map V.int)/\ns.length<64/\∀(D:Addr)(ms:List Int),H D=none->ms.Perm ns->ms.Pairwise (·<=·)->Q (.ref D) (upd H D (.lst (ms.map V.int)))
theorem kd2:CallR X (.builtin "sorted") (kjK X.K):=by
 intro pins s σ H xs us Q I r h
 obtain⟨a,ns,rfl,hS,h64,q⟩:=h
 obtain⟨u,rfl,rx⟩:=vals1 r
 cases rx
 obtain⟨its,rv,pl,hz⟩:=I.list hS
 have hi:=kf5 rv
 have lu:=hi.length
 refine sorted_ints pl.isList hi (by omega) fun out ms h1 h2 h3=>?_
 obtain⟨e,he⟩:=sortedAll_at s.heap its out
 have hn:H (s.heap.objs.size+1)=none:=I.hok.fresh (MX _)
 have lz:(ms.map V.int).length<=sizeLine:=by
  rw[Nq,h2.length_eq,sizeLine_eq]
  omega
 exact⟨.ref (s.heap.objs.size+1),_,I.laid (t':=s.toks) (fun b o z=>sortedAll_old z) (MX _) (show ObjOk X.prog X.w (upd H (s.heap.objs.size+1) (.lst (ms.map V.int))) (sortedAll s.heap its out) (s.heap.objs.size+1) (.lst (ms.map V.int)) from⟨lz,out.toList,e,kfC h1,by simpa using he⟩),rfl,q _ ms hn h2 h3⟩
theorem ps_no{st:Stmt}:PS X st (fun _ _ _=>False):=fun _ _ _ _ _ _ h=>h.elim
end
end L2
namespace L2
open PySem PySem.W PyProof.Rows
section
variable {X:Cx}
theorem klo:PGet X (rIxL X.K):=by
 intro pins s σ H o i ov iv Q I ro ri h
 obtain⟨p,xs,i,z,rfl,rfl,hq,he,q⟩:=h
 cases ro
 obtain⟨t,rfl⟩:=ri
 obtain⟨its,r,pl,hz⟩:=I.list hq
 obtain⟨j,h1,h2,h3,h4,h5⟩:=khV he
 obtain⟨w,ew,rw'⟩:=r.get h2
 have hl:=r.length
 have hn:=kgT
 have fin:EP X pins σ Q w s:=⟨z,H,I,rw',q⟩
 by_cases h0:0<=i
 ·have hj:i.toNat=j:=by
   rw[seqIndex_of h0 h5] at h1
   exact Option.some.inj h1
  exact wpAny_getItem_list pl.isList h0 (by omega) (by rw[hj];simpa using ew) fin
 ·have hj:(i+(its.toArray.size:Int)).toNat=j:=by
   rw[seqIndex_neg (by omega) h4] at h1
   rw[NP,<-hl]
   exact Option.some.inj h1
  exact wpAny_getItem_list_neg pl.isList (by omega) (by rw[NP] <;> omega) (by omega) (by rw[hj];simpa using ew) fin
end
end L2
namespace L2
open PySem PySem.Spec PyProof.Rows
section
variable {prog:Program} {w:World} {A:Around} {E:Value->Shared->Prop} {s:Shared}
end
end L2
namespace L2
open PySem PySem.Spec PyProof.Rows
section
variable {prog:Program} {w:World} {A:Around} {E:Value->Shared->Prop} {s:Shared}
end
section
variable {X:Cx}
end
end L2
namespace L2
open PySem PySem.Spec PyProof.Rows
section
variable {X:Cx}
end
end L2
namespace L2
open PySem PySem.Spec PyProof.Rows
section
variable {κ:Type} [DecidableEq κ]
def valV(kvs:List (κ×V))(k: κ):Option V:=(kvs.find? fun kv=>decide (kv.1=k)).map (·.2)
noncomputable def putK(kvs:List (κ×V))(k: κ)(v:V):List (κ×V):=
 if(kvs.any fun kv=>decide (kv.1=k))=true then kvs.map (fun kv=>if kv.1=k then(kv.1,v) else kv) else kvs++[(k,v)]
def dropK(kvs:List (κ×V))(k: κ):List (κ×V):=kvs.filter fun kv=>decide (kv.1≠k)
theorem kbq{p: κ×V}{r:List (κ×V)}{k: κ}(e:p.1=k):valV (p::r) k=some p.2:=by simp[valV,Mo,e]
theorem kbr{p: κ×V}{r:List (κ×V)}{k: κ}(e:¬p.1=k):valV (p::r) k=valV r k:=by simp[valV,Mo,e]
theorem keh(k: κ):∀kvs:List (κ×V),(kvs.any fun kv=>decide (kv.1=k))=(valV kvs k).isSome
 |[]=>rfl
 |p::r=>by
  rw[Mz]
  by_cases e:p.1=k
  ·simp only[kbq e,decide_eq_true e,Bool.true_or,Option.isSome_some]
  ·rw[kbr e,decide_eq_false e,Bool.false_or];exact keh k r
theorem khZ(k j: κ)(y:V):∀kvs:List (κ×V),valV (kvs.map fun kv=>if kv.1=k then(kv.1,y) else kv) j=(valV kvs j).map fun x=>if j=k then y else x
 |[]=>rfl
 | p::r=>by
  have ih:=khZ k j y r
  rw[NJ]
  by_cases h:p.1=k
  ·rw[if_pos h]
   by_cases e:p.1=j
   ·rw[kbq (p:=(p.1,y)) e,kbq e,MS,if_pos (e.symm.trans h)]
   ·rw[kbr (p:=(p.1,y)) e,kbr e,ih]
  ·rw[if_neg h]
   by_cases e:p.1=j
   ·rw[kbq (p:=p) e,kbq e,MS,if_neg (fun z=>h (e.trans z))]
   ·rw[kbr (p:=p) e,kbr e,ih]
theorem kgk(k j: κ)(y:V):∀kvs:List (κ×V),valV kvs k=none->valV (kvs++[(k,y)]) j=if j=k then some y else valV kvs j
 |[],_=>by
  by_cases e:k=j
  ·rw[if_pos e.symm];exact kbq (p:=(k,y)) e
  ·rw[if_neg (fun z=>e z.symm)];exact kbr (p:=(k,y)) e
 |p::r,hn=>by
  rw[MK]
  have hk:¬p.1=k:=fun z=>by rw[kbq z] at hn;cases hn
  rw[kbr hk] at hn
  have ih:=kgk k j y r hn
  by_cases e:p.1=j
  ·rw[kbq e,kbq e,if_neg (fun z=>hk (e.trans z))]
  ·rw[kbr e,kbr e,ih]
theorem kfD(kvs:List (κ×V))(k j: κ)(y:V):valV (putK kvs k y) j=if j=k then some y else valV kvs j:=by
 unfold putK
 by_cases a:(kvs.any fun kv=>decide (kv.1=k))=true
 ·rw[if_pos a,khZ]
  rw[keh] at a
  by_cases e:j=k
  ·obtain⟨x,hx⟩:=Dv.mp a
   rw[if_pos e,e,hx,MS,if_pos rfl]
  ·rw[if_neg e]
   cases valV kvs j with
   |none=>rfl
   |some x=>rw[MS,if_neg e]
 ·rw[if_neg a]
  refine kgk k j y kvs ?_
  rw[keh] at a
  cases q:valV kvs k with
  |none=>rfl
  |some x=>rw[q] at a;exact(a rfl).elim
theorem kcb(kvs:List (κ×V))(k: κ)(v:V):(putK kvs k v).length<=kvs.length+1:=by
 unfold putK
 split
 ·rw[Nq];omega
 ·rw[NG,NW,Df];omega
theorem RelO.isSome_eq{o:Option V}{u:Option Value}(r:RelO o u):o.isSome=u.isSome:=by
 cases o with
 |none=>cases u with
  |none=>rfl
  |some _=>exact(show False from r).elim
 |some _=>cases u with
  |none=>exact(show False from r).elim
  |some _=>rfl
theorem RelO.getD{o:Option V}{u:Option Value}{d:V}{d':Value}(r:RelO o u)(rd:RelV d d'):RelV (o.getD d) (u.getD d'):=by
 cases o with
 |none=>cases u with
  |none=>exact rd
  |some _=>exact(show False from r).elim
 |some _=>cases u with
  |none=>exact(show False from r).elim
  |some _=>exact r
theorem KV.val{kvs:List (κ×V)}{vs:List (κ×Value)}(r:KV kvs vs)(k: κ):RelO (valV kvs k) (valueAt vs k):=by
 unfold KV at r
 induction r with
 |nil=>exact True.intro
 | @cons p q ps qs h t ih=>
  obtain⟨h1,h2⟩:=h
  by_cases e:p.1=k
  ·have e':q.1=k:=h1.symm.trans e
   have b:valueAt (q::qs) k=some q.2:=by simp[valueAt,Mo,e']
   rw[kbq e,b];exact h2
  ·have e':¬q.1=k:=fun z=>e (h1.trans z)
   have b:valueAt (q::qs) k=valueAt qs k:=by simp[valueAt,Mo,e']
   rw[kbr e,b];exact ih
theorem KV.any{kvs:List (κ×V)}{vs:List (κ×Value)}(r:KV kvs vs)(k: κ):(kvs.any fun kv=>decide (kv.1=k))=vs.any fun kv=>decide (kv.1=k):=by
 unfold KV at r
 induction r with
 |nil=>rfl
 |cons h t ih=>rw[Mz,Mz,ih,h.1]
theorem KV.repl{kvs:List (κ×V)}{vs:List (κ×Value)}(r:KV kvs vs)(k: κ){y:V}{u:Value}(ry:RelV y u):
  KV (kvs.map fun kv=>if kv.1=k then(kv.1,y) else kv) (vs.map fun kv=>if kv.1=k then(kv.1,u) else kv):=by
 unfold KV at r⊢
 induction r with
 |nil=>exact .nil
 | @cons p q ps qs h t ih=>
  rw[NJ,NJ]
  refine .cons ?_ ih
  obtain⟨h1,h2⟩:=h
  by_cases e:p.1=k
  ·rw[if_pos e,if_pos (h1.symm.trans e)];exact⟨h1,ry⟩
  ·rw[if_neg e,if_neg (fun z=>e (h1.trans z))];exact⟨h1,h2⟩
theorem KV.put{kvs:List (κ×V)}{vs:List (κ×Value)}(r:KV kvs vs)(k: κ){y:V}{u:Value}(ry:RelV y u):KV (putK kvs k y) (stored vs k u):=by
 unfold putK stored
 rw[r.any k]
 by_cases e:(vs.any fun kv=>decide (kv.1=k))=true
 ·rw[if_pos e,if_pos e];exact r.repl k ry
 ·rw[if_neg e,if_neg e];exact Paired.snoc r ⟨rfl,ry⟩
theorem KV.drop{kvs:List (κ×V)}{vs:List (κ×Value)}(r:KV kvs vs)(k: κ):KV (dropK kvs k) (without vs k):=by
 unfold KV at r⊢
 unfold dropK without
 induction r with
 |nil=>exact .nil
 | @cons p q ps qs h t ih=>
  obtain⟨h1,h2⟩:=h
  rw[MT,MT]
  by_cases e:p.1=k
  ·have a:¬decide (p.1≠k)=true:=by simp[e]
   have b:¬decide (q.1≠k)=true:=by simp[h1.symm.trans e]
   rw[if_neg a,if_neg b];exact ih
  ·have e':¬q.1=k:=fun z=>e (h1.trans z)
   have a:decide (p.1≠k)=true:=by simp[e]
   have b:decide (q.1≠k)=true:=by simp[e']
   rw[if_pos a,if_pos b];exact .cons ⟨h1,h2⟩ ih
theorem KV.keys{kvs:List (κ×V)}{vs:List (κ×Value)}(r:KV kvs vs):kvs.map (·.1)=vs.map (·.1):=by
 unfold KV at r
 induction r with
 |nil=>rfl
 |cons h t ih=>rw[NJ,NJ,ih,h.1]
theorem KV.length{kvs:List (κ×V)}{vs:List (κ×Value)}(r:KV kvs vs):kvs.length=vs.length:=Paired.length r
end
theorem kV_is{P:Program}{w:World}{k:Key}{u:Value}(r:RelV (kV k) u):(ka5 P w).is k u=true:=by
 cases k with
 |inl i=>obtain⟨t,e⟩:=(show ∃t,u=Value.int i t from r);subst e;exact keT P w i t
 |inr x=>obtain⟨t,e⟩:=(show ∃t,u=Value.str x t from r);subst e;exact khD P w x t
theorem kgX{P:Program}{w:World}:∀{ks:List Key}{us:List Value},Vals (ks.map kV) us->ItemsAre (ka5 P w) ks us
 |[],_,r=>by rw[MI] at r;cases r;exact .nil
 |k::ks,_,r=>by
  rw[NJ] at r
  cases r with
  |cons h t=>exact .cons (kV_is h) (kgX t)
abbrev KT(H:Hp):List (List Key×V)->List (List Key×Addr×Value)->Prop:=Paired fun p q=>p.1=q.1/\H q.2.1=some (.tup (p.1.map kV))/\RelV p.2 q.2.2
theorem KT.val{H:Hp}{kvs:List (List Key×V)}{xs:List (List Key×Addr×Value)}(r:KT H kvs xs)(k:List Key):RelO (valV kvs k) ((atKey xs k).map (·.2)):=by
 induction r with
 |nil=>exact True.intro
 | @cons p q ps qs h t ih=>
  obtain⟨h1,_,h2⟩:=h
  by_cases e:p.1=k
  ·have e':q.1=k:=h1.symm.trans e
   have b:atKey (q::qs) k=some q.2:=by simp[atKey,Mo,e']
   rw[kbq e,b];exact h2
  ·have e':¬q.1=k:=fun z=>e (h1.trans z)
   have b:atKey (q::qs) k=atKey qs k:=by simp[atKey,Mo,e']
   rw[kbr e,b];exact ih
theorem KT.repl{H:Hp}{kvs:List (List Key×V)}{xs:List (List Key×Addr×Value)}(r:KT H kvs xs)(k:List Key){y:V}{u:Value}(ry:RelV y u):
  KT H (kvs.map fun kv=>if kv.1=k then(kv.1,y) else kv) (xs.map (putAt k u)):=by
 induction r with
 |nil=>exact .nil
 | @cons p q ps qs h t ih=>
  rw[NJ,NJ]
  refine .cons ?_ ih
  obtain⟨h1,h2,h3⟩:=h
  unfold putAt
  by_cases e:p.1=k
  ·rw[if_pos e,if_pos (h1.symm.trans e)];exact⟨h1,h2,ry⟩
  ·rw[if_neg e,if_neg (fun z=>e (h1.trans z))];exact⟨h1,h2,h3⟩
theorem KT.put{H:Hp}{kvs:List (List Key×V)}{xs:List (List Key×Addr×Value)}(r:KT H kvs xs)(k:List Key){b:Addr}{y:V}{u:Value}(hb:H b=some (.tup (k.map kV)))(ry:RelV y u):
  KT H (putK kvs k y) (storedH xs k b u):=by
 have e:(kvs.any fun kv=>decide (kv.1=k))=(atKey xs k).isSome:=by
  rw[keh,(r.val k).isSome_eq,Option.isSome_map]
 unfold putK storedH
 rw[e]
 by_cases q:(atKey xs k).isSome=true
 ·rw[if_pos q,if_pos q];exact r.repl k ry
 ·rw[if_neg q,if_neg q];exact Paired.snoc r ⟨rfl,hb,ry⟩
noncomputable def KT.keeps{H H':Hp}{kvs:List (List Key×V)}{xs:List (List Key×Addr×Value)}(r:KT H kvs xs)(ht:∀b ys,H b=some (.tup ys)->H' b=some (.tup ys)):KT H' kvs xs:=
 Paired.mapP r fun _ _ z=>⟨z.1,ht _ _ z.2.1,z.2.2⟩
section
variable {P:Program} {w:World} {H:Hp} {h:Heap} {a:Addr}
theorem rd_of{u:HO}(ok:HOk P w H h)(e:Rd H a u):ObjOk P w H h a u:=e.ok ok
theorem dk_rd{kvs:List (Key×V)}(ok:HOk P w H h)(e:Rd H a (.dK kvs)):kvs.length<=sizeLine/\(a==sysModules)=false/\∃vs,KV kvs vs/\h.DictOf (ka5 P w) a vs:=
 show ObjOk P w H h a (.dK kvs) from rd_of ok e
theorem dk_of{kvs:List (Key×V)}(ok:HOk P w H h)(e:H a=some (.dK kvs)):kvs.length<=sizeLine/\(a==sysModules)=false/\∃vs,KV kvs vs/\h.DictOf (ka5 P w) a vs:=dk_rd ok (.inl e)
theorem kgW{ks:List Key}(ok:HOk P w H h)(e:H a=some (.tup (ks.map kV))):(tupleKind (ka5 P w)).is h ks a:=by
 obtain⟨_,its,r,o,h1,h2,n,h3⟩:=(show ObjOk P w H h a (.tup (ks.map kV)) from ok a _ e)
 exact⟨o,its.toArray,n,h1,h2,h3,by simpa using kgX r⟩
theorem dt_rd{kvs:List (List Key×V)}(ok:HOk P w H h)(e:Rd H a (.dT kvs)):kvs.length<=sizeLine/\(a==sysModules)=false/\
  ∃xs,KT H kvs xs/\h.DictOfH (tupleKind (ka5 P w)) a xs:=by
 obtain⟨z,y,xs,r,o,es,ep,h1,h2,h3,h4,h5⟩:=(show ObjOk P w H h a (.dT kvs) from rd_of ok e)
 refine⟨z,y,xs,r,o,es,ep,h1,h2,h3,h4,fun x hx=>?_,h5⟩
 have all:∀{l:List (List Key×V)}{m:List (List Key×Addr×Value)},KT H l m->∀x∈m,(tupleKind (ka5 P w)).is h x.1 x.2.1:=by
  intro l m q
  induction q with
  |nil=>intro x hx;exact nomatch hx
  | @cons p q ps qs hq t ih=>
   intro x hx
   rcases NS.mp hx with e|hx
   ·subst e
    exact kgW ok (by rw[<-hq.1];exact hq.2.1)
   ·exact ih x hx
 exact all r x hx
theorem dt_of{kvs:List (List Key×V)}(ok:HOk P w H h)(e:H a=some (.dT kvs)):kvs.length<=sizeLine/\(a==sysModules)=false/\
  ∃xs,KT H kvs xs/\h.DictOfH (tupleKind (ka5 P w)) a xs:=dt_rd ok (.inl e)
end
noncomputable def DGet(H:Hp)(a:Addr)(y:V)(r:Option V):Prop:=
 (∃kvs k,Rd H a (.dK kvs)/\y=kV k/\r=valV kvs k)∨∃kvs k b,Rd H a (.dT kvs)/\y=.ref b/\H b=some (.tup (k.map kV))/\r=valV kvs k
noncomputable def DPut(H:Hp)(a:Addr)(y v:V)(H':Hp):Prop:=
 (∃kvs k,H a=some (.dK kvs)/\y=kV k/\kvs.length<sizeLine/\H'=upd H a (.dK (putK kvs k v)))∨
 ∃kvs k b,H a=some (.dT kvs)/\y=.ref b/\H b=some (.tup (k.map kV))/\kvs.length<sizeLine/\H'=upd H a (.dT (putK kvs k v))
theorem DGet.k{H:Hp}{a:Addr}{kvs:List (Key×V)}{k:Key}(e:H a=some (.dK kvs)):DGet H a (kV k) (valV kvs k):=.inl ⟨kvs,k, .inl e,rfl,rfl⟩
noncomputable def DGet.t{H:Hp}{a b:Addr}{kvs:List (List Key×V)}{k:List Key}(e:H a=some (.dT kvs))(eb:H b=some (.tup (k.map kV))):DGet H a (.ref b) (valV kvs k):=.inr ⟨kvs,k,b, .inl e,rfl,eb,rfl⟩
theorem DPut.k{H:Hp}{a:Addr}{kvs:List (Key×V)}{k:Key}{v:V}(e:H a=some (.dK kvs))(hl:kvs.length<sizeLine):DPut H a (kV k) v (upd H a (.dK (putK kvs k v))):=.inl ⟨kvs,k,e,rfl,hl,rfl⟩
theorem DPut.t{H:Hp}{a b:Addr}{kvs:List (List Key×V)}{k:List Key}{v:V}(e:H a=some (.dT kvs))(eb:H b=some (.tup (k.map kV)))(hl:kvs.length<sizeLine):
  DPut H a (.ref b) v (upd H a (.dT (putK kvs k v))):=.inr ⟨kvs,k,b,e,rfl,eb,hl,rfl⟩
section
variable {X:Cx} {pins:List (Addr×Obj)} {σ:St} {H:Hp} {s:Shared} {a:Addr} {y v:V} {u r:Value} {o:Option V} {A:Around} {E:Value->Shared->Prop}
theorem Inv.big(I:Inv X pins σ H s):sysModules<s.heap.objs.size:=by
 have h:mainGlobals<s.heap.objs.size:=(I.mod.glob.keeps I.bk).lt
 exact EB (by decide) h
theorem kku{Q:Value->Shared->Prop}(hu:A.units+1<cLine)(I:Inv X pins σ H s)(g:DGet H a y (some v))(ry:RelV y u)(h:∀w' s',Inv X pins σ H s'->RelV v w'->Q w' s'):
  wpAny (model X.prog X.w) A (getItem (.ref a) u) Q E s:=by
 rcases g with⟨kvs,k,e,ey,l⟩|⟨kvs,k,b,e,ey,eb,l⟩
 ·subst ey
  obtain⟨z,hd,vs,rel,dd⟩:=dk_rd I.hok e
  obtain⟨w',hw,rw'⟩:=RelO.some_of (v:=v) (o:=valueAt vs k) (by rw[l];exact rel.val k)
  exact wpAny_getItem_of (kV_is ry) dd.mapOf hw (h w' _ (I.tok _) rw')
 ·subst ey
  cases(show u=Value.ref b from ry)
  obtain⟨z,hd,xs,rel,dd⟩:=dt_rd I.hok e
  obtain⟨w',hw,rw'⟩:=RelO.some_of (v:=v) (o:=(atKey xs k).map (·.2)) (by rw[l];exact rel.val k)
  obtain⟨p,hp,hp2⟩:=Option.map_eq_some_iff.mp hw
  refine wpAny_getItem_heap (tupleKind_room_in1 hu) (kgW I.hok eb) dd hp ?_
  rw[hp2]
  exact h w' _ (I.tok _) rw'
theorem kmU{Q:Value->Shared->Prop}(hu:A.units+1<cLine)(I:Inv X pins σ H s)(g:DGet H a y o)(ry:RelV y u)(h:∀s',Inv X pins σ H s'->Q (.bool (!o.isSome)) s'):
  wpAny (model X.prog X.w) A (compareOp .NotIn u (.ref a)) Q E s:=by
 rcases g with⟨kvs,k,e,ey,l⟩|⟨kvs,k,b,e,ey,eb,l⟩
 ·subst ey
  obtain⟨z,hd,vs,rel,dd⟩:=dk_rd I.hok e
  refine wpAny_notIn_of (kV_is ry) hd dd.mapOf ?_
  rw[<-(rel.val k).isSome_eq,<-l]
  exact h _ (I.tok _)
 ·subst ey
  cases(show u=Value.ref b from ry)
  obtain⟨z,hd,xs,rel,dd⟩:=dt_rd I.hok e
  refine wpAny_notIn_heap (tupleKind_room_in1 hu) (kgW I.hok eb) hd dd ?_
  have q:=(rel.val k).isSome_eq
  rw[Option.isSome_map] at q
  rw[<-q,<-l]
  exact h _ (I.tok _)
theorem khQ{h':Heap}{t':Nat}{ob:HO}(I:Inv X pins σ H s)(mu:Mut (H a))(hs:Heap.SameBut a s.heap h')(he:∃q,h'.get? a=some q)(new:ObjOk X.prog X.w (upd H a ob) h' a ob):
  Inv X pins σ (upd H a ob) {s with heap:=h',toks:=t'}:=
 I.write (x:=a) (e:=a) mu (.inl rfl) (fun b q hb z=>(hs.2 b hb).trans z) he new
theorem knv{P:Program}{w:World}{H':Hp}{h':Heap}{kvs:List (Key×V)}{vs:List (Key×Value)}(z:kvs.length<=sizeLine)(hd:(a==sysModules)=false)(rel:KV kvs vs)(dd:h'.DictOf (ka5 P w) a vs):
  ObjOk P w H' h' a (.dK kvs):=⟨z,hd,vs,rel,dd⟩
theorem kkt{H':Hp}{Q:Unit->Shared->Prop}(hu:A.units+1<cLine)(I:Inv X pins σ H s)(g:DPut H a y v H')(ry:RelV y u)(rv:RelV v r)(h:∀s',Inv X pins σ H' s'->Q () s'):
  wpAny (model X.prog X.w) A (setItem (.ref a) u r) Q E s:=by
 rcases g with⟨kvs,k,e,ey,l,eH⟩|⟨kvs,k,b,e,ey,eb,l,eH⟩
 ·subst ey eH
  obtain⟨z,hd,vs,rel,dd⟩:=dk_of I.hok e
  have hz:vs.length<=sizeLine:=by rw[<-rel.length];exact z
  have hl:(putK kvs k v).length<=sizeLine:=by have:=kcb kvs k v;omega
  refine wpAny_setItem_pairs (hsz:=hz) (kV_is ry) dd fun h' dd' hs=>h _ ?_
  have he:∃q,h'.get? a=some q:=let⟨q,_,_,hq,_⟩:=dd';⟨q,hq⟩
  exact khQ I (by rw[e];exact True.intro) hs he (knv hl hd (rel.put k rv) dd')
 ·subst ey eH
  cases(show u=Value.ref b from ry)
  obtain⟨z,hd,xs,rel,dd⟩:=dt_of I.hok e
  have hz:xs.length<=sizeLine:=by rw[<-Paired.length rel];exact z
  have hl:(putK kvs k v).length<=sizeLine:=by have:=kcb kvs k v;omega
  refine wpAny_setItem_heap (hsz:=hz) (tupleKind_room_in1 hu) (kgW I.hok eb) dd fun h' dd' hs=>h _ ?_
  obtain⟨q,es,ep,hq,h2,h3,h4,_,h5⟩:=dd'
  refine khQ I (by rw[e];exact True.intro) hs ⟨q,hq⟩ ⟨hl,hd,_,(rel.put k eb rv).keeps fun c ys ec=>?_,q,es,ep,hq,h2,h3,h4,h5⟩
  rw[kaj (ne_of ec e (fun z=>nomatch z))]
  exact ec
end
section
variable {X:Cx} {pins:List (Addr×Obj)} {σ:St} {H:Hp} {s:Shared} {a:Addr} {kvs:List (Key×V)} {k:Key} {u:Value} {A:Around} {E:Value->Shared->Prop}
end
def NoSl(i:Expr):Prop:=∀ov iv,subscripted i false ov iv=operate [ov,iv] (getItem ov iv)
theorem kmk{prog:Program}{w:World}{A:Around}{E:Value->Shared->Prop}{s:Shared}{env:Env}{value slice:Expr}{pos:Pos}{T id:String}{Q:Value->Shared->Prop}
  (hl:typeLookup (.type T) "__getitem__"=pure (some (.builtin id))) (hs:NoSl slice)
  (h:wpAny (model prog w) A (eval value env) (fun o s₁=>wpAny (model prog w) A (eval slice env) (fun i s₂=>s₂.TypeIs o T/\wpAny (model prog w) A (getItem o i) Q E s₂) E s₁) E s):
  wpAny (model prog w) A (eval (.Subscript value slice pos) env) Q E s:=by
 refine Subscript_ (wpAny_mono h (fun o s₁ h₁=>wpAny_mono h₁ (fun i s₂ h₂=>?_) fun _ _ x=>x) fun _ _ x=>x)
 obtain⟨hT,h₂⟩:=h₂
 unfold subscriptTail
 refine wpAny_bind ?_
 rw[getitemInPython_of_ne hT.not_modules]
 refine wpAny_bind (wpAny_specialOf hT hl ?_)
 have fin:wpAny (model prog w) A (subscripted slice false o i) (fun r s₃=>wpAny (model prog w) A (letTemporaryGo value o r >>= fun _=>pure r) Q E s₃) E s₂:=by
  rw[hs o i]
  exact wpAny_operating (wpAny_mono h₂ (fun r s₃ h₃=>wpAny_bind (wpAny_letTemporaryGo (wpAny_pure h₃))) fun _ _ x=>x)
 first
  |exact wpAny_pure (wpAny_bind fin)
  |exact wpAny_bind (wpAny_pure (wpAny_bind fin))
  |exact wpAny_bind fin
noncomputable def khO{X:Cx}{pins:List (Addr×Obj)}{σ:St}{H:Hp}{s:Shared}{a:Addr}{y:V}{o:Option V}(I:Inv X pins σ H s)(g:DGet H a y o):s.TypeIs (.ref a) "dict":=by
 rcases g with⟨kvs,k,e,_,_⟩|⟨kvs,k,b,e,_,_,_⟩
 ·obtain⟨_,_,vs,_,dd⟩:=dk_rd I.hok e
  exact dd.typeIs
 ·obtain⟨_,_,xs,_,dd⟩:=dt_rd I.hok e
  exact dd.typeIs
def tDGet(td ty:TE):TE:=fun σ H Q=>td σ H fun x H1=>ty σ H1 fun y H2=>∃a v,x=.ref a/\DGet H2 a y (some v)/\Q v H2
def kmi(ty td:TE):TE:=fun σ H Q=>ty σ H fun y H1=>td σ H1 fun x H2=>∃a o,x=.ref a/\DGet H2 a y o/\Q (.bl (!o.isSome)) H2
noncomputable def sDPut(td ty tv:TE):TS:=fun D σ H=>tv σ H fun v H1=>td σ H1 fun x H2=>ty σ H2 fun y H3=>∃a H4,x=.ref a/\DPut H3 a y v H4/\D.nx σ H4
section
variable {X:Cx} {o i e value:Expr} {pos pos' tpos:Pos} {td ty tv:TE}
theorem kjR(hu:X.A.units+1<cLine)(ho:PE X o td)(hi:PE X i ty)(hs:NoSl i):PE X (.Subscript o i pos) (tDGet td ty):=by
 intro pins s σ H Q I h
 refine kmk PySem.F.slot_dict_getitem.lookup hs (thn (ho pins s σ H _ I h) fun u s1 ⟨x,H1,I1,rx,q1⟩=>thn (hi pins s1 σ H1 _ I1 q1) fun iv s2 zz=>?_)
 obtain⟨y,H2,I2,ry,a,v,ex,g,q2⟩:=zz
 subst ex
 obtain rfl:u=Value.ref a:=rx
 exact⟨khO I2 g,kku hu I2 g ry fun w' s3 I3 rw'=>⟨v,H2,I3,rw',q2⟩⟩
theorem kjS(hu:X.A.units+1<cLine)(hi:PE X i ty)(ho:PE X o td):PC X .NotIn i o (kmi ty td):=by
 intro pins s σ H Q I h
 refine thn (hi pins s σ H _ I h) fun iv s1 ⟨y,H1,I1,ry,q1⟩=>thn (ho pins s1 σ H1 _ I1 q1) fun u s2 zz=>?_
 obtain⟨x,H2,I2,rx,a,ov,ex,g,q2⟩:=zz
 subst ex
 obtain rfl:u=Value.ref a:=rx
 exact kmU hu I2 g ry fun s3 I3=>⟨.bl (!ov.isSome),H2,I3,rfl,q2⟩
theorem kmu(hu:X.A.units+1<cLine)(ho:PE X o td)(hi:PE X i ty)(hv:PE X value tv)(hs:swapsWith value (some (.Subscript o i pos')) pos.line X.env=pure false):
  PS X (.Assign [.Subscript o i pos'] value pos) (sDPut td ty tv):=by
 intro pins s σ H D I h
 refine wpAny_Assign_Subscript (thn (hv pins s σ H _ I h) fun r s1 ⟨v,H1,I1,rv,q1⟩=>thn (ho pins s1 σ H1 _ I1 q1) fun u s2 ⟨x,H2,I2,rx,q2⟩=>thn (hi pins s2 σ H2 _ I2 q2) fun iv s3 zz=>?_) hs
 obtain⟨y,H3,I3,ry,a,H4,ex,g,q3⟩:=zz
 subst ex
 obtain rfl:u=Value.ref a:=rx
 exact kkt hu I3 g ry rv fun s4 I4=>⟨σ,H4,I4,q3⟩
end
noncomputable def klu{P:Program}{w:World}{H:Hp}(h:Heap)(hb:sysModules<h.objs.size):ObjOk P w H (h.push {cls:=.type "dict",data:=.dict #[]}) h.objs.size (.dK []):=
 ⟨N1 _,beq_eq_false_iff_ne.mpr (Ne.symm (NU hb)),[], .nil,Heap.DictOf.new h⟩
noncomputable def kls{P:Program}{w:World}{H:Hp}(h:Heap)(hb:sysModules<h.objs.size):ObjOk P w H (h.push {cls:=.type "dict",data:=.dict #[]}) h.objs.size (.dT []):=
 ⟨N1 _,beq_eq_false_iff_ne.mpr (Ne.symm (NU hb)),[], .nil,_,#[],0,Heap.get?_push_size _ rfl,⟨rfl,rfl,rfl⟩,rfl,rfl,EE⟩
def km3:TE:=fun _ H Q=>∀p,H p=none->Q (.ref p) (upd H p (.dK []))
def km2:TE:=fun _ H Q=>∀p,H p=none->Q (.ref p) (upd H p (.dT []))
section
variable {X:Cx} {pos:Pos}
theorem kkY:PE X (.Dict [] [] pos) km3:=fun pins s σ H Q I h=>
 wpAny_Dict_empty ⟨.ref s.heap.objs.size,_,I.laid (a:=s.heap.objs.size) (o:=.dK []) (t':=s.toks) (fun _ _ q=>Heap.get?_push_of_some _ q) (Nt _) (klu s.heap I.big),rfl,h _ (I.hok.fresh (Nt _))⟩
theorem kkX:PE X (.Dict [] [] pos) km2:=fun pins s σ H Q I h=>
 wpAny_Dict_empty ⟨.ref s.heap.objs.size,_,I.laid (a:=s.heap.objs.size) (o:=.dT []) (t':=s.toks) (fun _ _ q=>Heap.get?_push_of_some _ q) (Nt _) (kls s.heap I.big),rfl,h _ (I.hok.fresh (Nt _))⟩
end
end L2
namespace L2
open PySem PySem.Spec PyProof.Rows
section
variable {X:Cx}
noncomputable def klQ(K:Nr):List V->Hp->VK->Prop:=fun xs H Q=>∃(p:Addr)(ys:List V),xs=[.ref p]/\SqL K H p ys/\∀l,H l=none->Q (.ref l) (upd H l (.tup ys))
theorem kkF:CallR X (.type "tuple") (klQ X.K):=by
 intro pins s σ H xs us Q I r h
 obtain⟨p,ys,e,hq,q⟩:=h
 exact kgd pins s σ H xs us Q I r ⟨p,ys,e, .inl ⟨hq,q⟩⟩
end
end L2
end Lake
open Lake
namespace PySem
def Has(h0 h:Heap):Prop:=∀b o,h0.get? b=some o->h.get? b=some o
noncomputable def Has.go{h0 h h':Heap}{wr:List Addr}(z:∀b∈wr,h0.get? b=none)(p:Has h0 h)(q:∀b o,b∉wr->h.get? b=some o->h'.get? b=some o):Has h0 h':=fun b o e=>q b o (fun m=>by rw[z b m] at e;cases e) (p b o e)
noncomputable def Has.one{h0 h h':Heap}{S:Addr}(z:h0.get? S=none)(p:Has h0 h)(q:∀b o,b≠S->h.get? b=some o->h'.get? b=some o):Has h0 h':=fun b o e=>q b o (fun m=>by rw[m,z] at e;cases e) (p b o e)
section
variable {prog:Program} {w:World} {A:Around} {R:Result->Shared->Prop} {J:Addr} {fp wr:List Addr} {m:Nat} {P:Nat->Value->Prop} {St:Nat->Heap->Prop}
end
end PySem
namespace Lake
namespace L2
open PySem PySem.Spec PyProof.Rows
section
variable {X:Cx}
end
end L2
end Lake
open Lake
namespace PySem
section
variable {prog:Program} {w:World} {K:Type} [DecidableEq K] {knd:HeapKind prog w K} {A:Around} {E:Value->Shared->Prop} {s:Shared}
theorem kdE{d a:Addr}{xs:List (K×Addr×Value)}{k:K}{v:Value}{Q:Value->Shared->Prop}(hu:knd.room A)(hkey:knd.is s.heap k a)(hm:s.heap.DictOfH knd d xs)
  (h1:∀u,(atKey xs k).map (·.2)=some u->Q u {s with toks:=s.toks+knd.draws k})
  (h2:(atKey xs k).map (·.2)=none->∀h',h'.DictOfH knd d (storedH xs k a v)->Heap.SameBut d s.heap h'->Q v {s with heap:=h',toks:=s.toks+knd.draws k})
  (hsz:xs.length<=sizeLine):wpAny (model prog w) A (dictSetDefault d (.ref a) v) Q E s:=by
 obtain⟨o,es,ep,ho,hc,hd,he,his,hn⟩:=hm
 unfold dictSetDefault
 try with_reducible refine wpAny_holding ?_
 refine wpAny_bind (knd.pyHash hu hkey (wpAny_bind (wpAny_dictFind_heap (s:={s with toks:=s.toks+knd.draws k}) hu hkey ho hd he his hn ?_ ?_)))
 ·intro hno
  have hnot:k∉xs.map (·.1):=not_mem_keys_of_get hno
  refine wpAny_bind (wpAny_rule (wpAny_bind (wpAny_updateDictKeys (hz:=by have e:=size_of_entries he;omega) (s:={s with toks:=s.toks+knd.draws k}) ho hd (wpAny_pure (h2 (by rw[atKey_none_of_get hno];rfl) _ ⟨_,_,ep+1,Heap.get?_update_self _ ho (Obj.isFreed_of_dict (Obj.data_mapDictKeys hd _)),
   hc.mapDictKeys _,Obj.data_mapDictKeys hd _,?_,?_,?_⟩ (Heap.SameBut.update ..))))))
  ·rw[storedH_new (atKey_none_of_get hno)]
   simp[he,entryOfKey]
  ·rw[storedH_new (atKey_none_of_get hno)]
   intro x hx
   rcases N6.mp hx with hx|hx
   ·exact knd.keeps (his x hx) ho hd (Heap.SameBut.update ..)
   ·rw[Mq.mp hx]
    exact knd.keeps hkey ho hd (Heap.SameBut.update ..)
  ·rw[storedH_new (atKey_none_of_get hno),NC,Ej]
   refine⟨hn,by simp,fun x hx y hy e=>hnot ?_⟩
   have ey:y=k:=by simpa using hy
   exact ey▸e▸hx
 ·intro j p hj
  refine wpAny_bind (wpAny_dictEntries (s:={s with toks:=s.toks+knd.draws k}) ho hd ?_)
  rw[entry_at he j,hj]
  exact wpAny_bind (wpAny_rule (wpAny_pure (h1 p.2 (by rw[atKey_of_get hn hj];rfl))))
theorem kdQ(knd:HeapKind prog w K)(d a:Addr)(hd:(d==sysModules)=false)(v:Value):
  MeetsIn prog w (Builtin.«dict.setdefault» ⟨[.ref d, .ref a,v],[]⟩) (fun A R s=>knd.room A.in1/\∃k xs,knd.is s.heap k a/\s.heap.DictOfH knd d xs/\xs.length<=sizeLine/\
   (∀u,(atKey xs k).map (·.2)=some u->R (.ok (.ret u)) {s with toks:=s.toks+knd.draws k})/\
   ((atKey xs k).map (·.2)=none->∀h',h'.DictOfH knd d (storedH xs k a v)->Heap.SameBut d s.heap h'->R (.ok (.ret v)) {s with heap:=h',toks:=s.toks+knd.draws k})):=
 .of_wp fun A R s ⟨hu,k,xs,hkey,hm,hz,h1,h2⟩=>by
  unfold Builtin.«dict.setdefault»
  refine wpAny_bind ?_
  unfold Builtin.Dict.keyAndDefault
  refine wpAny_bind (wpAny_notOrdered_dict hm.typeIs ?_)
  show wpAny _ _ (pure (d,Value.ref a,some v)) _ _ s
  refine wpAny_pure ?_
  show wpAny _ _ (if(d==sysModules)=true then _ else(dictSetDefault d (.ref a) v >>= _)) _ _ s
  rw[if_neg (by rw[hd];exact NB)]
  exact wpAny_bind (kdE hu hkey hm (fun u e=>wpAny_pure ⟨u,rfl,h1 u e⟩) (fun hn h' hm' hs'=>wpAny_pure ⟨v,rfl,h2 hn h' hm' hs'⟩) hz)
end
end PySem
namespace Lake
namespace L2
open PySem PySem.Spec PyProof.Rows
section
variable {X:Cx}
noncomputable def rSetT:V->List V->Hp->VK->Prop:=fun x vs H Q=>∃(a b:Addr)(kvs:List (List Key×V))(k:List Key)(y:V),x=.ref a/\vs=[.ref b,y]/\H a=some (.dT kvs)/\H b=some (.tup (k.map kV))/\kvs.length<sizeLine/\(∀v,valV kvs k=some v->Q v H)/\(valV kvs k=none->Q y (upd H a (.dT (putK kvs k y))))
theorem kmG(hu:X.A.units+1<cLine):MtM X "dict.setdefault" rSetT:=by
 intro pins s σ H x vs v us Q I rx rv h
 obtain⟨a,b,kvs,k,y,rfl,rfl,e,eb,hz,h1,h2⟩:=h
 cases rx
 obtain⟨u1,u2,rfl,ru1,ru2⟩:=vals2 rv
 cases(show u1=Value.ref b from ru1)
 obtain⟨z,hd,xs,rel,dd⟩:=dt_of I.hok e
 have rk:=rel.val k
 refine call_meetsIn EF dd.typeIs DB (DC _ _ _) (kdQ (tupleKind (ka5 X.prog X.w)) a b hd u2)
  ⟨tupleKind_room_in1 hu,k,xs,kgW I.hok eb,dd,by rw[<-Paired.length rel];exact z,fun w' hw=>?_,fun hn h' dd' hs=>?_⟩
 ·rw[hw] at rk
  cases ea:valV kvs k with
  |none=>rw[ea] at rk;exact(show False from rk).elim
  |some w2=>
   rw[ea] at rk
   exact⟨w2,H,I.tok _,rk,h1 w2 ea⟩
 ·rw[hn] at rk
  have ea:valV kvs k=none:=by
   cases ea:valV kvs k with
   |none=>rfl
   |some w'=>rw[ea] at rk;exact(show False from rk).elim
  obtain⟨q,es,ep,hq,g2,g3,g4,_,g5⟩:=dd'
  have hl:(putK kvs k y).length<=sizeLine:=by have:=kcb kvs k y;omega
  refine⟨y,_,khQ (ob:=.dT (putK kvs k y)) I (by rw[e];exact True.intro) hs ⟨q,hq⟩ ⟨hl,hd,_,(rel.put k eb ru2).keeps fun c ys ec=>?_,q,es,ep,hq,g2,g3,g4,g5⟩,ru2,h2 ea⟩
  rw[kaj (ne_of ec e (fun z=>nomatch z))]
  exact ec
end
end L2
namespace L2
open PySem PySem.Spec PyProof.Rows
def nxo:HO->Bool
 | .ext _=>false
 |_=>true
def NX(H:Hp)(p:Addr):Prop:=∀φ,H p≠some (.ext φ)
def nx{H:Hp}{p:Addr}{o:HO}(h:H p=some o)(n:nxo o=true:=by rfl):NX H p:=fun φ z=>by
 rw[h] at z
 cases z
 cases n
def nx0{H:Hp}{p:Addr}(h:H p=none):NX H p:=fun φ z=>by
 rw[h] at z
 cases z
noncomputable def kc5{H:Hp}{p q:Addr}{o:HO}(h:NX H p)(n:nxo o=true:=by rfl):NX (upd H q o) p:=fun φ z=>by
 by_cases e:p=q
 ·subst e
  rw[kad] at z
  cases z
  cases n
 ·rw[kaj e] at z
  exact h φ z
abbrev Ev(H H':Hp)(b:Addr)(o:HO):Prop:=match o with
 | .tbl _=>(∃ps,H' b=some (.tbl ps))/\(TbAt b H->TbAt b H')
 |o=>H' b=some o
def ev_eq{H H':Hp}{b:Addr}{o:HO}(e:H' b=some o)(t:TbAt b H->TbAt b H'):Ev H H' b o:=by
 cases o <;> first|exact e|exact⟨⟨_,e⟩,t⟩
def kga{H H':Hp}{b:Addr}{o:HO}(e:Ev H H' b o):∃o',H' b=some o':=by
 cases o <;> first|exact⟨_,e⟩|exact⟨_,e.1.choose_spec⟩
theorem kbD{H H1 H2:Hp}{b:Addr}{o:HO}(e:Ev H H1 b o)(k:∀o,H1 b=some o->Ev H1 H2 b o):Ev H H2 b o:=by
 cases o with
 |tbl ps=>
  obtain⟨⟨ps1,e1⟩,t1⟩:=e
  obtain⟨e2,t2⟩:=(show Ev H1 H2 b (.tbl ps1) from k _ e1)
  exact⟨e2,fun h=>t2 (t1 h)⟩
 |_=>exact k _ e
noncomputable def kdk{b p:Addr}{H:Hp}{o:HO}(h:TbAt b H)(n:b≠p)(hx:NX H p):TbAt b (upd H p o):=by
 obtain⟨ps,e,t,hor⟩:=h
 refine⟨ps,by rw[kaj n];exact e,t,fun pos d ed=>?_⟩
 obtain⟨c,rfl,z2⟩:=hor pos d ed
 have hc:c≠p:=fun e=>by
  subst e
  exact hx _ z2
 exact⟨c,rfl,by rw[kaj hc];exact z2⟩
def Same(H H':Hp):Prop:=∀b o,H b=some o->Ev H H' b o
def Same.refl(H:Hp):Same H H:=fun _ _ h=>ev_eq h fun t=>t
def Same.trans{H H1 H2:Hp}(a:Same H H1)(b:Same H1 H2):Same H H2:=fun c o h=>kbD (a c o h) fun o' e=>b c o' e
theorem Same.free{H H':Hp}(e:Same H H'){l:Addr}(h:H' l=Option.none):H l=Option.none:=by
 cases q:H l with
 |none=>rfl
 |some o=>
  obtain⟨o',e'⟩:=kga (e l o q)
  rw[e'] at h
  cases h
noncomputable def Same.seq{K:Nr}{H H':Hp}{a:Addr}{xs:List V}(e:Same H H')(h:SqL K H a xs):SqL K H' a xs:=by
 rcases h with(h|⟨o,h⟩)|h
 ·exact .inl (.inl (e _ _ h))
 ·exact .inl (.inr ⟨o,e _ _ h⟩)
 ·exact .inr h
noncomputable def Same.tb{H H':Hp}(s:Same H H'){b:Addr}(h:TbAt b H):TbAt b H':=by
 obtain⟨ps,e,r⟩:=id h
 exact(show Ev H H' b (.tbl ps) from s b _ e).2 h
noncomputable def Grew.same{P:Addr}{H H':Hp}(g:Grew P H H')(TB:TbAt P H):Same H H':=fun b o e=>by
 obtain⟨ps,eP,ht,hor⟩:=TB
 by_cases h:b=P
 ·subst h
  rw[eP] at e
  cases e
  obtain⟨qs,e1,_⟩:=id g.tb
  exact⟨⟨qs,e1⟩,fun _=>g.tb⟩
 ·refine ev_eq (g.kp b o h e) fun t=>?_
  obtain⟨qs,e1,t1,h1⟩:=t
  refine⟨qs,g.kp b _ h e1,t1,fun pos d ed=>?_⟩
  obtain⟨c,rfl,z⟩:=h1 pos d ed
  exact⟨c,rfl,g.kp c _ (ne_of z eP (by intro z;cases z)) z⟩
end L2
namespace L2
open PySem PySem.Spec PyProof.Rows
noncomputable def kes(K:Nr)(tP tR:Addr):Sp:=fun vs H Q _=>∃(a:Addr)(ns:List Int),vs=[.ref a]/\SqL K H a (ns.map V.int)/\ns.length<=63/\TbAt tP H/\TbAt tR H/\∀H',Q (.bl true) H'
theorem kiZ{P:Program}{w:World}{K:Nr}{mg mb:Str->Option Value}{k:Nat}{fa a tP tR c0 c1:Addr}{fd:FuncData}{x:Str}{s₁:Shared}{vs:List Value}{ns:List Int}
  (KX:K.In s₁.heap) (hns:s₁.heap.Ns mainGlobals mg) (hb:s₁.heap.Ns builtinsNs mb) (hbb:∀x:Str,x≠"__name__"->mb x=bootBuiltins x) (hlim:s₁.heap.NoLimit) (hg:s₁.gens= #[])
  (ha:s₁.heap.get? a=some {cls:=.type "list",data:=.seq vs.toArray}) (hi:IntsAre vs ns) (hl:ns.length<=63) (hr:Room k callerA) (hT:s₁.heap.get? tP=some (Ea #[])) (CK:CodeK K c0 tP) (kT:K.lookup tP=none) (hR:s₁.heap.get? tR=some (Ea #[])) (CR:CodeK K c1 tR) (kR:K.lookup tR=none) (hBM:BltM mg s₁.heap)
  (F:∀base:Heap,K.In base->base.Ns mainGlobals mg->BltM mg base->FnOk P w K mg base CX0 k fa fd [x] (kes K tP tR)) (hbind:∀(s:Shared)(u:Value),BindsTo s fd ⟨[u],[]⟩ [(x,u)]):
  codeAny (model P w) callerA (.call (.ref fa) ⟨[.ref a],[]⟩) (fun r s'=>r=.ok (.ret (.bool true))/\OldK s₁.heap s'.heap/\s'.os=s₁.os/\AllBare s'.gens) s₁:=by
 have rv:=kgj hi
 have lenV:=hi.length
 have hlz:ns.length<=sizeLine:=Nx hl (by decide)
 have nTa:tP≠a:=fun e=>by
  rw[e,ha] at hT
  have:=Option.some.inj hT
  injection this with z
  cases z
 have nRa:tR≠a:=fun e=>by
  rw[e,ha] at hR
  have:=Option.some.inj hR
  injection this with z
  cases z
 have core:∀H:Hp,SqL K H a (ns.map V.int)->HOk P w H s₁.heap->H tP=some (.tbl #[])->H tR=some (.tbl #[])->(∀b,b≠tP->b≠tR->H b=none∨(b=a/\∃o xs,H b=some (.frz o (.lst xs))))->(H a≠none->K.lookup a=none)->
   codeAny (model P w) callerA (.call (.ref fa) ⟨[.ref a],[]⟩) (fun r s'=>r=.ok (.ret (.bool true))/\OldK s₁.heap s'.heap/\s'.os=s₁.os/\AllBare s'.gens) s₁:=by
  intro H hS hok eT eR hO hK
  have base_of:∀{b:Addr}{o:Obj},s₁.heap.get? b=some o->H b=none->(hidT s₁.heap H).get? b=some o:=fun e n=>klk e n
  have noT:∀{b:Addr}{o:Obj},s₁.heap.get? b=some o->o.cls≠.none->(∀us n,o.data≠.seq us n)->H b=none:=fun {b o} e hc hd=>by
   by_cases hbT:b=tP
   ·rw[hbT,hT] at e
    cases e
    exact absurd rfl hc
   by_cases hbR:b=tR
   ·rw[hbR,hR] at e
    cases e
    exact absurd rfl hc
   ·rcases hO b hbT hbR with z|⟨z,_⟩
    ·exact z
    ·rw[z,ha] at e
     cases e
     exact absurd rfl (hd _ _)
  have noA:∀{b:Addr}{o:Obj}{es:Array DictEntry}{ep:Nat},s₁.heap.get? b=some o->o.data=.dict es ep->H b=none:=fun {b o es ep} e d=>by
   by_cases hbT:b=tP
   ·rw[hbT,hT] at e
    cases e
    cases d
   by_cases hbR:b=tR
   ·rw[hbR,hR] at e
    cases e
    cases d
   ·rcases hO b hbT hbR with z|⟨z,_⟩
    ·exact z
    ·rw[z,ha] at e
     cases e
     cases d
  have nsK:∀{b:Addr}{m:Str->Option Value},s₁.heap.Ns b m->(hidT s₁.heap H).Ns b m:=fun {b m} ⟨o,es,ep,e,d,r⟩=>⟨o,es,ep,base_of e (noA e d),d,r⟩
  have hKb:K.In (hidT s₁.heap H):=fun b o e=>base_of (KX b o e) (by
   by_cases hbT:b=tP
   ·rw[hbT,kT] at e
    cases e
   by_cases hbR:b=tR
   ·rw[hbR,kR] at e
    cases e
   ·rcases hO b hbT hbR with z|⟨z,o',xs,z2⟩
    ·exact z
    ·subst z
     rw[hK (by rw[z2];simp)] at e
     cases e)
  have hM:Mod K mg (hidT s₁.heap H):=⟨hKb,nsK hns,⟨mb,nsK hb,hbb⟩,let⟨mc,h1,h2⟩:=hlim;⟨mc,nsK h1,h2⟩⟩
  have hBb:BltM mg (hidT s₁.heap H):=by
   obtain⟨bm,ob,b1,b2,b3,b4,b5,b6⟩:=hBM
   exact⟨bm,ob,b1,b2,base_of b3 (noT b3 (by rw[b4];intro z;cases z) (fun us n z=>by rw[b6] at z;cases z)),b4,b5,b6⟩
  have e0:Env0 P w K mg (hidT s₁.heap H) callerA [] s₁ H:=⟨rfl,hM,fun b o e=>kmF e,Ey (kke _ _),trivial,fun b hb=>absurd (show b∈([]:List Addr) from hb) (by simp),hok, .of_eq hg⟩
  have hsp:kes K tP tR [.ref a] H (fun v _=>v=.bl true) fun _ _ _=>False:=⟨a,ns,rfl,hS,hl,⟨#[],eT,by trivial,fun pos c e=>by cases e⟩,⟨#[],eR,by trivial,fun pos c e=>by cases e⟩,fun _=>rfl⟩
  refine codeAny_mono ((F _ hKb (nsK hns) hBb).run callerA [] s₁ H ⟨[.ref a],[]⟩ [.ref a] [.ref a] _ _ hr e0 (hbind s₁ (.ref a)) (.cons rfl .nil) hsp) fun r s' h=>?_
  cases r with
  |error e=>exact(show False from h).elim
  | ok fl=>
   cases fl with
   |next=>exact False.elim h
   |brk=>exact False.elim h
   |cont=>exact False.elim h
   | ret u=>
    obtain⟨v,H',os,bare,un,hok',r',q⟩:=h
    have q':v=.bl true:=q
    subst q'
    obtain rfl:u=Value.bool true:=r'
    have kp:∀b o,b≠tP->b≠tR->s₁.heap.get? b=some o->s'.heap.get? b=some o:=fun b o hbT hbR e=>by
     rcases hO b hbT hbR with z|⟨z,o',xs,z2⟩
     ·exact un.keep b o e z (fun z=>absurd (show b∈([]:List Addr) from z) (by simp)) (by simp)
     ·have z3:=un.frzs b o' _ z2
      obtain⟨e1,_⟩:=hok b _ z2
      obtain⟨e2,_⟩:=hok' b _ z3
      rw[e] at e1
      cases e1
      exact e2
    obtain⟨more,eM⟩:=un.tbls tP #[] eT
    have tM:s'.heap.get? tP=some (Ea (#[]++more)):=(show ObjOk P w H' s'.heap tP (.tbl (#[]++more)) from hok' tP _ eM)
    obtain⟨mor2,eM2⟩:=un.tbls tR #[] eR
    have tM2:s'.heap.get? tR=some (Ea (#[]++mor2)):=(show ObjOk P w H' s'.heap tR (.tbl (#[]++mor2)) from hok' tR _ eM2)
    refine⟨rfl,⟨fun b o e=>?_,fun b o e=>?_⟩,os,bare⟩
    ·by_cases hbT:b=tP
     ·subst hbT
      rw[hT] at e
      cases e
      obtain⟨oc,us,_,_,_,_,_,_,_,b1,c2,c3,c4,_⟩:=CK
      exact .inr (.inl ⟨⟨c0,oc,us,KX _ _ b1,c2,c3,c4⟩,rfl,#[],more,rfl,tM⟩)
     by_cases hbR:b=tR
     ·subst hbR
      rw[hR] at e
      cases e
      obtain⟨oc,us,_,_,_,_,_,_,_,d1,d2,d3,d4,_⟩:=CR
      exact .inr (.inl ⟨⟨c1,oc,us,KX _ _ d1,d2,d3,d4⟩,rfl,#[],mor2,rfl,tM2⟩)
     ·exact .inl (kp b o hbT hbR e)
    ·by_cases hbT:b=tP
     ·subst hbT
      exact⟨_,tM⟩
     by_cases hbR:b=tR
     ·subst hbR
      exact⟨_,tM2⟩
     ·exact⟨o,kp b o hbT hbR e⟩
 cases hk:K.lookup a with
 | some o=>
  have e:=KX a o hk
  rw[ha] at e
  cases e
  refine core (fun b=>if b=tP∨b=tR then some (.tbl #[]) else none) (.inr ⟨_,vs.toArray,_,hk,rfl,rfl,rfl,by rw[NP,lenV];exact hlz,by simpa using rv⟩) (fun b u z=>?_) (if_pos (.inl rfl)) (if_pos (.inr rfl)) (fun b hbT hbR=>.inl (if_neg fun z=>z.elim hbT hbR)) fun z=>absurd (if_neg fun z=>z.elim nTa.symm nRa.symm) z
  by_cases hbT:b=tP∨b=tR
  ·have z':=(if_pos hbT).symm.trans z
   cases z'
   rcases hbT with h|h <;> subst h
   ·exact(show s₁.heap.get? b=some _ from hT)
   ·exact(show s₁.heap.get? b=some _ from hR)
  ·have z':=(if_neg hbT).symm.trans z
   cases z'
 | none=>
  refine core (fun b=>if b=tP∨b=tR then some (.tbl #[]) else if b=a then some (.frz {cls:=.type "list",data:=.seq vs.toArray} (.lst (ns.map V.int))) else none) (.inl (.inr ⟨{cls:=.type "list",data:=.seq vs.toArray},by show(if a=tP∨a=tR then _ else _)=_;rw[if_neg fun z=>z.elim nTa.symm nRa.symm,if_pos rfl]⟩)) (fun b u z=>?_) (if_pos (.inl rfl)) (if_pos (.inr rfl)) (fun b hbT hbR=>?_) fun _=>hk
  ·by_cases hbT:b=tP∨b=tR
   ·have z':=(if_pos hbT).symm.trans z
    cases z'
    rcases hbT with h|h <;> subst h
    ·exact(show s₁.heap.get? b=some _ from hT)
    ·exact(show s₁.heap.get? b=some _ from hR)
   ·have z1:=(if_neg hbT).symm.trans z
    by_cases hb2:b=a
    ·have z':=(if_pos hb2).symm.trans z1
     cases z'
     subst hb2
     exact⟨ha,by rw[Nq];exact hlz,vs,_,rv,ha⟩
    ·have z':=(if_neg hb2).symm.trans z1
     cases z'
  ·have hbT':¬(b=tP∨b=tR):=fun z=>z.elim hbT hbR
   by_cases hb2:b=a
   ·exact .inr ⟨hb2,_,_,by show(if b=tP∨b=tR then _ else _)=_;rw[if_neg hbT',if_pos hb2]⟩
   ·exact .inl (by show(if b=tP∨b=tR then _ else _)=_;rw[if_neg hbT',if_neg hb2])
theorem walkT2_of{l:PySem.W.OpenLaw}{k:Nat}{q:Program}{loose:List Str}{XP:(Str->Option Value)->Heap->Prop}{YP:World->Heap->Prop}{d:DefRec}{K:Params->Nr}{ts:List Addr}{x:Str}
  (hn:l.most=some 63) (hdf:d.params.defaults=[]) (hr:Room k callerA) (hY:∀(w:World)(h:Heap),YP w h->(K w.params).In h) (hTs:∀(w:World)(h:Heap),YP w h->∀P∈ts,h.get? P=some (Ea #[]))
  (F:∀(w:World)(mg:Str->Option Value)(fa:Addr)(h:Heap),(K w.params).In h->h.Ns mainGlobals mg->mg d.name=some (.ref fa)->
   ∃(fd:FuncData)(tP c0 tR c1:Addr),tP∈ts/\CodeK (K w.params) c0 tP/\(K w.params).lookup tP=none/\tR∈ts/\CodeK (K w.params) c1 tR/\(K w.params).lookup tR=none/\(∀(s:Shared)(u:Value),BindsTo s fd ⟨[u],[]⟩ [(x,u)])/\
    ∀base:Heap,(K w.params).In base->base.Ns mainGlobals mg->BltM mg base->FnOk l.prog w (K w.params) mg base CX0 k fa fd [x] (kes (K w.params) tP tR)):
  PySem.W.WalkO q loose XP YP l.row.toRowW d [] (fun f vs=>PySem.call f vs):=by
 refine Att.attach_call hn hdf fun w s₀ s₁ mg mb fa o pm cd doc a vs ns G Y ho hd hcd hmg hobj hints hlen hg=>?_
 have KX:=hY w _ Y
 obtain⟨fd,tP,c0,tR,c1,hm,CK,kT,hm2,CR,kR,hb,hF⟩:=F w mg fa _ KX G.T.g hmg
 obtain⟨bm,ob,b1,b2,b3,b4,b5,b6⟩:=G.T.bmain
 exact kiZ KX G.T.g G.T.b G.T.builtins G.T.nolimit hg hobj hints hlen hr (hTs w _ Y tP hm) CK kT (hTs w _ Y tR hm2) CR kR ⟨bm,ob,b1,b2,b3,b4,b5,b6⟩ hF hb
end L2
namespace L2
open PySem PySem.Spec PyProof.Rows
def nd1(x:Str):([x]:List Str).Nodup:=by simp
def But(x:Addr)(H H':Hp):Prop:=∀b o,b≠x->H b=some o->Ev H H' b o
def But.trans{x:Addr}{H H1 H2:Hp}(a:But x H H1)(b:But x H1 H2):But x H H2:=fun c o n h=>kbD (a c o n h) fun o' e=>b c o' n e
def But.same{x:Addr}{H H1 H2:Hp}(a:But x H H1)(b:Same H1 H2):But x H H2:=fun c o n h=>kbD (a c o n h) fun o' e=>b c o' e
def But.of_same{x:Addr}{H H1:Hp}(b:Same H H1):But x H H1:=fun c o _ h=>b c o h
def But.refl{x:Addr}{H:Hp}:But x H H:=fun b o _ h=>Same.refl H b o h
noncomputable def kav{x:Addr}{H:Hp}{o:HO}(hx:NX H x:=by first|exact nx kad|exact nx (by assumption)|exact nx0 (by assumption)|exact kc5 (nx kad) rfl|exact kc5 (nx (by assumption)) rfl):But x H (upd H x o):=fun b u n e=>ev_eq (by rw[kaj n];exact e) fun t=>kdk t n hx
noncomputable def kam{H:Hp}{p:Addr}{o:HO}(hp:H p=none):Same H (upd H p o):=fun b u e=>ev_eq (by rw[kaj (kah e hp)];exact e) fun t=>kdk t (kah e hp) (nx0 hp)
noncomputable def kaq{H H':Hp}{p:Addr}{o:HO}(hp:H p=none)(s:Same H H')(hx:NX H' p:=by first|exact nx (by assumption)|exact nx kad|exact kc5 (nx (by assumption)) rfl|exact kc5 (nx kad) rfl|exact kc5 (nx0 (by assumption)) rfl|exact kc5 (kc5 (nx (by assumption)) rfl) rfl):Same H (upd H' p o):=fun b u e=>
 kbD (s b u e) fun u' e'=>ev_eq (by rw[kaj (kah e hp)];exact e') fun t=>kdk t (kah e hp) hx
noncomputable def kbd{H:Hp}{x dx C:Addr}(hx:H x=none)(nd:H dx=none):Same H (upd (upd H dx (.own x)) x (.ins C dx [])):=fun b u e=>by
 have n1:=kah e hx
 have n2:=kah e nd
 exact ev_eq (by rw[kaj n1,kaj n2];exact e) fun t=>kdk (kdk t n2 (nx0 nd)) n1 (kc5 (nx0 hx) rfl)
noncomputable def kbG{H H':Hp}{x dx C:Addr}(hx:H x=none)(nd:H dx=none)(k:But x (upd (upd H dx (.own x)) x (.ins C dx [])) H'):Same H H':=fun b o e=>kbD (kbd (C:=C) hx nd b o e) fun o' e'=>k b o' (kah e hx) e'
noncomputable def kdx{H:Hp}{x dx C y:Addr}(h:(upd (upd H dx (.own x)) x (.ins C dx [])) y=none):H y=none:=by
 by_cases e1:y=x
 ·subst e1
  rw[kad] at h
  cases h
 ·rw[kaj e1] at h
  by_cases e2:y=dx
  ·subst e2
   rw[kad] at h
   cases h
  ·rw[kaj e2] at h
   exact h
noncomputable def kgP{H:Hp}{x dx C y:Addr}{o:HO}(nx:H x=none)(nd:H dx=none)(h:H y=some o):(upd (upd H dx (.own x)) x (.ins C dx [])) y=some o:=by
 rw[kaj (kah h nx),kaj (kah h nd)]
 exact h
theorem kal{f:Str}{v:V}:∀{fs:List (Str×V)}{n:Nat},fs.length<=n->(putF f v fs).length<=n+1
 |[],n,_=>by
  show 1<=n+1
  omega
 | (g,x)::r,n,h=>by
  show(if g=f then(g,v)::r else(g,x)::putF f v r).length<=n+1
  have h':r.length+1<=n:=h
  split
  ·show r.length+1<=n+1
   omega
  ·show(putF f v r).length+1<=n+1
   have:=kal (f:=f) (v:=v) (fs:=r) (n:=n-1) (by omega)
   omega
def few{fs:List (Str×V)}(h:fs.length<=20):fs.length<1000:=by omega
theorem int_at{ns:List Int}{i:Nat}{x:V}(h:(ns.map V.int)[i]?=some x):∃z,ns[i]?=some z/\x=V.int z:=by
 rw[Nz] at h
 cases e:ns[i]? with
 |none=>rw[e] at h;cases h
 |some z=>rw[e] at h;exact⟨z,rfl,(Option.some.inj h).symm⟩
theorem kbR{ns:List Addr}{i:Nat}{x:V}(h:(ns.map V.ref)[i]?=some x):∃z,ns[i]?=some z/\x=V.ref z:=by
 rw[Nz] at h
 cases e:ns[i]? with
 |none=>rw[e] at h;cases h
 |some z=>rw[e] at h;exact⟨z,rfl,(Option.some.inj h).symm⟩
theorem kbo{α:Type}{g: α->V}{ns:List α}{i:Nat}{x:V}(h:(ns.map g)[i]?=some x):∃z,ns[i]?=some z/\x=g z:=by
 rw[Nz] at h
 cases e:ns[i]? with
 |none=>rw[e] at h;cases h
 |some z=>rw[e] at h;exact⟨z,rfl,(Option.some.inj h).symm⟩
def at_lt{α:Type}{xs:List α}{i:Nat}{x: α}(h:xs[i]?=some x):i<xs.length:=(NF.mp h).1
def at_of{α:Type}{xs:List α}{i:Nat}(h:i<xs.length):∃x,xs[i]?=some x:=⟨xs[i],by simp[h]⟩
def kbW{α:Type}{rs:List α}{i:Nat}{r: α}(h:rs[i]?=some r):rs.take (i+1)=rs.take i++[r]:=by
 rw[ME,h]
 rfl
inductive P2 {α β:Type} (R: α->β->Prop):List α->List β->Prop
 |nil:P2 R [] []
 |cons {a: α} {b: β} {as:List α} {bs:List β} (h:R a b) (t:P2 R as bs):P2 R (a::as) (b::bs)
section
variable {α β:Type} {R R': α->β->Prop} {as as':List α} {bs bs':List β}
theorem P2.of(hl:as.length=bs.length)(h:∀(i:Nat)(a: α)(b: β),as[i]?=some a->bs[i]?=some b->R a b):P2 R as bs:=by
 induction as generalizing bs with
 |nil=>
  cases bs with
  |nil=>exact .nil
  |cons b bs=>cases hl
 |cons a as ih=>
  cases bs with
  |nil=>cases hl
  |cons b bs=>exact .cons (h 0 a b rfl rfl) (ih (by simpa using hl) fun i x y e1 e2=>h (i+1) x y (by simpa using e1) (by simpa using e2))
theorem P2.len(h:P2 R as bs):as.length=bs.length:=by
 induction h with
 |nil=>rfl
 |cons r t ih=>simp[ih]
theorem P2.get(h:P2 R as bs){i:Nat}{a: α}{b: β}(e1:as[i]?=some a)(e2:bs[i]?=some b):R a b:=by
 induction h generalizing i with
 |nil=>simp at e1
 | cons r t ih=>
  cases i with
  |zero=>
   simp at e1 e2
   subst e1 e2
   exact r
  |succ i=>exact ih (by simpa using e1) (by simpa using e2)
theorem P2.at(h:P2 R as bs){i:Nat}{a: α}(e1:as[i]?=some a):∃b,bs[i]?=some b/\R a b:=by
 obtain⟨b,e2⟩:=at_of (xs:=bs) (i:=i) (by rw[<-h.len];exact at_lt e1)
 exact⟨b,e2,h.get e1 e2⟩
theorem P2.mono(h:P2 R as bs)(k:∀a b,R a b->R' a b):P2 R' as bs:=by
 induction h with
 |nil=>exact .nil
 |cons r t ih=>exact .cons (k _ _ r) ih
theorem P2.append(h:P2 R as bs)(h':P2 R as' bs'):P2 R (as++as') (bs++bs'):=by
 induction h with
 |nil=>exact h'
 |cons r t ih=>exact .cons r ih
theorem P2.snoc(h:P2 R as bs){a: α}{b: β}(r:R a b):P2 R (as++[a]) (bs++[b]):=h.append (.cons r .nil)
theorem P2.take(h:P2 R as bs)(k:Nat):P2 R (as.take k) (bs.take k):=by
 induction h generalizing k with
 |nil=>simpa using P2.nil
 |cons r t ih=>
  cases k with
  |zero=>exact .nil
  |succ k=>exact .cons r (ih k)
theorem P2.drop(h:P2 R as bs)(k:Nat):P2 R (as.drop k) (bs.drop k):=by
 induction h generalizing k with
 |nil=>simpa using P2.nil
 |cons r t ih=>
  cases k with
  |zero=>exact .cons r t
  |succ k=>exact ih k
theorem P2.reverse(h:P2 R as bs):P2 R as.reverse bs.reverse:=by
 induction h with
 |nil=>exact .nil
 |cons r t ih=>
  rw[EA,EA]
  exact ih.append (.cons r .nil)
end
theorem rep1(n:Nat)(v:V):(Nu n [v]).flatten=Nu n v:=by
 induction n with
 |zero=>rfl
 |succ n ih=>rw[MA,N4,ih,MA];rfl
def keA(n:Nat)(z:Int):Nu n (V.int z)=(Nu n z).map V.int:=by simp
def kj1(k:Int):(!decide (V.int k=V.non))=true:=by simp
def kj0:(!decide (V.non=V.non))=false:=by simp
def oV:Option Int->V
 |none=>.non
 |some z=>.int z
structure TxtB (mg:Str->Option Value):Prop where
 range:mg "range"=none
 len:mg "len"=none
 min:mg "min"=none
 max:mg "max"=none
 isi:mg "isinstance"=none
 bool:mg "bool"=none
 int:mg "int"=none
 list:mg "list"=none
 sum:mg "sum"=none
 enum:mg "enumerate"=none
 any:mg "any"=none
 all:mg "all"=none
 rev:mg "reversed"=none
 zip:mg "zip"=none
 abs:mg "abs"=none
 sorted:mg "sorted"=none
 tuple:mg "tuple"=none
 str:mg "str"=none
structure FunD (K:Nr) (x qual:Str) (st:Stmt) (f:Addr) (fd:FuncData):Prop where
 ex:∃(oc:Value)(od:Option Addr)(dV kV doc pm:Value)(an:Option Addr)(cdv ct:Value)(osl:Array (Option Value)),
  fd=NI x qual (kaD st) (kaB st) (kag st) dV kV doc pm an cdv ct/\K.lookup f=some ⟨oc,od, .func fd,osl⟩/\N3 K cdv qual=true
 kp:NH K (.ref f)=true
theorem FunD.ok{P:Program}{w:World}{K:Nr}{mg:Str->Option Value}{base:Heap}{x qual:Str}{st:Stmt}{f:Addr}{fd:FuncData}{N ps:List Str}{k:Nat}{sp:Sp}(F:FunD K x qual st f fd)(S:kao N ps (kag st))(len:∀vs H Q E,sp vs H Q E->vs.length=ps.length)
  (hbody:∀(cdv:Value)(A:Around)(outer:List Env)(s:Shared)(H:Hp)(vs:List V)(Q:VK)(E:XK),Room k (A.deeper (PyProof.Rows.envOfC qual (kag st) s.heap.objs.size f cdv))->sp vs H Q E->
   ∃t,PSs (cxOf CX0 P w K mg base N qual (kag st) f cdv A outer s H E).nox (kaB st) t/\t {nx:=fun _ H'=>Q .non H',rt:=Q} (start N vs) H):FnOk P w K mg base CX0 (k+1) f fd ps sp:=by
 obtain⟨oc,od,dV,kV,doc,pm,an,cdv,ct,osl,rfl,lk,hcd⟩:=F.ex
 refine fn_of lk hcd S len fun A outer s H vs Q E hr hsp=>?_
 obtain⟨t,h,q⟩:=hbody cdv A outer s H vs Q E hr hsp
 exact⟨t,h.nox,q⟩
theorem FunD.okC{P:Program}{w:World}{K:Nr}{mg:Str->Option Value}{base:Heap}{x qual:Str}{st:Stmt}{f:Addr}{fd:FuncData}{N ps:List Str}{k:Nat}{sp:Sp}(F:FunD K x qual st f fd)(S:kao N ps (kag st))(len:∀vs H Q E,sp vs H Q E->vs.length=ps.length)
  (hbody:∀(A:Around)(outer:List Env)(s:Shared)(H:Hp)(vs:List V)(Q:VK)(E:XK),Room k (A.deeper (PyProof.Rows.envOfC qual (kag st) s.heap.objs.size f fd.code))->sp vs H Q E->
   ∃t,PSs (cxOf CX0 P w K mg base N qual (kag st) f fd.code A outer s H E).nox (kaB st) t/\t {nx:=fun _ H'=>Q .non H',rt:=Q} (start N vs) H):FnOk P w K mg base CX0 (k+1) f fd ps sp:=by
 obtain⟨oc,od,dV,kV,doc,pm,an,cdv,ct,osl,rfl,lk,hcd⟩:=F.ex
 refine fn_of lk hcd S len fun A outer s H vs Q E hr hsp=>?_
 obtain⟨t,h,q⟩:=hbody A outer s H vs Q E hr hsp
 exact⟨t,h.nox,q⟩
theorem kbm{K:Nr}{x qual:Str}{st:Stmt}{f:Addr}{oc:Value}{od an:Option Addr}{osl:Array (Option Value)}{dV kV doc pm cdv ct:Value}(l:K.lookup f=some ⟨oc,od, .func (NI x qual (kaD st) (kaB st) (kag st) dV kV doc pm an cdv ct),osl⟩)
  (c:N3 K cdv qual=true) (k:NH K (.ref f)=true):FunD K x qual st f (NI x qual (kaD st) (kaB st) (kag st) dV kV doc pm an cdv ct):=⟨⟨oc,od,dV,kV,doc,pm,an,cdv,ct,osl,rfl,l,c⟩,k⟩
structure Dn (K:Nr) (mg:Str->Option Value) (x:Str) (st:Stmt) (ps:List Str) (f:Addr) (fd:FuncData):Prop where
 F:FunD K x x st f fd
 b:Binds K fd ps []
 m:mg x=some (.ref f)
structure Isi (K:Nr) (C:Addr):Prop where
 ha:Nv K (.ref C) "__class__"=some (some (.builtin "object.__class__"))
 hn:Ee K (.builtin "object.__class__") "__get__"=some (some (.builtin "getset_descriptor.__get__"))
 ht:E6 K (.builtin "object.__class__")=some true
 hm:NA K C (.type "object")=some true
noncomputable def kaO{K:Nr}{A B:Addr}{b:Bool}(mA:NA K A (.ref B)=some b)(ob:NA K B (.type "object")=some true)(ty:N9 K (.ref B)=some (.type "type"))(ne:A≠B):NN K (.ref A) (.ref B)=some b:=by
 have e:(Value.ref A==Value.ref B)=false:=beq_eq_false_iff_ne.mpr fun z=>ne (by injection z)
 obtain⟨cd,a,_⟩:=Option.bind_eq_some_iff.mp ob
 unfold NN PySem.W.kitCls PySem.W.subIn
 rw[e,if_neg NB]
 show(if((PySem.W.clsIn K B).isSome&&N9 K (.ref B)==some (.type "type"))=true then NA K A (.ref B) else none)=some b
 rw[a,ty,mA,if_pos (by simp)]
def kbp{K:Nr}{A B:Addr}(h:NA K A (.ref B)=some false)(hA:NA K A (.ref A)=some true):A≠B:=fun e=>by
 rw[<-e,hA] at h
 cases h
structure ClsT (K:Nr) (mg:Str->Option Value) (nm:Str) (C:Addr):Prop where
 cl:Cls K C
 m:mg nm=some (.ref C)
 isi:Isi K C
 self:NA K C (.ref C)=some true
 ty:N9 K (.ref C)=some (.type "type")
 makes:Mc K C=true
 kp:NH K (.ref C)=true
structure MthT (K:Nr) (C:Addr) (m qual:Str) (st:Stmt) (ps:List Str) (f:Addr) (fd:FuncData):Prop where
 at_:Nv K (.ref C) m=some (some (.ref f))
 fn:Me K (.ref f)=true
 F:FunD K m qual st f fd
 b:Binds K fd ps []
noncomputable def MthT.me{K:Nr}{C:Addr}{m qual:Str}{st:Stmt}{ps:List Str}{f:Addr}{fd:FuncData}(h:MthT K C m qual st ps f fd):Meth K C m f:=⟨h.at_,h.fn,h.F.kp⟩
noncomputable def MthT.mk'{K:Nr}{mg:Str->Option Value}{C:Addr}{nm qual:Str}{st:Stmt}{ps:List Str}{f:Addr}{fd:FuncData}(h:MthT K C "__init__" qual st ps f fd)(c:ClsT K mg nm C):Mk K C f:=⟨c.makes,h.at_,h.fn,c.kp⟩
end L2
namespace L2
open PySem PySem.Spec PyProof.Rows
section
variable {X:Cx}
theorem pcl{k:Nat}{f:Addr}{fd:FuncData}{ps:List Str}{sp:Sp}{x:Str}{st:Stmt}{e:Expr}{es:List Expr}{t:TA}{p pos:Pos}(F:FnOk X.prog X.w X.K X.mg X.base CX0 k f fd ps sp)(hr:Room k X.A)(D:Dn X.K X.mg x st ps f fd)(ha:PA X (e::es) t)
  (hg:Gl X x:=by rfl) (hdb:(x==("__debug__" :Str))=false:=by decide) (he:starEach (e::es) X.env=(false,eval e X.env)::starEach es X.env:=by rfl) (hpl:(backTo pos (starEach es X.env)).any (·.1)=false:=by rfl):
  PE X (.Call (.Name x p) (e::es) [] pos) (tCall sp [] E0 t):=khz F hr hg D.m D.F.kp D.b .nil pass0 ha hdb he hpl
theorem psl{i:Nat}{x:Str}{e:Expr}{te:TE}{pos pos':Pos}(hN:X.N.Nodup)(he:PE X e te)(hi:X.N[i]?=some x:=by rfl)(hx:Loc X.env.scope x:=by first|exact Or.inl rfl|exact Or.inr rfl)(hs:swapsWith e (some (.Name x pos')) pos.line X.env=pure false:=by rfl)(hf:X.fn x=true∨X.env.scope.names.lookup x=some .local:=by first|exact .inl rfl|exact .inr rfl|assumption):
  PS X (.Assign [.Name x pos'] e pos) (tAsg te (gName i)):=knb hN hi hx he hs hf
theorem pgn{i:Nat}{x:Str}{pos:Pos}(hN:X.N.Nodup)(hi:X.N[i]?=some x:=by rfl)(hx:Loc X.env.scope x:=by first|exact Or.inl rfl|exact Or.inr rfl)(hf:X.fn x=true∨X.env.scope.names.lookup x=some .local:=by first|exact .inl rfl|exact .inr rfl|assumption):PG X (.Name x pos) (gName i):=kmy hN hi hx hf
end
end L2
namespace L2
open PySem PySem.Spec PyProof.Rows
section
variable {X:Cx}
end
end L2
namespace L2
open PySem PySem.Spec PyProof.Rows
section
variable {X:Cx}
theorem kiL{ss:List Str}:∀{us:List Value},Vals (ss.map V.str) us->StrsAre us ss:=by
 induction ss with
 |nil=>intro us r;rw[MI] at r;cases r;exact .nil
 | cons n ss ih=>
  intro us r
  rw[NJ] at r
  cases r with
  |cons h t=>
   obtain⟨tk,rfl⟩:=h
   exact .cons _ _ (ih t)
noncomputable def rJoin(K:Nr):V->List V->Hp->VK->Prop:=fun x vs H Q=>∃(sep:Str)(p:Addr)(ss:List Str),x=.str sep/\vs=[.ref p]/\SqL K H p (ss.map V.str)/\(ss.map (·.length)).sum+ss.length*sep.length<=16777216/\Q (.str (PySem.Txt.join sep ss)) H
theorem kmH:MtM X "str.join" (rJoin X.K):=by
 intro pins s σ H x vs v us Q I rx rv h
 obtain⟨sep,p,ss,rfl,rfl,hq,hlen,q⟩:=h
 obtain⟨tk,rfl⟩:=rx
 obtain⟨u,rfl,ru⟩:=rv.one
 cases ru
 obtain⟨its,r',pl,hz⟩:=I.list hq
 exact join_list pl.isList (kiL r') hlen fun t' k=>⟨.str _,H,I.tok k,⟨t',rfl⟩,q⟩
end
end L2
namespace L2
open PySem PySem.Spec PyProof.Rows
abbrev Fz(a:Addr)(o:Obj):HO:=.frz o (.own a)
def unt(c:Addr)(H:Hp):Hp:=fun a=>if a=c then none else H a
def keo{c:Addr}{H:Hp}:unt c H c=none:=if_pos rfl
def ka6{c a:Addr}{H:Hp}(n:a≠c):unt c H a=H a:=if_neg n
noncomputable def kkO{c a:Addr}{H:Hp}{o:HO}(h:unt c H a=some o):a≠c/\H a=some o:=by
 by_cases e:a=c
 ·rw[e,keo] at h
  cases h
 ·rw[ka6 e] at h
  exact⟨e,h⟩
section
variable {P:Program} {w:World} {H:Hp} {h:Heap} {c:Addr} {o:Obj}
theorem HOk.unt(x:HOk P w H h)(hc:H c=some (Fz c o)):HOk P w (unt c H) h:=fun b u e=>by
 obtain⟨n,e⟩:=kkO e
 refine(x b u e).stay (fun _ _ _ q=>q) (fun d r=>?_) fun d xs r=>?_
 ·rw[ka6 (ne_of r hc (by intro z;cases z))]
  exact r
 ·rw[ka6 (ne_of r hc (by intro z;cases z))]
  exact r
theorem HOk.fz(x:HOk P w H h)(hn:H c=none)(ho:h.get? c=some o):HOk P w (upd H c (Fz c o)) h:=fun b u e=>by
 by_cases hb:b=c
 ·subst hb
  rw[kad] at e
  cases e
  exact⟨ho,o,ho⟩
 ·rw[kaj hb] at e
  refine(x b u e).stay (fun _ _ _ q=>q) (fun d r=>?_) fun d xs r=>?_
  ·rw[kaj (kah r hn)]
   exact r
  ·rw[kaj (kah r hn)]
   exact r
theorem HOk.fz_at(x:HOk P w H h)(hc:H c=some (Fz c o)):h.get? c=some o:=(show ObjOk P w H h c (Fz c o) from x c _ hc).1
end
structure LamS (scope:Scope) (x y:Str):Prop where
 kind:scope.kind=.function
 par:scope.names.lookup x=some .local
 fre:scope.names.lookup y=some .free
 only:∀p∈scope.names,p.2=.free->p.1=y
 nocell:∀p∈scope.names,p.2≠.cell
 co:scope.isCoroutine=false
 gen:scope.isGenerator=false
structure Clo (cl:List (Str×Addr)) (y:Str) (c:Addr):Prop where
 at_:cl.lookup y=some c
 only:∀z a,cl.lookup z=some a->z=y/\a=c
abbrev envM(qual:Str)(scope:Scope)(cl:List (Str×Addr))(f cc:Addr)(s:Shared):Env:=PySem.W.envX qual scope s.heap.objs.size f (.ref cc) cl
noncomputable def cxM(P:Program)(w:World)(K:Nr)(mg:Str->Option Value)(base:Heap)(N:List Str)(qual:Str)(scope:Scope)(cl:List (Str×Addr))(f cc:Addr)(A:Around)(outer:List Env)(s:Shared)(H:Hp):Cx where
 prog:=P
 w:=w
 K:=K
 mg:=mg
 base:=base
 A:=A.deeper (envM qual scope cl f cc s)
 N:=N
 s₀:=s
 H₀:=H
 env:=envM qual scope cl f cc s
 outer:=outer
 stack:=envM qual scope cl f cc s::outer
 ex:=[]
 calm:=true
 fn:=fun _=>false
 pn:=[]
 xe:=fun _ _=>False
noncomputable def spLam(f c cc:Addr)(fo co:Obj)(qual:Str)(vy:V)(te:TE):Sp:=fun vs H Q _=>∃v,vs=[v]/\H f=some (Fz f fo)/\H c=some (Fz c co)/\H cc=some (CodeO cc qual)/\te [some v,some vy] (unt c H) fun v' H'=>H' c=none->Q v' (upd H' c (Fz c co))
section
variable {P:Program} {w:World} {K:Nr} {mg:Str->Option Value} {base:Heap} {k:Nat} {f c cc:Addr} {fo co:Obj} {scope:Scope} {x y:Str} {name qual:Str} {params:Arguments} {body:Expr} {cl:List (Str×Addr)} {pm ctv uy:Value} {vy:V} {te:TE}
theorem kli{A:Around}{outer:List Env}{s:Shared}{H:Hp}{v:V}{u:Value}{h1:Heap}{t:Nat}(S:LamS scope x y)(C:Clo cl y c)(e0:Env0 P w K mg base A outer s H)(hd:A.handled=none)(ho:s.heap.get? c=some co)(hco:co.data=.cell (some uy))(ry:RelV vy uy)(hc:H c=some (Fz c co))(r:RelV v u)
  (hns:h1.Ns s.heap.objs.size fun z=>[(x,u)].reverse.lookup z) (hk:∀b o,s.heap.get? b=some o->h1.get? b=some o):
  Inv (cxM P w K mg base [x,y] qual scope cl f cc A outer s (unt c H)) [] [some v,some vy] (unt c H) {s with heap:=h1,toks:=t}:=by
 have noA:∀b:Addr,b∉(cxM P w K mg base [x,y] qual scope cl f cc A outer s (unt c H)).ex:=fun b z=>absurd (show b∈([]:List Addr) from z) (by simp)
 have ul:∀{b:Addr},H b=none->unt c H b=none:=fun {b} n=>by
  by_cases e:b=c
  ·rw[e];exact keo
  ·rw[ka6 e];exact n
 have cell1:h1.IsCell c (some uy):=⟨co,hk _ _ ho,hco⟩
 refine⟨⟨e0.mod,S.kind,rfl,rfl,Nt _,fun a b d h1 h2=>(C.only a d h1).1.trans (C.only b d h2).1.symm,fun a ha=>?_,fun a d h _=>(show False by cases(show false=true from h)).elim,fun _=>hd,Around.frames_deeper e0.frames, .inr ⟨rfl,rfl⟩,fun b z=>absurd z (noA b),fun b o e=>⟨(e0.bs b o e).1,ul (e0.bs b o e).2⟩,e0.bsz,fun b _ _=>noA b,fun b z=>absurd z (noA b),e0.funs,fun b hb=>ul (e0.frf b hb)⟩,
  rfl,e0.bare,Un.kept hk,⟨_,hns,fun j z w' e1 e2 e3=>?_⟩,fun a d e=>?_,ul (e0.hok.fresh (Nt _)),fun a d e=>?_,fun p hp=>absurd (show p∈([]:List (Addr×Obj)) from hp) (by simp),(e0.hok.unt hc).kept hk,rfl⟩
 ·have ha':scope.names.lookup a=some .cell∨scope.names.lookup a=some .free:=ha
  rcases ha' with q|q
  ·exact absurd rfl (S.nocell _ (PySem.mem_of_lookup q))
  ·have:a=y:=S.only _ (PySem.mem_of_lookup q) rfl
   subst this
   exact⟨c,C.at_⟩
 ·match j with
  |0=>
   have ez:x=z:=Option.some.inj (show some x=some z from e1)
   have ev:v=w':=Option.some.inj (Option.some.inj (show some (some v)=some (some w') from e2))
   subst ez ev
   exact⟨u,r, .inl ⟨S.par,by simp⟩⟩
  |1=>
   have ez:y=z:=Option.some.inj (show some y=some z from e1)
   have ev:vy=w':=Option.some.inj (Option.some.inj (show some (some vy)=some (some w') from e2))
   subst ez ev
   exact⟨uy,ry, .inr ⟨.inr S.fre,c,C.at_,cell1⟩⟩
  |j+2=>simp at e2
 ·rw[(C.only a d e).2]
  exact⟨_,cell1⟩
 ·rw[(C.only a d e).2]
  exact keo
theorem knk(S:LamS scope x y)(C:Clo cl y c)(hfo:fo=MZ name qual params body scope cl pm cc ctv)(hco:co.data=.cell (some uy))(ry:RelV vy uy)
  (he:∀(A:Around)(outer:List Env)(s:Shared)(H:Hp),Room k (A.deeper (envM qual scope cl f cc s))->PE (cxM P w K mg base [x,y] qual scope cl f cc A outer s H) body te):
  FnOk P w K mg base CX0 (k+1) f (Dd name qual params body scope cl pm (.ref cc) ctv) [x] (spLam f c cc fo co qual vy te):=by
 refine⟨fun vs H Q E ⟨v,e,_⟩=>by rw[e];rfl,fun A outer s H args us vs Q E hr e0 hb r hsp=>?_⟩
 obtain⟨v,rfl,hf,hc,hcc,hq⟩:=hsp
 obtain⟨u,rfl,ru⟩:=r.one
 have of:=e0.hok.fz_at hf
 have oc:=e0.hok.fz_at hc
 have hcr:s.heap.CodeRec (.ref cc) qual:=(show ObjOk P w H s.heap cc (CodeO cc qual) from e0.hok cc _ hcc).1
 have lim:s.heap.NoLimit:=e0.mod.nolimit.keeps fun b o e=>(e0.bs b o e).1
 rw[hfo] at of
 refine DE hr.depth of rfl S.co S.gen rfl hcr (hb _ _ _ _ ?_)
 refine wpAny_newFunctionEnv S.nocell (fun z hz=>?_) (fun h1 hns hsb=>⟨lim.fresh _ hsb,?_⟩) S.kind
 ·have:z=(x,u):=by simpa using hz
  rw[this]
  exact S.par
 have hk:∀b o,s.heap.get? b=some o->h1.get? b=some o:=fun b o e=>hsb.extBut b o (NU (Heap.lt_size e)) (Heap.get?_push_of_some _ e)
 have J:=kli (qual:=qual) (f:=f) (cc:=cc) (t:=s.toks+1) S C e0 hr.hd oc hco ry hc ru hns hk
 refine DF (wpAny_mono (he A outer s (unt c H) (hr.deeper _) [] _ _ _ _ J hq) (fun w' s' hw=>?_) fun _ _ z=>z.elim)
 obtain⟨v',H',J',rv,qv⟩:=hw
 have fc:H' c=none:=J'.base.free c co oc keo (by intro z;cases z)
 have nst:c∉frs outer:=fun z=>by
  have:=e0.frf c z
  rw[hc] at this
  cases this
 have oc':s'.heap.get? c=some co:=J'.base.keep c co oc keo nst (by intro z;cases z)
 have un:=J'.base
 have un0:∀{b:Addr},H b=none->unt c H b=none:=fun {b} n=>by
  by_cases z:b=c
  ·rw[z]
   exact keo
  ·rw[ka6 z]
   exact n
 have tr:∀{b:Addr}{o:HO},H b=some o->(∀ob,o≠Fz c ob)->b≠c:=fun {b o} e n z=>by
  rw[z,hc] at e
  cases e
  exact n _ rfl
 refine⟨v',upd H' c (Fz c co),J'.os,J'.bare,⟨fun b o e n hb hx=>?_,fun b o e n hb hx=>?_,fun b o e n hx=>?_,fun b o e hx=>un.there b o e hx,fun b xs e=>?_,fun b o u' e=>?_,fun b ps e=>?_⟩,J'.hok.fz fc oc',rv,qv fc⟩
 ·exact un.keep b o e (un0 n) hb hx
 ·exact un.slot b o e (un0 n) hb hx
 ·have z:b≠c:=fun z=>by rw[z,hc] at n;cases n
  rw[kaj z]
  exact un.free b o e (un0 n) hx
 ·have z:=tr e (fun _ z=>by cases z)
  rw[kaj z]
  exact un.tups b xs (by show unt c H b=_;rw[ka6 z];exact e)
 ·by_cases z:b=c
  ·subst z
   rw[hc] at e
   rw[kad,<-e]
  ·rw[kaj z]
   exact un.frzs b o u' (by show unt c H b=_;rw[ka6 z];exact e)
 ·have z:=tr e (fun _ z=>by cases z)
  obtain⟨m,q⟩:=un.tbls b ps (by show unt c H b=_;rw[ka6 z];exact e)
  exact⟨m,by rw[kaj z];exact q⟩
end
section
variable {X:Cx} {scope:Scope} {x y:Str} {N:List Str} {cap:List (Option Nat)} {c0 P:Addr} {params:Arguments} {body:Expr} {lpos:Pos}
noncomputable def tLam(X:Cx)(P:Addr)(scope:Scope)(params:Arguments)(body:Expr)(lpos:Pos):TE:=fun _ H Q=>TbAt P H/\∀(H2:Hp)(f cc:Addr)(pm ctv:Value),Grew P H H2->H f=none->H2 f=none->H2 cc=some (CodeO cc (lamN lpos))->
 Q (.ref f) (upd H2 f (Fz f (MZ "<lambda>" (lamN lpos) params body scope (closL X.env.cells scope.names []) pm cc ctv)))
theorem kng(S:kc1 X scope x N cap)(hcode:X.env.code=.ref c0)(CK:CodeK X.K c0 P)(hB:BltM X.mg X.base)(hq:X.env.qual++ "<lambda>"=lamN lpos:=by rfl)(hdef:defaultsOf params X.env=([],[]):=by rfl):
  PE X (.Lambda params body scope lpos) (tLam X P scope params body lpos):=by
 intro pins s σ H Q I h
 obtain⟨TB,h⟩:=h
 refine kiy S I hcode CK hB TB hq hdef fun s4 H4 f cc pm ctv I4 G ef ff hsf hfr ec=>?_
 obtain⟨q1,q2,q3,q4,q5,q6⟩:=I.fpOk hsf ff
 exact⟨.ref f,_,I4.adopt (a:=f) (o:=Fz f _) ⟨ff,q2,q3,q4,q5,q6⟩ (Nx I.sz hsf) ⟨ef,_,ef⟩,rfl,h H4 f cc pm ctv G (I.hok.fresh hsf) ff ec⟩
noncomputable def km6(X:Cx)(y:Str)(i:Nat)(sp:Sp)(t:TA):TE:=fun σ H Q=>t σ H fun vs H1=>∃vy,σ[i]?=some (some vy)/\∀(c:Addr)(co:Obj)(uy:Value),X.env.cells.lookup y=some c->H1 c=none->co.data=.cell (some uy)->RelV vy uy->
 sp vs (upd H1 c (Fz c co)) (fun v H'=>H' c=some (Fz c co)->Q v (unt c H')) E0
theorem kk3{k i:Nat}{f:Addr}{fd:FuncData}{ps:List Str}{sp:Sp}{x0:Str}{st:Stmt}{e:Expr}{es:List Expr}{t:TA}{p pos:Pos}(F:FnOk X.prog X.w X.K X.mg X.base CX0 k f fd ps sp)(hr:Room k X.A)(D:Dn X.K X.mg x0 st ps f fd)(ha:PA X (e::es) t)
  (hN:X.N[i]?=some y) (hy:X.env.scope.names.lookup y=some .cell) (hfn:X.fn y=true) (hg:Gl X x0:=by rfl) (hdb:(x0==("__debug__" :Str))=false:=by decide) (he:starEach (e::es) X.env=(false,eval e X.env)::starEach es X.env:=by rfl) (hpl:(backTo pos (starEach es X.env)).any (·.1)=false:=by rfl):
  PE X (.Call (.Name x0 p) (e::es) [] pos) (km6 X y i sp t):=by
 intro pins s σ H Q I h
 refine wpAny_Call_Name_kw (keX I hg D.m ?_ hdb)
 refine Ef (h₀:=X.base) I.ok.mod.kin D.F.kp (thn (ha pos pins s σ H _ I h) fun us s1 ⟨vs,H1,I1,r,vy,hv,q⟩=>⟨I1.kIn,?_⟩) he hpl
 obtain⟨m,_,hl⟩:=I1.loc
 obtain⟨uy,ry,lk⟩:=hl i y vy hN hv (.inr (.inl hy))
 obtain⟨c,ec,co,oc,hco⟩:∃c,X.env.cells.lookup y=some c/\s1.heap.IsCell c (some uy):=by
  rcases lk with⟨k1,_⟩|⟨_,c,ec,z⟩
  ·have k1':X.env.scope.names.lookup y=some .local:=k1
   rw[hy] at k1'
   cases k1'
  ·exact⟨c,ec,z⟩
 have hc:=I1.freeC y c ec
 have q2:=q c co uy ec hc hco ry
 have szc:=I1.ok.cab y c hfn ec
 have e0:=I1.env0
 have nlo:c≠X.env.locals:=fun z=>by
  obtain⟨o,es,ep,ho,hd,_⟩:=I1.loc.choose_spec.1
  rw[<-z,oc] at ho
  cases ho
  rw[hd] at hco
  cases hco
 have nfs:c∉X.fs:=fun z=>by
  have:=I1.ok.funs.mem z
  obtain⟨_,o,ho,_⟩:=this
  exact absurd (Heap.lt_size ho) (EC.mpr szc)
 have nfr:c∉frs X.stack:=fun z=>by
  rcases I1.ok.stk with e|⟨e,e2⟩
  ·rw[e] at z
   exact nfs z
  ·rw[e] at z
   unfold frs at z
   rw[Es,e2] at z
   rcases NS.mp z with h1|h1
   ·exact nlo h1
   ·exact nfs h1
 have nbs:∀b o,X.base.get? b=some o->b≠c:=fun b o e z=>by
  have:=Heap.lt_size e
  rw[z] at this
  exact absurd this (EC.mpr (Nx I1.ok.bsz szc))
 have e1:Env0 X.prog X.w X.K X.mg X.base X.A X.stack s1 (upd H1 c (Fz c co)):=⟨e0.frames,e0.mod,fun b o e=>⟨(e0.bs b o e).1,by rw[kaj (nbs b o e)];exact(e0.bs b o e).2⟩,e0.bsz,e0.funs,fun b hb=>by rw[kaj (show b≠c from fun z=>by rw[z] at hb;exact nfr hb)];exact e0.frf b hb,e0.hok.fz hc oc,e0.bare⟩
 have hlen:us.length=ps.length:=by rw[<-r.length];exact F.len _ _ _ _ q2
 have hb:=D.b s1 us I1.kIn (by rw[Ml];exact hlen)
 rw[Ml] at hb
 refine wpAny_call (codeAny_mono (F.run X.A X.stack s1 _ ⟨us,[]⟩ us vs _ E0 hr e1 hb r q2) fun rs s' hq=>?_)
 cases rs with
 |error e=>exact hq.elim
 | ok fl=>
  cases fl with
  |next=>exact False.elim hq
  |brk=>exact False.elim hq
  |cont=>exact False.elim hq
  | ret u=>
   obtain⟨v,H',os,bare,un,hok,rv,qv⟩:=hq
   have fz:=un.frzs c co (.own c) kad
   have oc':=hok.fz_at fz
   have nn:∀{b:Addr}{o:HO},H1 b=some o->b≠c:=fun {b o} e=>kah e hc
   have un2:Un (frs X.stack) [] H1 (unt c H') s1.heap s'.heap:=by
    refine⟨fun b o e n hb hx=>?_,fun b o e n hb hx=>?_,fun b o e n hx=>?_,fun b o e hx=>un.there b o e hx,fun b xs e=>?_,fun b o u' e=>?_,fun b qs e=>?_⟩
    ·by_cases z:b=c
     ·subst z
      rw[oc] at e
      cases e
      exact oc'
     ·exact un.keep b o e (by rw[kaj z];exact n) hb hx
    ·have z:b≠c:=fun z=>by rw[z] at hb;exact nfr hb
     exact un.slot b o e (by rw[kaj z];exact n) hb hx
    ·by_cases z:b=c
     ·rw[z]
      exact keo
     ·rw[ka6 z]
      exact un.free b o e (by rw[kaj z];exact n) hx
    ·rw[ka6 (nn e)]
     exact un.tups b xs (by rw[kaj (nn e)];exact e)
    ·rw[ka6 (nn e)]
     exact un.frzs b o u' (by rw[kaj (nn e)];exact e)
    ·obtain⟨m,q⟩:=un.tbls b qs (by rw[kaj (nn e)];exact e)
     exact⟨m,by rw[ka6 (nn e)];exact q⟩
   exact⟨v,unt c H',I1.call' (ch:=[]) os un2 (hok.unt fz) bare (fun b hb=>by simp at hb),rv,qv fz⟩
end
end L2
namespace L2
open PySem PySem.Spec PyProof.Rows
noncomputable def knw{scope:Scope}{x y:Str}{cells:List (Str×Addr)}{c:Addr}(S:LamS scope x y)(hc:cells.lookup y=some c):Clo (closL cells scope.names []) y c:=by
 have ev:∀{z a},(closL cells scope.names []).lookup z=some a->z=y/\a=c:=fun {z a} h=>by
  rcases kdC _ _ h with⟨h1,h2⟩|h1
  ·have e:z=y:=S.only _ h1 rfl
   subst e
   rw[hc] at h2
   exact⟨rfl,h2⟩
  ·cases h1
 obtain⟨a,ea⟩:=kcx (cells:=cells) (x:=y) scope.names [] (.inl (PySem.mem_of_lookup S.fre))
 refine⟨?_,fun z a h=>ev h⟩
 rw[ea,(ev ea).2]
noncomputable def klD{b c:Addr}{o:Obj}{H:Hp}(hc:H c=some (Fz c o))(h:TbAt b H):TbAt b (unt c H):=by
 obtain⟨ps,e,t,hor⟩:=h
 refine⟨ps,by rw[ka6 (ne_of e hc (by intro z;cases z))];exact e,t,fun pos d ed=>?_⟩
 obtain⟨c',rfl,z⟩:=hor pos d ed
 exact⟨c',rfl,by rw[ka6 (ne_of z hc (by intro z;cases z))];exact z⟩
noncomputable def kjD{H H':Hp}{c:Addr}{o:Obj}(hc:H c=some (Fz c o))(s:Same (unt c H) H')(hn:H' c=none):Same H (upd H' c (Fz c o)):=fun b u e=>by
 by_cases h:b=c
 ·subst h
  rw[hc] at e
  cases e
  exact kad
 ·have q:=s b u (by rw[ka6 h];exact e)
  cases u with
  |tbl ps=>exact⟨⟨_,by rw[kaj h];exact q.1.choose_spec⟩,fun t=>kdk (q.2 (klD hc t)) h (nx0 hn)⟩
  |_=>exact(by rw[kaj h];exact q:(upd H' c (Fz c o)) b=some _)
theorem kmq{H H':Hp}{c:Addr}{o:Obj}(h0:H c=none)(s:Same H H')(hc:H' c=some (Fz c o)):Same H (unt c H'):=fun b u e=>by
 have h:b≠c:=kah e h0
 have q:=s b u e
 cases u with
 |tbl ps=>exact⟨⟨_,by rw[ka6 h];exact q.1.choose_spec⟩,fun t=>klD hc (q.2 t)⟩
 |_=>exact(by rw[ka6 h];exact q:(unt c H') b=some _)
end L2
namespace L2
open PySem PySem.Spec PyProof.Rows
section
variable {X:Cx}
noncomputable def km5(K:Nr)(i:Nat)(f:Addr)(fo:Obj)(sp:Sp)(t:TA):TE:=fun σ H Q=>σ[i]?=some (some (.ref f))/\t σ H fun vs H1=>(NH K (.ref f)=true∨H1 f=some (Fz f fo))/\sp vs H1 Q E0
theorem kk2{k i:Nat}{f:Addr}{fo:Obj}{fd:FuncData}{ps:List Str}{sp:Sp}{x:Str}{e:Expr}{es:List Expr}{t:TA}{p pos:Pos}(hv:PE X (.Name x p) (tVar i))(F:FnOk X.prog X.w X.K X.mg X.base CX0 k f fd ps sp)(hr:Room k X.A)(hfo:fo.data=.func fd)(hb:Binds X.K fd ps [])(ha:PA X (e::es) t)
  (he:starEach (e::es) X.env=(false,eval e X.env)::starEach es X.env:=by rfl) (hpl:(backTo pos (starEach es X.env)).any (·.1)=false:=by rfl):
  PE X (.Call (.Name x p) (e::es) [] pos) (km5 X.K i f fo sp t):=by
 intro pins s σ H Q I h
 obtain⟨h0,h⟩:=h
 refine wpAny_Call_Name_kw (thn (hv pins s σ H (fun v H'=>v=.ref f/\t σ H' fun vs H1=>(NH X.K (.ref f)=true∨H1 f=some (Fz f fo))/\sp vs H1 Q E0) I ⟨_,h0,rfl,h⟩) fun u s1 zz=>?_)
 obtain⟨v,H1,I1,r,ev,q⟩:=zz
 subst ev
 cases r
 rw[he]
 refine PySem.W.callWith_of (P:=fun h=>X.K.In h/\(NH X.K (.ref f)=true∨h.get? f=some fo)) (by show((false||(backTo pos (starEach es X.env)).any (·.1))||false)=false;rw[hpl];rfl) (fun h ⟨kin,e⟩=>?_) (Calls.evalArgs_plain ?_)
 ·rcases e with e|e
  ·exact PySem.W.keeps_K e h kin
  ·refine⟨.frame, .inl rfl,?_⟩
   obtain⟨oc,od,dt,sl⟩:=fo
   cases(show dt=.func fd from hfo)
   exact(PySem.W.Looks.ld (part:=none) e).andThen .now
 ·have ha':=ha pos pins s1 σ H1 _ I1 q
  rw[he] at ha'
  exact thn ha' fun us s2 ⟨vs,H2,I2,r2,hf,q2⟩=>⟨⟨I2.kIn,hf.imp id I2.hok.fz_at⟩,kgy F hr hb .nil pass0 I2 r2 (by rw[Ml];exact q2)⟩
end
end L2
namespace War
structure Row where
 kd:Int
 pr:Int
 mn:Int
 ex:Option Int
structure Row.Ok (r:Row):Prop where
 pr0:0<=r.pr
 pr1:r.pr<=1000000000000
 mn0:0<=r.mn
 mn1:r.mn<=60
 ex0:∀z,r.ex=some z->0<=z/\z<=1000000000000
def prc(m:Bool)(r:Row):Int:=if m=true then r.ex.getD r.pr else r.pr
def own(rs:List Row):List Int:=(rs.zipIdx.map fun p=>Nu p.1.mn.toNat (p.2:Int)).flatten
def prs(m:Bool)(rs:List Row):List Int:=(rs.map fun r=>Nu r.mn.toNat (prc m r)).flatten
noncomputable def kk4(rs:List Row)(r:Row):own (rs++[r])=own rs++Nu r.mn.toNat (rs.length:Int):=by
 unfold own
 rw[List.zipIdx_append,NC,EI]
 simp
def kkU(m:Bool)(rs:List Row)(r:Row):prs m (rs++[r])=prs m rs++Nu r.mn.toNat (prc m r):=by
 unfold prs
 rw[NC,EI]
 simp
theorem kip:∀(rs:List Row)(k:Nat),(∀r∈rs,r.Ok)->((rs.zipIdx k).map fun p=>Nu p.1.mn.toNat (p.2:Int)).flatten.length<=60*rs.length
 |[],_,_=>by simp
 |r::rs,k,h=>by
  have h1:=kip rs (k+1) fun x hx=>h x (NR _ hx)
  have h2:=(h r NV).mn1
  rw[Dg,NJ,N4,NG,Mm,NW]
  show r.mn.toNat+_<=_
  omega
def kjU(rs:List Row)(h:∀r∈rs,r.Ok):(own rs).length<=60*rs.length:=kip rs 0 h
theorem kjM(m:Bool):∀(rs:List Row),(∀r∈rs,r.Ok)->(prs m rs).length<=60*rs.length
 |[],_=>by simp[prs]
 |r::rs,h=>by
  have h1:=kjM m rs fun x hx=>h x (NR _ hx)
  have h2:=(h r NV).mn1
  unfold prs at h1⊢
  rw[NJ,N4,NG,Mm,NW]
  omega
theorem kmj(n:Nat)(z:Int):(Nu n z).sum=z*n:=by
 induction n with
 |zero=>simp
 | succ n ih=>
  rw[MA,M1,ih]
  have:z*((n+1:Nat):Int)=z*(n:Int)+z:=by
   rw[Int.natCast_add,Int.mul_add]
   simp
  omega
noncomputable def klS{m:Bool}{r:Row}(h:r.Ok):0<=prc m r/\prc m r<=1000000000000:=by
 unfold prc
 split
 ·cases e:r.ex with
  |none=>exact⟨h.pr0,h.pr1⟩
  |some z=>exact h.ex0 z e
 ·exact⟨h.pr0,h.pr1⟩
def take_snoc{α:Type}{rs:List α}{i:Nat}{r: α}(h:rs[i]?=some r):rs.take (i+1)=rs.take i++[r]:=by
 rw[ME,h]
 rfl
end War
namespace Kin
def Good(ps:List (Option Nat)):Prop:=∀(i k:Nat),ps[i]?=some (some k)->k<i
def anc(ps:List (Option Nat)):Nat->Nat->List Nat
 |0,_=>[]
 |f+1,i=>i::(match ps[i]? with|some (some k)=>anc ps f k|_=>[])
def up(ps:List (Option Nat))(i:Nat):List Nat:=anc ps (i+1) i
theorem klB{ps:List (Option Nat)}(g:Good ps):∀(f f' i:Nat),i<f->i<f'->anc ps f i=anc ps f' i:=by
 intro f
 induction f with
 |zero=>intro f' i h;omega
 | succ f ih=>
  intro f' i h h'
  cases f' with
  |zero=>omega
  | succ f'=>
   show i::_=i::_
   congr 1
   cases e:ps[i]? with
   |none=>rfl
   | some o=>
    cases o with
    |none=>rfl
    |some k=>
     have hk:=g i k e
     exact ih f' k (by omega) (by omega)
noncomputable def kme{ps:List (Option Nat)}(g:Good ps){i k:Nat}(e:ps[i]?=some (some k)):up ps i=i::up ps k:=by
 have hk:=g i k e
 show i::_=_
 rw[e]
 show i::anc ps i k=i::up ps k
 rw[klB g i (k+1) k hk (by omega)]
 rfl
def kmf{ps:List (Option Nat)}{i:Nat}(e:ps[i]?=some none):up ps i=[i]:=by
 show i::_=_
 rw[e]
def rest(ps:List (Option Nat)):Option Nat->List Nat
 |none=>[]
 |some k=>up ps k
def left:Option Nat->Nat
 |none=>0
 |some k=>k+1
theorem up_eq{ps:List (Option Nat)}(g:Good ps){i:Nat}{o:Option Nat}(e:ps[i]?=some o):up ps i=i::rest ps o:=by
 cases o with
 |none=>exact kmf e
 |some k=>exact kme g e
def klm:Good []:=fun i k e=>by simp at e
noncomputable def kkl{ps:List (Option Nat)}(g:Good ps){o:Option Nat}(h:∀k,o=some k->k<ps.length):Good (ps++[o]):=by
 intro i k e
 rcases Nat.lt_trichotomy i ps.length with hi|hi|hi
 ·rw[Eg hi] at e
  exact g i k e
 ·subst hi
  rw[MQ (Nt _)] at e
  simp at e
  exact h k e
 ·rw[MQ (by omega)] at e
  have:(i-ps.length)≠0:=by omega
  cases q:i-ps.length with
  |zero=>omega
  |succ n=>rw[q] at e;simp at e
end Kin
namespace Deal
def pre(ws:List Int)(k:Nat):Int:=(ws.take k).sum
def part(c:Int)(ws:List Int)(j:Nat):Int:=c*pre ws (j+1)/ws.sum-c*pre ws j/ws.sum
def dl(c:Int)(ws:List Int):List Int:=if ws.sum=0 then ws.map (fun _=>0) else(Nw ws.length).map (part c ws)
def kkV(ws:List Int):pre ws 0=0:=by simp[pre]
def kjN(ws:List Int):pre ws ws.length=ws.sum:=by simp[pre]
def kek{ws:List Int}{i:Nat}{w:Int}(h:ws[i]?=some w):pre ws (i+1)=pre ws i+w:=by
 unfold pre
 rw[ME,h]
 simp
def kfw(c:Int)(ws:List Int):(dl c ws).length=ws.length:=by
 unfold dl
 split <;> simp
noncomputable def dl_at{c:Int}{ws:List Int}(h:¬ws.sum=0){j:Nat}(hj:j<ws.length):(dl c ws)[j]?=some (part c ws j):=by
 unfold dl
 rw[if_neg h]
 simp[hj]
def kkp{c:Int}{ws:List Int}(h:ws.sum=0){j:Nat}(hj:j<ws.length):(dl c ws)[j]?=some 0:=by
 unfold dl
 rw[if_pos h]
 simp[hj]
def Nn(ws:List Int):Prop:=∀w∈ws,0<=w
theorem kct:∀{ws:List Int},Nn ws->0<=ws.sum
 |[],_=>by simp
 |w::ws,h=>by
  have:=kct (ws:=ws) fun x hx=>h x (NR _ hx)
  have h1:=h w NV
  simp
  omega
theorem kjT{c s A w:Int}(hs:0<s)(hc:0<=c)(hcs:c<=s)(hw:0<=w):0<=c*(A+w)/s-c*A/s/\c*(A+w)/s-c*A/s<=w/\
  (c*(A+w)/s-c*A/s)*s-c*w<s/\-s<(c*(A+w)/s-c*A/s)*s-c*w:=by
 have e:c*(A+w)=c*A+c*w:=Int.mul_add ..
 rw[e]
 generalize hx:c*A=x
 have h1:0<=c*w:=Int.mul_nonneg hc hw
 have h2:c*w<=w*s:=by
  rw[Int.mul_comm w s]
  exact Int.mul_le_mul_of_nonneg_right hcs hw
 generalize hy:c*w=y at h1 h2
 have m1:x/s<=(x+y)/s:=Int.ediv_le_ediv hs (by omega)
 have m2:(x+y)/s<=(x+w*s)/s:=Int.ediv_le_ediv hs (by omega)
 rw[Int.add_mul_ediv_right _ _ (by omega)] at m2
 have d1:=Int.emod_add_mul_ediv x s
 have d2:=Int.emod_add_mul_ediv (x+y) s
 have r1:=Int.emod_nonneg x (show s≠0 by omega)
 have r2:=Int.emod_lt_of_pos x hs
 have r3:=Int.emod_nonneg (x+y) (show s≠0 by omega)
 have r4:=Int.emod_lt_of_pos (x+y) hs
 have e3:((x+y)/s-x/s)*s=s*((x+y)/s)-s*(x/s):=by
  rw[Int.sub_mul,Int.mul_comm,Int.mul_comm (x/s)]
 rw[e3]
 refine⟨by omega,by omega,by omega,by omega⟩
end Deal
namespace Vs
open Kin Deal
structure Mks where
 kind:Option Nat
 needs:Int
 most:Option Int
 member:Bool
 once:Bool
 lone:Bool
inductive Srt
 |off (a:Int)
 |share (s:Int) (b:Bool)
 |cheap (n:Int)
 |bund (n p:Int)
 |carr
structure Vch where
 so:Srt
 ms:Mks
structure Stnd where
 ow:List Nat
 pr:List Int
 cg:Int
 mkd:List Bool
def kHit(ps:List (Option Nat))(kind:Option Nat)(kd:Nat):Bool:=match kind with
 |none=>true
 |some k=>decide (k∈up ps kd)
noncomputable def hits(ps:List (Option Nat))(kds:List Nat)(kind:Option Nat)(lone:Bool)(mkd:List Bool)(l:Nat):Bool:=
 kHit ps kind (kds.getD l 0)&&(!lone|| !(mkd.getD l false))
noncomputable def abt(ps:List (Option Nat))(kds:List Nat)(kind:Option Nat)(lone:Bool)(S:Stnd):List Nat:=
 (Nw S.ow.length).filter fun i=>hits ps kds kind lone S.mkd (S.ow.getD i 0)
noncomputable def khf{ps:List (Option Nat)}{kds:List Nat}{kind:Option Nat}{lone:Bool}{S:Stnd}{i:Nat}(h:i∈abt ps kds kind lone S):i<S.ow.length:=by
 have:=(N5.mp h).1
 simpa using this
def khe(ps:List (Option Nat))(kds:List Nat)(kind:Option Nat)(lone:Bool)(S:Stnd):(abt ps kds kind lone S).Nodup:=MR.filter _ EJ
noncomputable def kdU(ps:List (Option Nat))(kds:List Nat)(kind:Option Nat)(lone:Bool)(S:Stnd):(abt ps kds kind lone S).length<=S.ow.length:=by
 have:=M3 (fun i=>hits ps kds kind lone S.mkd (S.ow.getD i 0)) (Nw S.ow.length)
 simpa[abt] using this
def qs(pr:List Int)(is:List Nat):List Int:=is.map fun i=>pr.getD i 0
def kcf(pr:List Int)(is:List Nat):(qs pr is).length=is.length:=by simp[qs]
def spr(n:Nat)(is:List Nat)(vs:List Int):List Int:=(Nw n).map fun i=>((is.zip vs).lookup i).getD 0
def kc7(n:Nat)(is:List Nat)(vs:List Int):(spr n is vs).length=n:=by simp[spr]
def kmm(n:Nat)(vs:List Int):spr n [] vs=Nu n 0:=by
 unfold spr
 apply MF
 ·simp
 ·intro i h1 h2
  simp
theorem khE{l:List (Nat×Int)}{i j:Nat}{v:Int}(h:∀p∈l,p.1≠i):(l++[(i,v)]).lookup j=if j=i then some v else l.lookup j:=by
 induction l with
 | nil=>
  simp only[Mw,Ma,List.lookup_nil]
  by_cases e:j=i
  ·subst e;simp
  ·have:(j==i)=false:=beq_eq_false_iff_ne.mpr e
   simp[this,e]
 | cons p l ih=>
  obtain⟨k,w⟩:=p
  have ih':=ih fun q hq=>h q (NR _ hq)
  have hk:k≠i:=h (k,w) NV
  simp only[MK,Ma]
  by_cases e:j=k
  ·subst e
   simp[hk]
  ·have:(j==k)=false:=beq_eq_false_iff_ne.mpr e
   simp only[this]
   exact ih'
theorem kml{n:Nat}{is:List Nat}{vs:List Int}(hn:is.Nodup){k i:Nat}{v:Int}(h1:is[k]?=some i)(h2:vs[k]?=some v)(hi:i<n):
  (spr n (is.take k) (vs.take k)).set i v=spr n (is.take (k+1)) (vs.take (k+1)):=by
 have e1:is.take (k+1)=is.take k++[i]:=by rw[ME,h1];rfl
 have e2:vs.take (k+1)=vs.take k++[v]:=by rw[ME,h2];rfl
 have hk1:k<is.length:=(NF.mp h1).1
 have hk2:k<vs.length:=(NF.mp h2).1
 have ez:(is.take (k+1)).zip (vs.take (k+1))=(is.take k).zip (vs.take k)++[(i,v)]:=by
  rw[e1,e2,List.zip_append (by simp;omega)]
  rfl
 have hne:∀p∈(is.take k).zip (vs.take k),p.1≠i:=fun p hp e=>by
  have hm:p.1∈is.take k:=(MO hp).1
  rw[e] at hm
  obtain⟨j,hj,ej⟩:=List.getElem_of_mem hm
  rw[NK] at hj
  rw[List.getElem_take] at ej
  have e3:is[k]=i:=by
   obtain⟨_,q⟩:=NF.mp h1
   exact q
  exact M0.mp hn j k (by omega) hk1 (by omega) (by rw[ej,e3])
 apply MF
 ·simp[spr]
 ·intro j h3 h4
  have hj:j<n:=by simpa[spr] using h4
  rw[Dh]
  simp only[spr,Eb,Ek]
  rw[ez,khE hne]
  by_cases e:i=j
  ·subst e;simp
  ·have:¬j=i:=fun z=>e z.symm
   simp[e,this]
def bef(q:List Int)(a b:Nat):Prop:=q.getD b 0<q.getD a 0∨(q.getD a 0=q.getD b 0/\a<b)
noncomputable def Fall(q:List Int)(r:List Nat):Prop:=r.Perm (Nw q.length)/\r.Pairwise (bef q)
def klz{q:List Int}{a b:Nat}(h:bef q a b)(h':bef q b a):False:=by
 unfold bef at h h'
 omega
theorem keB{R:Nat->Nat->Prop}(asym:∀a b,R a b->R b a->False):∀{l l':List Nat},l.Perm l'->l.Pairwise R->l'.Pairwise R->l=l'
 |[],l',p,_,_=>(List.nil_perm.mp p).symm
 | a ::l,l',p,h,h'=>by
  cases l' with
  |nil=>exact absurd p.length_eq (by simp)
  | cons b l'=>
   have hab:a=b:=by
    rcases Classical.em (a=b) with e|e
    ·exact e
    ·have ha:a∈b::l':=p.mem_iff.mp NV
     have hb:b∈a::l:=p.mem_iff.mpr NV
     rcases NS.mp ha with e1|ha
     ·exact absurd e1 e
     ·rcases NS.mp hb with e2|hb
      ·exact absurd e2.symm e
      ·exact(asym a b ((EK.mp h).1 b hb) ((EK.mp h').1 a ha)).elim
   subst hab
   congr 1
   exact keB asym (El.cons_inv p) (EK.mp h).2 (EK.mp h').2
def khN{q:List Int}{r r':List Nat}(h:Fall q r)(h':Fall q r'):r=r':=
 keB (fun _ _ a b=>klz a b) (h.1.trans h'.1.symm) h.2 h'.2
noncomputable def grp(n:Nat)(r:List Nat):List (List Nat):=(Nw (r.length/n)).map fun g=>(r.drop (g*n)).take n
end Vs
namespace Vs
open Kin Deal
noncomputable def Le2(xs ys:List Int):Prop:=xs.length=ys.length/\∀(j:Nat)(v w:Int),xs[j]?=some v->ys[j]?=some w->0<=v/\v<=w
def Le2.nil:Le2 [] []:=⟨rfl,fun j v w e=>by simp at e⟩
def Le2.self{xs:List Int}(h:Nn xs):Le2 xs xs:=⟨rfl,fun j v w e1 e2=>by
 rw[e1] at e2
 cases e2
 exact⟨h v (Ny e1),Int.le_refl _⟩⟩
noncomputable def Le2.nn{xs ys:List Int}(h:Le2 xs ys):Nn xs:=fun v hv=>by
 obtain⟨j,hj,e⟩:=List.getElem_of_mem hv
 exact(h.2 j v (ys[j]'(by rw[<-h.1];exact hj)) (by simp[hj,e]) (by simp[show j<ys.length by rw[<-h.1];exact hj])).1
noncomputable def Le2.trans{xs ys zs:List Int}(h:Le2 xs ys)(h':Le2 ys zs):Le2 xs zs:=⟨h.1.trans h'.1,fun j v w e1 e2=>by
 have hj:j<xs.length:=(NF.mp e1).1
 have e3:ys[j]?=some (ys[j]'(by rw[<-h.1];exact hj)):=by simp[show j<ys.length by rw[<-h.1];exact hj]
 have a:=h.2 j v _ e1 e3
 have b:=h'.2 j _ w e3 e2
 omega⟩
noncomputable def Le2.append{xs ys xs' ys':List Int}(h:Le2 xs ys)(h':Le2 xs' ys'):Le2 (xs++xs') (ys++ys'):=by
 refine⟨by simp[h.1,h'.1],fun j v w e1 e2=>?_⟩
 have hl:=h.1
 rcases Nat.lt_or_ge j xs.length with hj|hj
 ·rw[Eg hj] at e1
  rw[Eg (by omega)] at e2
  exact h.2 j v w e1 e2
 ·rw[MQ hj] at e1
  rw[MQ (by omega),<-hl] at e2
  exact h'.2 _ v w e1 e2
theorem Le2.sum:∀{xs ys:List Int},Le2 xs ys->0<=xs.sum/\xs.sum<=ys.sum
 |[],[],_=>by simp
 |[],_::_,h=>by have:=h.1;simp at this
 |_::_,[],h=>by have:=h.1;simp at this
 |x::xs,y::ys,h=>by
  have h0:=h.2 0 x y rfl rfl
  have h1:Le2 xs ys:=⟨by simpa using h.1,fun j v w e1 e2=>h.2 (j+1) v w (by simpa using e1) (by simpa using e2)⟩
  have h2:=Le2.sum h1
  simp
  omega
noncomputable def dl_le{c:Int}{ws:List Int}(hn:Nn ws)(h0:0<=c)(h1:c<=ws.sum):Le2 (dl c ws) ws:=by
 refine⟨kfw c ws,fun j v w e1 e2=>?_⟩
 have hj:j<ws.length:=(NF.mp e2).1
 have hw:=hn w (Ny e2)
 by_cases hs:ws.sum=0
 ·rw[kkp hs hj] at e1
  cases e1
  exact⟨Int.le_refl _,hw⟩
 ·rw[dl_at hs hj] at e1
  cases e1
  have hp:0<ws.sum:=by
   have:=kct hn
   omega
  have q:=kjT (A:=pre ws j) hp h0 h1 hw
  unfold part
  rw[kek e2]
  exact⟨q.1,q.2.1⟩
theorem kdR{is:List Nat}{vs:List Int}{i:Nat}{v:Int}(h:(is.zip vs).lookup i=some v):∃k:Nat,is[k]?=some i/\vs[k]?=some v:=by
 induction is generalizing vs with
 |nil=>simp at h
 | cons a is ih=>
  cases vs with
  |nil=>simp at h
  | cons b vs=>
   simp only[List.zip_cons_cons,Ma] at h
   by_cases e:i=a
   ·subst e
    simp at h
    exact⟨0,rfl,by simp[h]⟩
   ·have:(i==a)=false:=beq_eq_false_iff_ne.mpr e
    rw[this] at h
    obtain⟨k,h1,h2⟩:=ih h
    exact⟨k+1,by simpa using h1,by simpa using h2⟩
theorem kgl{pr:List Int}{is:List Nat}{vs:List Int}(hn:Nn pr)(hv:Le2 vs (qs pr is)):Le2 (spr pr.length is vs) pr:=by
 refine⟨kc7 _ _ _,fun j v w e1 e2=>?_⟩
 have hj:j<pr.length:=(NF.mp e2).1
 have hw:=hn w (Ny e2)
 have e3:v=((is.zip vs).lookup j).getD 0:=by
  simp[spr,hj] at e1
  exact e1.symm
 cases e4:(is.zip vs).lookup j with
 |none=>
  rw[e4] at e3
  subst e3
  exact⟨Int.le_refl _,hw⟩
 |some u=>
  rw[e4] at e3
  have e3':v=u:=e3
  subst e3'
  obtain⟨k,h1,h2⟩:=kdR e4
  refine hv.2 k v w h2 ?_
  simp only[qs,Nz,h1,MS]
  rw[NL,e2]
  rfl
theorem qs_nn{pr:List Int}(hn:Nn pr)(is:List Nat):Nn (qs pr is):=fun v hv=>by
 obtain⟨i,_,rfl⟩:=NO.mp hv
 rw[NL]
 cases e:pr[i]? with
 |none=>exact Int.le_refl _
 |some w=>exact hn w (Ny e)
noncomputable def leQ(q:List Int)(a b:Nat):Bool:=decide (q.getD b 0<q.getD a 0∨(q.getD a 0=q.getD b 0/\a<=b))
noncomputable def ordQ(q:List Int):List Nat:=(Nw q.length).mergeSort (leQ q)
def kdo(q:List Int):(ordQ q).Perm (Nw q.length):=List.mergeSort_perm _ _
noncomputable def keK(q:List Int):Fall q (ordQ q):=by
 refine⟨kdo q,?_⟩
 have h1:(ordQ q).Pairwise (fun a b=>leQ q a b=true):=List.pairwise_mergeSort (le:=leQ q) (fun a b c h h'=>by simp only[leQ,decide_eq_true_eq] at *;omega) (fun a b=>by simp only[leQ,E9,decide_eq_true_eq];omega) _
 have h2:(ordQ q).Nodup:=(kdo q).nodup_iff.mpr EJ
 refine(h1.and h2).imp fun {a b} h=>?_
 have h3:=h.1
 have h4:a≠b:=h.2
 simp only[leQ,decide_eq_true_eq] at h3
 unfold bef
 omega
noncomputable def gdl(cut:Int->Int)(gs:List (List Nat))(q:List Int):List Int:=spr q.length gs.flatten ((gs.map fun g=>dl (cut (qs q g).sum) (qs q g)).flatten)
def kgz(q:List Int)(a b:List Nat):qs q (a++b)=qs q a++qs q b:=by simp[qs]
theorem kl0{cut:Int->Int}{gs:List (List Nat)}{q:List Int}(hn:Nn q)(hc:∀s,0<=s->0<=cut s/\cut s<=s):Le2 (gdl cut gs q) q:=by
 refine kgl hn ?_
 induction gs with
 |nil=>exact Le2.nil
 |cons g gs ih=>
  rw[NJ,N4,N4,kgz]
  have h:=hc _ (kct (qs_nn hn g))
  exact(dl_le (qs_nn hn g) h.1 h.2).append ih
noncomputable def ke7(n:Nat)(lines:List Nat):List (List Nat):=(Nw n).map fun l=>(Nw lines.length).filter fun k=>lines.getD k 0==l
noncomputable def lasts(gs:List (List Nat)):List Nat:=gs.map fun g=>g.getLastD 0
noncomputable def want(so:Srt)(n:Nat)(lines:List Nat)(q:List Int):List Int:=match so with
 | .off a=>dl (min a q.sum) q
 | .share s false=>dl (q.sum*s/1000) q
 | .share s true=>gdl (fun z=>z*s/1000) (ke7 n lines) q
 | .cheap m=>spr q.length (lasts (grp m.toNat (ordQ q))) (qs q (lasts (grp m.toNat (ordQ q))))
 | .bund m p=>gdl (fun z=>max 0 (z-p)) (grp m.toNat (ordQ q)) q
 | .carr=>Nu q.length 0
noncomputable def fee(so:Srt)(cg:Int):Int:=match so with
 | .carr=>cg
 |_=>0
noncomputable def SrtOk:Srt->Prop
 | .off a=>0<=a/\a<=1000000000000
 | .share s _=>1<=s/\s<=1000
 | .cheap n=>2<=n/\n<=20
 | .bund n p=>2<=n/\n<=20/\0<=p/\p<=1000000000000
 | .carr=>True
noncomputable def kfH{z s:Int}(hz:0<=z)(h1:1<=s)(h2:s<=1000):0<=z*s/1000/\z*s/1000<=z:=by
 have a:0<=z*s:=Int.mul_nonneg hz (by omega)
 have b:z*s<=z*1000:=Int.mul_le_mul_of_nonneg_left h2 hz
 omega
noncomputable def km7{q:List Int}(hn:Nn q):Le2 (Nu q.length 0) q:=by
 refine⟨by simp,fun j v w e1 e2=>?_⟩
 have:v=0:=by
  rw[MY] at e1
  split at e1
  ·exact(Option.some.inj e1).symm
  ·cases e1
 subst this
 exact⟨Int.le_refl _,hn w (Ny e2)⟩
noncomputable def khg{a:Int}{n:Nat}{lines:List Nat}{q:List Int}(hn:Nn q)(h0:0<=a):Le2 (want (.off a) n lines q) q:=by
 have hs:=kct hn
 show Le2 (dl (min a q.sum) q) q
 exact dl_le hn (by omega) (by omega)
theorem kfz{s:Int}{e:Bool}{n:Nat}{lines:List Nat}{q:List Int}(hn:Nn q)(h1:1<=s)(h2:s<=1000):Le2 (want (.share s e) n lines q) q:=by
 have hs:=kct hn
 cases e with
 |false=>
  show Le2 (dl (q.sum*s/1000) q) q
  have h:=kfH hs h1 h2
  exact dl_le hn h.1 h.2
 |true=>
  show Le2 (gdl (fun z=>z*s/1000) (ke7 n lines) q) q
  exact kl0 hn fun z hz=>kfH hz h1 h2
noncomputable def kgi{m p:Int}{n:Nat}{lines:List Nat}{q:List Int}(hn:Nn q)(h0:0<=p):Le2 (want (.bund m p) n lines q) q:=by
 show Le2 (gdl (fun z=>max 0 (z-p)) (grp m.toNat (ordQ q)) q) q
 exact kl0 hn fun z hz=>⟨by show 0<=max 0 (z-p);omega,by show max 0 (z-p)<=z;omega⟩
noncomputable def kfA{m:Int}{n:Nat}{lines:List Nat}{q:List Int}(hn:Nn q):Le2 (want (.cheap m) n lines q) q:=by
 show Le2 (spr q.length _ (qs q _)) q
 exact kgl hn (Le2.self (qs_nn hn _))
def kgh{n:Nat}{lines:List Nat}{q:List Int}(hn:Nn q):Le2 (want .carr n lines q) q:=km7 hn
theorem ki8{so:Srt}{n:Nat}{lines:List Nat}{q:List Int}(hn:Nn q)(ho:SrtOk so):Le2 (want so n lines q) q:=by
 cases so with
 |off a=>exact khg hn ho.1
 |share s e=>exact kfz hn ho.1 ho.2
 |cheap m=>exact kfA hn
 |bund m p=>exact kgi hn ho.2.2.1
 |carr=>exact kgh hn
noncomputable def cap(most:Option Int)(w:List Int)(f:Int):List Int×Int:=match most with
 |none=>(w,f)
 |some m=>if m<w.sum+f then(dl (min m w.sum) w,min f m) else(w,f)
theorem knx{most:Option Int}{w q:List Int}{f cg:Int}(h:Le2 w q)(hf:0<=f/\f<=cg)(hm:∀m,most=some m->0<=m):Le2 (cap most w f).1 q/\0<=(cap most w f).2/\(cap most w f).2<=cg:=by
 unfold cap
 cases most with
 |none=>exact⟨h,hf⟩
 |some m=>
  have h0:=hm m rfl
  have hs:=kct h.nn
  simp only
  split
  ·exact⟨(dl_le h.nn (by omega) (by omega)).trans h,by simp only;omega,by simp only;omega⟩
  ·exact⟨h,hf⟩
noncomputable def cutM(V:Vch)(ps:List (Option Nat))(kk:List Nat)(S:Stnd):List Int×Int:=
 let is:=abt ps kk V.ms.kind V.ms.lone S
 let c:=cap V.ms.most (want V.so S.mkd.length (is.map fun i=>S.ow.getD i 0) (qs S.pr is)) (fee V.so S.cg)
 (spr S.pr.length is c.1,c.2)
noncomputable def kkw{V:Vch}{ps:List (Option Nat)}{kk:List Nat}{S:Stnd}(hn:Nn S.pr)(hc:0<=S.cg)(ho:SrtOk V.so)(hm:∀m,V.ms.most=some m->0<=m):Le2 (cutM V ps kk S).1 S.pr/\0<=(cutM V ps kk S).2/\(cutM V ps kk S).2<=S.cg:=by
 have hf:0<=fee V.so S.cg/\fee V.so S.cg<=S.cg:=by
  unfold fee
  split <;> omega
 have h:=knx (most:=V.ms.most) (ki8 (n:=S.mkd.length) (lines:=(abt ps kk V.ms.kind V.ms.lone S).map fun i=>S.ow.getD i 0) (qs_nn hn (abt ps kk V.ms.kind V.ms.lone S)) ho) hf hm
 exact⟨kgl hn h.1,h.2⟩
noncomputable def kbH(ow:List Nat)(c:List Int)(l:Nat):Bool:=(Nw ow.length).any fun i=>ow.getD i 0==l&&decide (0<c.getD i 0)
noncomputable def aftM(V:Vch)(ps:List (Option Nat))(kk:List Nat)(S:Stnd):Stnd:=
 ⟨S.ow,N2 (· - ·) S.pr (cutM V ps kk S).1,S.cg-(cutM V ps kk S).2,(Nw S.mkd.length).map fun l=>S.mkd.getD l false||(V.ms.lone&&kbH S.ow (cutM V ps kk S).1 l)⟩
noncomputable def knA{V:Vch}{ps:List (Option Nat)}{kk:List Nat}{S:Stnd}(hn:Nn S.pr)(hc:0<=S.cg)(ho:SrtOk V.so)(hm:∀m,V.ms.most=some m->0<=m):Le2 (aftM V ps kk S).pr S.pr/\0<=(aftM V ps kk S).cg/\(aftM V ps kk S).cg<=S.cg:=by
 have h:=kkw (ps:=ps) (kk:=kk) hn hc ho hm
 refine⟨⟨?_,fun j v w e1 e2=>?_⟩,?_,?_⟩
 ·show(N2 _ _ _).length=_
  rw[ML,h.1.1]
  omega
 ·have hj:j<S.pr.length:=(NF.mp e2).1
  have hj2:j<(cutM V ps kk S).1.length:=by rw[h.1.1];exact hj
  have e3:(cutM V ps kk S).1[j]?=some ((cutM V ps kk S).1[j]):=by simp[hj2]
  have b:=h.1.2 j _ w e3 e2
  have e4:(N2 (· - ·) S.pr (cutM V ps kk S).1)[j]?=some (w-(cutM V ps kk S).1[j]):=by
   rw[Em,e2,e3]
  have e1':(N2 (· - ·) S.pr (cutM V ps kk S).1)[j]?=some v:=e1
  rw[e4] at e1'
  cases e1'
  omega
 ·show 0<=S.cg-_
  have:=h.2
  omega
 ·show S.cg-_<=S.cg
  have:=h.2
  omega
end Vs
namespace Vs
open Kin Deal
structure Sel (q:List Int) (row left:List Nat):Prop where
 pm:(row++left).Perm (Nw q.length)
 inc:left.Pairwise (· < ·)
 pw:row.Pairwise (bef q)
 cr:∀r∈row,∀l∈left,bef q r l
def Sel.start(q:List Int):Sel q [] (Nw q.length):=⟨El.refl _,Dj, .nil,fun r hr=>by simp at hr⟩
noncomputable def Sel.lt{q:List Int}{row left:List Nat}(h:Sel q row left){i:Nat}(hi:i∈left):i<q.length:=by
 have:=h.pm.mem_iff.mp (Md row hi)
 simpa using this
noncomputable def Sel.len{q:List Int}{row left:List Nat}(h:Sel q row left):row.length+left.length=q.length:=by
 have:=h.pm.length_eq
 simpa using this
def Sel.fin{q:List Int}{row:List Nat}(h:Sel q row []):row=ordQ q:=by
 refine khN ⟨?_,h.pw⟩ (keK q)
 have:=h.pm
 rwa [Ml] at this
noncomputable def TopI(q:List Int)(left:List Nat)(i top:Nat):Prop:=(∃k,left[k]?=some top/\(k<i∨k=0))/\∀y∈left.take i,y=top∨bef q top y
def TopI.start{q:List Int}{left:List Nat}{t:Nat}(h:left[0]?=some t):TopI q left 0 t:=⟨⟨0,h, .inr rfl⟩,fun y hy=>by simp at hy⟩
noncomputable def TopI.more{q:List Int}{left:List Nat}{i top x:Nat}(inc:left.Pairwise (· < ·))(h:TopI q left i top)(hx:left[i]?=some x):TopI q left (i+1) (if q.getD top 0<q.getD x 0 then x else top):=by
 obtain⟨⟨k,ek,hk⟩,hy⟩:=h
 have et:left.take (i+1)=left.take i++[x]:=by rw[ME,hx];rfl
 split
 ·rename_i hlt
  refine⟨⟨i,hx, .inl (by omega)⟩,fun y hm=>?_⟩
  rw[et] at hm
  rcases N6.mp hm with h1|h1
  ·refine .inr (.inl ?_)
   rcases hy y h1 with rfl|h2
   ·exact hlt
   ·unfold bef at h2
    omega
  ·exact .inl (by simpa using h1)
 ·rename_i hge
  refine⟨⟨k,ek,by omega⟩,fun y hm=>?_⟩
  rw[et] at hm
  rcases N6.mp hm with h1|h1
  ·exact hy y h1
  ·have e:y=x:=by simpa using h1
   subst e
   by_cases hki:k=i
   ·subst hki
    rw[ek] at hx
    exact .inl (Option.some.inj hx).symm
   ·have hlt:top<y:=by
     obtain⟨l1,q1⟩:=NF.mp ek
     obtain⟨l2,q2⟩:=NF.mp hx
     have:=M0.mp inc k i l1 l2 (by omega)
     rwa [q1,q2] at this
    refine .inr ?_
    unfold bef
    omega
noncomputable def Sel.step{q:List Int}{row left:List Nat}{top:Nat}(h:Sel q row left)(ht:TopI q left left.length top):Sel q (row++[top]) (left.erase top)/\top∈left:=by
 obtain⟨⟨k,ek,_⟩,hy⟩:=ht
 have hm:=Ny ek
 rw[NY] at hy
 have nd:left.Nodup:=h.inc.imp fun hlt=>NU hlt
 refine⟨⟨?_,h.inc.sublist (List.erase_sublist),?_,?_⟩,hm⟩
 ·refine El.trans ?_ h.pm
  rw[Mg]
  exact El.append_left row (List.perm_cons_erase hm).symm
 ·exact List.pairwise_append.mpr ⟨h.pw,List.pairwise_singleton _ _,fun r hr t ht=>by
   have e:t=top:=by simpa using ht
   subst e
   exact h.cr r hr t hm⟩
 ·intro r hr l hl
  have hl':=(nd.mem_erase_iff).mp hl
  rcases N6.mp hr with h1|h1
  ·exact h.cr r h1 l hl'.2
  ·have e:r=top:=by simpa using h1
   subst e
   rcases hy l hl'.2 with h2|h2
   ·exact absurd h2 hl'.1
   ·exact h2
end Vs
namespace Vs
open Kin Deal
noncomputable def kiC{m:Nat}{r:List Nat}{i:Nat}{g:List Nat}(h:(grp m r)[i]?=some g):i*m+m<=r.length/\g.length=m/\∀j,j<m->g[j]?=r[i*m+j]?:=by
 unfold grp at h
 rw[Nz] at h
 have hi:i<r.length/m:=by
  rcases Nat.lt_or_ge i (r.length/m) with q|q
  ·exact q
  ·rw[Dk (by simpa using q)] at h
   cases h
 rw[EL hi] at h
 cases h
 have hle:i*m+m<=r.length:=by
  have h1:(i+1)*m<=r.length/m*m:=Dl m hi
  have h2:=Nat.div_mul_le_self r.length m
  rw[Nat.add_mul,Nat.one_mul] at h1
  omega
 refine⟨hle,by rw[NK,M8];omega,fun j hj=>?_⟩
 rw[Dw hj,List.getElem?_drop]
theorem khI{m:Nat}{r:List Nat}{i:Nat}{g:List Nat}(hm:0<m)(h:(grp m r)[i]?=some g):r[i*m+(m-1)]?=some (g.getLastD 0):=by
 obtain⟨hle,hl,hg⟩:=kiC h
 rw[<-hg (m-1) (by omega)]
 cases g with
 |nil=>simp at hl;omega
 |cons x xs=>
  have e:(x::xs).getLastD 0=(x::xs).getLast (by simp):=by simp[List.getLastD]
  rw[e,List.getLast_eq_getElem,NF]
  refine⟨by omega,?_⟩
  congr 1
  omega
noncomputable def kix{gs:List (List Nat)}{i:Nat}{g:List Nat}(h:gs[i]?=some g):(lasts gs)[i]?=some (g.getLastD 0):=by
 unfold lasts
 rw[Nz,h]
 rfl
def kdA(gs:List (List Nat)):(lasts gs).length=gs.length:=by simp[lasts]
noncomputable def khH{m:Nat}{r:List Nat}(hm:0<m)(hr:r.Nodup):(lasts (grp m r)).Nodup:=by
 refine M0.mpr fun i j hi hj hij e=>?_
 rw[kdA] at hi hj
 have e1:(grp m r)[i]?=some (grp m r)[i]:=by simp[hi]
 have e2:(grp m r)[j]?=some (grp m r)[j]:=by simp[hj]
 have a1:=khI hm e1
 have a2:=khI hm e2
 have b1:=kix e1
 have b2:=kix e2
 obtain⟨_,c1⟩:=NF.mp b1
 obtain⟨_,c2⟩:=NF.mp b2
 rw[c1,c2] at e
 rw[e] at a1
 obtain⟨l1,d1⟩:=NF.mp a1
 obtain⟨l2,d2⟩:=NF.mp a2
 have hlt:i*m+(m-1)<j*m+(m-1):=by
  have:=Nat.mul_lt_mul_of_pos_right hij hm
  omega
 exact M0.mp hr _ _ l1 l2 hlt (by rw[d1,d2])
def kmA{q:List Int}{i:Nat}(h:i∈ordQ q):i<q.length:=by
 have:=(kdo q).mem_iff.mp h
 simpa using this
end Vs
namespace Vs
open Kin Deal
noncomputable def kkR{n:Nat}{is:List Nat}{vs:List Int}{i:Nat}{v:Int}(hl:is.length=vs.length)(hn:(is++[i]).Nodup)(hi:i<n):(spr n is vs).set i v=spr n (is++[i]) (vs++[v]):=by
 have h:=kml (n:=n) (is:=is++[i]) (vs:=vs++[v]) hn (k:=is.length) (i:=i) (v:=v) (by simp) (by rw[hl];simp) hi
 rw[List.take_left' rfl,List.take_left' hl.symm,MC (by simp),MC (by simp[hl])] at h
 exact h
noncomputable def kep{gs:List (List Nat)}(h:gs.flatten.Nodup){i k a:Nat}{g:List Nat}(hg:gs[i]?=some g)(hk:g[k]?=some a):((gs.take i).flatten++g.take k++[a]).Nodup:=by
 have e:gs=gs.take i++g::gs.drop (i+1):=by
  obtain⟨hi,eg⟩:=NF.mp hg
  rw[<-eg,DG hi,Dm]
 have e2:g=(g.take k++[a])++g.drop (k+1):=by
  obtain⟨hk',ek⟩:=NF.mp hk
  rw[Mg,DH,<-ek,DG hk',Dm]
 rw[e,EI,N4] at h
 rw[Mg]
 refine h.sublist (List.Sublist.append_left ?_ _)
 refine List.Sublist.trans ?_ (DI g _)
 conv=>rhs;rw[e2]
 exact DI _ _
theorem kll{m:Nat}(r:List Nat):(grp m r).flatten=r.take (r.length/m*m):=by
 unfold grp
 have hle:r.length/m*m<=r.length:=Nat.div_mul_le_self _ _
 generalize r.length/m=c at *
 induction c with
 |zero=>simp
 |succ c ih=>
  have h1:c*m+m<=r.length:=by rw[<-Nat.succ_mul];exact hle
  rw[Mh,NC,EI,ih (by omega)]
  simp only[NJ,MI,N4,List.flatten_nil,Ml]
  rw[show(c+1)*m=c*m+m by rw[Nat.add_mul,Nat.one_mul],List.take_add]
def kkh{m:Nat}{r:List Nat}(h:r.Nodup):(grp m r).flatten.Nodup:=by
 rw[kll]
 exact h.sublist (List.take_sublist _ _)
end Vs
namespace Vs
open Kin Deal
theorem kc6{is:List Nat}(hn:is.Nodup){k i:Nat}(hk:is[k]?=some i):∀(l:List (Nat×Int)),(∀p∈l,p.1<is.length)->(l.map fun p=>(is.getD p.1 0,p.2)).lookup i=l.lookup k
 |[],_=>rfl
 | (j,v)::l,h=>by
  have ih:=kc6 hn hk l fun p hp=>h p (NR _ hp)
  have hj:j<is.length:=h (j,v) NV
  obtain⟨hk',ek⟩:=NF.mp hk
  have e:is.getD j 0=is[j]:=by rw[NL];simp[hj]
  simp only[NJ,Ma,e]
  by_cases q:k=j
  ·subst q
   simp[ek]
  ·have h1:(k==j)=false:=by simp[q]
   have h2:(i==is[j])=false:=by
    refine beq_eq_false_iff_ne.mpr fun z=>q ?_
    exact(List.getElem_inj hn).mp (by rw[ek,z])
   rw[h1,h2]
   exact ih
theorem lookup_none{is:List Nat}{i:Nat}(hi:∀k:Nat,is[k]?≠some i):∀(l:List (Nat×Int)),(∀p∈l,p.1<is.length)->(l.map fun p=>(is.getD p.1 0,p.2)).lookup i=none
 |[],_=>rfl
 |(j,v)::l,h=>by
  have ih:=lookup_none hi l fun p hp=>h p (NR _ hp)
  have hj:j<is.length:=h (j,v) NV
  have e:is.getD j 0=is[j]:=by rw[NL];simp[hj]
  have h2:(i==is[j])=false:=beq_eq_false_iff_ne.mpr fun z=>hi j (by rw[z];simp[hj])
  simp only[NJ,Ma,e,h2]
  exact ih
theorem keU{is:List Nat}(hn:is.Nodup){k i:Nat}(hk:is[k]?=some i):∀{vs:List Int},is.length=vs.length->(is.zip vs).lookup i=vs[k]?:=by
 induction is generalizing k with
 |nil=>simp at hk
 | cons a is ih=>
  intro vs hl
  cases vs with
  |nil=>simp at hl
  | cons v vs=>
   rw[List.zip_cons_cons,Ma]
   cases k with
   |zero=>
    have:a=i:=by simpa using hk
    subst this
    simp
   |succ k=>
    have hk':is[k]?=some i:=by simpa using hk
    have hh:=Mu.mp hn
    have hne:(i==a)=false:=beq_eq_false_iff_ne.mpr fun z=>hh.1 (z▸Ny hk')
    rw[hne]
    simpa using ih hh.2 hk' (by simpa using hl)
noncomputable def khh{n:Nat}{is js:List Nat}{vs:List Int}(hn:is.Nodup)(hj:∀j∈js,j<is.length):spr n is (spr is.length js vs)=spr n (js.map fun j=>is.getD j 0) vs:=by
 apply MF
 ·simp[spr]
 intro i h1 h2
 have ez:(js.map fun j=>is.getD j 0).zip vs=(js.zip vs).map fun p=>(is.getD p.1 0,p.2):=by rw[List.zip_map_left];rfl
 have hp:∀p∈js.zip vs,p.1<is.length:=fun p hp=>hj _ (MO hp).1
 simp only[spr,Eb,Ek]
 rw[ez]
 by_cases hk:∃k:Nat,is[k]?=some i
 ·obtain⟨k,hk⟩:=hk
  have hkl:=(NF.mp hk).1
  rw[kc6 hn hk _ hp,keU hn hk (by simp)]
  simp[hkl]
 ·rw[lookup_none (fun k e=>hk ⟨k,e⟩) _ hp]
  have:((is.zip ((Nw is.length).map fun i=>((js.zip vs).lookup i).getD 0)).lookup i)=none:=by
   rw[List.lookup_eq_none_iff]
   intro p hp'
   have:=(MO hp').1
   obtain⟨k,ek⟩:=M4.mp this
   have hne:i≠p.1:=fun z=>hk ⟨k,by rw[ek,<-z]⟩
   simpa using hne
  rw[this]
noncomputable def owns(n:Nat)(ow:List Nat)(is:List Nat):List (List Nat):=(Nw n).map fun l=>is.filter fun i=>ow.getD i 0==l
noncomputable def ke6(n:Nat)(ow is:List Nat):(ke7 n (is.map fun i=>ow.getD i 0)).map (fun g=>g.map fun j=>is.getD j 0)=owns n ow is:=by
 unfold ke7 owns
 rw[NQ]
 refine Mj fun l _=>?_
 show(((Nw _).filter _).map fun j=>is.getD j 0)=_
 have e:is=(Nw is.length).map fun j=>is.getD j 0:=by
  apply MF
  ·simp
  ·intro j h1 h2
   simp[NL,h1]
 conv=>rhs;rw[e]
 rw[List.filter_map,Nq]
 congr 1
 refine List.filter_congr fun k hk=>?_
 have hk':k<is.length:=by simpa using hk
 simp[NL,hk']
noncomputable def qs_qs{pr:List Int}{ab g:List Nat}(h:∀j∈g,j<ab.length):qs (qs pr ab) g=qs pr (g.map fun j=>ab.getD j 0):=by
 unfold qs
 rw[NQ]
 refine Mj fun j hj=>?_
 have:=h j hj
 simp[NL,this]
noncomputable def kg5{n:Nat}{lines:List Nat}{g:List Nat}(hg:g∈ke7 n lines){j:Nat}(hj:j∈g):j<lines.length:=by
 obtain⟨l,_,rfl⟩:=NO.mp hg
 have:=(N5.mp hj).1
 simpa using this
noncomputable def khT{n N:Nat}{ow ab:List Nat}{pr:List Int}(cut:Int->Int)(hn:ab.Nodup):spr n ab (gdl cut (ke7 N (ab.map fun i=>ow.getD i 0)) (qs pr ab))=spr n (owns N ow ab).flatten ((owns N ow ab).map fun o=>dl (cut (qs pr o).sum) (qs pr o)).flatten:=by
 unfold gdl
 rw[kcf,khh hn fun j hj=>?_,List.map_flatten,ke6]
 ·congr 2
  rw[<-ke6,NQ]
  refine Mj fun g hg=>?_
  have e:=qs_qs (pr:=pr) (ab:=ab) (g:=g) fun j hj=>by simpa using kg5 hg hj
  show dl (cut (qs (qs pr ab) g).sum) (qs (qs pr ab) g)=dl (cut (qs pr (g.map fun j=>ab.getD j 0)).sum) (qs pr (g.map fun j=>ab.getD j 0))
  rw[e]
 ·obtain⟨g,hg,hj'⟩:=MM.mp hj
  simpa using kg5 hg hj'
end Vs
namespace Vs
open Kin Deal
section
variable {p:Nat->Bool} {n:Nat} {w:List Int}
noncomputable def cnt(p:Nat->Bool)(j:Nat):Nat:=((Nw j).filter p).length
theorem kkA{j:Nat}(h:p j=true):cnt p (j+1)=cnt p j+1:=by
 unfold cnt
 rw[Mh,Mx,NG]
 simp[h]
theorem kma{j:Nat}(h:p j=false):cnt p (j+1)=cnt p j:=by
 unfold cnt
 rw[Mh,Mx,NG]
 simp[h]
theorem kcT:∀{n j:Nat},j<n->p j=true->((Nw n).filter p)[cnt p j]?=some j
 |0,j,h,_=>by omega
 | n+1,j,h,hp=>by
  rw[Mh,Mx]
  by_cases hj:j<n
  ·have ih:=kcT hj hp
   rw[Eg (NF.mp ih).1]
   exact ih
  ·have e:j=n:=by omega
   subst e
   unfold cnt
   rw[MQ (Nt _)]
   simp[hp]
theorem klF(hl:w.length=cnt p n){j:Nat}(hj:j<n):(spr n ((Nw n).filter p) w)[j]?=some (if p j=true then w.getD (cnt p j) 0 else 0):=by
 unfold spr
 rw[Nz,EL hj]
 show some _=some _
 congr 1
 show(Ms j (((Nw n).filter p).zip w)).getD 0=_
 cases hp:p j with
 |true=>
  rw[keU (MR.filter _ EJ) (kcT hj hp) hl.symm,if_pos rfl,NL]
 | false=>
  rw[if_neg NB]
  cases e:(((Nw n).filter p).zip w).lookup j with
  |none=>rw[E8]
  |some v=>
   obtain⟨k,hk,_⟩:=kdR e
   have:=(N5.mp (Ny hk)).2
   rw[hp] at this
   cases this
theorem kfP(hl:w.length=cnt p n):∀j,j<=n->pre (spr n ((Nw n).filter p) w) j=pre w (cnt p j)
 |0,_=>by simp[pre,cnt]
 | j+1,h=>by
  have ih:=kfP hl j (by omega)
  rw[kek (klF hl (show j<n by omega)),ih]
  cases hp:p j with
  |true=>
   have hk:=(NF.mp (kcT (show j<n by omega) hp)).1
   have hk':cnt p j<w.length:=by rw[hl];exact hk
   rw[if_pos rfl,kkA hp,kek (w:=w.getD (cnt p j) 0) (by rw[NL,MD hk'];rfl)]
  |false=>rw[if_neg NB,kma hp,Int.add_zero]
theorem kje(hl:w.length=cnt p n):(spr n ((Nw n).filter p) w).sum=w.sum:=by
 have h:=kfP hl n (Nt _)
 rw[<-hl,kjN] at h
 have e:pre (spr n ((Nw n).filter p) w) n=(spr n ((Nw n).filter p) w).sum:=by
  have:=kjN (spr n ((Nw n).filter p) w)
  rw[kc7] at this
  exact this
 rw[<-e,h]
theorem knt(m:Int)(hl:w.length=cnt p n):dl m (spr n ((Nw n).filter p) w)=spr n ((Nw n).filter p) (dl m w):=by
 have hl2:(dl m w).length=cnt p n:=by rw[kfw,hl]
 have hs:=kje hl
 apply List.ext_getElem?
 intro j
 by_cases hj:j<n
 ·rw[klF hl2 hj]
  have hjF:j<(spr n ((Nw n).filter p) w).length:=by rw[kc7];exact hj
  by_cases h0:w.sum=0
  ·rw[kkp (hs.trans h0) hjF]
   cases hp:p j with
   |false=>rw[if_neg NB]
   |true=>
    have hk:=(NF.mp (kcT hj hp)).1
    rw[if_pos rfl,NL,kkp h0 (by rw[hl];exact hk)]
    rfl
  ·rw[dl_at (by rw[hs];exact h0) hjF]
   unfold part
   rw[hs,kfP hl j (by omega),kfP hl (j+1) (by omega)]
   cases hp:p j with
   |false=>rw[if_neg NB,kma hp,Int.sub_self]
   |true=>
    have hk:=(NF.mp (kcT hj hp)).1
    rw[if_pos rfl,NL,dl_at h0 (by rw[hl];exact hk),kkA hp]
    rfl
 ·rw[Dk (by rw[kfw,kc7];omega),Dk (by rw[kc7];omega)]
end
def kmT{c:Int}{n:Nat}:dl c (Nu n 0)=Nu n 0:=by
 have e:(Nu n (0:Int)).sum=0:=by simp
 unfold dl
 rw[if_pos e]
 simp
theorem klw{V:Vch}{ps:List (Option Nat)}{kk:List Nat}{S:Stnd}(e:V.ms.most=none):
  (cutM V ps kk S).1=spr S.pr.length (abt ps kk V.ms.kind V.ms.lone S) (want V.so S.mkd.length ((abt ps kk V.ms.kind V.ms.lone S).map fun i=>S.ow.getD i 0) (qs S.pr (abt ps kk V.ms.kind V.ms.lone S))):=by
 unfold cutM cap
 rw[e]
theorem klv{V:Vch}{ps:List (Option Nat)}{kk:List Nat}{S:Stnd}(hl:S.pr.length=S.ow.length)
  (hw:Le2 (want V.so S.mkd.length ((abt ps kk V.ms.kind V.ms.lone S).map fun i=>S.ow.getD i 0) (qs S.pr (abt ps kk V.ms.kind V.ms.lone S))) (qs S.pr (abt ps kk V.ms.kind V.ms.lone S))) {m:Int} (e:V.ms.most=some m) (h0:0<=m):
  (cutM V ps kk S).1=if(spr S.pr.length (abt ps kk V.ms.kind V.ms.lone S) (want V.so S.mkd.length ((abt ps kk V.ms.kind V.ms.lone S).map fun i=>S.ow.getD i 0) (qs S.pr (abt ps kk V.ms.kind V.ms.lone S)))).sum > m
   then dl m (spr S.pr.length (abt ps kk V.ms.kind V.ms.lone S) (want V.so S.mkd.length ((abt ps kk V.ms.kind V.ms.lone S).map fun i=>S.ow.getD i 0) (qs S.pr (abt ps kk V.ms.kind V.ms.lone S))))
   else spr S.pr.length (abt ps kk V.ms.kind V.ms.lone S) (want V.so S.mkd.length ((abt ps kk V.ms.kind V.ms.lone S).map fun i=>S.ow.getD i 0) (qs S.pr (abt ps kk V.ms.kind V.ms.lone S))):=by
 have hwl:=hw.1
 rw[kcf] at hwl
 have ea:abt ps kk V.ms.kind V.ms.lone S=(Nw S.pr.length).filter fun i=>hits ps kk V.ms.kind V.ms.lone S.mkd (S.ow.getD i 0):=by rw[hl];rfl
 have ez:V.so=.carr->(want V.so S.mkd.length ((abt ps kk V.ms.kind V.ms.lone S).map fun i=>S.ow.getD i 0) (qs S.pr (abt ps kk V.ms.kind V.ms.lone S)))=Nu (qs S.pr (abt ps kk V.ms.kind V.ms.lone S)).length 0:=fun z=>by rw[z];rfl
 unfold cutM cap
 rw[e]
 simp only
 generalize want V.so S.mkd.length ((abt ps kk V.ms.kind V.ms.lone S).map fun i=>S.ow.getD i 0) (qs S.pr (abt ps kk V.ms.kind V.ms.lone S))=w at *
 rw[ea] at hwl⊢
 rw[kje hwl,knt m hwl]
 by_cases hc:V.so=.carr
 ·have hz:=ez hc
  have hs:w.sum=0:=by rw[hz];simp
  rw[if_neg (by omega:¬w.sum > m)]
  split
  ·simp only
   rw[hz,kmT]
  ·rfl
 ·have hf:fee V.so S.cg=0:=by
   unfold fee
   split
   ·rename_i z
    exact absurd z hc
   ·rfl
  rw[hf,Int.add_zero]
  by_cases hm:m<w.sum
  ·rw[if_pos hm,if_pos hm]
   simp only
   rw[Int.min_eq_left (by omega)]
  ·rw[if_neg hm,if_neg hm]
end Vs
namespace Vs
open Kin Deal
noncomputable def ins:List (Nat×List Nat)->Nat->Nat->List (Nat×List Nat)
 |[],o,a=>[(o,[a])]
 |(l,g)::G,o,a=>if l=o then(l,g++[a])::G else(l,g)::ins G o a
noncomputable def parted(f:Nat->Nat)(is:List Nat):List (Nat×List Nat):=is.foldl (fun G a=>ins G (f a) a) []
noncomputable def keJ(f:Nat->Nat)(is:List Nat)(a:Nat):parted f (is++[a])=ins (parted f is) (f a) a:=by
 unfold parted
 rw[List.foldl_append]
 rfl
theorem kem:∀(G:List (Nat×List Nat))(o a:Nat),(ins G o a).map Prod.fst=if o∈G.map Prod.fst then G.map Prod.fst else G.map Prod.fst++[o]
 |[],o,a=>by simp[ins]
 | (l,g)::G,o,a=>by
  unfold ins
  by_cases h:l=o
  ·subst h
   simp
  ·rw[if_neg h,NJ,kem G o a]
   show _=if o∈l::G.map Prod.fst then l::G.map Prod.fst else(l::G.map Prod.fst)++[o]
   have h':¬o=l:=fun z=>h z.symm
   by_cases hm:o∈G.map Prod.fst
   ·rw[if_pos hm,if_pos (NR _ hm)]
   ·rw[if_neg hm,if_neg (by rw[NS,not_or];exact⟨h',hm⟩)]
    rfl
theorem kkd:∀{G:List (Nat×List Nat)}{o a l:Nat}{g:List Nat},(G.map Prod.fst).Nodup->(l,g)∈ins G o a->(l≠o/\(l,g)∈G)∨(l=o/\((∃g',(o,g')∈G/\g=g'++[a])∨(o∉G.map Prod.fst/\g=[a])))
 |[],o,a,l,g,_,h=>by
  unfold ins at h
  rw[Mq] at h
  cases h
  exact .inr ⟨rfl, .inr ⟨by simp,rfl⟩⟩
 | (k,g0)::G,o,a,l,g,hn,h=>by
  unfold ins at h
  rw[NJ,Mu] at hn
  by_cases e:k=o
  ·rw[if_pos e] at h
   subst e
   rcases NS.mp h with z|z
   ·cases z
    exact .inr ⟨rfl, .inl ⟨g0,NV,rfl⟩⟩
   ·refine .inl ⟨fun w=>?_,NR _ z⟩
    subst w
    exact hn.1 (NO.mpr ⟨(l,g),z,rfl⟩)
  ·rw[if_neg e] at h
   rcases NS.mp h with z|z
   ·cases z
    exact .inl ⟨e,NV⟩
   ·rcases kkd hn.2 z with⟨w1,w2⟩|⟨w1,⟨g',w2,w3⟩|⟨w2,w3⟩⟩
    ·exact .inl ⟨w1,NR _ w2⟩
    ·exact .inr ⟨w1, .inl ⟨g',NR _ w2,w3⟩⟩
    ·refine .inr ⟨w1, .inr ⟨?_,w3⟩⟩
     rw[NJ,NS,not_or]
     exact⟨fun z=>e z.symm,w2⟩
structure PtOk (f:Nat->Nat) (is:List Nat) (G:List (Nat×List Nat)):Prop where
 nd:(G.map Prod.fst).Nodup
 gs:∀l g,(l,g)∈G->g=is.filter fun i=>f i==l
 all:∀i∈is,f i∈G.map Prod.fst
theorem kfp(f:Nat->Nat):∀(n:Nat)(is:List Nat),is.length=n->PtOk f is (parted f is)
 |0,is,h=>by
  have e:is=[]:=List.eq_nil_of_length_eq_zero h
  subst e
  exact⟨by simp[parted],fun l g hg=>by simp[parted] at hg,fun i hi=>by simp at hi⟩
 | n +1,is,h=>by
  have hne:is≠[]:=by
   intro z
   subst z
   cases h
  obtain⟨is',a,rfl⟩:∃is' a,is=is'++[a]:=⟨is.dropLast,is.getLast hne,(List.dropLast_concat_getLast hne).symm⟩
  have ih:=kfp f n is' (by simpa using h)
  rw[keJ]
  refine⟨?_,fun l g hg=>?_,fun i hi=>?_⟩
  ·rw[kem]
   split
   ·exact ih.nd
   ·rename_i hm
    exact Ej.mpr ⟨ih.nd,by simp,fun x hx y hy=>by
     rw[Mq] at hy
     subst hy
     exact fun z=>hm (by rw[<-z];exact hx)⟩
  ·rw[Mx]
   rcases kkd ih.nd hg with⟨w1,w2⟩|⟨w1,⟨g',w2,w3⟩|⟨w2,w3⟩⟩
   ·rw[ih.gs l g w2]
    have:(f a==l)=false:=by simpa using fun z=>w1 z.symm
    simp[this]
   ·subst w1 w3
    rw[ih.gs _ g' w2]
    simp
   ·subst w1 w3
    have e:is'.filter (fun i=>f i==f a)=[]:=by
     rw[DJ]
     intro i hi z
     have z':f i=f a:=by simpa using z
     exact w2 (by rw[<-z'];exact ih.all i hi)
    rw[e]
    simp
  ·rw[kem]
   rcases N6.mp hi with hi|hi
   ·have:=ih.all i hi
    split
    ·exact this
    ·exact E2 _ this
   ·rw[Mq] at hi
    subst hi
    split
    ·assumption
    ·exact Md _ (by simp)
def kcQ(f:Nat->Nat)(is:List Nat):PtOk f is (parted f is):=kfp f is.length is rfl
noncomputable def PtOk.snds{f:Nat->Nat}{is:List Nat}{G:List (Nat×List Nat)}(h:PtOk f is G):G.map Prod.snd=(G.map Prod.fst).map fun l=>is.filter fun i=>f i==l:=by
 rw[NQ]
 refine Mj fun p hp=>?_
 exact h.gs p.1 p.2 hp
theorem kiY{l l':List (Nat×Int)}{i:Nat}:(l++l').lookup i=(l.lookup i).or (l'.lookup i):=by
 induction l with
 |nil=>simp
 |cons p l ih=>
  obtain⟨a,b⟩:=p
  rw[MK,Ma,Ma,ih]
  split <;> rfl
theorem kft{l:List (Nat×Int)}{i:Nat}(h:∀p∈l,p.1≠i):l.lookup i=none:=by
 induction l with
 |nil=>rfl
 | cons p l ih=>
  obtain⟨a,b⟩:=p
  have h1:(i==a)=false:=by
   have:=h (a,b) NV
   simpa using fun z=>this z.symm
  rw[Ma,h1]
  exact ih fun q hq=>h q (NR _ hq)
section
variable {f:Nat->Nat} {is:List Nat} {D:List Nat->List Int}
theorem kmc{l i:Nat}{vs:List Int}(h:f i≠l):((is.filter fun i=>f i==l).zip vs).lookup i=none:=
 kft fun p hp=>by
  have h1:=(MO (show(p.1,p.2)∈_ from hp)).1
  have h2:f p.1=l:=by simpa using(N5.mp h1).2
  intro z
  rw[z] at h2
  exact h h2
theorem kd0(hD:∀g,(D g).length=g.length)(i:Nat):∀(ks:List Nat),ks.Nodup->
  (((ks.map fun l=>is.filter fun i=>f i==l).flatten).zip ((ks.map fun l=>D (is.filter fun i=>f i==l)).flatten)).lookup i=if f i∈ks then((is.filter fun j=>f j==f i).zip (D (is.filter fun j=>f j==f i))).lookup i else none
 |[],_=>by simp
 | l::ks,hn=>by
  rw[Mu] at hn
  have ih:=kd0 hD i ks hn.2
  rw[NJ,NJ,N4,N4,List.zip_append (hD _).symm,kiY,ih]
  by_cases h:f i=l
  ·subst h
   rw[if_neg hn.1,if_pos NV,En]
  ·rw[kmc h,Option.none_or]
   by_cases hm:f i∈ks
   ·rw[if_pos hm,if_pos (NR _ hm)]
   ·rw[if_neg hm,if_neg (by rw[NS,not_or];exact⟨h,hm⟩)]
theorem kiR(hD:∀g,(D g).length=g.length){n:Nat}{ks ks':List Nat}(hn:ks.Nodup)(hn':ks'.Nodup)(h:∀i∈is,f i∈ks)(h':∀i∈is,f i∈ks'):
  spr n (ks.map fun l=>is.filter fun i=>f i==l).flatten (ks.map fun l=>D (is.filter fun i=>f i==l)).flatten=spr n (ks'.map fun l=>is.filter fun i=>f i==l).flatten (ks'.map fun l=>D (is.filter fun i=>f i==l)).flatten:=by
 unfold spr
 refine Mj fun i _=>?_
 have key:∀ks:List Nat,ks.Nodup->(∀i∈is,f i∈ks)->(((ks.map fun l=>is.filter fun i=>f i==l).flatten).zip ((ks.map fun l=>D (is.filter fun i=>f i==l)).flatten)).lookup i=((is.filter fun j=>f j==f i).zip (D (is.filter fun j=>f j==f i))).lookup i:=fun ks hn hk=>by
  rw[kd0 hD i ks hn]
  by_cases hm:f i∈ks
  ·rw[if_pos hm]
  ·rw[if_neg hm,kft fun p hp=>?_]
   have h1:=(MO (show(p.1,p.2)∈_ from hp)).1
   obtain⟨h2,h3⟩:=N5.mp h1
   exact fun _=>hm (by rw[<-(show f p.1=f i by simpa using h3)];exact hk _ h2)
 rw[key ks hn h,key ks' hn' h']
theorem keI(hi:is.Nodup):∀{ks:List Nat},ks.Nodup->(ks.map fun l=>is.filter fun i=>f i==l).flatten.Nodup
 |[],_=>by simp
 |l::ks,hn=>by
  rw[Mu] at hn
  rw[NJ,N4]
  refine Ej.mpr ⟨hi.filter _,keI hi hn.2,fun x hx y hy z=>?_⟩
  subst z
  have h1:f x=l:=by simpa using(N5.mp hx).2
  obtain⟨g,hg,hy⟩:=MM.mp hy
  obtain⟨l',hl',rfl⟩:=NO.mp hg
  have h2:f x=l':=by simpa using(N5.mp hy).2
  exact hn.1 (by rw[<-h1,h2];exact hl')
end
theorem kiS{n N:Nat}{ow ab:List Nat}{pr:List Int}(cut:Int->Int)(hn:ab.Nodup)(hN:∀i∈ab,ow.getD i 0<N):
  spr n ((parted (fun i=>ow.getD i 0) ab).map Prod.snd).flatten (((parted (fun i=>ow.getD i 0) ab).map Prod.snd).map fun g=>dl (cut (qs pr g).sum) (qs pr g)).flatten=spr n ab (gdl cut (ke7 N (ab.map fun i=>ow.getD i 0)) (qs pr ab)):=by
 have ok:=kcQ (fun i=>ow.getD i 0) ab
 rw[khT cut hn,ok.snds]
 generalize hks:(parted (fun i=>ow.getD i 0) ab).map Prod.fst=ks at *
 have nd:ks.Nodup:=by rw[<-hks];exact ok.nd
 have al:∀i∈ab,ow.getD i 0∈ks:=by rw[<-hks];exact ok.all
 unfold owns
 rw[NQ,NQ]
 exact kiR (f:=fun i=>ow.getD i 0) (is:=ab) (D:=fun g=>dl (cut (qs pr g).sum) (qs pr g)) (fun g=>by rw[kfw,kcf]) nd EJ al fun i hi=>by simpa using hN i hi
noncomputable def kfq(f:Nat->Nat):∀(is:List Nat),(parted f is).length<=is.length:=by
 intro is
 have key:∀(is:List Nat)(G:List (Nat×List Nat)),(is.foldl (fun G a=>ins G (f a) a) G).length<=G.length+is.length:=by
  intro is
  induction is with
  |nil=>intro G;simp
  | cons a is ih=>
   intro G
   have h1:=ih (ins G (f a) a)
   have h2:(ins G (f a) a).length<=G.length+1:=by
    have:=congrArg MP (kem G (f a) a)
    rw[Nq] at this
    rw[this]
    split <;> simp
   rw[List.foldl_cons,NW]
   omega
 simpa[parted] using key is []
end Vs
namespace Vs
open Kin Deal
noncomputable def fallP(pr:List Int)(is:List Nat):List Nat:=(ordQ (qs pr is)).map fun j=>is.getD j 0
def range_getD(is:List Nat):(Nw is.length).map (fun j=>is.getD j 0)=is:=by
 apply MF
 ·simp
 ·intro j h1 h2
  simp[NL,h2]
noncomputable def kbB(pr:List Int)(is:List Nat):(fallP pr is).Perm is:=by
 have h:=(kdo (qs pr is)).map fun j=>is.getD j 0
 rw[kcf,range_getD] at h
 exact h
noncomputable def befP(pr:List Int)(a b:Nat):Prop:=pr.getD b 0<pr.getD a 0∨(pr.getD a 0=pr.getD b 0/\a<b)
noncomputable def klq{pr:List Int}{is:List Nat}(hs:is.Pairwise (· < ·)):(fallP pr is).Pairwise (befP pr):=by
 have h:=(keK (qs pr is)).2
 have hm:=(keK (qs pr is)).1
 unfold fallP
 rw[EM]
 refine h.imp_of_mem fun {a b} ha hb hab=>?_
 have la:a<is.length:=by simpa[kcf] using hm.mem_iff.mp ha
 have lb:b<is.length:=by simpa[kcf] using hm.mem_iff.mp hb
 have ea:(qs pr is).getD a 0=pr.getD (is.getD a 0) 0:=by simp[qs,NL,la]
 have eb:(qs pr is).getD b 0=pr.getD (is.getD b 0) 0:=by simp[qs,NL,lb]
 unfold bef at hab
 unfold befP
 rw[ea,eb] at hab
 rcases hab with z|⟨z1,z2⟩
 ·exact .inl z
 ·refine .inr ⟨z1,?_⟩
  have:=M0.mp hs a b la lb z2
  simpa[NL,la,lb] using this
noncomputable def ki1{pr:List Int}{is ks:List Nat}(hs:is.Pairwise (· < ·))(hp:ks.Perm is)(hk:ks.Pairwise (befP pr)):ks=fallP pr is:=
 keB (R:=befP pr) (fun a b h h'=>by unfold befP at h h';omega) (hp.trans (kbB pr is).symm) hk (klq hs)
noncomputable def kkj(m:Nat)(f:Nat->Nat)(r:List Nat):grp m (r.map f)=(grp m r).map fun g=>g.map f:=by
 unfold grp
 rw[Nq,NQ]
 refine Mj fun g _=>?_
 show((r.map f).drop _).take _=((r.drop _).take _).map f
 rw[MU,Do]
def kki{m:Nat}{r g:List Nat}(h:g∈grp m r):∀j∈g,j∈r:=fun j hj=>by
 obtain⟨i,_,rfl⟩:=NO.mp h
 exact List.mem_of_mem_drop (Dp hj)
theorem kkk{n:Nat}{ab:List Nat}{pr:List Int}(cut:Int->Int)(hn:ab.Nodup)(gs:List (List Nat))(hg:∀g∈gs,∀j∈g,j<ab.length):
  spr n ab (gdl cut gs (qs pr ab))=spr n (gs.map fun g=>g.map fun j=>ab.getD j 0).flatten ((gs.map fun g=>g.map fun j=>ab.getD j 0).map fun o=>dl (cut (qs pr o).sum) (qs pr o)).flatten:=by
 unfold gdl
 rw[kcf,khh hn fun j hj=>?_,List.map_flatten,NQ]
 ·congr 2
  refine Mj fun g hg'=>?_
  have e:=qs_qs (pr:=pr) (ab:=ab) (g:=g) (hg g hg')
  show dl (cut (qs (qs pr ab) g).sum) (qs (qs pr ab) g)=dl (cut (qs pr (g.map fun j=>ab.getD j 0)).sum) (qs pr (g.map fun j=>ab.getD j 0))
  rw[e]
 ·obtain⟨g,hg',hj'⟩:=MM.mp hj
  exact hg g hg' j hj'
noncomputable def klU{pr:List Int}{is:List Nat}{m:Nat}{g:List Nat}(h:g∈grp m (ordQ (qs pr is))):∀j∈g,j<is.length:=fun j hj=>by
 have:=kmA (kki h j hj)
 rwa [kcf] at this
theorem kly{n m:Nat}{is:List Nat}{pr:List Int}(cut:Int->Int)(hn:is.Nodup):
  spr n is (gdl cut (grp m (ordQ (qs pr is))) (qs pr is))=spr n (grp m (fallP pr is)).flatten ((grp m (fallP pr is)).map fun o=>dl (cut (qs pr o).sum) (qs pr o)).flatten:=by
 rw[kkk cut hn _ fun g hg=>klU hg]
 unfold fallP
 rw[kkj]
noncomputable def kj5{f:Nat->Nat}{gs:List (List Nat)}(h:∀g∈gs,g≠[]):lasts (gs.map fun g=>g.map f)=(lasts gs).map f:=by
 unfold lasts
 rw[NQ,NQ]
 refine Mj fun g hg=>?_
 show(g.map f).getLastD 0=f (g.getLastD 0)
 have hne:=h g hg
 rw[EN,EN,List.getLast?_map,DK hne]
 rfl
noncomputable def knu(c:Int):dl c [c]=[c]:=by
 unfold dl
 by_cases h:[c].sum=0
 ·rw[if_pos h]
  have:c=0:=by simpa using h
  simp[this]
 ·rw[if_neg h]
  have hc:c≠0:=by simpa using h
  have e:part c [c] 0=c:=by
   unfold part pre
   simp[Int.mul_ediv_cancel _ hc]
  simp[Mh,e]
theorem kjB(f:Nat->Int):∀(l:List Nat),(l.map fun i=>[i]).flatten=l/\(l.map fun i=>[f i]).flatten=l.map f
 |[]=>⟨rfl,rfl⟩
 |a::l=>by
  obtain⟨h1,h2⟩:=kjB f l
  simp[h1,h2]
theorem kkD{n m:Nat}{is:List Nat}{pr:List Int}(hm:0<m)(hn:is.Nodup):
  spr n is (spr (qs pr is).length (lasts (grp m (ordQ (qs pr is)))) (qs (qs pr is) (lasts (grp m (ordQ (qs pr is))))))=spr n (lasts (grp m (fallP pr is))) ((lasts (grp m (fallP pr is))).map fun i=>pr.getD i 0):=by
 have ne:∀g∈grp m (ordQ (qs pr is)),g≠[]:=fun g hg z=>by
  obtain⟨i,hi⟩:=M4.mp hg
  have:=(kiC hi).2.1
  rw[z] at this
  simp at this
  omega
 have hl:∀j∈lasts (grp m (ordQ (qs pr is))),j<is.length:=fun j hj=>by
  obtain⟨g,hg,rfl⟩:=NO.mp hj
  refine klU hg _ ?_
  rw[EN,DK (ne g hg)]
  exact List.getLast_mem _
 rw[kcf,khh hn hl,qs_qs hl]
 have e:lasts (grp m (fallP pr is))=(lasts (grp m (ordQ (qs pr is)))).map fun j=>is.getD j 0:=by
  unfold fallP
  rw[kkj,kj5 ne]
 rw[e]
 rfl
noncomputable def spr_zero{n k:Nat}{is:List Nat}:spr n is (Nu k 0)=Nu n 0:=by
 unfold spr
 apply MF
 ·simp
 ·intro j h1 h2
  simp only[Eb,Ek,List.getElem_replicate]
  cases e:(is.zip (Nu k (0:Int))).lookup j with
  |none=>rfl
  |some v=>
   obtain⟨i,_,hv⟩:=kdR e
   have:=List.eq_of_mem_replicate (Ny hv)
   rw[this]
   rfl
def ke3{pr:List Int}{is:List Nat}(hn:is.Nodup):(fallP pr is).Nodup:=(kbB pr is).nodup_iff.mpr hn
def khL(m:Nat)(r:List Nat):(grp m r).length<=r.length:=by
 unfold grp
 rw[Nq,List.length_range]
 exact Nat.div_le_self _ _
end Vs
namespace Vs
open Kin Deal
structure Later (S S':Stnd):Prop where
 ow:S'.ow=S.ow
 pr:Le2 S'.pr S.pr
 cg:0<=S'.cg/\S'.cg<=S.cg
 mg:∀l,S.mkd.getD l false=true->S'.mkd.getD l false=true
def Later.refl{S:Stnd}(hn:Nn S.pr)(hc:0<=S.cg):Later S S:=⟨rfl,Le2.self hn,⟨hc,Int.le_refl _⟩,fun _ h=>h⟩
noncomputable def Later.trans{S S' S'':Stnd}(h:Later S S')(h':Later S' S''):Later S S'':=⟨h'.ow.trans h.ow,h'.pr.trans h.pr,⟨h'.cg.1,Int.le_trans h'.cg.2 h.cg.2⟩,fun l e=>h'.mg l (h.mg l e)⟩
end Vs
namespace Vs
open PySem L2
noncomputable def top(i:Nat):Stmt:=PySem.Challenge.pw_voucherstack_k55_whole_looks_against_all.main.body.getD i (.Pass ⟨0,0,0,0⟩)
noncomputable abbrev khu:Stmt:=top 1
noncomputable abbrev khs:Stmt:=top 3
noncomputable abbrev kbK:Stmt:=top 15
noncomputable abbrev kew:Stmt:=top 18
noncomputable abbrev kjE:Stmt:=top 19
noncomputable abbrev kc9:Stmt:=top 20
noncomputable abbrev kjF:Stmt:=top 21
noncomputable abbrev khv:Stmt:=top 22
noncomputable abbrev kbN:Stmt:=top 23
noncomputable abbrev kbw:Stmt:=top 24
noncomputable abbrev kbc:Stmt:=top 25
noncomputable abbrev kbM:Stmt:=top 26
noncomputable abbrev kaF:Stmt:=top 27
noncomputable abbrev kb0:Stmt:=top 28
noncomputable abbrev kcy:Stmt:=top 29
noncomputable abbrev kbZ:Stmt:=top 30
noncomputable abbrev kev:Stmt:=top 31
noncomputable abbrev kht:Stmt:=top 34
noncomputable abbrev kfL:Stmt:=top 35
noncomputable abbrev kbX:Stmt:=top 36
noncomputable abbrev kck:Stmt:=top 37
noncomputable abbrev kcl:Stmt:=top 38
noncomputable abbrev kbv:Stmt:=top 39
noncomputable abbrev kc8:Stmt:=top 41
noncomputable abbrev ka1:Stmt:=top 43
noncomputable abbrev kci:Stmt:=top 44
noncomputable abbrev kcz:Stmt:=top 45
noncomputable abbrev kcA:Stmt:=top 46
noncomputable abbrev kcH:Stmt:=top 47
noncomputable abbrev kbY:Stmt:=top 48
noncomputable abbrev kbl:Stmt:=top 49
noncomputable abbrev kbL:Stmt:=top 50
noncomputable abbrev kfM:Stmt:=top 51
noncomputable abbrev kfN:Stmt:=top 57
noncomputable abbrev kcJ:Stmt:=top 61
noncomputable abbrev kdJ:Stmt:=top 62
noncomputable abbrev kdf:Stmt:=top 63
noncomputable abbrev kcn:Stmt:=top 64
noncomputable abbrev kcN:Stmt:=top 65
noncomputable abbrev kcm:Stmt:=top 66
noncomputable abbrev kcM:Stmt:=top 67
noncomputable abbrev kda:Stmt:=top 68
noncomputable abbrev kdd:Stmt:=top 69
noncomputable abbrev kbC:Stmt:=top 70
noncomputable abbrev kdb:Stmt:=top 71
noncomputable abbrev kcV:Stmt:=top 72
noncomputable abbrev kcK:Stmt:=top 73
noncomputable abbrev kcI:Stmt:=top 74
noncomputable abbrev kcL:Stmt:=top 75
noncomputable abbrev kcB:Stmt:=top 76
noncomputable abbrev kde:Stmt:=top 77
noncomputable abbrev kex:Stmt:=top 78
noncomputable abbrev kdc:Stmt:=top 79
noncomputable abbrev s_law:Stmt:=top 80
noncomputable abbrev ka0:Stmt:=inClass (top 5) 0
noncomputable abbrev kaS:Stmt:=inClass (top 6) 0
noncomputable abbrev kbn:Stmt:=inClass (top 7) 0
noncomputable abbrev kaZ:Stmt:=inClass (top 8) 0
noncomputable abbrev kaL:Stmt:=inClass (top 9) 0
noncomputable abbrev kaV:Stmt:=inClass (top 10) 0
noncomputable abbrev kaM:Stmt:=inClass (top 11) 0
noncomputable abbrev ka8:Stmt:=inClass (top 13) 0
noncomputable abbrev kaW:Stmt:=inClass (top 14) 0
noncomputable abbrev kb4:Stmt:=inClass (top 16) 0
noncomputable abbrev kbO:Stmt:=inClass (top 16) 1
noncomputable abbrev kdK:Stmt:=inClass (top 33) 0
noncomputable abbrev kco:Stmt:=inClass (top 33) 1
noncomputable abbrev kcO:Stmt:=inClass (top 33) 2
noncomputable abbrev kbs:Stmt:=inClass (top 33) 3
noncomputable abbrev kb3:Stmt:=inClass (top 33) 4
noncomputable abbrev kdg:Stmt:=inClass (top 56) 0
noncomputable abbrev ka7:Stmt:=inClass (top 59) 0
set_option genInjectivity false
set_option genSizeOf false
set_option genCtorIdx false
structure D where
 XM:Addr
 XO:FuncData
 XQ:Addr
 XR:FuncData
 XS:Addr
 XT:FuncData
 XU:Addr
 XW:FuncData
 XX:Addr
 XY:FuncData
 XZ:Addr
 X0:FuncData
 X1:Addr
 X2:FuncData
 X3:Addr
 X4:FuncData
 X5:Addr
 X6:FuncData
 X7:Addr
 X8:FuncData
 X9:Addr
 Ya:FuncData
 Yb:Addr
 Yc:FuncData
 Yd:Addr
 QS:FuncData
 Ye:Addr
 Yf:FuncData
 Yg:Addr
 Yh:FuncData
 Yi:Addr
 Yj:FuncData
 Yk:Addr
 Yl:FuncData
 Ym:Addr
 Yn:FuncData
 Yo:Addr
 Yp:FuncData
 Yq:Addr
 Yr:FuncData
 Ys:Addr
 Yt:FuncData
 Yu:Addr
 Yv:FuncData
 Yw:Addr
 Yx:FuncData
 q9:Addr
 Qa:FuncData
 Yy:Addr
 QT:FuncData
 Yz:Addr
 YA:FuncData
 YB:Addr
 YC:FuncData
 YD:Addr
 YE:FuncData
 YF:Addr
 YG:FuncData
 Qq:Addr
 Qr:FuncData
 Qs:Addr
 Qt:FuncData
 YH:Addr
 YI:FuncData
 YJ:Addr
 YK:FuncData
 YL:Addr
 YM:FuncData
 YN:Addr
 YO:FuncData
 YQ:Addr
 YR:FuncData
 YS:Addr
 YT:FuncData
 YU:Addr
 YV:FuncData
 YW:Addr
 YX:FuncData
 YY:Addr
 YZ:FuncData
 Y0:Addr
 Y1:FuncData
 Y2:Addr
 Y3:FuncData
 Y5:Addr
 Y7:FuncData
 Y9:Addr
 Za:FuncData
 Qb:Addr
 Qc:FuncData
 Zb:Addr
 Zc:FuncData
 Zd:Addr
 Ze:FuncData
 Zf:Addr
 Zg:FuncData
 Zh:Addr
 Zi:FuncData
 Zj:Addr
 Zk:FuncData
 Zl:Addr
 Zm:FuncData
 Zn:Addr
 Zo:FuncData
 Zp:Addr
 Zq:FuncData
 f_law:Addr
 Zr:FuncData
 qf:Addr
 Zs:Addr
 qJ:FuncData
 tok1_Marks_init:Nat
 qB:Addr
 QU:Addr
 QV:FuncData
 c_Off:Addr
 Zt:Addr
 QW:FuncData
 qi:Addr
 Zu:Addr
 Qu:FuncData
 qm:Addr
 Zv:Addr
 QX:FuncData
 qj:Addr
 Zw:Addr
 QY:FuncData
 qo:Addr
 Zx:Addr
 QZ:FuncData
 qe:Addr
 Zy:Addr
 Q0:FuncData
 qg:Addr
 Zz:Addr
 Qv:FuncData
 tok0_Basket_init:Nat
 qc:Addr
 ZA:Addr
 ZC:FuncData
 ZD:Addr
 ZE:FuncData
 c_Way:Addr
 ZF:Addr
 ZG:FuncData
 ZH:Addr
 ZI:FuncData
 ZJ:Addr
 ZK:FuncData
 ZL:Addr
 ZM:FuncData
 ZN:Addr
 ZO:FuncData
 qh:Addr
 ZP:Addr
 ZQ:FuncData
 qd:Addr
 ZR:Addr
 Q1:FuncData
 tok0_Till_init:Nat
 cc_falling_groups:Addr
 tP_falling_groups:Addr
 cc_first_use:Addr
 tP_first_use:Addr
structure Wld (K:Nr) (mg:Str->Option Value) (d:D):Prop where
 B:TxtB mg
 Q2:Dn K mg "dealt" khu ["cut","weights"] d.XM d.XO
 ZS:Dn K mg "under" khs ["parents","one","other"] d.XQ d.XR
 ZT:Dn K mg "price_of_piece" kbK ["line","member"] d.XS d.XT
 Qw:Dn K mg "about" kew ["voucher","parents","basket","standing"] d.XU d.XW
 ZU:Dn K mg "fits" kjE ["marks","parents","kind","marked"] d.XX d.XY
 ZV:Dn K mg "hindrance" kc9 ["voucher","parents","basket","standing"] d.XZ d.X0
 ZW:Dn K mg "cuts" kjF ["voucher","parents","basket","standing"] d.X1 d.X2
 ZX:Dn K mg "after" khv ["voucher","parents","basket","standing"] d.X3 d.X4
 Q3:Dn K mg "cuts_of_pieces" kbN ["voucher","parents","basket","standing"] d.X5 d.X6
 Q4:Dn K mg "cut_of_carriage" kbw ["voucher","standing"] d.X7 d.X8
 ZY:Dn K mg "wanted_cuts" kbc ["voucher","standing","pieces"] d.X9 d.Ya
 ZZ:Dn K mg "parted_by_line" kbM ["standing","pieces"] d.Yb d.Yc
 Q5:Dn K mg "falling_groups" kaF ["standing","pieces","many"] d.Yd d.QS
 Z9:Dn K mg "marked_behind" kb0 ["voucher","standing","piece_cuts"] d.Ye d.Yf
 Q6:Dn K mg "prices_of" kcy ["standing","pieces"] d.Yg d.Yh
 qT:Dn K mg "sum_of_prices" kbZ ["standing","pieces"] d.Yi d.Yj
 Va:Dn K mg "at_most" kev ["most","number"] d.Yk d.Yl
 Q7:Dn K mg "fault" kht ["till","basket","hand","order"] d.Ym d.Yn
 Vb:Dn K mg "way_by" kfL ["till","basket","hand","order"] d.Yo d.Yp
 Vd:Dn K mg "word_of_order" kbX ["till","hand","used","number"] d.Yq d.Yr
 Ve:Dn K mg "breaks_never" kck ["rules","used","number"] d.Ys d.Yt
 Vf:Dn K mg "breaks_ahead" kcl ["rules","used","number"] d.Yu d.Yv
 Vg:Dn K mg "without_company" kbv ["rules","order"] d.Yw d.Yx
 Qd:Dn K mg "ways_from" kc8 ["way"] d.q9 d.Qa
 Vh:Dn K mg "first_use" ka1 ["till","voucher","baskets"] d.Yy d.QT
 Vi:Dn K mg "first_unlike" kci ["till","baskets"] d.Yz d.YA
 Vj:Dn K mg "first_spill" kcz ["till","baskets"] d.YB d.YC
 Qx:Dn K mg "first_found" kcA ["till","baskets","look"] d.YD d.YE
 Vk:Dn K mg "order_with" kcH ["ways","voucher"] d.YF d.YG
 Qy:Dn K mg "unlike_orders" kbY ["ways"] d.Qq d.Qr
 Qz:Dn K mg "order_that_spills" kbl ["ways"] d.Qs d.Qt
 Vl:Dn K mg "place_of_spill" kbL ["way"] d.YH d.YI
 Vm:Dn K mg "spills" kfM ["way","voucher"] d.YJ d.YK
 Q8:Dn K mg "priced" kfN ["till","basket","hand","order"] d.YL d.YM
 Q9:Dn K mg "_law_whole" kcJ ["_law_found"] d.YN d.YO
 qz:Dn K mg "_law_mix" kdJ ["_law_cell","_law_factor","_law_prime"] d.YQ d.YR
 Xa:Dn K mg "_law_coin" kdf ["_law_cell"] d.YS d.YT
 Vn:Dn K mg "_law_parents" kcn ["_law_cell"] d.YU d.YV
 Vo:Dn K mg "_law_marks" kcN ["_law_cell","_law_kinds"] d.YW d.YX
 Vp:Dn K mg "_law_voucher" kcm ["_law_cell","_law_kinds"] d.YY d.YZ
 Vq:Dn K mg "_law_rules" kcM ["_law_cell","_law_many"] d.Y0 d.Y1
 Vr:Dn K mg "_law_till" kda ["_law_script","_law_most_here"] d.Y2 d.Y3
 Vt:Dn K mg "_law_line" kdd ["_law_cell","_law_kinds"] d.Y5 d.Y7
 Vu:Dn K mg "_law_baskets" kbC ["_law_script","_law_kinds","_law_most_here"] d.Y9 d.Za
 Qe:Dn K mg "_law_rows" kdb ["_law_many","_law_row"] d.Qb d.Qc
 Vv:Dn K mg "_law_let" kcV ["_law_till_here","_law_basket"] d.Zb d.Zc
 Vw:Dn K mg "_law_under" kcK ["_law_parents_here","_law_one","_law_other"] d.Zd d.Ze
 Vx:Dn K mg "_law_worth" kcI ["_law_till_here","_law_basket","_law_voucher_here","_law_prices","_law_marked"] d.Zf d.Zg
 Vy:Dn K mg "_law_spilt" kcL ["_law_till_here","_law_basket","_law_row"] d.Zh d.Zi
 Vz:Dn K mg "_law_unlike" kcB ["_law_till_here","_law_basket","_law_rows_here"] d.Zj d.Zk
 VA:Dn K mg "_law_dues" kde ["_law_till_here","_law_baskets_here"] d.Zl d.Zm
 QA:Dn K mg "_law_is" kex ["_law_found","_law_due"] d.Zn d.Zo
 VB:Dn K mg "_law_most" kdc ["_law_script","_law_wide"] d.Zp d.Zq
 d_law:Dn K mg "law" s_law ["_law_script"] d.f_law d.Zr
 qf:ClsT K mg "Marks" d.qf
 Qf:NoAttr K d.qf "kind"
 VC:NoAttr K d.qf "needs"
 Xb:NoAttr K d.qf "most"
 VD:NoAttr K d.qf "member"
 VE:NoAttr K d.qf "once"
 qU:NoAttr K d.qf "lone"
 QB:MthT K d.qf "__init__" "Marks.__init__" ka0 ["self","kind","needs","most","member","once","lone"] d.Zs d.qJ
 b1_Marks_init:Binds K d.qJ ["self","kind","needs","most","member","once","lone"] [.bool false]
 b2_Marks_init:Binds K d.qJ ["self","kind","needs","most","member","once","lone"] [.bool false, .bool false]
 b3_Marks_init:Binds K d.qJ ["self","kind","needs","most","member","once","lone"] [.bool false, .bool false, .bool false]
 b4_Marks_init:Binds K d.qJ ["self","kind","needs","most","member","once","lone"] [.none, .bool false, .bool false, .bool false]
 b5_Marks_init:Binds K d.qJ ["self","kind","needs","most","member","once","lone"] [.int 0 d.tok1_Marks_init, .none, .bool false, .bool false, .bool false]
 b6_Marks_init:Binds K d.qJ ["self","kind","needs","most","member","once","lone"] [.none, .int 0 d.tok1_Marks_init, .none, .bool false, .bool false, .bool false]
 qB:ClsT K mg "Voucher" d.qB
 qu:MthT K d.qB "__init__" "Voucher.__init__" kaS ["self","marks"] d.QU d.QV
 b1_Voucher_init:Binds K d.QV ["self","marks"] [.none]
 g_Off:mg "Off"=some (.ref d.c_Off)
 c_Off:ClsT K mg "Off" d.c_Off
 QC:NoAttr K d.c_Off "amount"
 VF:NoAttr K d.c_Off "marks"
 Xc:MthT K d.c_Off "__init__" "Off.__init__" kbn ["self","amount","marks"] d.Zt d.QW
 b1_Off_init:Binds K d.QW ["self","amount","marks"] [.none]
 V7:mg "Share"=some (.ref d.qi)
 qi:ClsT K mg "Share" d.qi
 VG:NoAttr K d.qi "share"
 VH:NoAttr K d.qi "by_line"
 VI:NoAttr K d.qi "marks"
 Xd:MthT K d.qi "__init__" "Share.__init__" kaZ ["self","share","by_line","marks"] d.Zu d.Qu
 b1_Share_init:Binds K d.Qu ["self","share","by_line","marks"] [.none]
 b2_Share_init:Binds K d.Qu ["self","share","by_line","marks"] [.bool false, .none]
 V8:mg "Cheapest"=some (.ref d.qm)
 qm:ClsT K mg "Cheapest" d.qm
 VJ:NoAttr K d.qm "many"
 VL:NoAttr K d.qm "marks"
 Xe:MthT K d.qm "__init__" "Cheapest.__init__" kaL ["self","many","marks"] d.Zv d.QX
 b1_Cheapest_init:Binds K d.QX ["self","many","marks"] [.none]
 V9:mg "Bundle"=some (.ref d.qj)
 qj:ClsT K mg "Bundle" d.qj
 VM:NoAttr K d.qj "many"
 VN:NoAttr K d.qj "price"
 VO:NoAttr K d.qj "marks"
 Xf:MthT K d.qj "__init__" "Bundle.__init__" kaV ["self","many","price","marks"] d.Zw d.QY
 b1_Bundle_init:Binds K d.QY ["self","many","price","marks"] [.none]
 Ua:mg "Carriage"=some (.ref d.qo)
 qo:ClsT K mg "Carriage" d.qo
 VP:NoAttr K d.qo "marks"
 Xg:MthT K d.qo "__init__" "Carriage.__init__" kaM ["self","marks"] d.Zx d.QZ
 b1_Carriage_init:Binds K d.QZ ["self","marks"] [.none]
 qe:ClsT K mg "Line" d.qe
 Xh:NoAttr K d.qe "kind"
 Xi:NoAttr K d.qe "price"
 Xj:NoAttr K d.qe "many"
 Xk:NoAttr K d.qe "special"
 Xl:MthT K d.qe "__init__" "Line.__init__" ka8 ["self","kind","price","many","special"] d.Zy d.Q0
 b1_Line_init:Binds K d.Q0 ["self","kind","price","many","special"] [.none]
 qg:ClsT K mg "Basket" d.qg
 Qg:NoAttr K d.qg "lines"
 VQ:NoAttr K d.qg "carriage"
 Xm:NoAttr K d.qg "member"
 Xn:MthT K d.qg "__init__" "Basket.__init__" kaW ["self","lines","carriage","member"] d.Zz d.Qv
 b1_Basket_init:Binds K d.Qv ["self","lines","carriage","member"] [.bool false]
 b2_Basket_init:Binds K d.Qv ["self","lines","carriage","member"] [.int 0 d.tok0_Basket_init, .bool false]
 qc:ClsT K mg "Standing" d.qc
 qC:NoAttr K d.qc "owners"
 qw:NoAttr K d.qc "prices"
 qV:NoAttr K d.qc "carriage"
 Qh:NoAttr K d.qc "marked"
 qx:MthT K d.qc "__init__" "Standing.__init__" kb4 ["self","basket"] d.ZA d.ZC
 qM:MthT K d.qc "whole" "Standing.whole" kbO ["self"] d.ZD d.ZE
 c_Way:ClsT K mg "Way" d.c_Way
 qt:NoAttr K d.c_Way "till"
 qW:NoAttr K d.c_Way "basket"
 QD:NoAttr K d.c_Way "hand"
 qr:NoAttr K d.c_Way "used"
 qA:NoAttr K d.c_Way "standing"
 qy:MthT K d.c_Way "__init__" "Way.__init__" kdK ["self","till","basket","hand"] d.ZF d.ZG
 qN:MthT K d.c_Way "word_for" "Way.word_for" kco ["self","number"] d.ZH d.ZI
 qD:MthT K d.c_Way "behind" "Way.behind" kcO ["self","number"] d.ZJ d.ZK
 Xo:MthT K d.c_Way "followers" "Way.followers" kbs ["self"] d.ZL d.ZM
 Qi:MthT K d.c_Way "is_let_by" "Way.is_let_by" kb3 ["self"] d.ZN d.ZO
 qh:ClsT K mg "Bill" d.qh
 Ub:NoAttr K d.qh "order"
 Xp:NoAttr K d.qh "steps"
 Uc:NoAttr K d.qh "prices"
 Ud:NoAttr K d.qh "carriage"
 VR:NoAttr K d.qh "total"
 Xq:MthT K d.qh "__init__" "Bill.__init__" kdg ["self","order","steps","standing"] d.ZP d.ZQ
 qd:ClsT K mg "Till" d.qd
 qO:NoAttr K d.qd "parents"
 qp:NoAttr K d.qd "vouchers"
 qX:NoAttr K d.qd "rules"
 Ue:NoAttr K d.qd "back"
 VS:MthT K d.qd "__init__" "Till.__init__" ka7 ["self","parents","vouchers","rules","back"] d.ZR d.Q1
 b1_Till_init:Binds K d.Q1 ["self","parents","vouchers","rules","back"] [.str "again" d.tok0_Till_init]
 Qj:BaseT K d.qB "__init__" d.QU
 Ug:NN K (.ref d.c_Off) (.ref d.qo)=some false
 Uh:NN K (.ref d.qi) (.ref d.qo)=some false
 Ui:NN K (.ref d.qm) (.ref d.qo)=some false
 Uj:NN K (.ref d.qj) (.ref d.qo)=some false
 Uk:NN K (.ref d.qi) (.ref d.c_Off)=some false
 Ul:NN K (.ref d.qm) (.ref d.c_Off)=some false
 Um:NN K (.ref d.qj) (.ref d.c_Off)=some false
 Uo:NN K (.ref d.qo) (.ref d.c_Off)=some false
 Uq:NN K (.ref d.c_Off) (.ref d.qi)=some false
 Ur:NN K (.ref d.qm) (.ref d.qi)=some false
 Us:NN K (.ref d.qj) (.ref d.qi)=some false
 Ut:NN K (.ref d.qo) (.ref d.qi)=some false
 Uu:NN K (.ref d.c_Off) (.ref d.qm)=some false
 Uv:NN K (.ref d.qi) (.ref d.qm)=some false
 Uw:NN K (.ref d.qj) (.ref d.qm)=some false
 Ux:NN K (.ref d.qo) (.ref d.qm)=some false
 Uy:NN K (.ref d.c_Off) (.ref d.qj)=some false
 Uz:NN K (.ref d.qi) (.ref d.qj)=some false
 UA:NN K (.ref d.qm) (.ref d.qj)=some false
 UB:NN K (.ref d.qo) (.ref d.qj)=some false
 code_falling_groups:d.QS.code=.ref d.cc_falling_groups
 ck_falling_groups:CodeK K d.cc_falling_groups d.tP_falling_groups
 code_first_use:d.QT.code=.ref d.cc_first_use
 ck_first_use:CodeK K d.cc_first_use d.tP_first_use
structure WB (K:Nr) (mg:Str->Option Value) (d:D) (base:Heap):Prop extends Wld K mg d where
 blt:BltM mg base
end Vs
namespace Vs
open PySem L2 War Kin Deal
noncomputable def LineAt(C:Addr)(H:Hp)(x:Addr)(r:Row):Prop:=∃(dx:Addr)(fs:List (Str×V)),H x=some (.ins C dx fs)/\fs.lookup ("kind" :Str)=some (.int r.kd)/\fs.lookup ("price" :Str)=some (.int r.pr)/\fs.lookup ("many" :Str)=some (.int r.mn)/\fs.lookup ("special" :Str)=some (oV r.ex)
noncomputable abbrev Lines(C:Addr)(H:Hp)(ls:List Addr)(rs:List Row):Prop:=P2 (LineAt C H) ls rs
noncomputable def BaskAt(C:Addr)(H:Hp)(b l:Addr)(cg:Int)(m:Bool):Prop:=∃(dx:Addr)(fs:List (Str×V)),H b=some (.ins C dx fs)/\fs.lookup ("lines" :Str)=some (.ref l)/\fs.lookup ("carriage" :Str)=some (.int cg)/\fs.lookup ("member" :Str)=some (.bl m)
noncomputable def StandAt(C:Addr)(H:Hp)(x o p mk:Addr)(cg:Int):Prop:=∃(dx:Addr)(fs:List (Str×V)),H x=some (.ins C dx fs)/\fs.lookup ("owners" :Str)=some (.ref o)/\fs.lookup ("prices" :Str)=some (.ref p)/\fs.lookup ("carriage" :Str)=some (.int cg)/\fs.lookup ("marked" :Str)=some (.ref mk)/\fs.lookup ("whole" :Str)=none
section
variable {C:Addr} {H H':Hp}
theorem LineAt.same{x:Addr}{r:Row}(s:Same H H'):LineAt C H x r->LineAt C H' x r:=by rintro⟨dx,fs,h,q⟩;exact⟨dx,fs,s _ _ h,q⟩
theorem Lines.same{ls:List Addr}{rs:List Row}(s:Same H H')(h:Lines C H ls rs):Lines C H' ls rs:=h.mono fun _ _ q=>q.same s
theorem BaskAt.same{b l:Addr}{cg:Int}{m:Bool}(s:Same H H'):BaskAt C H b l cg m->BaskAt C H' b l cg m:=by rintro⟨dx,fs,h,q⟩;exact⟨dx,fs,s _ _ h,q⟩
theorem StandAt.same{x o p mk:Addr}{cg:Int}(s:Same H H'):StandAt C H x o p mk cg->StandAt C H' x o p mk cg:=by rintro⟨dx,fs,h,q⟩;exact⟨dx,fs,s _ _ h,q⟩
end
section
variable {H:Hp} {hd:Addr} {xs:List V} {o:HO}
theorem BaskAt.set{C b l:Addr}{cg:Int}{m:Bool}(h:H hd=some (.lst xs)):BaskAt C H b l cg m->BaskAt C (upd H hd o) b l cg m:=by rintro⟨dx,fs,e,q⟩;exact⟨dx,fs,by rw[kaj (ne_of e h (by intro z;cases z))];exact e,q⟩
theorem StandAt.set{C x a b c:Addr}{cg:Int}(h:H hd=some (.lst xs)):StandAt C H x a b c cg->StandAt C (upd H hd o) x a b c cg:=by rintro⟨dx,fs,e,q⟩;exact⟨dx,fs,by rw[kaj (ne_of e h (by intro z;cases z))];exact e,q⟩
theorem LineAt.set{C x:Addr}{r:Row}(h:H hd=some (.lst xs)):LineAt C H x r->LineAt C (upd H hd o) x r:=by rintro⟨dx,fs,e,q⟩;exact⟨dx,fs,by rw[kaj (ne_of e h (by intro z;cases z))];exact e,q⟩
theorem Lines.set{C:Addr}{ls:List Addr}{rs:List Row}(h:H hd=some (.lst xs))(L:Lines C H ls rs):Lines C (upd H hd o) ls rs:=L.mono fun _ _ q=>q.set h
end
structure Bask where
 rs:List Row
 cg:Int
 m:Bool
inductive BaskIs (CL CB:Addr) (H:Hp) (b:Addr) (B:Bask):Prop
 |ct (l:Addr)(ls:List Addr)(_:BaskAt CB H b l B.cg B.m)(_:H l=some (.lst (ls.map V.ref)))(_:Lines CL H ls B.rs):BaskIs CL CB H b B
noncomputable def BaskIs.same{CL CB:Addr}{H H':Hp}{b:Addr}{B:Bask}(s:Same H H'):BaskIs CL CB H b B->BaskIs CL CB H' b B:=fun⟨l,ls,h1,h2,h3⟩=>⟨l,ls,h1.same s,s _ _ h2,h3.same s⟩
noncomputable def iV(k:Nat):V:=.int (k:Int)
inductive StndIs (CS:Addr) (H:Hp) (x:Addr) (S:Stnd):Prop
 |ct (o p mk:Addr)(_:StandAt CS H x o p mk S.cg)(_:H o=some (.lst (S.ow.map iV)))(_:H p=some (.lst (S.pr.map V.int)))(_:H mk=some (.lst (S.mkd.map V.bl))):StndIs CS H x S
noncomputable def StndIs.same{CS:Addr}{H H':Hp}{x:Addr}{S:Stnd}(s:Same H H'):StndIs CS H x S->StndIs CS H' x S:=fun⟨o,p,mk,h1,h2,h3,h4⟩=>⟨o,p,mk,h1.same s,s _ _ h2,s _ _ h3,s _ _ h4⟩
def kcs(ns:List Nat):(ns.map iV).all flatV=true:=by
 rw[ED]
 intro x hx
 obtain⟨n,_,rfl⟩:=NO.mp hx
 rfl
noncomputable def ownN(rs:List Row):List Nat:=(rs.zipIdx.map fun p=>Nu p.1.mn.toNat p.2).flatten
theorem kel(rs:List Row):(own rs).map V.int=(ownN rs).map iV:=by
 unfold own ownN
 generalize rs.zipIdx=l
 induction l with
 |nil=>rfl
 |cons p l ih=>
  rw[NJ,N4,NC,ih,NJ,N4,NC]
  congr 1
  simp[iV]
noncomputable def kmz(rs:List Row){l:Nat}(h:l∈ownN rs):l<rs.length:=by
 unfold ownN at h
 obtain⟨xs,h1,h2⟩:=MM.mp h
 obtain⟨p,h3,rfl⟩:=NO.mp h1
 have e:l=p.2:=(Dq.mp h2).2
 have q:=List.mem_zipIdx h3
 omega
noncomputable def kk5(rs:List Row)(h:∀r∈rs,r.Ok):(ownN rs).length<=60*rs.length:=by
 have e:(ownN rs).length=(own rs).length:=by
  have:=congrArg MP (kel rs)
  simpa using this.symm
 rw[e]
 exact kjU rs h
noncomputable def pV:Option Nat->V
 |none=>.non
 |some k=>.int (k:Int)
noncomputable def eq_int(a b:Nat):decide (V.int (a:Int)=V.int (b:Int))=decide (a=b):=by
 by_cases h:a=b
 ·subst h;simp
 ·have:¬(V.int (a:Int)=V.int (b:Int)):=by
   intro e
   injection e with e
   omega
  simp[h,this]
theorem klc{c:Int}{ws:List Int}(h:ws.sum=0):(dl c ws).map V.int=Nu ws.length (V.int 0):=by
 unfold dl
 rw[if_pos h]
 clear h
 induction ws with
 |nil=>rfl
 |cons w ws ih=>simpa[MA] using ih
def kj3{c:Int}{ws:List Int}(h:¬ws.sum=0):dl c ws=(Nw ws.length).map (part c ws):=by
 unfold dl
 rw[if_neg h]
inductive kjx (K:Nr) (vs:List V) (H:Hp) (Q:VK) (E_:XK):Prop
 |ct (c:Int)(a:Addr)(ws:List Int)(_:vs=[.int c, .ref a])(_:SqL K H a (ws.map V.int))(_:Nn ws)(_:ws.sum<2 ^ 100)(_:0<=c)(_:c<2 ^ 64)(_:ws.length<=1000)(_:∀p,H p=none->Q (.ref p) (upd H p (.lst ((dl c ws).map V.int)))):kjx K vs H Q E_
inductive khi (K:Nr) (vs:List V) (H:Hp) (Q:VK) (E_:XK):Prop
 |ct (a:Addr)(ps:List (Option Nat))(one other:Nat)(_:vs=[.ref a, .int one, .int other])(_:SqL K H a (ps.map pV))(_:Good ps)(_:one<ps.length)(_:Q (.bl (decide (other∈up ps one))) H):khi K vs H Q E_
inductive khl (C:Addr) (vs:List V) (H:Hp) (Q:VK) (E_:XK):Prop
 |ct (x dx:Addr)(r:Row)(_:vs=[.ref x, .int r.kd, .int r.pr, .int r.mn,oV r.ex])(_:H x=some (.ins C dx []))(_:∀H',But x H H'->LineAt C H' x r->Q .non H'):khl C vs H Q E_
inductive khn (K:Nr) (C:Addr) (vs:List V) (H:Hp) (Q:VK) (E_:XK):Prop
 |ct (x dx l:Addr)(cg:Int)(m:Bool)(xs:List V)(_:vs=[.ref x, .ref l, .int cg, .bl m])(_:H x=some (.ins C dx []))(_:SqL K H l xs)(_:∀(H':Hp)(l':Addr),But x H H'->H l'=none->H' l'=some (.lst xs)->BaskAt C H' x l' cg m->Q .non H'):khn K C vs H Q E_
inductive kjq (CL:Addr) (vs:List V) (H:Hp) (Q:VK) (E_:XK):Prop
 |ct (x:Addr)(m:Bool)(r:Row)(_:vs=[.ref x, .bl m])(_:LineAt CL H x r)(_:Q (.int (prc m r)) H):kjq CL vs H Q E_
inductive kdl (CL CB CS:Addr) (vs:List V) (H:Hp) (Q:VK) (E_:XK):Prop
 |ct (x dx b l:Addr)(cg:Int)(m:Bool)(ls:List Addr)(rs:List Row)(_:vs=[.ref x, .ref b])(_:H x=some (.ins CS dx []))(_:BaskAt CB H b l cg m)(_:H l=some (.lst (ls.map V.ref)))(_:Lines CL H ls rs)(_:rs.length<=12)(_:(∀r∈rs,r.Ok))(_:∀(H':Hp)(o p mk:Addr),But x H H'->H o=none->H p=none->H mk=none->StandAt CS H' x o p mk cg->H' o=some (.lst ((own rs).map V.int))->H' p=some (.lst ((prs m rs).map V.int))->H' mk=some (.lst (Nu rs.length (.bl false)))->(∃dx fs,H' x=some (.ins CS dx fs)/\fs.length<=10)->Q .non H'):kdl CL CB CS vs H Q E_
inductive kjj (CS:Addr) (vs:List V) (H:Hp) (Q:VK) (E_:XK):Prop
 |ct (x o p mk:Addr)(cg:Int)(ns:List Int)(_:vs=[.ref x])(_:StandAt CS H x o p mk cg)(_:H p=some (.lst (ns.map V.int)))(_:Q (.int (ns.sum+cg)) H):kjj CS vs H Q E_
structure S3 (H0:Hp) (x C dx:Addr) (fs:List (Str×V)) (o p mk:Addr) (a b c:List V) (H:Hp):Prop where
 bt:But x H0 H
 ob:H x=some (.ins C dx fs)
 ho:H o=some (.lst a)
 hp:H p=some (.lst b)
 hm:H mk=some (.lst c)
structure Ds (H0:Hp) (x o p mk:Addr):Prop where
 fo:H0 o=none
 fp:H0 p=none
 fm:H0 mk=none
 ox:o≠x
 px:p≠x
 mx:mk≠x
 op:o≠p
 om:o≠mk
 pm:p≠mk
section
variable {H0 H H':Hp} {x C dx o p mk:Addr} {fs:List (Str×V)} {a b c d:List V}
theorem S3.same(h:S3 H0 x C dx fs o p mk a b c H)(s:Same H H'):S3 H0 x C dx fs o p mk a b c H':=⟨h.bt.same s,s _ _ h.ob,s _ _ h.ho,s _ _ h.hp,s _ _ h.hm⟩
theorem S3.setO(h:S3 H0 x C dx fs o p mk a b c H)(D:Ds H0 x o p mk):S3 H0 x C dx fs o p mk d b c (upd H o (.lst d)):=
 ⟨fun y u n e=>kbD (h.bt y u n e) fun u' e'=>ev_eq (by rw[kaj (kah e D.fo)];exact e') fun t=>kdk t (kah e D.fo) (nx h.ho),by rw[kaj D.ox.symm];exact h.ob,kad,by rw[kaj D.op.symm];exact h.hp,by rw[kaj D.om.symm];exact h.hm⟩
theorem S3.setP(h:S3 H0 x C dx fs o p mk a b c H)(D:Ds H0 x o p mk):S3 H0 x C dx fs o p mk a d c (upd H p (.lst d)):=
 ⟨fun y u n e=>kbD (h.bt y u n e) fun u' e'=>ev_eq (by rw[kaj (kah e D.fp)];exact e') fun t=>kdk t (kah e D.fp) (nx h.hp),by rw[kaj D.px.symm];exact h.ob,by rw[kaj D.op];exact h.ho,kad,by rw[kaj D.pm.symm];exact h.hm⟩
theorem S3.setM(h:S3 H0 x C dx fs o p mk a b c H)(D:Ds H0 x o p mk):S3 H0 x C dx fs o p mk a b d (upd H mk (.lst d)):=
 ⟨fun y u n e=>kbD (h.bt y u n e) fun u' e'=>ev_eq (by rw[kaj (kah e D.fm)];exact e') fun t=>kdk t (kah e D.fm) (nx h.hm),by rw[kaj D.mx.symm];exact h.ob,by rw[kaj D.om];exact h.ho,by rw[kaj D.pm];exact h.hp,kad⟩
end
end Vs
namespace Vs
open PySem L2 War Kin Deal
noncomputable def MksIs(C:Addr)(H:Hp)(x:Addr)(M:Mks):Prop:=∃(dx:Addr)(fs:List (Str×V)),H x=some (.ins C dx fs)/\fs.lookup ("kind" :Str)=some (pV M.kind)/\fs.lookup ("needs" :Str)=some (.int M.needs)/\fs.lookup ("most" :Str)=some (oV M.most)/\fs.lookup ("member" :Str)=some (.bl M.member)/\fs.lookup ("once" :Str)=some (.bl M.once)/\fs.lookup ("lone" :Str)=some (.bl M.lone)
def MksIs.same{C:Addr}{H H':Hp}{x:Addr}{M:Mks}(s:Same H H'):MksIs C H x M->MksIs C H' x M:=fun⟨dx,fs,h,q⟩=>⟨dx,fs,s _ _ h,q⟩
noncomputable def SrtIs(fs:List (Str×V)):Srt->Prop
 | .off a=>fs.lookup ("amount" :Str)=some (.int a)
 | .share s b=>fs.lookup ("share" :Str)=some (.int s)/\fs.lookup ("by_line" :Str)=some (.bl b)
 | .cheap n=>fs.lookup ("many" :Str)=some (.int n)
 | .bund n p=>fs.lookup ("many" :Str)=some (.int n)/\fs.lookup ("price" :Str)=some (.int p)
 | .carr=>True
noncomputable def clsOf(d:D):Srt->Addr
 | .off _=>d.c_Off
 | .share _ _=>d.qi
 | .cheap _=>d.qm
 | .bund _ _=>d.qj
 | .carr=>d.qo
noncomputable def here:Srt->Bool
 | .off _=>true
 | .share _ _=>true
 | .cheap _=>true
 | .bund _ _=>true
 | .carr=>true
noncomputable def kmY:Srt->Bool
 | .off _=>true
 | .share _ _=>false
 | .cheap _=>false
 | .bund _ _=>false
 | .carr=>false
noncomputable def kkK:Srt->Bool
 | .off _=>false
 | .share _ _=>true
 | .cheap _=>false
 | .bund _ _=>false
 | .carr=>false
noncomputable def khd:Srt->Bool
 | .off _=>false
 | .share _ _=>false
 | .cheap _=>true
 | .bund _ _=>false
 | .carr=>false
noncomputable def ki6:Srt->Bool
 | .off _=>false
 | .share _ _=>false
 | .cheap _=>false
 | .bund _ _=>true
 | .carr=>false
noncomputable def kbI:Srt->Bool
 | .off _=>false
 | .share _ _=>false
 | .cheap _=>false
 | .bund _ _=>false
 | .carr=>true
noncomputable def Tbs(d:D)(H:Hp):Prop:=TbAt d.tP_falling_groups H
def Tbs.same{d:D}{H H':Hp}(s:Same H H')(h:Tbs d H):Tbs d H':=s.tb h
inductive VchIs (d:D) (H:Hp) (v:Addr) (V:Vch):Prop
 |ct (mA dx:Addr)(fs:List (Str×L2.V))(_:H v=some (.ins (clsOf d V.so) dx fs))(_:fs.lookup ("marks" :Str)=some (.ref mA))(_:SrtIs fs V.so)(_:MksIs d.qf H mA V.ms)(_:here V.so=true)(_:Tbs d H):VchIs d H v V
noncomputable def VchIs.same{d:D}{H H':Hp}{v:Addr}{V:Vch}(s:Same H H'):VchIs d H v V->VchIs d H' v V:=fun⟨mA,dx,fs,h1,h2,h3,h4,h5,h6⟩=>⟨mA,dx,fs,s _ _ h1,h2,h3,h4.same s,h5,h6.same s⟩
noncomputable def kds(B:Bask):List Nat:=B.rs.map fun r=>r.kd.toNat
structure Wf (ps:List (Option Nat)) (B:Bask) (S:Stnd):Prop where
 good:Good ps
 pl:ps.length<=20
 kd:∀r∈B.rs,0<=r.kd/\r.kd<(ps.length:Int)
 ok:∀r∈B.rs,r.Ok
 nl:B.rs.length<=12
 bc:0<=B.cg/\B.cg<=1000000000000
 ow:S.ow=ownN B.rs
 lp:S.pr.length=S.ow.length
 lm:S.mkd.length=B.rs.length
 pr:∀z∈S.pr,0<=z/\z<=1000000000000
 cg:0<=S.cg/\S.cg<=1000000000000
 n64:S.ow.length<64
def Wf.np{ps:List (Option Nat)}{B:Bask}{S:Stnd}(W:Wf ps B S):S.ow.length<=720:=by
 have:=kk5 B.rs W.ok
 have:=W.nl
 rw[W.ow]
 omega
noncomputable def Wf.line{ps:List (Option Nat)}{B:Bask}{S:Stnd}(W:Wf ps B S){i l:Nat}(h:S.ow[i]?=some l):l<B.rs.length:=by
 have hm:=Ny h
 rw[W.ow] at hm
 exact kmz _ hm
structure MksOk (ps:List (Option Nat)) (M:Mks):Prop where
 kind:∀k,M.kind=some k->k<ps.length
 needs:0<=M.needs/\M.needs<=1000000000000
 most:∀m,M.most=some m->0<=m/\m<=1000000000000
noncomputable def mks0:Mks:=⟨none,0,none,false,false,false⟩
noncomputable def kjh:Srt->List V
 | .off a=>[.int a]
 | .share s b=>[.int s, .bl b]
 | .cheap n=>[.int n]
 | .bund n p=>[.int n, .int p]
 | .carr=>[]
noncomputable def Mrk(CM:Addr)(H:Hp)(mv:V)(H':Hp)(mA:Addr):Prop:=mv=.ref mA∨(mv=.non/\H mA=none/\MksIs CM H' mA mks0)
noncomputable def MksIs.but{C x mA:Addr}{H H':Hp}{M:Mks}(n:mA≠x)(b:But x H H'):MksIs C H mA M->MksIs C H' mA M:=fun⟨dx,fs,h,q⟩=>⟨dx,fs,b _ _ n h,q⟩
theorem Mrk.but{CM x mA:Addr}{H H1 H2:Hp}{mv:V}{o:HO}(hx:H x=some o)(b:But x H1 H2):Mrk CM H mv H1 mA->Mrk CM H mv H2 mA
 | .inl e=>.inl e
 | .inr ⟨e,f,h⟩=>.inr ⟨e,f,h.but (kah hx f).symm b⟩
inductive kei (C:Addr) (vs:List V) (H:Hp) (Q:VK) (E_:XK):Prop
 |ct (x dx:Addr)(M:Mks)(_:vs=[.ref x,pV M.kind, .int M.needs,oV M.most, .bl M.member, .bl M.once, .bl M.lone])(_:H x=some (.ins C dx []))(_:∀H',But x H H'->MksIs C H' x M->Q .non H'):kei C vs H Q E_
inductive kfl (K:Nr) (CM:Addr) (vs:List V) (H:Hp) (Q:VK) (E_:XK):Prop
 |ct (x C dx:Addr)(fs:List (Str×V))(mv:V)(_:vs=[.ref x,mv])(_:H x=some (.ins C dx fs))(_:Cls K C)(_:NoAttr K C "marks")(_:fs.length<=5)(_:(mv=.non∨∃mA,mv=.ref mA))(_:∀(H':Hp)(mA:Addr),But x H H'->Mrk CM H mv H' mA->H' x=some (.ins C dx (putF "marks" (.ref mA) fs))->Q .non H'):kfl K CM vs H Q E_
inductive kdV (C CM:Addr) (is:Srt->Prop) (vs:List V) (H:Hp) (Q:VK) (E_:XK):Prop
 |ct (x dx:Addr)(so:Srt)(mv:V)(_:is so)(_:vs=.ref x::(kjh so++[mv]))(_:H x=some (.ins C dx []))(_:(mv=.non∨∃mA,mv=.ref mA))(_:∀(H':Hp)(mA:Addr)(fs:List (Str×V)),But x H H'->Mrk CM H mv H' mA->H' x=some (.ins C dx fs)->fs.lookup ("marks" :Str)=some (.ref mA)->SrtIs fs so->Q .non H'):kdV C CM is vs H Q E_
theorem kiw{C:Addr}{H:Hp}{M:Mks}{R:Addr->Hp->Prop}{E:XK}(k:∀(H':Hp)(x:Addr),Same H H'->H x=none->MksIs C H' x M->R x H'):
  ∀x dx,H x=none->H dx=none->dx≠x->kei C [.ref x,pV M.kind, .int M.needs,oV M.most, .bl M.member, .bl M.once, .bl M.lone] (upd (upd H dx (.own x)) x (.ins C dx [])) (fun v H2=>v=.non/\R x H2) E:=
 fun x dx nx nd _=>⟨x,dx,M,rfl,kad,fun H' b l=>⟨rfl,k H' x (kbG nx nd b) nx l⟩⟩
noncomputable def kgO{d:D}{H:Hp}{so:Srt}{mA:Addr}{M:Mks}{is:Srt->Prop}{R:Addr->Hp->Prop}{E:XK}(hi:is so)(hh:here so=true)(hM:MksIs d.qf H mA M)(k:∀(H':Hp)(x:Addr),Same H H'->H x=none->VchIs d H' x ⟨so,M⟩->R x H')(htb:Tbs d H:=by assumption):
  ∀x dx,H x=none->H dx=none->dx≠x->kdV (clsOf d so) d.qf is (.ref x::(kjh so++[.ref mA])) (upd (upd H dx (.own x)) x (.ins (clsOf d so) dx [])) (fun v H2=>v=.non/\R x H2) E:=
 fun x dx nx nd _=>⟨x,dx,so, .ref mA,hi,rfl,kad, .inr ⟨mA,rfl⟩,fun H' mA' fs b hm h1 h2 h3=>by
  have e:mA'=mA:=by
   rcases hm with e|⟨e,_⟩
   ·injection e with e
    exact e.symm
   ·cases e
  subst e
  exact⟨rfl,k H' x (kbG nx nd b) nx ⟨mA',dx,fs,h1,h2,h3,hM.same (kbG nx nd b),hh,htb.same (kbG nx nd b)⟩⟩⟩
inductive spMix (vs:List V) (H:Hp) (Q:VK) (E_:XK):Prop
 |ct (c f p:Int)(_:vs=[.int c, .int f, .int p])(_:(-(2 ^ 64)<f/\f<2 ^ 64))(_:0<p)(_:Q (.int (c*f%p)) H):spMix vs H Q E_
inductive kh3 (vs:List V) (H:Hp) (Q:VK) (E_:XK):Prop
 |ct (n:Int)(_:vs=[.int n])(_:Q (.bl true) H):kh3 vs H Q E_
end Vs
namespace Vs
open PySem L2 War Kin Deal
noncomputable def sN{t u:TS}{D:Ends}{σ:St}{H:Hp}(h:∀N:St->Hp->Prop,(∀σ' H',u D σ' H'->N σ' H')->t {D with nx:=N} σ H):tSeq t u D σ H:=h (u D) fun _ _ q=>q
theorem kmJ{CL:Addr}{H:Hp}{r:Row}{R:Addr->Hp->Prop}{E:XK}(k:∀(H':Hp)(x:Addr),Same H H'->H x=none->LineAt CL H' x r->R x H'):
  ∀x dx,H x=none->H dx=none->dx≠x->khl CL [.ref x, .int r.kd, .int r.pr, .int r.mn,oV r.ex] (upd (upd H dx (.own x)) x (.ins CL dx [])) (fun v H2=>v=.non/\R x H2) E:=
 fun x dx nx nd _=>⟨x,dx,r,rfl,kad,fun H' b l=>⟨rfl,k H' x (kbG nx nd b) nx l⟩⟩
theorem kmL{K:Nr}{CB:Addr}{H:Hp}{l:Addr}{cg:Int}{m:Bool}{xs:List V}{R:Addr->Hp->Prop}{E:XK}(hl:SqL K H l xs)(k:∀(H':Hp)(x l':Addr),Same H H'->H x=none->H l'=none->H' l'=some (.lst xs)->BaskAt CB H' x l' cg m->R x H'):
  ∀x dx,H x=none->H dx=none->dx≠x->khn K CB [.ref x, .ref l, .int cg, .bl m] (upd (upd H dx (.own x)) x (.ins CB dx [])) (fun v H2=>v=.non/\R x H2) E:=
 fun x dx nx nd _=>⟨x,dx,l,cg,m,xs,rfl,kad,(kbd nx nd).seq hl,fun H' l' b n h1 h2=>⟨rfl,k H' x l' (kbG nx nd b) nx (kdx n) h1 h2⟩⟩
theorem kiv{CL CB CS:Addr}{H:Hp}{b l:Addr}{cg:Int}{m:Bool}{ls:List Addr}{rs:List Row}{R:Addr->Hp->Prop}{E:XK}(hb:BaskAt CB H b l cg m)(hl:H l=some (.lst (ls.map V.ref)))(hL:Lines CL H ls rs)(hn:rs.length<=12)(hok:∀r∈rs,r.Ok)
  (k:∀(H':Hp)(x o p mk:Addr),Same H H'->H x=none->H o=none->H p=none->H mk=none->StandAt CS H' x o p mk cg->H' o=some (.lst ((own rs).map V.int))->H' p=some (.lst ((prs m rs).map V.int))->H' mk=some (.lst (Nu rs.length (.bl false)))->R x H'):
  ∀x dx,H x=none->H dx=none->dx≠x->kdl CL CB CS [.ref x, .ref b] (upd (upd H dx (.own x)) x (.ins CS dx [])) (fun v H2=>v=.non/\R x H2) E:=
 fun x dx nx nd _=>⟨x,dx,b,l,cg,m,ls,rs,rfl,kad,hb.same (kbd nx nd),kgP nx nd hl,hL.same (kbd nx nd),hn,hok,fun H' o p mk bt n1 n2 n3 S h1 h2 h3 _=>⟨rfl,k H' x o p mk (kbG nx nd bt) nx (kdx n1) (kdx n2) (kdx n3) S h1 h2 h3⟩⟩
structure VchOk (ps:List (Option Nat)) (V:Vch):Prop where
 so:SrtOk V.so
 ms:MksOk ps V.ms
noncomputable def stnd0(B:Bask):Stnd:=⟨ownN B.rs,prs B.m B.rs,B.cg,Nu B.rs.length false⟩
theorem khC{CL CB CS:Addr}{H:Hp}{b:Addr}{B:Bask}{R:Addr->Hp->Prop}{E:XK}(hb:BaskIs CL CB H b B)(hn:B.rs.length<=12)(hok:∀r∈B.rs,r.Ok)(k:∀(H':Hp)(x:Addr),Same H H'->H x=none->StndIs CS H' x (stnd0 B)->R x H'):
  ∀x dx,H x=none->H dx=none->dx≠x->kdl CL CB CS [.ref x, .ref b] (upd (upd H dx (.own x)) x (.ins CS dx [])) (fun v H2=>v=.non/\R x H2) E:=by
 obtain⟨l,ls,h1,h2,h3⟩:=hb
 refine kiv h1 h2 h3 hn hok fun H' x o p mk s f1 _ _ _ hS ho hp hm=>k H' x s f1 ⟨o,p,mk,hS,?_,hp,?_⟩
 ·rw[ho,kel]
  rfl
 ·rw[hm]
  show _=some (HO.lst ((Nu B.rs.length false).map V.bl))
  rw[List.map_replicate]
noncomputable def klS{m:Bool}{r:Row}(h:r.Ok):0<=prc m r/\prc m r<=1000000000000:=by
 unfold prc
 split
 ·cases e:r.ex with
  |none=>exact⟨h.pr0,h.pr1⟩
  |some z=>exact h.ex0 z e
 ·exact⟨h.pr0,h.pr1⟩
theorem kim(m:Bool):∀(rs:List Row)(k:Nat),(rs.map fun r=>Nu r.mn.toNat (prc m r)).flatten.length=((rs.zipIdx k).map fun p=>Nu p.1.mn.toNat (p.2:Int)).flatten.length
 |[],_=>by simp
 |r::rs,k=>by
  rw[Dg,NJ,N4,NG,Mm,NJ,N4,NG,Mm,kim m rs (k+1)]
noncomputable def kmw(m:Bool)(rs:List Row):(prs m rs).length=(ownN rs).length:=by
 have e:(ownN rs).length=(own rs).length:=by
  have:=congrArg MP (kel rs)
  simpa using this.symm
 rw[e]
 exact kim m rs 0
noncomputable def Wf.start{ps:List (Option Nat)}{B:Bask}(g:Good ps)(pl:ps.length<=20)(kd:∀r∈B.rs,0<=r.kd/\r.kd<(ps.length:Int))(ok:∀r∈B.rs,r.Ok)(nl:B.rs.length<=12)(bc:0<=B.cg/\B.cg<=1000000000000)(n64:(ownN B.rs).length<64):Wf ps B (stnd0 B):=by
 refine⟨g,pl,kd,ok,nl,bc,rfl,kmw _ _,by simp[stnd0],fun z hz=>?_,bc,n64⟩
 obtain⟨xs,h1,h2⟩:=MM.mp hz
 obtain⟨r,hr,rfl⟩:=NO.mp h1
 rw[(Dq.mp h2).2]
 exact klS (ok r hr)
def Wf.nn{ps:List (Option Nat)}{B:Bask}{S:Stnd}(W:Wf ps B S):Nn S.pr:=fun z hz=>(W.pr z hz).1
noncomputable def Wf.after{ps:List (Option Nat)}{B:Bask}{S:Stnd}{V:Vch}(W:Wf ps B S)(O:VchOk ps V):Wf ps B (aftM V ps (kds B) S):=by
 have h:=knA (V:=V) (ps:=ps) (kk:=kds B) W.nn W.cg.1 O.so fun m e=>(O.ms.most m e).1
 refine⟨W.good,W.pl,W.kd,W.ok,W.nl,W.bc,W.ow,h.1.1.trans W.lp,by rw[<-W.lm];simp[aftM],fun z hz=>?_,⟨h.2.1,Int.le_trans h.2.2 W.cg.2⟩,W.n64⟩
 obtain⟨j,e1⟩:=M4.mp hz
 have hj:j<S.pr.length:=by
  rw[<-h.1.1]
  exact(NF.mp e1).1
 have e2:S.pr[j]?=some S.pr[j]:=by simp[hj]
 have b:=h.1.2 j z _ e1 e2
 have c:=W.pr _ (Ny e2)
 exact⟨b.1,Int.le_trans b.2 c.2⟩
inductive kjA (K:Nr) (d:D) (vs:List V) (H:Hp) (Q:VK) (E_:XK):Prop
 |ct (v a b x:Addr)(V:Vch)(ps:List (Option Nat))(B:Bask)(S:Stnd)(_:vs=[.ref v, .ref a, .ref b, .ref x])(_:VchIs d H v V)(_:SqL K H a (ps.map pV))(_:BaskIs d.qe d.qg H b B)(_:StndIs d.qc H x S)(_:Wf ps B S)(_:VchOk ps V)(_:∀(H':Hp)(p:Addr),Same H H'->H p=none->H' p=some (.lst ((abt ps (kds B) V.ms.kind V.ms.lone S).map iV))->Q (.ref p) H'):kjA K d vs H Q E_
inductive klP (K:Nr) (d:D) (vs:List V) (H:Hp) (Q:VK) (E_:XK):Prop
 |ct (v a b x:Addr)(V:Vch)(ps:List (Option Nat))(B:Bask)(S:Stnd)(_:vs=[.ref v, .ref a, .ref b, .ref x])(_:VchIs d H v V)(_:SqL K H a (ps.map pV))(_:BaskIs d.qe d.qg H b B)(_:StndIs d.qc H x S)(_:Wf ps B S)(_:VchOk ps V)(_:∀(H':Hp)(t p:Addr),Same H H'->H t=none->H p=none->H' t=some (.tup [.ref p, .int (cutM V ps (kds B) S).2])->H' p=some (.lst ((cutM V ps (kds B) S).1.map L2.V.int))->Q (.ref t) H'):klP K d vs H Q E_
theorem cl_of{K:Nr}{mg:Str->Option Value}{d:D}{base:Heap}(W:WB K mg d base):∀{so:Srt},here so=true->Cls K (clsOf d so)
 | .off _,h=>W.c_Off.cl
 | .share _ _,h=>W.qi.cl
 | .cheap _,h=>W.qm.cl
 | .bund _ _,h=>W.qj.cl
 | .carr,h=>W.qo.cl
theorem na_of{K:Nr}{mg:Str->Option Value}{d:D}{base:Heap}(W:WB K mg d base):∀{so:Srt},here so=true->NoAttr K (clsOf d so) "marks"
 | .off _,h=>W.VF
 | .share _ _,h=>W.VI
 | .cheap _,h=>W.VL
 | .bund _ _,h=>W.VO
 | .carr,h=>W.VP
theorem kiA{K:Nr}{mg:Str->Option Value}{d:D}{base:Heap}(W:WB K mg d base):∀{so:Srt},here so=true->Isi K (clsOf d so)
 | .off _,h=>W.c_Off.isi
 | .share _ _,h=>W.qi.isi
 | .cheap _,h=>W.qm.isi
 | .bund _ _,h=>W.qj.isi
 | .carr,h=>W.qo.isi
theorem kgV{K:Nr}{mg:Str->Option Value}{d:D}{base:Heap}(W:WB K mg d base):∀{so:Srt},here so=true->NN K (.ref (clsOf d so)) (.ref d.qo)=some (kbI so)
 | .off _,h=>W.Ug
 | .share _ _,h=>W.Uh
 | .cheap _,h=>W.Ui
 | .bund _ _,h=>W.Uj
 | .carr,h=>kbV _ _
theorem khK{K:Nr}{mg:Str->Option Value}{d:D}{base:Heap}(W:WB K mg d base):∀{so:Srt},here so=true->NN K (.ref (clsOf d so)) (.ref d.c_Off)=some (kmY so)
 | .off _,h=>kbV _ _
 | .share _ _,h=>W.Uk
 | .cheap _,h=>W.Ul
 | .bund _ _,h=>W.Um
 | .carr,h=>W.Uo
theorem kdB{K:Nr}{mg:Str->Option Value}{d:D}{base:Heap}(W:WB K mg d base):∀{so:Srt},here so=true->NN K (.ref (clsOf d so)) (.ref d.qi)=some (kkK so)
 | .off _,h=>W.Uq
 | .share _ _,h=>kbV _ _
 | .cheap _,h=>W.Ur
 | .bund _ _,h=>W.Us
 | .carr,h=>W.Ut
theorem kcS{K:Nr}{mg:Str->Option Value}{d:D}{base:Heap}(W:WB K mg d base):∀{so:Srt},here so=true->NN K (.ref (clsOf d so)) (.ref d.qm)=some (khd so)
 | .off _,h=>W.Uu
 | .share _ _,h=>W.Uv
 | .cheap _,h=>kbV _ _
 | .bund _ _,h=>W.Uw
 | .carr,h=>W.Ux
theorem kfu{K:Nr}{mg:Str->Option Value}{d:D}{base:Heap}(W:WB K mg d base):∀{so:Srt},here so=true->NN K (.ref (clsOf d so)) (.ref d.qj)=some (ki6 so)
 | .off _,h=>W.Uy
 | .share _ _,h=>W.Uz
 | .cheap _,h=>W.UA
 | .bund _ _,h=>kbV _ _
 | .carr,h=>W.UB
theorem kdF{b:Int}:∀{q:List Int},(∀z∈q,z<=b)->q.sum<=b*q.length
 |[],_=>by simp
 |z::q,h=>by
  have h1:=h z NV
  have h2:=kdF (q:=q) fun x hx=>h x (NR _ hx)
  rw[M1,NW]
  have e:b*((q.length+1:Nat):Int)=b*q.length+b:=by rw[Int.natCast_add,Int.mul_add];simp
  omega
noncomputable def kjL{ps:List (Option Nat)}{B:Bask}{S:Stnd}(wf:Wf ps B S){ab:List Nat}(hl:ab.length<=720)(hb:∀i∈ab,i<S.pr.length):(qs S.pr ab).sum<=720000000000000:=by
 have h:=kdF (b:=1000000000000) (q:=qs S.pr ab) fun z hz=>by
  obtain⟨i,hi,rfl⟩:=NO.mp hz
  obtain⟨w,ew⟩:=at_of (hb i hi)
  rw[NL,ew]
  exact(wf.pr w (Ny ew)).2
 rw[kcf] at h
 omega
noncomputable def kkv(xs:List V)(i k:Nat):cutV xs (some (i:Int)) (some ((i+k:Nat):Int))=(xs.drop i).take k:=by
 unfold cutV
 rw[HT.sIx_nat,HT.sIx_nat]
 by_cases h:i<=xs.length
 ·rw[Eo h,DA,M8]
  omega
 ·rw[DL (by omega),DL (by omega)]
  simp
noncomputable def khc{α:Type}{xs:List α}{v: α}(h:xs[xs.length-1]?=some v)(h0:0<xs.length):atI xs (-1)=some v:=by
 unfold atI ixN
 rw[if_neg (by omega),if_pos (by omega)]
 show xs[(-1+(xs.length:Int)).toNat]?=some v
 rw[show(-1+(xs.length:Int)).toNat=xs.length-1 by omega]
 exact h
noncomputable def kii{H0 H1 H2:Hp}{x:Addr}(f:H0 x=none)(s:Same H0 H1)(b:But x H1 H2):Same H0 H2:=fun y u e=>kbD (s y u e) fun u' e'=>b y u' (kah e f) e'
noncomputable def hindM(V:Vch)(ps:List (Option Nat))(B:Bask)(S:Stnd):L2.V:=
 if(V.ms.member&& !B.m)=true then .str "member" else if(abt ps (kds B) V.ms.kind V.ms.lone S).length=0 then .str "nothing" else if(qs S.pr (abt ps (kds B) V.ms.kind V.ms.lone S)).sum<V.ms.needs then .str "needs" else .non
inductive klK (K:Nr) (d:D) (vs:List V) (H:Hp) (Q:VK) (E_:XK):Prop
 |ct (v a b x:Addr)(V:Vch)(ps:List (Option Nat))(B:Bask)(S:Stnd)(_:vs=[.ref v, .ref a, .ref b, .ref x])(_:VchIs d H v V)(_:SqL K H a (ps.map pV))(_:BaskIs d.qe d.qg H b B)(_:StndIs d.qc H x S)(_:Wf ps B S)(_:VchOk ps V)(_:∀(H':Hp),Same H H'->Q (hindM V ps B S) H'):klK K d vs H Q E_
noncomputable def atM(m:Option Int)(n:Int):Int:=match m with
 |none=>n
 |some m=>min m n
def none_of{H H':Hp}(s:Same H H'){p:Addr}(h:H' p=none):H p=none:=s.free h
def kkH{x:Addr}{H H':Hp}(b:But x H H')(n:H x=none):Same H H':=fun y u e=>b y u (kah e n) e
theorem kj2{CL CB CS:Addr}{H:Hp}{b l:Addr}{cg:Int}{m:Bool}{ls:List Addr}{rs:List Row}{R:Addr->Hp->Prop}{E:XK}(hb:BaskAt CB H b l cg m)(hl:H l=some (.lst (ls.map V.ref)))(hL:Lines CL H ls rs)(hn:rs.length<=12)(hok:∀r∈rs,r.Ok)
  (k:∀(H':Hp)(x:Addr),Same H H'->H x=none->∀(dx:Addr)(fs:List (Str×V)),H' x=some (.ins CS dx fs)->fs.length<=10->fs.lookup ("whole" :Str)=none->R x H'):
  ∀x dx,H x=none->H dx=none->dx≠x->kdl CL CB CS [.ref x, .ref b] (upd (upd H dx (.own x)) x (.ins CS dx [])) (fun v H2=>v=.non/\R x H2) E:=
 fun x dx nx nd _=>⟨x,dx,b,l,cg,m,ls,rs,rfl,kad,hb.same (kbd nx nd),kgP nx nd hl,hL.same (kbd nx nd),hn,hok,fun H' o p mk bt n1 n2 n3 S h1 h2 h3 fw=>by
  obtain⟨dx',fs,e,hf⟩:=fw
  obtain⟨dx2,fs2,e2,_,_,_,_,hw⟩:=S
  rw[e] at e2
  injection e2 with e2
  injection e2 with _ e3 e4
  subst e4
  exact⟨rfl,k H' x (kbG nx nd bt) nx dx' fs e hf hw⟩⟩
theorem kko{V:Vch}{ps:List (Option Nat)}{kk:List Nat}{S:Stnd}(vo:VchOk ps V):(cutM V ps kk S).2=if kbI V.so=true then atM V.ms.most S.cg else 0:=by
 have hm:=vo.ms.most
 unfold cutM
 simp only
 cases e:V.ms.most with
 |none=>
  unfold cap atM
  simp only
  unfold fee kbI
  cases V.so <;> rfl
 | some m=>
  have h0:=(hm m e).1
  unfold cap atM
  simp only
  cases eso:V.so with
  | carr=>
   have hz:(want .carr S.mkd.length ((abt ps kk V.ms.kind V.ms.lone S).map fun i=>S.ow.getD i 0) (qs S.pr (abt ps kk V.ms.kind V.ms.lone S))).sum=0:=by
    unfold want
    simp
   show(if m<_+S.cg then _ else _:List Int×Int).2=min m S.cg
   rw[hz,Int.zero_add]
   split
   ·show min S.cg m=_
    omega
   ·show S.cg=_
    omega
  | _=>
   show(if m<_+0 then(_,min 0 m) else(_,0):List Int×Int).2=0
   split
   ·show min 0 m=0
    omega
   ·rfl
def klY{B:Bask}{l:Nat}{r:Row}(h:B.rs[l]?=some r):(kds B).getD l 0=r.kd.toNat:=by
 unfold kds
 rw[NL,Nz,h]
 rfl
theorem kgg{ps:List (Option Nat)}{kk:List Nat}{kind:Option Nat}{lone:Bool}{S:Stnd}{i:Nat}:
  (Nw (i+1)).filter (fun i=>hits ps kk kind lone S.mkd (S.ow.getD i 0))=(Nw i).filter (fun i=>hits ps kk kind lone S.mkd (S.ow.getD i 0))++(if hits ps kk kind lone S.mkd (S.ow.getD i 0)=true then [i] else []):=by
 rw[Mh,Mx]
 congr 1
 simp only[MT,Ep]
noncomputable def GrpAt(H H':Hp)(pa:Addr)(t:Addr)(q:Int×List Nat):Prop:=∃ga,H' t=some (.tup [.int q.1, .ref ga])/\H' ga=some (.lst (q.2.map iV))/\(ga=pa∨H ga=none)
inductive kh4 (d:D) (vs:List V) (H:Hp) (Q:VK) (E_:XK):Prop
 |ct (v x pa:Addr) (V:Vch) (ps:List (Option Nat)) (B:Bask) (S:Stnd) (_:vs=[.ref v, .ref x, .ref pa]) (_:VchIs d H v V) (_:StndIs d.qc H x S) (_:H pa=some (.lst ((abt ps (kds B) V.ms.kind V.ms.lone S).map iV))) (_:Wf ps B S) (_:VchOk ps V) (_:∀(H':Hp) (p:Addr) (tl:List Addr) (gl:List (Int×List Nat)),Same H H'->H p=none->H' p=some (.lst (tl.map L2.V.ref))->P2 (GrpAt H H' pa) tl gl->(∀c g,(c,g)∈gl->0<=c/\c<=(qs S.pr g).sum/\g.length<=720)->(gl.map Prod.snd).flatten.Nodup->(∀i∈(gl.map Prod.snd).flatten,i<S.pr.length)->gl.length<=720->
  spr S.pr.length (gl.map Prod.snd).flatten (gl.map fun p=>dl p.1 (qs S.pr p.2)).flatten=spr S.pr.length (abt ps (kds B) V.ms.kind V.ms.lone S) (want V.so S.mkd.length ((abt ps (kds B) V.ms.kind V.ms.lone S).map fun i=>S.ow.getD i 0) (qs S.pr (abt ps (kds B) V.ms.kind V.ms.lone S)))->Q (.ref p) H'):kh4 d vs H Q E_
def kay{H H':Hp}{p:Addr}{o:HO}(h:upd H p o=H')(f:H p=none):Same H H'/\H' p=some o:=by
 subst h
 exact⟨kam f,kad⟩
theorem But.free{x l:Addr}{H H':Hp}{o:HO}(b:But x H H')(hx:H' x=some o)(h:H' l=none):H l=none:=by
 cases q:H l with
 |none=>rfl
 |some u=>
  obtain⟨o',e'⟩:=kga (b l u (kah hx h).symm q)
  rw[e'] at h
  cases h
structure Rul where
 w:Str
 a:Nat
 b:Nat
structure TillD where
 ps:List (Option Nat)
 vs:List Vch
 rs:List Rul
 bk:Str
noncomputable def RulIs(H:Hp)(a:Addr)(r:Rul):Prop:=H a=some (.tup [.str r.w,iV r.a,iV r.b])
inductive TillIs (d:D) (H:Hp) (t:Addr) (T:TillD):Prop
 |ct (dx:Addr)(fs:List (Str×V))(p vl rl:Addr)(va ra:List Addr)(_:H t=some (.ins d.qd dx fs))(_:fs.lookup ("parents" :Str)=some (.ref p))(_:fs.lookup ("vouchers" :Str)=some (.ref vl))(_:fs.lookup ("rules" :Str)=some (.ref rl))(_:fs.lookup ("back" :Str)=some (.str T.bk))(_:H p=some (.lst (T.ps.map pV)))(_:H vl=some (.lst (va.map V.ref)))(_:P2 (fun a V=>VchIs d H a V) va T.vs)(_:H rl=some (.lst (ra.map V.ref)))(_:P2 (fun a r=>RulIs H a r) ra T.rs):TillIs d H t T
noncomputable def TillIs.same{d:D}{H H':Hp}{t:Addr}{T:TillD}(s:Same H H'):TillIs d H t T->TillIs d H' t T:=fun⟨dx,fs,p,vl,rl,va,ra,h1,h2,h3,h4,h5,h6,h7,h8,h9,h10⟩=>
 ⟨dx,fs,p,vl,rl,va,ra,s _ _ h1,h2,h3,h4,h5,s _ _ h6,s _ _ h7,h8.mono fun a V h=>h.same s,s _ _ h9,h10.mono fun a r h=>s _ _ h⟩
structure kbJ (T:TillD):Prop where
 vs:∀V∈T.vs,VchOk T.ps V
 nv:T.vs.length<=8
inductive WayAt (d:D) (m:Nat) (H:Hp) (w t b x:Addr) (hand:List Int) (used:List Nat):Prop
 |ct (dx:Addr)(fs:List (Str×V))(h u:Addr)(_:H w=some (.ins d.c_Way dx fs))(_:fs.lookup ("till" :Str)=some (.ref t))(_:fs.lookup ("basket" :Str)=some (.ref b))(_:fs.lookup ("hand" :Str)=some (.ref h))(_:fs.lookup ("used" :Str)=some (.ref u))(_:fs.lookup ("standing" :Str)=some (.ref x))(_:fs.lookup ("word_for" :Str)=none)(_:fs.lookup ("behind" :Str)=none)(_:fs.lookup ("is_let_by" :Str)=none)(_:fs.lookup ("followers" :Str)=none)(_:fs.length<=m)(_:H h=some (.lst (hand.map V.int)))(_:H u=some (.lst (used.map iV))):WayAt d m H w t b x hand used
noncomputable abbrev WayIs(d:D)(H:Hp)(w t b x:Addr)(hand:List Int)(used:List Nat):Prop:=WayAt d 7 H w t b x hand used
noncomputable def WayAt.most{d:D}{m m':Nat}{H:Hp}{w t b x:Addr}{hand:List Int}{used:List Nat}(hm:m<=m'):WayAt d m H w t b x hand used->WayAt d m' H w t b x hand used:=fun⟨dx,fs,h,u,h1,h2,h3,h4,h5,h6,h7,h8,h9,h10,h11,h12,h13⟩=>
 ⟨dx,fs,h,u,h1,h2,h3,h4,h5,h6,h7,h8,h9,h10,Nx h11 hm,h12,h13⟩
noncomputable def WayAt.same{d:D}{m:Nat}{H H':Hp}{w t b x:Addr}{hand:List Int}{used:List Nat}(s:Same H H'):WayAt d m H w t b x hand used->WayAt d m H' w t b x hand used:=fun⟨dx,fs,h,u,h1,h2,h3,h4,h5,h6,h7,h8,h9,h10,h11,h12,h13⟩=>
 ⟨dx,fs,h,u,s _ _ h1,h2,h3,h4,h5,h6,h7,h8,h9,h10,h11,s _ _ h12,s _ _ h13⟩
noncomputable def nevR(used:List Nat)(n:Nat)(r:Rul):Bool:=decide (r.w=("never" :Str))&&((decide (r.a=n)&&used.contains r.b)||(decide (r.b=n)&&used.contains r.a))
noncomputable def kfs(rs:List Rul)(used:List Nat)(n:Nat):Bool:=rs.any (nevR used n)
noncomputable def ahdR(used:List Nat)(n:Nat)(r:Rul):Bool:=decide (r.w=("ahead" :Str))&&(decide (r.a=n)&&used.contains r.b)
noncomputable def kfy(rs:List Rul)(used:List Nat)(n:Nat):Bool:=rs.any (ahdR used n)
noncomputable def loneM(order:List Nat)(r:Rul):Bool:=decide (r.w=("only" :Str))&&(order.contains r.a&& !order.contains r.b)
noncomputable def onlyM(rs:List Rul)(order:List Nat):Option Nat:=(rs.find? (loneM order)).map Rul.a
noncomputable def sV:Option Str->V
 |none=>.non
 |some z=>.str z
noncomputable def wordM(V:Vch)(rs:List Rul)(hand:List Int)(used:List Nat)(n:Nat):Option Str:=
 if hand.getD n 0<(used.count n:Int)+1 then some "held" else if(V.ms.once&&used.contains n)=true then some "once" else if kfs rs used n=true then some "never" else if kfy rs used n=true then some "ahead" else none
noncomputable def dueM(V:Vch)(T:TillD)(B:Bask)(hand:List Int)(used:List Nat)(S:Stnd)(n:Nat):L2.V:=match wordM V T.rs hand used n with
 |some z=>.str z
 |none=>hindM V T.ps B S
theorem kcr{n:Nat}:∀(l:List Nat),inV (iV n) (l.map iV)=l.contains n
 |[]=>rfl
 | m::l=>by
  have ih:=kcr (n:=n) l
  unfold inV at ih⊢
  rw[NJ,Mz,ih,List.contains_cons]
  congr 1
  show eqV (V.int (m:Int)) (V.int (n:Int))=(n==m)
  by_cases h:n=m
  ·subst h
   simp[eqV]
  ·have h1:¬((m:Int)=(n:Int)):=by omega
   have e2:(n==m)=false:=beq_eq_false_iff_ne.mpr h
   rw[e2]
   simp[eqV,h1]
theorem kmV(l:List Nat)(n:Nat):(l.map fun(i:Nat)=>(i:Int)).count (n:Int)=l.count n:=by
 induction l with
 |nil=>rfl
 | cons m l ih=>
  rw[NJ,De,De,ih]
  congr 1
  by_cases h:m=n
  ·subst h;simp
  ·have h1:¬((m:Int)=(n:Int)):=by omega
   have e1:((m:Int)==(n:Int))=false:=beq_eq_false_iff_ne.mpr h1
   have e2:(m==n)=false:=beq_eq_false_iff_ne.mpr h
   rw[e1,e2]
noncomputable def kg0(a b:Nat):decide (iV a=iV b)=decide (a=b):=by
 by_cases h:a=b
 ·subst h;simp
 ·have n:¬(iV a=iV b):=fun e=>h (by have:=V.int.inj e;omega)
  rw[decide_eq_false h,decide_eq_false n]
noncomputable def eq_str(a b:Str):decide (V.str a=V.str b)=decide (a=b):=by
 by_cases h:a=b
 ·subst h;simp
 ·have n:¬(V.str a=V.str b):=fun e=>h (V.str.inj e)
  rw[decide_eq_false h,decide_eq_false n]
section
variable {P:Program} {w:World} {K:Nr} {mg:Str->Option Value} {base:Heap} {d:D}
seal PE PS PSs PA PT PC PG PGs PI
abbrev FO{K:Nr}{mg:Str->Option Value}{d:D}{base:Heap}(P:Program)(w:World)(_:WB K mg d base):=FnOk P w K mg base CX0
theorem Xr:kao ["parents","one","other","kind"] ["parents","one","other"] (kag khs):=by ac_rfl
theorem kk7(W:WB K mg d base):FO P w W 1 d.XQ d.XR ["parents","one","other"] (khi K):=by
 exists W.ZS.F,Xr
 ·obtain⟨a,ps,one,other,rfl,hS,hg,ho,k⟩:=h
  refine⟨_,kac (psl (i:=3) Xr.nd (pv 1))
   (kac (kil PassesOwn.never (kar kb6 (pv 3) kaJ (kaw _))
   (kac (ps_if (kar op_eq (pv 3) (pv 2) (kaw _)) (kaf (kan pe_bl)) (kas))
   (kaf (psl (i:=3) Xr.nd (pe_ix (r:=rIxL K) kax (pv 0) (pv 3) (fun _ _=>rfl))))))
   (kaf (kan pe_bl))),?_⟩
  refine⟨_,rfl,?_⟩
  refine khW (fun σ H'=>∃o:Option Nat,σ=[some (.ref a),some (.int one),some (.int other),some (pV o)]/\H'=H/\(∀i,o=some i->i<ps.length)/\decide (other∈up ps one)=decide (other∈rest ps o))
   (fun σ _=>match σ with|[_,_,_,some (.int i)]=>i.toNat+1|_=>0) ⟨some one,rfl,rfl,fun i e=>by cases e;exact ho,rfl⟩ ?_ ?_
  ·rintro σ H' ⟨o,rfl,rfl,hb,he⟩
   refine⟨_,rfl,rfl,_,rfl,?_⟩
   cases o with
   |none=>
    show if(!decide (V.non=V.non))=true then _ else _
    rw[kj0]
    refine iteF ?_
    show Q (.bl false) _
    have e:decide (other∈up ps one)=false:=by rw[he];simp[Kin.rest]
    rw[e] at k
    exact k
   | some i=>
    show if(!decide (V.int i=V.non))=true then _ else _
    rw[kj1]
    refine iteT ?_
    have hi:=hb i rfl
    refine⟨_,rfl,_,rfl,rfl,_,rfl,?_⟩
    show if decide (V.int i=V.int other)=true then _ else _
    rw[eq_int]
    obtain⟨o,eo⟩:∃o,ps[i]?=some o:=⟨ps[i],by simp[hi]⟩
    refine ite2 (fun h=>?_) (fun h=>?_)
    ·have h':i=other:=of_decide_eq_true h
     subst h'
     have e:decide (i∈up ps one)=true:=by
      rw[he]
      show decide (i∈up ps i)=true
      rw[up_eq hg eo]
      simp
     rw[e] at k
     exact k
    ·have h':¬i=other:=fun z=>h (decide_eq_true z)
     refine⟨_,rfl,_,rfl,a,_,_,pV o,rfl,rfl,hS,kaz (by simp[eo]),?_⟩
     refine⟨⟨o,rfl,rfl,fun j e=>?_,?_⟩,?_⟩
     ·subst e
      have:=hg i j eo
      omega
     ·rw[he]
      show decide (other∈up ps i)=_
      rw[up_eq hg eo]
      have:¬other=i:=fun z=>h' z.symm
      simp[this]
     ·cases o with
      |none=>exact Nat.succ_pos _
      |some j=>
       have:=hg i j eo
       show((j:Int)).toNat+1<((i:Int)).toNat+1
       omega
  ·rintro σ H' Q' Q'' hq ⟨v,h1,h2,h3⟩
   exact⟨v,h1,h2,by obtain⟨b,e,q⟩:=h3;exact⟨b,e,hq _ _ q⟩⟩
theorem qE:kao ["cut","weights","total","parts","reached","given","weight","share"] ["cut","weights"] (kag khu):=by ac_rfl
theorem kk8(W:WB K mg d base):FO P w W 1 d.XM d.XO ["cut","weights"] (kjx K):=by
 exists W.Q2.F,qE
 ·obtain⟨c,a,ws,rfl,hS,hn,hs,hc0,hc1,hl,k⟩:=h
  refine⟨_,kac (psl (i:=2) qE.nd (kat (r:=rSum K) (kc0 rfl) (by rfl) W.B.sum b_sum (kaa (pv 1) kae)))
   (kac (ps_if (kar op_eq (pv 2) kai (kaw _)) (kaf (kan (kbz (N:=["weight"]) (CompScope.plain rfl (by decide +kernel) (by decide +kernel) (by decide +kernel) (nd1 _)) rfl (kaE (K:=K) (pv 1)) (fun _ _ _ _=>pgn (i:=0) (nd1 _)) (fun _ _ _ _=>kai)))) (kas))
   (kac (psl (i:=3) qE.nd (kaN kae))
   (kac (psl (i:=4) qE.nd kai)
   (kac (psl (i:=5) qE.nd kai)
   (kac (kaU PassesOwn.never rfl (kaE (K:=K) (pv 1)) (pgn (i:=6) qE.nd)
   (kac (klR (i:=4) qE.nd rfl (Or.inl rfl) (pv 6) klZ)
   (kac (psl (i:=7) qE.nd (pe_op kk6 (pe_op keM (pv 0) (pv 4)) (pv 2)))
   (kac (ka9 (pe_bm Mp MV MW kbF (pv 3) (kaa (pe_op kgA (pv 7) (pv 5)) kae)))
   (kaf (psl (i:=5) qE.nd (pv 7)))))))
   (kaf (kan (pv 3)))))))),?_⟩
  refine⟨_,rfl,a,ws,rfl,hS,_,rfl,rfl,_,rfl,?_⟩
  refine ite2 (fun h=>?_) (fun h=>?_)
  ·have h0:ws.sum=0:=by
    have e:V.int ws.sum=V.int 0:=of_decide_eq_true h
    injection e
   refine⟨_,rfl,a,rfl,⟨_,hS⟩,kaY (xs:=ws.map V.int) (fun i σ ys H'=>H'=H/\ys=Nu i (V.int 0)/\∃v,σ=[v]) ⟨rfl,rfl,none,rfl⟩ ?_ ?_ ?_ ?_⟩
   ·rw[Nq]
    exact ND (kap hl)
   ·rintro i σ ys H' hi ⟨rfl,rfl,v,rfl⟩
    exact⟨hS,by simp⟩
   ·rintro i x σ ys H' hx ⟨rfl,rfl,v,rfl⟩
    exact⟨rfl,by rw[EO],_,rfl⟩
   ·rintro σ ys H' ⟨rfl,rfl,v,rfl⟩ D hD
    have:=k D hD
    rw[klc h0] at this
    rw[Nq]
    exact this
  ·have h0:¬ws.sum=0:=fun e=>h (by rw[e];simp)
   have hpos:0<ws.sum:=by
    have:=kct hn
    omega
   refine⟨by decide,fun p hp=>?_⟩
   have s1:∀o,Same H (upd H p o):=fun o=>kam hp
   refine⟨_,rfl,a,rfl,⟨_,(s1 _).seq hS⟩,ka3 (K:=K) (a:=a) (xs:=ws.map V.int) (fun i σ H'=>H'=upd H p (.lst (((Nw i).map (part c ws)).map V.int))/\
    ∃(v6 v7:Option V),σ=[some (.int c),some (.ref a),some (.int ws.sum),some (.ref p),some (.int (pre ws i)),some (.int (c*pre ws i/ws.sum)),v6,v7])
    ⟨rfl,none,none,by simp[kkV];rfl⟩ (fun i σ H' _ ⟨e,_⟩=>by rw[e];exact(s1 _).seq hS) ?_ ?_⟩
   ·rintro i x σ H' hi ⟨rfl,v6,v7,rfl⟩
    have hil:i<(ws.map V.int).length:=(NF.mp hi).1
    rw[Nq] at hil
    obtain⟨z,ez,rfl⟩:∃z,ws[i]?=some z/\x=V.int z:=by
     rw[Nz] at hi
     cases e:ws[i]? with
     |none=>rw[e] at hi;cases hi
     |some z=>rw[e] at hi;exact⟨z,rfl,(Option.some.inj hi).symm⟩
    have ep:=kek ez
    refine⟨_,rfl,_,rfl,_,_,rfl,rfl,?_⟩
    refine⟨_,rfl,_,rfl,_,_,rfl,rfl, .inl ⟨by omega,by omega⟩,_,rfl,_,_,rfl,rfl,⟨hpos,by omega⟩,?_⟩
    refine⟨_,rfl, .inl ⟨rfl,_,SqL.of kad⟩,_,rfl,_,rfl,_,_,rfl,rfl,p,_,_,rfl,rfl,kad,kap (by simp;omega),?_⟩
    refine⟨_,rfl,?_,some (.int z),some (.int (c*(pre ws i+z)/ws.sum)),?_⟩
    ·rw[kmd,Mh,NC,NC]
     show upd H p (.lst (_++[V.int (c*(pre ws i+z)/ws.sum-c*pre ws i/ws.sum)]))=upd H p (.lst (_++[V.int (part c ws i)]))
     unfold part
     rw[ep]
    ·rw[ep]
     rfl
   ·rintro σ H' ⟨rfl,v6,v7,rfl⟩
    refine⟨_,rfl,?_⟩
    have:=k p hp
    rw[kj3 h0] at this
    rw[Nq]
    exact this
theorem kfK:kao ["self","kind","needs","most","member","once","lone"] ["self","kind","needs","most","member","once","lone"] (kag ka0):=by ac_rfl
theorem kdu(W:WB K mg d base):FO P w W 1 d.Zs d.qJ ["self","kind","needs","most","member","once","lone"] (kei d.qf):=by
 exists W.QB.F,kfK
 ·obtain⟨x,dx,M,rfl,hx,k⟩:=h
  refine⟨_,kac (kaH (pv 0) (pv 1) rfl)
   (kac (kaH (pv 0) (pv 2) rfl)
   (kac (kaH (pv 0) (pv 3) rfl)
   (kac (kaH (pv 0) (pv 4) rfl)
   (kac (kaH (pv 0) (pv 5) rfl)
   (kaf (kaH (pv 0) (pv 6) rfl)))))),?_⟩
  refine⟨_,rfl,_,rfl,x,d.qf,dx,[],rfl,hx,W.qf.cl,W.Qf,by decide,?_⟩
  refine⟨_,rfl,_,rfl,x,d.qf,dx,_,rfl,kad,W.qf.cl,W.VC,few (Nx (kal (n:=0) (Nt _)) (by decide)),?_⟩
  refine⟨_,rfl,_,rfl,x,d.qf,dx,_,rfl,kad,W.qf.cl,W.Xb,few (Nx (kal (kal (n:=0) (Nt _))) (by decide)),?_⟩
  refine⟨_,rfl,_,rfl,x,d.qf,dx,_,rfl,kad,W.qf.cl,W.VD,few (Nx (kal (kal (kal (n:=0) (Nt _)))) (by decide)),?_⟩
  refine⟨_,rfl,_,rfl,x,d.qf,dx,_,rfl,kad,W.qf.cl,W.VE,few (Nx (kal (kal (kal (kal (n:=0) (Nt _))))) (by decide)),?_⟩
  refine⟨_,rfl,_,rfl,x,d.qf,dx,_,rfl,kad,W.qf.cl,W.qU,few (Nx (kal (kal (kal (kal (kal (n:=0) (Nt _)))))) (by decide)),?_⟩
  refine k _ (But.trans (But.trans (But.trans (But.trans (But.trans kav kav) kav) kav) kav) kav) ⟨dx,_,kad,?_,?_,?_,?_,?_,?_⟩ <;> ac_nf
theorem keu:kao ["self","marks"] ["self","marks"] (kag kaS):=by ac_rfl
theorem kbb(W:WB K mg d base):FO P w W 3 d.QU d.QV ["self","marks"] (kfl K d.qf):=by
 exists W.qu.F,keu
 ·obtain⟨x,C,dx,fs,mv,rfl,hx,hC,hN,hl,hm,k⟩:=h
  exists Xs,kdu,W
  refine⟨_,kaf (kaH (pv 0) (kbT (kar kcg (pv 1) kaJ (kaw _)) (kkW (W.QB.mk' W.qf) Xs hr rfl W.qf.m W.b6_Marks_init (show Vals [.non, .int 0, .non, .bl false, .bl false, .bl false] [.none, .int 0 d.tok1_Marks_init, .none, .bool false, .bool false, .bool false] from(.cons rfl (.cons ⟨_,rfl⟩ (.cons rfl (.cons rfl (.cons rfl (.cons rfl .nil))))))) pass0) (pv 1)) rfl),?_⟩
  rcases hm with rfl|⟨mA,rfl⟩
  ·refine⟨_,rfl,rfl,_,rfl,iteT ?_⟩
   refine kiw (M:=mks0) fun H1 mA s1 f1 hM=>?_
   refine⟨_,rfl,x,C,dx,fs,rfl,s1 _ _ hx,hC,hN,by omega,?_⟩
   have hne:mA≠x:=(kah hx f1).symm
   refine k _ mA ((But.of_same s1).trans (kav (nx (s1 _ _ hx)))) (.inr ⟨rfl,f1,?_⟩) kad
   exact hM.but hne (kav (nx (s1 _ _ hx)))
  ·refine⟨_,rfl,rfl,_,rfl,iteF ?_⟩
   refine⟨_,rfl,_,rfl,x,C,dx,fs,rfl,hx,hC,hN,by omega,?_⟩
   exact k _ mA kav (.inl rfl) kad
theorem khr:kao ["self","amount","marks"] ["self","amount","marks"] (kag kbn):=by ac_rfl
theorem khB(W:WB K mg d base):FO P w W 4 d.Zt d.QW ["self","amount","marks"] (kdV d.c_Off d.qf (fun so=>∃(a:Int),so=.off a)):=by
 refine FunD.ok W.Xc.F khr (fun vs H Q E h=>?_) (fun cdv A outer s H vs Q E hr h=>?_)
 ·obtain⟨x,dx,so,mv,⟨a,rfl⟩,rfl,_⟩:=h
  rfl
 ·obtain⟨x,dx,so,mv,⟨a,rfl⟩,rfl,hx,hm,k⟩:=h
  exists qF,kbb,W
  refine⟨_,kac (ka9 (keH W.Qj qF hr rfl W.qB.m W.qu.F.kp W.qu.b .nil pass0 (kaa (pv 0) (kaa (pv 2) kae))))
   (kaf (kaH (pv 0) (pv 1) rfl)),?_⟩
  refine⟨_,rfl,_,rfl,x,d.c_Off,dx,[],mv,rfl,hx,W.c_Off.cl,W.VF,by decide,hm,fun H1 mA b1 hM h1=>?_⟩
  refine⟨_,rfl,_,rfl,x,d.c_Off,dx,_,rfl,h1,W.c_Off.cl,W.QC,few (Nx (kal (n:=0) (Nt _)) (by decide)),?_⟩
  refine k _ mA _ (b1.trans kav) ?_ kad ?_ ?_
  ·exact hM.but hx kav
  ·ac_nf
  ·show Ms _ _=_
   ac_nf
theorem kfJ:kao ["self","share","by_line","marks"] ["self","share","by_line","marks"] (kag kaZ):=by ac_rfl
theorem kf2(W:WB K mg d base):FO P w W 4 d.Zu d.Qu ["self","share","by_line","marks"] (kdV d.qi d.qf (fun so=>∃(sh:Int)(bb:Bool),so=.share sh bb)):=by
 refine FunD.ok W.Xd.F kfJ (fun vs H Q E h=>?_) (fun cdv A outer s H vs Q E hr h=>?_)
 ·obtain⟨x,dx,so,mv,⟨sh,bb,rfl⟩,rfl,_⟩:=h
  rfl
 ·obtain⟨x,dx,so,mv,⟨sh,bb,rfl⟩,rfl,hx,hm,k⟩:=h
  exists qF,kbb,W
  refine⟨_,kac (ka9 (keH W.Qj qF hr rfl W.qB.m W.qu.F.kp W.qu.b .nil pass0 (kaa (pv 0) (kaa (pv 3) kae))))
   (kac (kaH (pv 0) (pv 1) rfl)
   (kaf (kaH (pv 0) (pv 2) rfl))),?_⟩
  refine⟨_,rfl,_,rfl,x,d.qi,dx,[],mv,rfl,hx,W.qi.cl,W.VI,by decide,hm,fun H1 mA b1 hM h1=>?_⟩
  refine⟨_,rfl,_,rfl,x,d.qi,dx,_,rfl,h1,W.qi.cl,W.VG,few (Nx (kal (n:=0) (Nt _)) (by decide)),?_⟩
  refine⟨_,rfl,_,rfl,x,d.qi,dx,_,rfl,kad,W.qi.cl,W.VH,few (Nx (kal (kal (n:=0) (Nt _))) (by decide)),?_⟩
  refine k _ mA _ ((b1.trans kav).trans kav) ?_ kad ?_ ?_
  ·exact hM.but hx (But.trans kav kav)
  ·ac_nf
  ·exact⟨by ac_nf,by ac_nf⟩
theorem kd8:kao ["self","many","marks"] ["self","many","marks"] (kag kaL):=by ac_rfl
theorem kee(W:WB K mg d base):FO P w W 4 d.Zv d.QX ["self","many","marks"] (kdV d.qm d.qf (fun so=>∃(n:Int),so=.cheap n)):=by
 refine FunD.ok W.Xe.F kd8 (fun vs H Q E h=>?_) (fun cdv A outer s H vs Q E hr h=>?_)
 ·obtain⟨x,dx,so,mv,⟨n,rfl⟩,rfl,_⟩:=h
  rfl
 ·obtain⟨x,dx,so,mv,⟨n,rfl⟩,rfl,hx,hm,k⟩:=h
  exists qF,kbb,W
  refine⟨_,kac (ka9 (keH W.Qj qF hr rfl W.qB.m W.qu.F.kp W.qu.b .nil pass0 (kaa (pv 0) (kaa (pv 2) kae))))
   (kaf (kaH (pv 0) (pv 1) rfl)),?_⟩
  refine⟨_,rfl,_,rfl,x,d.qm,dx,[],mv,rfl,hx,W.qm.cl,W.VL,by decide,hm,fun H1 mA b1 hM h1=>?_⟩
  refine⟨_,rfl,_,rfl,x,d.qm,dx,_,rfl,h1,W.qm.cl,W.VJ,few (Nx (kal (n:=0) (Nt _)) (by decide)),?_⟩
  refine k _ mA _ (b1.trans kav) ?_ kad ?_ ?_
  ·exact hM.but hx kav
  ·ac_nf
  ·show Ms _ _=_
   ac_nf
theorem kfc:kao ["self","many","price","marks"] ["self","many","price","marks"] (kag kaV):=by ac_rfl
theorem kfh(W:WB K mg d base):FO P w W 4 d.Zw d.QY ["self","many","price","marks"] (kdV d.qj d.qf (fun so=>∃(n:Int)(pp:Int),so=.bund n pp)):=by
 refine FunD.ok W.Xf.F kfc (fun vs H Q E h=>?_) (fun cdv A outer s H vs Q E hr h=>?_)
 ·obtain⟨x,dx,so,mv,⟨n,pp,rfl⟩,rfl,_⟩:=h
  rfl
 ·obtain⟨x,dx,so,mv,⟨n,pp,rfl⟩,rfl,hx,hm,k⟩:=h
  exists qF,kbb,W
  refine⟨_,kac (ka9 (keH W.Qj qF hr rfl W.qB.m W.qu.F.kp W.qu.b .nil pass0 (kaa (pv 0) (kaa (pv 3) kae))))
   (kac (kaH (pv 0) (pv 1) rfl)
   (kaf (kaH (pv 0) (pv 2) rfl))),?_⟩
  refine⟨_,rfl,_,rfl,x,d.qj,dx,[],mv,rfl,hx,W.qj.cl,W.VO,by decide,hm,fun H1 mA b1 hM h1=>?_⟩
  refine⟨_,rfl,_,rfl,x,d.qj,dx,_,rfl,h1,W.qj.cl,W.VM,few (Nx (kal (n:=0) (Nt _)) (by decide)),?_⟩
  refine⟨_,rfl,_,rfl,x,d.qj,dx,_,rfl,kad,W.qj.cl,W.VN,few (Nx (kal (kal (n:=0) (Nt _))) (by decide)),?_⟩
  refine k _ mA _ ((b1.trans kav).trans kav) ?_ kad ?_ ?_
  ·exact hM.but hx (But.trans kav kav)
  ·ac_nf
  ·exact⟨by ac_nf,by ac_nf⟩
theorem kd9:kao ["self","marks"] ["self","marks"] (kag kaM):=by ac_rfl
theorem kef(W:WB K mg d base):FO P w W 4 d.Zx d.QZ ["self","marks"] (kdV d.qo d.qf (fun so=>so=.carr)):=by
 exists W.Xg.F,kd9
 ·obtain⟨x,dx,so,mv,rfl,rfl,hx,hm,k⟩:=h
  exists qF,kbb,W
  refine⟨_,kaf (ka9 (keH W.Qj qF hr rfl W.qB.m W.qu.F.kp W.qu.b .nil pass0 (kaa (pv 0) (kaa (pv 1) kae)))),?_⟩
  refine⟨_,rfl,_,rfl,x,d.qo,dx,[],mv,rfl,hx,W.qo.cl,W.VP,by decide,hm,fun H1 mA b1 hM h1=>?_⟩
  refine k _ mA _ b1 hM h1 ?_ trivial
  ac_nf
theorem kgw:kao ["self","kind","price","many","special"] ["self","kind","price","many","special"] (kag ka8):=by ac_rfl
theorem kgL(W:WB K mg d base):FO P w W 1 d.Zy d.Q0 ["self","kind","price","many","special"] (khl d.qe):=by
 exists W.Xl.F,kgw
 ·obtain⟨x,dx,r,rfl,hx,k⟩:=h
  refine⟨_,kac (kaH (pv 0) (pv 1) rfl)
   (kac (kaH (pv 0) (pv 2) rfl)
   (kac (kaH (pv 0) (pv 3) rfl)
   (kaf (kaH (pv 0) (pv 4) rfl)))),?_⟩
  refine⟨_,rfl,_,rfl,x,d.qe,dx,[],rfl,hx,W.qe.cl,W.Xh,by decide,?_⟩
  refine⟨_,rfl,_,rfl,x,d.qe,dx,_,rfl,kad,W.qe.cl,W.Xi,few (Nx (kal (n:=0) (Nt _)) (by decide)),?_⟩
  refine⟨_,rfl,_,rfl,x,d.qe,dx,_,rfl,kad,W.qe.cl,W.Xj,few (Nx (kal (kal (n:=0) (Nt _))) (by decide)),?_⟩
  refine⟨_,rfl,_,rfl,x,d.qe,dx,_,rfl,kad,W.qe.cl,W.Xk,few (Nx (kal (kal (kal (n:=0) (Nt _)))) (by decide)),?_⟩
  refine k _ (But.trans (But.trans (But.trans kav kav) kav) kav) ⟨dx,_,kad,?_,?_,?_,?_⟩
  ·rw[kab,if_neg (by decide +kernel),kab,if_neg (by decide +kernel),kab,if_neg (by decide +kernel),kab,if_pos rfl]
  ·rw[kab,if_neg (by decide +kernel),kab,if_neg (by decide +kernel),kab,if_pos rfl]
  ·rw[kab,if_neg (by decide +kernel),kab,if_pos rfl]
  ·rw[kab,if_pos rfl]
theorem kfd:kao ["self","lines","carriage","member"] ["self","lines","carriage","member"] (kag kaW):=by ac_rfl
theorem kfi(W:WB K mg d base):FO P w W 1 d.Zz d.Qv ["self","lines","carriage","member"] (khn K d.qg):=by
 exists W.Xn.F,kfd
 ·obtain⟨x,dx,l,cg,m,xs,rfl,hx,hl,k⟩:=h
  refine⟨_,kac (kaH (pv 0) (kaK (r:=ka4 K) kaA (by rfl) W.B.list kbj (kaa (pv 1) kae)) rfl)
   (kac (kaH (pv 0) (pv 2) rfl)
   (kaf (kaH (pv 0) (pv 3) rfl))),?_⟩
  refine⟨_,rfl,l,_,rfl, .inl hl,fun l' hl'=>?_⟩
  have s1:=kam (o:=.lst xs) hl'
  have nlx:l'≠x:=fun e=>by
   rw[e,hx] at hl'
   cases hl'
  refine⟨_,rfl,x,d.qg,dx,[],rfl,s1 _ _ hx,W.qg.cl,W.Qg,by decide,?_⟩
  refine⟨_,rfl,_,rfl,x,d.qg,dx,_,rfl,kad,W.qg.cl,W.VQ,few (Nx (kal (n:=0) (Nt _)) (by decide)),?_⟩
  refine⟨_,rfl,_,rfl,x,d.qg,dx,_,rfl,kad,W.qg.cl,W.Xm,few (Nx (kal (kal (n:=0) (Nt _))) (by decide)),?_⟩
  refine k _ l' ((((But.of_same s1).trans kav).trans kav).trans kav) hl' ?_ ⟨dx,_,kad,?_,?_,?_⟩
  ·rw[kaj nlx,kaj nlx,kaj nlx,kad]
  ·rw[kab,if_neg (by decide +kernel),kab,if_neg (by decide +kernel),kab,if_pos rfl]
  ·rw[kab,if_neg (by decide +kernel),kab,if_pos rfl]
  ·rw[kab,if_pos rfl]
theorem kdH:kao ["line","member"] ["line","member"] (kag kbK):=by ac_rfl
theorem kdM(W:WB K mg d base):FO P w W 1 d.XS d.XT ["line","member"] (kjq d.qe):=by
 exists W.ZT.F,kdH
 ·obtain⟨x,m,r,rfl,⟨dx,fs,hx,lk,lp,lm,ls⟩,k⟩:=h
  refine⟨_,kac (ps_if (PW.pt (kbS (kaR (pv 1)) (kbt (kar kb6 (kak (K:=K) (pv 0) rfl) kaJ (kaw _))))) (kaf (kan (kak (K:=K) (pv 0) rfl))) (kas))
   (kaf (kan (kak (K:=K) (pv 0) rfl))),?_⟩
  refine⟨_,rfl,m,rfl,?_⟩
  cases m with
  |false=>
   refine iteF (iteF ⟨_,rfl,x,d.qe,dx,fs,_,rfl,hx,W.qe.cl,W.Xi,lp,?_⟩)
   exact k
  | true=>
   refine iteT ⟨_,rfl,x,d.qe,dx,fs,_,rfl,hx,W.qe.cl,W.Xk,ls,rfl,_,rfl,?_⟩
   cases e:r.ex with
   | none=>
    rw[e] at ls
    show if(!decide (V.non=V.non))=true then _ else _
    rw[show(!decide (V.non=V.non))=false by simp]
    refine iteF ⟨_,rfl,x,d.qe,dx,fs,_,rfl,hx,W.qe.cl,W.Xi,lp,?_⟩
    have ep:prc true r=r.pr:=by
     unfold prc
     rw[if_pos rfl,e]
     rfl
    rw[ep] at k
    exact k
   | some z=>
    rw[e] at ls
    show if(!decide (V.int z=V.non))=true then _ else _
    rw[show(!decide (V.int z=V.non))=true by simp]
    refine iteT ⟨_,rfl,x,d.qe,dx,fs,_,rfl,hx,W.qe.cl,W.Xk,ls,?_⟩
    have ep:prc true r=z:=by
     unfold prc
     rw[if_pos rfl,e]
     rfl
    rw[ep] at k
    exact k
theorem QE:kao ["self","basket","number","line","price"] ["self","basket"] (kag kb4):=by ac_rfl
theorem kbk(W:WB K mg d base):FO P w W 2 d.ZA d.ZC ["self","basket"] (kdl d.qe d.qg d.qc):=by
 exists W.qx.F,QE
 ·obtain⟨x,dx,b,l,cg,m,ls,rs,rfl,hx,⟨dxb,fsb,hb,lbl,lbc,lbm⟩,hl,hL,hn,hok,k⟩:=h
  exists UC,kdM,W
  refine⟨_,kac (kaH (pv 0) (kaN kae) rfl)
   (kac (kaH (pv 0) (kaN kae) rfl)
   (kac (kaH (pv 0) (kak (K:=K) (pv 1) rfl) rfl)
   (kac (kaH (pv 0) (kaN kae) rfl)
   (kaf (kaU PassesOwn.never rfl (kfS rfl W.B.enum (kaa (kak (K:=K) (pv 1) rfl) kae)) (kby (K:=K) (n:=2) rfl (kaC (pgn (i:=2) QE.nd) (kaC (pgn (i:=3) QE.nd) kbx)))
   (kac (psl (i:=4) QE.nd (pcl UC hr W.ZT (kaa (pv 3) (kaa (kak (K:=K) (pv 1) rfl) kae))))
   (kac (ka9 (pe_bm Mp ER ES kdv (kak (K:=K) (pv 0) rfl) (kaa (pe_op keL (kaN (kaa (pv 2) kae)) (kak (K:=K) (pv 3) rfl)) kae)))
   (kac (ka9 (pe_bm Mp ER ES kdv (kak (K:=K) (pv 0) rfl) (kaa (pe_op keL (kaN (kaa (pv 4) kae)) (kak (K:=K) (pv 3) rfl)) kae)))
   (kaf (ka9 (pe_bm Mp MV MW kbF (kak (K:=K) (pv 0) rfl) (kaa pe_bl kae)))))))))))),?_⟩
  have nbx:b≠x:=ne_of hb hx (by
   intro z
   injection z with _ _ z
   rw[z] at lbl
   cases lbl)
  have nlx:l≠x:=ne_of hl hx (by intro z;cases z)
  exists Y4
  refine⟨by decide,fun o ho=>?_⟩
  have nox:o≠x:=(kah hx ho).symm
  symm
  exists Y4
  refine⟨_,rfl,x,d.qc,dx,[],rfl,kam ho _ _ hx,W.qc.cl,W.qC,by decide,?_⟩
  have b1:But x H (upd (upd H o (.lst [])) x (.ins d.qc dx (putF "owners" (.ref o) []))):=(But.of_same (kam ho)).trans kav
  symm
  exists Y4
  refine⟨by decide,fun p hp=>?_⟩
  have npx:p≠x:=fun e=>by
   rw[e,kad] at hp
   cases hp
  have nop:o≠p:=fun e=>by
   rw[<-e,kaj nox,kad] at hp
   cases hp
  have hp0:H p=none:=by
   cases e:H p with
   |none=>rfl
   |some u=>
    obtain⟨u',e'⟩:=kga (b1 p u npx e)
    rw[e'] at hp
    cases hp
  symm
  exists Y4
  refine⟨_,rfl,x,d.qc,dx,_,rfl,kam hp _ _ kad,W.qc.cl,W.qw,few (Nx (kal (n:=0) (Nt _)) (by decide)),?_⟩
  have b2:=(b1.same (kam (o:=.lst []) hp)).trans (kav (o:=.ins d.qc dx (putF "prices" (.ref p) (putF "owners" (.ref o) []))))
  symm
  exists Y4
  refine⟨_,rfl,b,d.qg,dxb,fsb,_,rfl,b2 b _ nbx hb,W.qg.cl,W.VQ,lbc,_,rfl,x,d.qc,dx,_,rfl,kad,W.qc.cl,W.qV,few (Nx (kal (kal (n:=0) (Nt _))) (by decide)),?_⟩
  have b3:=b2.trans (kav (o:=.ins d.qc dx (putF "carriage" (.int cg) (putF "prices" (.ref p) (putF "owners" (.ref o) [])))))
  symm
  exists Y4
  refine⟨by decide,fun mk hm=>?_⟩
  have nmx:mk≠x:=fun e=>by
   rw[e,kad] at hm
   cases hm
  have hm0:H mk=none:=by
   cases e:H mk with
   |none=>rfl
   |some u=>
    obtain⟨u',e'⟩:=kga (b3 mk u nmx e)
    rw[e'] at hm
    cases hm
  have nom:o≠mk:=fun e=>by
   rw[<-e,kaj nox,kaj nox,kaj nop,kaj nox,kad] at hm
   cases hm
  have npm:p≠mk:=fun e=>by
   rw[<-e,kaj npx,kaj npx,kad] at hm
   cases hm
  symm
  exists Y4
  refine⟨_,rfl,x,d.qc,dx,_,rfl,kam hm _ _ kad,W.qc.cl,W.Qh,few (Nx (kal (kal (kal (n:=0) (Nt _)))) (by decide)),?_⟩
  have b4:=(b3.same (kam (o:=.lst []) hm)).trans (kav (o:=.ins d.qc dx (putF "marked" (.ref mk) (putF "carriage" (.int cg) (putF "prices" (.ref p) (putF "owners" (.ref o) []))))))
  have Di:Ds H x o p mk:=⟨ho,hp0,hm0,nox,npx,nmx,nop,nom,npm⟩
  have Z0:S3 H x d.qc dx (putF "marked" (.ref mk) (putF "carriage" (.int cg) (putF "prices" (.ref p) (putF "owners" (.ref o) [])))) o p mk [] [] [] (upd (upd (upd (upd (upd (upd (upd H o (.lst [])) x (.ins d.qc dx (putF "owners" (.ref o) []))) p (.lst [])) x (.ins d.qc dx (putF "prices" (.ref p) (putF "owners" (.ref o) []))))
    x (.ins d.qc dx (putF "carriage" (.int cg) (putF "prices" (.ref p) (putF "owners" (.ref o) []))))) mk (.lst [])) x (.ins d.qc dx (putF "marked" (.ref mk) (putF "carriage" (.int cg) (putF "prices" (.ref p) (putF "owners" (.ref o) [])))))):=by
   symm
   exists Y6
   refine⟨b4,kad,?_,?_,?_⟩
   ·rw[kaj nox,kaj nom,kaj nox,kaj nox,kaj nop,kaj nox,kad]
   ·rw[kaj npx,kaj npm,kaj npx,kaj npx,kad]
   ·rw[kaj nmx,kad]
  have l1:(putF "marked" (.ref mk) (putF "carriage" (.int cg) (putF "prices" (.ref p) (putF "owners" (.ref o) [])))).lookup ("owners" :Str)=some (.ref o):=by
   rw[kab,if_neg (by decide +kernel),kab,if_neg (by decide +kernel),kab,if_neg (by decide +kernel),kab,if_pos rfl]
  have l2:(putF "marked" (.ref mk) (putF "carriage" (.int cg) (putF "prices" (.ref p) (putF "owners" (.ref o) [])))).lookup ("prices" :Str)=some (.ref p):=by
   rw[kab,if_neg (by decide +kernel),kab,if_neg (by decide +kernel),kab,if_pos rfl]
  have l3:(putF "marked" (.ref mk) (putF "carriage" (.int cg) (putF "prices" (.ref p) (putF "owners" (.ref o) [])))).lookup ("carriage" :Str)=some (.int cg):=by
   rw[kab,if_neg (by decide +kernel),kab,if_pos rfl]
  have l4:(putF "marked" (.ref mk) (putF "carriage" (.int cg) (putF "prices" (.ref p) (putF "owners" (.ref o) [])))).lookup ("marked" :Str)=some (.ref mk):=by
   rw[kab,if_pos rfl]
  have l5:(putF "marked" (.ref mk) (putF "carriage" (.int cg) (putF "prices" (.ref p) (putF "owners" (.ref o) [])))).lookup ("whole" :Str)=none:=by
   rw[kab,if_neg (by decide +kernel),kab,if_neg (by decide +kernel),kab,if_neg (by decide +kernel),kab,if_neg (by decide +kernel)]
   rfl
  have lfs:(putF "marked" (.ref mk) (putF "carriage" (.int cg) (putF "prices" (.ref p) (putF "owners" (.ref o) [])))).length<=10:=Nx (kal (kal (kal (kal (n:=0) (Nt _))))) (by decide)
  generalize putF "marked" (.ref mk) (putF "carriage" (.int cg) (putF "prices" (.ref p) (putF "owners" (.ref o) [])))=fs at *
  generalize (upd (upd (upd (upd (upd (upd (upd H o (.lst [])) x (.ins d.qc dx (putF "owners" (.ref o) []))) p (.lst [])) x (.ins d.qc dx (putF "prices" (.ref p) (putF "owners" (.ref o) []))))
    x (.ins d.qc dx (putF "carriage" (.int cg) (putF "prices" (.ref p) (putF "owners" (.ref o) []))))) mk (.lst [])) x (.ins d.qc dx fs))=Hs at *
  symm
  exists Y4
  refine⟨_,rfl,b,d.qg,dxb,fsb,_,rfl,Z0.bt b _ nbx hb,W.qg.cl,W.Qg,lbl,l,_,rfl,Z0.bt l _ nlx hl,kf7 (xs:=ls.map V.ref) (fun i σ H'=>(∃v2 v3 v4:Option V,σ=[some (.ref x),some (.ref b),v2,v3,v4])/\
   S3 H x d.qc dx fs o p mk ((own (rs.take i)).map V.int) ((prs m (rs.take i)).map V.int) (Nu i (.bl false)) H') ⟨⟨none,none,none,rfl⟩,Z0⟩ (fun i σ H' _ ⟨_,Z⟩=>Z.bt l _ nlx hl) ?_ ?_⟩
  ·rintro i y t σ H1 hy ⟨⟨v2,v3,v4,rfl⟩,Z⟩ ht
   have hll:=hL.len
   have hil:i<(ls.map V.ref).length:=(NF.mp hy).1
   rw[Nq] at hil
   obtain⟨lx,el,rfl⟩:∃lx,ls[i]?=some lx/\y=V.ref lx:=by
    rw[Nz] at hy
    cases e:ls[i]? with
    |none=>rw[e] at hy;cases hy
    |some z=>rw[e] at hy;exact⟨z,rfl,(Option.some.inj hy).symm⟩
   obtain⟨r,er⟩:∃r,rs[i]?=some r:=⟨rs[i]'(by omega),by simp[show i<rs.length by omega]⟩
   have hr':r.Ok:=hok r (Ny er)
   obtain⟨dxl,fsl,hlx,lk1,lk2,lk3,lk4⟩:=hL.get el er
   have nlxx:lx≠x:=ne_of hlx hx (by
    intro z
    injection z with _ _ z
    rw[z] at lk1
    cases lk1)
   have hmn0:=hr'.mn0
   have hmn1:=hr'.mn1
   have Z1:=Z.same (kam (o:=.tup [.int (i:Nat),V.ref lx]) ht)
   have lo1:((own (rs.take i)).map V.int).length<=720:=by
    rw[Nq]
    have:=kjU (rs.take i) fun r hr=>hok r (Dp hr)
    rw[NK] at this
    omega
   have lp1:((prs m (rs.take i)).map V.int).length<=720:=by
    rw[Nq]
    have:=kjM m (rs.take i) fun r hr=>hok r (Dp hr)
    rw[NK] at this
    omega
   symm
   exists Y6
   refine⟨t,_,rfl,SqT.of kad,rfl,_,_,rfl,_,_,rfl,rfl,?_⟩
   nofun
   exists Y6
   refine⟨_,rfl,_,rfl,b,d.qg,dxb,fsb,_,rfl,Z1.bt b _ nbx hb,W.qg.cl,W.Xm,lbm,lx,m,r,rfl,⟨dxl,fsl,Z1.bt lx _ nlxx hlx,lk1,lk2,lk3,lk4⟩,?_⟩
   nofun
   exists Y6
   refine⟨_,rfl,x,d.qc,dx,fs,_,rfl,Z1.ob,W.qc.cl,W.qC,l1, .inl ⟨rfl,_,SqL.of Z1.ho⟩,_,rfl,(by show 1<=sizeLine;decide),fun t1 ht1=>?_⟩
   have Z2:=Z1.same (kam (o:=.lst [V.int (i:Nat)]) ht1)
   nofun
   exists Y6
   refine⟨_,rfl,lx,d.qe,dxl,fsl,_,rfl,Z2.bt lx _ nlxx hlx,W.qe.cl,W.Xj,lk3,t1,_,_,rfl,rfl,kad,by omega,by omega,ND (kap (by simp;omega)),fun t2 ht2=>?_⟩
   have Z3:=Z2.same (kam (o:=.lst (Nu r.mn.toNat [V.int (i:Nat)]).flatten) ht2)
   nofun
   exists Y6
   refine⟨o,t2,_,_,rfl,rfl,Z3.ho,kad,ND (kap (by rw[rep1,Mm];omega)),?_⟩
   have Z4:=Z3.setO (d:=(own (rs.take i)).map V.int++(Nu r.mn.toNat [V.int (i:Nat)]).flatten) Di
   nofun
   exists Y6
   refine⟨_,rfl,x,d.qc,dx,fs,_,rfl,Z4.ob,W.qc.cl,W.qw,l2, .inl ⟨rfl,_,SqL.of Z4.hp⟩,_,rfl,(by show 1<=sizeLine;decide),fun t3 ht3=>?_⟩
   have Z5:=Z4.same (kam (o:=.lst [V.int (prc m r)]) ht3)
   nofun
   exists Y6
   refine⟨_,rfl,lx,d.qe,dxl,fsl,_,rfl,Z5.bt lx _ nlxx hlx,W.qe.cl,W.Xj,lk3,t3,_,_,rfl,rfl,kad,by omega,by omega,ND (kap (by simp;omega)),fun t4 ht4=>?_⟩
   have Z6:=Z5.same (kam (o:=.lst (Nu r.mn.toNat [V.int (prc m r)]).flatten) ht4)
   nofun
   exists Y6
   refine⟨p,t4,_,_,rfl,rfl,Z6.hp,kad,ND (kap (by rw[rep1,Mm];omega)),?_⟩
   have Z7:=Z6.setP (d:=(prs m (rs.take i)).map V.int++(Nu r.mn.toNat [V.int (prc m r)]).flatten) Di
   nofun
   exists Y6
   refine⟨_,rfl,x,d.qc,dx,fs,_,rfl,Z7.ob,W.qc.cl,W.Qh,l4, .inl ⟨rfl,_,SqL.of Z7.hm⟩,mk,_,_,rfl,rfl,Z7.hm,kap (by simp;omega),?_⟩
   have Z8:=Z7.setM (d:=Nu i (V.bl false)++[V.bl false]) Di
   nofun
   exists Y6
   refine⟨⟨_,_,_,rfl⟩,?_⟩
   have e1:(own (rs.take i)).map V.int++(Nu r.mn.toNat [V.int (i:Nat)]).flatten=(own (rs.take (i+1))).map V.int:=by
    rw[take_snoc er,kk4,NC,rep1,keA,NK,Eo (by omega)]
   have e2:(prs m (rs.take i)).map V.int++(Nu r.mn.toNat [V.int (prc m r)]).flatten=(prs m (rs.take (i+1))).map V.int:=by
    rw[take_snoc er,kkU,NC,rep1,keA]
   have e3:Nu i (V.bl false)++[V.bl false]=Nu (i+1) (V.bl false):=by rw[EO]
   rw[<-e1,<-e2,<-e3]
   nofun
   exact Z8
  ·rintro σ H' ⟨⟨v2,v3,v4,rfl⟩,Z⟩
   have hll:=hL.len
   have e:(ls.map V.ref).length=rs.length:=by rw[Nq,hll]
   rw[e,NY] at Z
   nofun
   exact k H' o p mk Z.bt ho hp0 hm0 ⟨dx,fs,Z.ob,l1,l2,l3,l4,l5⟩ Z.ho Z.hp Z.hm ⟨dx,fs,Z.ob,lfs⟩
theorem kdI:kao ["self"] ["self"] (kag kbO):=by ac_rfl
theorem kcv(W:WB K mg d base):FO P w W 1 d.ZD d.ZE ["self"] (kjj d.qc):=by
 exists W.qM.F,kdI
 ·obtain⟨x,o,p,mk,cg,ns,rfl,⟨dx,fs,hx,l1,l2,l3,l4,l5⟩,hp,k⟩:=h
  refine⟨_,kaf (kan (pe_op kbe (kat (r:=rSum K) (kc0 rfl) (by rfl) W.B.sum b_sum (kaa (kak (K:=K) (pv 0) rfl) kae)) (kak (K:=K) (pv 0) rfl))),?_⟩
  exact⟨_,rfl,x,d.qc,dx,fs,_,rfl,hx,W.qc.cl,W.qw,l2,p,ns,rfl,SqL.of hp,_,rfl,x,d.qc,dx,fs,_,rfl,hx,W.qc.cl,W.qV,l3,_,_,rfl,rfl,k⟩
inductive klL (K:Nr) (CM:Addr) (vs:List V) (H:Hp) (Q:VK) (E_:XK):Prop
 |ct (mA a:Addr)(M:Mks)(ps:List (Option Nat))(kn:Nat)(mk:Bool)(_:vs=[.ref mA, .ref a, .int kn, .bl mk])(_:MksIs CM H mA M)(_:SqL K H a (ps.map pV))(_:Good ps)(_:kn<ps.length)(_:Q (.bl (kHit ps M.kind kn&&(!M.lone|| !mk))) H):klL K CM vs H Q E_
theorem kmo:kao ["marks","parents","kind","marked"] ["marks","parents","kind","marked"] (kag kjE):=by ac_rfl
theorem kmD(W:WB K mg d base):FO P w W 2 d.XX d.XY ["marks","parents","kind","marked"] (klL K d.qf):=by
 exists W.ZU.F,kmo
 ·obtain⟨mA,a,M,ps,kn,mk,rfl,⟨dx,fs,hm,l1,l2,l3,l4,l5,l6⟩,hS,hg,hk,k⟩:=h
  exists UD,kk7,W
  refine⟨_,kac (keD (ps_if (PW.pt (kbS (kaR (kak (K:=K) (pv 0) rfl)) (kbt (kaR (pv 3))))) (kaf (kan pe_bl)) (kas)))
   (kaf (kan (pe_or (kbP kcg (kak (K:=K) (pv 0) rfl) kaJ (kaw _)) (kjQ (pcl UD hr W.ZS (kaa (pv 1) (kaa (pv 2) (kaa (kak (K:=K) (pv 0) rfl) kae)))))))),?_⟩
  refine⟨fun σ' H'=>σ'=[some (.ref mA),some (.ref a),some (.int kn),some (.bl mk)]/\H'=H/\(!M.lone|| !mk)=true,⟨_,rfl,mA,d.qf,dx,fs,_,rfl,hm,W.qf.cl,W.qU,l6,M.lone,rfl,?_⟩,?_⟩
  ·cases e:M.lone with
   |false=>exact iteF (iteF ⟨rfl,rfl,rfl⟩)
   | true=>
    refine iteT ⟨_,rfl,mk,rfl,?_⟩
    cases mk with
    |false=>exact iteF ⟨rfl,rfl,rfl⟩
    |true=>
     refine iteT ?_
     rw[e,show(kHit ps M.kind kn&&(!true|| !true))=false by simp] at k
     exact k
  ·rintro σ' H' ⟨rfl,rfl,hh⟩
   rw[hh,Bool.and_true] at k
   cases ek:M.kind with
   |none=>
    rw[ek] at l1 k
    refine⟨_,rfl,mA,d.qf,dx,fs,_,rfl,hm,W.qf.cl,W.Qf,l1,rfl,_,rfl,?_⟩
    show if decide (V.non=V.non)=true then _ else _
    rw[show decide (V.non=V.non)=true by simp]
    exact iteT k
   |some kk=>
    rw[ek] at l1 k
    refine⟨_,rfl,mA,d.qf,dx,fs,_,rfl,hm,W.qf.cl,W.Qf,l1,rfl,_,rfl,?_⟩
    show if decide (V.int (kk:Nat)=V.non)=true then _ else _
    rw[show decide (V.int (kk:Nat)=V.non)=false by simp]
    exact iteF ⟨_,rfl,_,rfl,_,rfl,mA,d.qf,dx,fs,_,rfl,hm,W.qf.cl,W.Qf,l1,a,ps,kn,kk,rfl,hS,hg,hk,k⟩
theorem VT:kao ["voucher","parents","basket","standing","fitting"] ["voucher","parents","basket","standing"] (kag kew):=by ac_rfl
theorem kfV(W:WB K mg d base):FO P w W 3 d.XU d.XW ["voucher","parents","basket","standing"] (kjA K d):=by
 exists W.Qw.F,VT
 ·obtain⟨v,a,b,x,Vc,ps,B,S,rfl,hV,hA,hB,hS,wf,vo,k⟩:=h
  obtain⟨mA,dxv,fsv,hv,lvm,_,hM,hh,htb⟩:=id hV
  obtain⟨l,ls,⟨dxb,fsb,hb,lb1,lb2,lb3⟩,hl,hL⟩:=id hB
  obtain⟨o,p,mk,⟨dxs,fss,hx,l1,l2,l3,l4,l5⟩,ho,hp,hmk⟩:=id hS
  exists UE,kmD,W
  refine⟨_,kac (psl (i:=4) VT.nd (kbz (N:=["line","marked","voucher","parents"]) (CompScope.of (N:=["line","marked","voucher","parents"]) (cap:=[none,none,some 0,some 1]) (kag kew).names ["voucher","parents","basket","standing","fitting"] rfl rfl (by decide +kernel)) rfl (kfR rfl W.B.zip (kaa (kak (K:=K) (pv 2) rfl) (kaa (kak (K:=K) (pv 3) rfl) kae))) (fun _ _ _ _=>kby (K:=K) (n:=2) rfl (kaC (pgn (i:=0) (show(["line","marked","voucher","parents"]:List Str).Nodup by decide +kernel)) (kaC (pgn (i:=1) (show(["line","marked","voucher","parents"]:List Str).Nodup by decide +kernel)) kbx))) (fun _ _ _ _=>(pcl UE hr W.ZU (kaa (kak (K:=K) (pv 2) rfl) (kaa (pv 3) (kaa (kak (K:=K) (pv 0) rfl) (kaa (pv 1) kae))))))))
   (kaf (kan (kfT (N:=["piece","owner","fitting"]) (CompScope.of (N:=["piece","owner","fitting"]) (cap:=[none,none,some 4]) (kag kew).names ["voucher","parents","basket","standing","fitting"] rfl rfl (by decide +kernel)) rfl (kfS rfl W.B.enum (kaa (kak (K:=K) (pv 3) rfl) kae)) (fun _ _ _ _=>kby (K:=K) (n:=2) rfl (kaC (pgn (i:=0) (show(["piece","owner","fitting"]:List Str).Nodup by decide +kernel)) (kaC (pgn (i:=1) (show(["piece","owner","fitting"]:List Str).Nodup by decide +kernel)) kbx))) (fun _ _ _ _=>khx (kaR (pe_ix (r:=rIxL K) kax (pv 2) (pv 1) (fun _ _=>rfl)))) (fun _ _ _ _=>(pv 0))))),?_⟩
  have np:=wf.np
  have nl:=wf.nl
  have lenL:=hL.len
  have lenM:=wf.lm
  have emin:min (ls.map V.ref).length (S.mkd.map V.bl).length=B.rs.length:=by rw[Nq,Nq,lenL,lenM,Ei]
  refine⟨_,rfl,b,d.qg,dxb,fsb,_,rfl,hb,W.qg.cl,W.Qg,lb1,_,rfl,x,d.qc,dxs,fss,_,rfl,hx,W.qc.cl,W.Qh,l4,l,mk,_,_,rfl,hl,hmk,
   kiG (xs:=ls.map V.ref) (ys:=S.mkd.map V.bl) (fun i σ zs H'=>Same H H'/\zs=((Nw i).map fun l=>hits ps (kds B) Vc.ms.kind Vc.ms.lone S.mkd l).map V.bl/\∃v0 v1:Option V,σ=[v0,v1,some (.ref v),some (.ref a)])
    ⟨Same.refl _,rfl,none,none,rfl⟩ (by rw[emin];exact ND (kap (by omega))) (fun i σ zs H' _ h=>⟨h.1 _ _ hl,h.1 _ _ hmk,by rw[h.2.1];simp⟩) ?_ ?_⟩
  ·rintro i y m t σ zs H1 hy hm ⟨s1,rfl,v0,v1,rfl⟩ ht
   obtain⟨lx,elx,rfl⟩:=kbR hy
   obtain⟨mv,emv,rfl⟩:=kbo hm
   obtain⟨r,er,hr⟩:=hL.at elx
   have s2:=s1.trans (kam (o:=.tup [V.ref lx,V.bl mv]) ht)
   obtain⟨dxl,fsl,hlx,lk1,_⟩:=hr.same s2
   have hkd:=wf.kd r (Ny er)
   obtain⟨kn,ekn⟩:=Int.eq_ofNat_of_zero_le hkd.1
   have hkn:kn<ps.length:=by omega
   refine⟨t,_,rfl,SqT.of kad,rfl,_,_,rfl,_,_,rfl,rfl,?_⟩
   refine⟨_,rfl,v,clsOf d Vc.so,dxv,fsv,_,rfl,s2 _ _ hv,cl_of W hh,na_of W hh,lvm,_,rfl,_,rfl,lx,d.qe,dxl,fsl,_,rfl,hlx,W.qe.cl,W.Xh,lk1,_,rfl,mA,a,Vc.ms,ps,kn,mv,by rw[ekn];rfl,hM.same s2,s2.seq hA,wf.good,hkn,s2,?_,_,_,rfl⟩
   have e1:hits ps (kds B) Vc.ms.kind Vc.ms.lone S.mkd i=(kHit ps Vc.ms.kind kn&&(!Vc.ms.lone|| !mv)):=by
    unfold hits
    have e2:S.mkd.getD i false=mv:=by rw[NL,emv];rfl
    rw[e2,klY er,ekn,Int.toNat_natCast]
   rw[Mh,NC,NC,<-e1]
   rfl
  rintro σ zs H1 ⟨s1,rfl,v0,v1,rfl⟩ D hD
  rw[emin]
  have s2:=s1.trans (kam (o:=.lst (((Nw B.rs.length).map fun l=>hits ps (kds B) Vc.ms.kind Vc.ms.lone S.mkd l).map V.bl)) hD)
  have eD:(upd H1 D (.lst (((Nw B.rs.length).map fun l=>hits ps (kds B) Vc.ms.kind Vc.ms.lone S.mkd l).map V.bl))) D=some (.lst (((Nw B.rs.length).map fun l=>hits ps (kds B) Vc.ms.kind Vc.ms.lone S.mkd l).map V.bl)):=kad
  generalize upd H1 D (.lst (((Nw B.rs.length).map fun l=>hits ps (kds B) Vc.ms.kind Vc.ms.lone S.mkd l).map V.bl))=H2 at *
  refine⟨_,rfl,x,d.qc,dxs,fss,_,rfl,s2 _ _ hx,W.qc.cl,W.qC,l1,o,_,rfl,s2 _ _ ho,
   ki4 (xs:=S.ow.map iV) (fun i σ ys H'=>Same H2 H'/\ys=((Nw i).filter fun i=>hits ps (kds B) Vc.ms.kind Vc.ms.lone S.mkd (S.ow.getD i 0)).map iV/\∃v0 v1:Option V,σ=[v0,v1,some (.ref D)])
    ⟨Same.refl _,rfl,none,none,rfl⟩ (by rw[Nq];exact ND (kap (by omega))) (fun i σ zs H' _ h=>⟨h.1 _ _ (s2 _ _ ho),by rw[h.2.1,Nq];have:=M3 (fun i=>hits ps (kds B) Vc.ms.kind Vc.ms.lone S.mkd (S.ow.getD i 0)) (Nw i);simpa using this⟩) ?_ ?_⟩
  ·rintro i y t σ zs H3 hy ⟨s3,rfl,v0,v1,rfl⟩ ht
   obtain⟨ln,eln,rfl⟩:=kbo hy
   have hln:=wf.line eln
   have s4:=s3.trans (kam (o:=.tup [V.int (i:Nat),iV ln]) ht)
   refine⟨t,_,rfl,SqT.of kad,rfl,_,_,rfl,_,_,rfl,rfl,?_⟩
   refine⟨_,rfl,_,rfl,D,_,_,_,rfl,rfl,SqL.of (s4 _ _ eD),kaz (v:=.bl (hits ps (kds B) Vc.ms.kind Vc.ms.lone S.mkd ln)) (by rw[Nz,Nz,EL hln];rfl),_,rfl,?_⟩
   have e1:S.ow.getD i 0=ln:=by rw[NL,eln];rfl
   have st:=kgg (ps:=ps) (kk:=kds B) (kind:=Vc.ms.kind) (lone:=Vc.ms.lone) (S:=S) (i:=i)
   rw[e1] at st
   cases hh2:hits ps (kds B) Vc.ms.kind Vc.ms.lone S.mkd ln with
   |false=>exact iteF ⟨s4,by rw[st,hh2];simp,_,_,rfl⟩
   |true=>exact iteT ⟨_,rfl,s4,by rw[st,hh2,if_pos rfl,NC];rfl,_,_,rfl⟩
  ·rintro σ zs H3 ⟨s3,rfl,v0,v1,rfl⟩ D2 hD2
   rw[Nq]
   have s4:=(s2.trans s3).trans (kam (o:=.lst ((abt ps (kds B) Vc.ms.kind Vc.ms.lone S).map iV)) hD2)
   exact k _ D2 s4 (none_of (s2.trans s3) hD2) kad
inductive kfn (CS:Addr) (vs:List V) (H:Hp) (Q:VK) (E_:XK):Prop
 |ct (x g:Addr)(S:Stnd)(is:List Nat)(_:vs=[.ref x, .ref g])(_:StndIs CS H x S)(_:H g=some (.lst (is.map iV)))(_:(∀i∈is,i<S.pr.length))(_:is.length<=720)(_:∀p,H p=none->Q (.ref p) (upd H p (.lst ((qs S.pr is).map V.int)))):kfn CS vs H Q E_
theorem kgs:kao ["standing","pieces"] ["standing","pieces"] (kag kcy):=by ac_rfl
theorem kdY(W:WB K mg d base):FO P w W 1 d.Yg d.Yh ["standing","pieces"] (kfn d.qc):=by
 exists W.Q6.F,kgs
 ·obtain⟨x,g,S,is,rfl,⟨o,p,mk,⟨dxs,fss,hx,l1,l2,l3,l4,l5⟩,ho,hp,hmk⟩,hg,hi,hl,k⟩:=h
  refine⟨_,kaf (kan (kbz (N:=["piece","standing"]) (CompScope.of (N:=["piece","standing"]) (cap:=[none,some 0]) (kag kcy).names ["standing","pieces"] rfl rfl (by decide +kernel)) rfl (kaE (K:=K) (pv 1)) (fun _ _ _ _=>pgn (i:=0) (show(["piece","standing"]:List Str).Nodup by decide +kernel)) (fun _ _ _ _=>(pe_ix (r:=rIxL K) kax (kak (K:=K) (pv 1) rfl) (pv 0) (fun _ _=>rfl))))),?_⟩
  refine⟨_,rfl,g,rfl,⟨_,SqL.of hg⟩,kaY (xs:=is.map iV) (fun j σ ys H'=>H'=H/\ys=(qs S.pr (is.take j)).map V.int/\∃v,σ=[v,some (.ref x)]) ⟨rfl,rfl,none,rfl⟩ ?_ ?_ ?_ ?_⟩
  ·rw[Nq]
   exact ND (kap (by omega))
  ·rintro j σ ys H' hj ⟨rfl,rfl,_⟩
   exact⟨SqL.of hg,by rw[Nq,kcf,NK];rw[Nq] at hj;omega⟩
  ·rintro j y σ ys H' hy ⟨rfl,rfl,v,rfl⟩
   obtain⟨n,en,rfl⟩:∃n,is[j]?=some n/\y=iV n:=kbo hy
   obtain⟨z,ez⟩:=at_of (hi n (Ny en))
   refine⟨_,rfl,x,d.qc,dxs,fss,_,rfl,hx,W.qc.cl,W.qw,l2,_,rfl,p,_,_,_,rfl,rfl,SqL.of hp,kaz (by rw[Nz,ez];rfl),rfl,?_,_,rfl⟩
   rw[ME,en]
   simp[qs,ez]
  ·rintro σ ys H' ⟨rfl,rfl,v,rfl⟩ D hD
   rw[Nq,NY]
   exact k D hD
inductive kjo (CS:Addr) (vs:List V) (H:Hp) (Q:VK) (E_:XK):Prop
 |ct (x g:Addr)(S:Stnd)(is:List Nat)(_:vs=[.ref x, .ref g])(_:StndIs CS H x S)(_:H g=some (.lst (is.map iV)))(_:(∀i∈is,i<S.pr.length))(_:is.length<=720)(_:∀H',Same H H'->Q (.int (qs S.pr is).sum) H'):kjo CS vs H Q E_
theorem kd5:kao ["standing","pieces"] ["standing","pieces"] (kag kbZ):=by ac_rfl
theorem kbQ(W:WB K mg d base):FO P w W 2 d.Yi d.Yj ["standing","pieces"] (kjo d.qc):=by
 exists W.qT.F,kd5
 ·obtain⟨x,g,S,is,rfl,hS,hg,hi,hl,k⟩:=h
  exists Xu,kdY,W
  refine⟨_,kaf (kan (kat (r:=rSum K) (kc0 rfl) (by rfl) W.B.sum b_sum (kaa (pcl Xu hr W.Q6 (kaa (pv 0) (kaa (pv 1) kae))) kae))),?_⟩
  exact⟨_,rfl,_,rfl,x,g,S,is,rfl,hS,hg,hi,hl,fun p hp=>⟨p,_,rfl,SqL.of kad,k _ (kam hp)⟩⟩
theorem Xv:kao ["voucher","parents","basket","standing","marks","pieces"] ["voucher","parents","basket","standing"] (kag kc9):=by ac_rfl
theorem kgD(W:WB K mg d base):FO P w W 4 d.XZ d.X0 ["voucher","parents","basket","standing"] (klK K d):=by
 exists W.ZV.F,Xv
 ·obtain⟨v,a,b,x,Vc,ps,B,S,rfl,hV,hA,hB,hS,wf,vo,k⟩:=h
  obtain⟨mA,dxv,fsv,hv,lvm,_,hM,hh,htb⟩:=id hV
  obtain⟨dxm,fsm,hm,m1,m2,m3,m4,m5,m6⟩:=id hM
  obtain⟨l,ls,⟨dxb,fsb,hb,lb1,lb2,lb3⟩,hl,hL⟩:=id hB
  exists Qk,kfV,W
  exists qP,kbQ,W
  exists hr2,2,hr,0
  refine⟨_,kac (psl (i:=4) Xv.nd (kak (K:=K) (pv 0) rfl))
   (kac (keD (ps_if (PW.pt (kbS (kaR (kak (K:=K) (pv 4) rfl)) (kbt (kc4 (kaR (kak (K:=K) (pv 2) rfl)))))) (kaf (kan kb5)) (kas)))
   (kac (psl (i:=5) Xv.nd (pcl Qk hr W.Qw (kaa (pv 0) (kaa (pv 1) (kaa (pv 2) (kaa (pv 3) kae))))))
   (kac (ps_if (kar op_eq (kat (r:=kaP K) kau (by rfl) W.B.len b_len (kaa (pv 5) kae)) kai (kaw _)) (kaf (kan kb5)) (kas))
   (kac (ps_if (kar op_lt (pcl qP hr2 W.qT (kaa (pv 3) (kaa (pv 5) kae))) (kak (K:=K) (pv 4) rfl) (kaw _)) (kaf (kan kb5)) (kas))
   (kaf (kan kaJ)))))),?_⟩
  have np:=wf.np
  have habl:∀i∈abt ps (kds B) Vc.ms.kind Vc.ms.lone S,i<S.pr.length:=fun i hi=>by rw[wf.lp];exact khf hi
  have lab:(abt ps (kds B) Vc.ms.kind Vc.ms.lone S).length<=720:=Nx (kdU _ _ _ _ _) np
  refine⟨_,rfl,v,clsOf d Vc.so,dxv,fsv,_,rfl,hv,cl_of W hh,na_of W hh,lvm,?_⟩
  refine⟨fun σ' H'=>σ'=[some (.ref v),some (.ref a),some (.ref b),some (.ref x),some (.ref mA),none]/\H'=H/\(Vc.ms.member&& !B.m)=false,⟨_,rfl,mA,d.qf,dxm,fsm,_,rfl,hm,W.qf.cl,W.VD,m4,Vc.ms.member,rfl,?_⟩,?_⟩
  ·cases e:Vc.ms.member with
   |false=>exact iteF (iteF ⟨rfl,rfl,rfl⟩)
   | true=>
    refine iteT ⟨_,rfl,b,d.qg,dxb,fsb,_,rfl,hb,W.qg.cl,W.Xm,lb3,B.m,rfl,?_⟩
    cases e2:B.m with
    |true=>exact iteF ⟨rfl,rfl,rfl⟩
    |false=>
     refine iteT ?_
     have z:=k H (Same.refl _)
     unfold hindM at z
     rw[e,e2,if_pos (by decide)] at z
     exact z
  ·rintro σ' H' ⟨rfl,rfl,hh2⟩
   refine⟨_,rfl,_,rfl,_,rfl,_,rfl,v,a,b,x,Vc,ps,B,S,rfl,hV,hA,hB,hS,wf,vo,fun H1 pa s1 f1 h1=>?_⟩
   refine⟨_,rfl,pa,_,rfl, .inl (SqL.of h1),rfl,_,rfl,?_⟩
   have ed:decide (V.int (((abt ps (kds B) Vc.ms.kind Vc.ms.lone S).map iV).length:Nat)=V.int 0)=decide ((abt ps (kds B) Vc.ms.kind Vc.ms.lone S).length=0):=by
    rw[Nq]
    by_cases h0:(abt ps (kds B) Vc.ms.kind Vc.ms.lone S).length=0
    ·rw[h0]
     rfl
    ·rw[decide_eq_false h0]
     refine decide_eq_false fun z=>h0 ?_
     injection z with z
     omega
   show if decide (V.int (((abt ps (kds B) Vc.ms.kind Vc.ms.lone S).map iV).length:Nat)=V.int 0)=true then _ else _
   rw[ed]
   by_cases h0:(abt ps (kds B) Vc.ms.kind Vc.ms.lone S).length=0
   ·rw[decide_eq_true h0]
    refine iteT ?_
    have z:=k H1 s1
    unfold hindM at z
    rw[hh2,if_neg (by decide),if_pos h0] at z
    exact z
   ·rw[decide_eq_false h0]
    refine iteF ⟨_,rfl,_,rfl,x,pa,S,_,rfl,hS.same s1,h1,habl,lab,fun H2 s2=>?_⟩
    have z:=k H2 (s1.trans s2)
    unfold hindM at z
    rw[hh2,if_neg (by decide),if_neg h0] at z
    refine⟨_,rfl,mA,d.qf,dxm,fsm,_,rfl,(s1.trans s2) _ _ hm,W.qf.cl,W.VC,m2,_,_,rfl,rfl,_,rfl,?_⟩
    by_cases h2:(qs S.pr (abt ps (kds B) Vc.ms.kind Vc.ms.lone S)).sum<Vc.ms.needs
    ·rw[if_pos h2] at z
     rw[decide_eq_true h2]
     exact iteT z
    ·rw[if_neg h2] at z
     rw[decide_eq_false h2]
     exact iteF z
inductive kig (vs:List V) (H:Hp) (Q:VK) (E_:XK):Prop
 |ct (m:Option Int)(n:Int)(_:vs=[oV m, .int n])(_:Q (.int (atM m n)) H):kig vs H Q E_
theorem kiO:kao ["most","number"] ["most","number"] (kag kev):=by ac_rfl
theorem kiT(W:WB K mg d base):FO P w W 1 d.Yk d.Yl ["most","number"] kig:=by
 exists W.Va.F,kiO
 ·obtain⟨m,n,rfl,k⟩:=h
  refine⟨_,kac (ps_if (kar kcg (pv 0) kaJ (kaw _)) (kaf (kan (pv 1))) (kas))
   (kaf (kan (kat (kg4 rfl) (by rfl) W.B.min b_min (kaa (pv 0) (kaa (pv 1) kae))))),?_⟩
  cases m with
  |none=>
   refine⟨_,rfl,rfl,_,rfl,?_⟩
   show if decide (V.non=V.non)=true then _ else _
   rw[show decide (V.non=V.non)=true by simp]
   exact iteT ⟨_,rfl,k⟩
  | some z=>
   refine⟨_,rfl,rfl,_,rfl,?_⟩
   show if decide (V.int z=V.non)=true then _ else _
   rw[show decide (V.int z=V.non)=false by simp]
   refine iteF ⟨_,rfl,_,rfl,_,_,rfl,?_⟩
   have e:atM (some z) n=if n<z then n else z:=by
    show min z n=_
    split <;> omega
   rw[e] at k
   exact k
inductive kgo (d:D) (vs:List V) (H:Hp) (Q:VK) (E_:XK):Prop
 |ct (v x:Addr)(V:Vch)(S:Stnd)(_:vs=[.ref v, .ref x])(_:VchIs d H v V)(_:StndIs d.qc H x S)(_:Q (.int (if kbI V.so=true then atM V.ms.most S.cg else 0)) H):kgo d vs H Q E_
theorem kdm:kao ["voucher","standing"] ["voucher","standing"] (kag kbw):=by ac_rfl
theorem kch(W:WB K mg d base):FO P w W 2 d.X7 d.X8 ["voucher","standing"] (kgo d):=by
 exists W.Q4.F,kdm
 ·obtain⟨v,x,Vc,S,rfl,⟨mA,dxv,fsv,hv,lvm,_,⟨dxm,fsm,hm,m1,m2,m3,m4,m5,m6⟩,hh,htb⟩,⟨o,p,mk,⟨dxs,fss,hx,l1,l2,l3,l4,l5⟩,ho,hp,hmk⟩,k⟩:=h
  exists UF,kiT,W
  refine⟨_,kac (ps_if (kaR (kat (r:=rIsi K) kaQ (by rfl) W.B.isi b_isi (kaa (pv 0) (kaa (kcp (v:=.ref d.qo) (by rfl) W.Ua rfl) kae)))) (kaf (kan (pcl UF hr W.Va (kaa (kak (K:=K) (kak (K:=K) (pv 0) rfl) rfl) (kaa (kak (K:=K) (pv 1) rfl) kae))))) (kas))
   (kaf (kan kai)),?_⟩
  have I:=kiA W hh
  refine⟨_,rfl,_,_,_,_,rfl, .inr ⟨_,rfl⟩,TyOf.ins hv (cl_of W hh) I.ha I.hn I.ht I.hm,kgV W hh,_,rfl,?_⟩
  cases e:kbI Vc.so with
  |false=>
   rw[e,if_neg NB] at k
   exact iteF k
  |true=>
   rw[e,if_pos rfl] at k
   exact iteT ⟨_,rfl,v,clsOf d Vc.so,dxv,fsv,_,rfl,hv,cl_of W hh,na_of W hh,lvm,mA,d.qf,dxm,fsm,_,rfl,hm,W.qf.cl,W.Xb,m3,_,rfl,x,d.qc,dxs,fss,_,rfl,hx,W.qc.cl,W.qV,l3,_,_,rfl,k⟩
noncomputable def kvOf(G:List (Nat×List Nat))(gl:List Addr):List (Key×V):=N2 (fun p r=>(Sum.inl (p.1:Int),V.ref r)) G gl
theorem kiz:∀{G:List (Nat×List Nat)}{gl:List Addr},gl.length=G.length->(kvOf G gl).map Prod.snd=gl.map V.ref
 |[],[],_=>rfl
 |[],r::gl,h=>by cases h
 |p::G,[],h=>by cases h
 |p::G,r::gl,h=>by
  have ih:=kiz (G:=G) (gl:=gl) (by simpa using h)
  show V.ref r::(kvOf G gl).map Prod.snd=V.ref r::gl.map V.ref
  rw[ih]
theorem khJ:∀{G:List (Nat×List Nat)}{gl:List Addr}(o a:Nat),gl.length=G.length->
  (atK (kvOf G gl) (Sum.inl (o:Int))=none/\ins G o a=G++[(o,[a])])∨∃(j:Nat)(g:List Nat)(r:Addr),G[j]?=some (o,g)/\gl[j]?=some r/\atK (kvOf G gl) (Sum.inl (o:Int))=some (.ref r)/\ins G o a=G.set j (o,g++[a])
 |[],gl,o,a,h=>.inl ⟨rfl,rfl⟩
 |(l,g)::G,[],o,a,h=>by cases h
 | (l,g)::G,r::gl,o,a,h=>by
  have hl:gl.length=G.length:=by simpa using h
  unfold ins
  by_cases e:l=o
  ·subst e
   exact .inr ⟨0,g,r,rfl,rfl,by simp[kvOf,atK],by rw[if_pos rfl];rfl⟩
  ·rw[if_neg e]
   have e':¬((l:Int)=(o:Int)):=fun z=>e (by omega)
   have ea:atK (kvOf ((l,g)::G) (r::gl)) (Sum.inl (o:Int))=atK (kvOf G gl) (Sum.inl (o:Int)):=by
    simp[kvOf,atK,Mo,e']
   rcases khJ o a hl with⟨h1,h2⟩|⟨j,g',r',h1,h2,h3,h4⟩
   ·exact .inl ⟨by rw[ea];exact h1,by rw[h2];rfl⟩
   ·exact .inr ⟨j+1,g',r',by simpa using h1,by simpa using h2,by rw[ea];exact h3,by rw[h4];rfl⟩
theorem klh{G:List (Nat×List Nat)}{gl:List Addr}{j o:Nat}{g g':List Nat}(h:G[j]?=some (o,g)):kvOf (G.set j (o,g')) gl=kvOf G gl:=by
 unfold kvOf
 apply List.ext_getElem?
 intro i
 rw[Em,Em]
 by_cases e:j=i
 ·subst e
  have hj:=at_lt h
  rw[Et hj,h]
  cases gl[j]? <;> rfl
 ·rw[Eu e]
theorem kj7{G:List (Nat×List Nat)}{gl:List Addr}{o:Nat}{g:List Nat}{e:Addr}(h:gl.length=G.length):kvOf (G++[(o,g)]) (gl++[e])=kvOf G gl++[(Sum.inl (o:Int), .ref e)]:=by
 unfold kvOf
 rw[List.zipWith_append h.symm]
 rfl
structure Ptd (H H':Hp) (dd:Addr) (gl:List Addr) (G:List (Nat×List Nat)):Prop where
 sm:Same H H'
 nd:gl.Nodup
 fg:∀r∈gl,H r=none/\r≠dd
 dk:H' dd=some (.dK (kvOf G gl))
 ls:P2 (fun r p=>H' r=some (.lst (p.2.map iV))) gl G
theorem Ptd.more{H H':Hp}{dd e:Addr}{gl:List Addr}{G:List (Nat×List Nat)}(h:Ptd H H' dd gl G)(fd:H dd=none)(he:H' e=none){o a:Nat}:
  Ptd H (upd (upd (upd H' e (.lst [])) dd (.dK (kvOf G gl++[(Sum.inl (o:Int), .ref e)]))) e (.lst [iV a])) dd (gl++[e]) (G++[(o,[a])]):=by
 have e0:H e=none:=none_of h.sm he
 have ned:e≠dd:=fun z=>by rw[z,h.dk] at he;cases he
 refine⟨kaq e0 (kaq fd (h.sm.trans (kam he)) (kc5 (nx h.dk)))  (kc5 (nx kad)),?_,fun r hr=>?_,?_,?_⟩
 ·refine Ej.mpr ⟨h.nd,by simp,fun x hx y hy z=>?_⟩
  rw[Mq] at hy
  subst hy z
  obtain⟨i,hi⟩:=M4.mp hx
  obtain⟨p,_,hp⟩:=h.ls.at hi
  rw[hp] at he
  cases he
 ·rcases N6.mp hr with hr|hr
  ·exact h.fg r hr
  ·rw[Mq] at hr
   subst hr
   exact⟨e0,ned⟩
 ·rw[kaj ned.symm,kad,kj7 h.ls.len]
 ·refine P2.snoc (P2.of h.ls.len fun i r p e1 e2=>?_) kad
  have hp:=h.ls.get e1 e2
  rw[kaj (kah hp he),kaj (h.fg r (Ny e1)).2,kaj (kah hp he)]
  exact hp
theorem Ptd.put{H H':Hp}{dd e r:Addr}{gl:List Addr}{G:List (Nat×List Nat)}(h:Ptd H H' dd gl G)(he:H' e=none){j o a:Nat}{g:List Nat}(h1:G[j]?=some (o,g))(h2:gl[j]?=some r):
  Ptd H (upd (upd H' e (.lst [])) r (.lst (g.map iV++[iV a]))) dd gl (G.set j (o,g++[a])):=by
 have hr:=h.fg r (Ny h2)
 have hrv:=h.ls.get h2 h1
 refine⟨kaq hr.1 (h.sm.trans (kam he)),h.nd,h.fg,?_,P2.of (by rw[Ez];exact h.ls.len) fun i r' p e1 e2=>?_⟩
 ·rw[kaj hr.2.symm,kaj (kah h.dk he),h.dk,klh h1]
 ·by_cases eji:j=i
  ·subst eji
   rw[h2] at e1
   cases e1
   rw[Et (at_lt h1)] at e2
   cases e2
   rw[kad,NC]
   rfl
  ·rw[Eu eji] at e2
   have hp:=h.ls.get e1 e2
   have hne:r'≠r:=fun z=>by
    subst z
    exact eji ((List.getElem?_inj (at_lt h2) h.nd).mp (h2.trans e1.symm))
   rw[kaj hne,kaj (kah hp he)]
   exact hp
inductive kh9 (CS:Addr) (vs:List V) (H:Hp) (Q:VK) (E_:XK):Prop
 |ct (x pa:Addr)(S:Stnd)(is:List Nat)(_:vs=[.ref x, .ref pa])(_:StndIs CS H x S)(_:H pa=some (.lst (is.map iV)))(_:(∀i∈is,i<S.ow.length))(_:is.length<=720)(_:∀(H':Hp)(p:Addr)(gl:List Addr),Same H H'->H p=none->H' p=some (.lst (gl.map V.ref))->P2 (fun r g=>H' r=some (.lst (g.map iV))) gl ((parted (fun i=>S.ow.getD i 0) is).map Prod.snd)->(∀r∈gl,H r=none)->Q (.ref p) H'):kh9 CS vs H Q E_
theorem P2.mapR{α β γ:Type}{R: α->γ->Prop}{f: β->γ}{as:List α}{bs:List β}(h:P2 (fun a b=>R a (f b)) as bs):P2 R as (bs.map f):=by
 induction h with
 |nil=>exact .nil
 |cons r t ih=>exact .cons r ih
theorem Xw:kao ["standing","pieces","by_line","piece"] ["standing","pieces"] (kag kbM):=by ac_rfl
theorem kdO(W:WB K mg d base):FO P w W 1 d.Yb d.Yc ["standing","pieces"] (kh9 d.qc):=by
 exists W.ZZ.F,Xw
 ·obtain⟨x,pa,S,is,rfl,⟨o,p,mk,⟨dxs,fss,hx,l1,l2,l3,l4,l5⟩,ho,hp,hmk⟩,hpa,hi,hl,k⟩:=h
  refine⟨_,kac (psl (i:=2) Xw.nd kkZ)
   (kac (kaU PassesOwn.never rfl (kaE (K:=K) (pv 1)) (pgn (i:=3) Xw.nd)
   (kaf (ka9 (pe_bm Mp MV MW kbF (pe_bm Da EF DM kf4 (pv 2) (kaa (pe_ix (r:=rIxL K) kax (kak (K:=K) (pv 0) rfl) (pv 3) (fun _ _=>rfl)) (kaa (kaN kae) kae))) (kaa (pv 3) kae)))))
   (kaf (kan (khy rfl (by rfl) W.B.list (pv 2))))),?_⟩
  refine fun dd hd=>?_
  have s1:=kam (o:=.dK []) hd
  refine⟨_,rfl,pa,rfl,⟨_,SqL.of (s1 _ _ hpa)⟩,ka3 (K:=K) (a:=pa) (xs:=is.map iV) (fun i σ H'=>(∃v3:Option V,σ=[some (.ref x),some (.ref pa),some (.ref dd),v3])/\∃gl,Ptd H H' dd gl (parted (fun i=>S.ow.getD i 0) (is.take i)))
   ⟨⟨none,rfl⟩,[],s1,by simp,fun r hr=>by simp at hr,kad, .nil⟩ (fun i σ H' _ h=>SqL.of (h.2.choose_spec.sm _ _ hpa)) ?_ ?_⟩
  ·rintro i y σ H1 hy ⟨⟨v3,rfl⟩,gl,Z⟩
   obtain⟨a,ea,rfl⟩:=kbo hy
   have hil:=at_lt ea
   obtain⟨ln,eln⟩:=at_of (hi a (Ny ea))
   have eg:S.ow.getD a 0=ln:=by rw[NL,eln];rfl
   have enext:parted (fun i=>S.ow.getD i 0) (is.take (i+1))=ins (parted (fun i=>S.ow.getD i 0) (is.take i)) ln a:=by
    rw[kbW ea,keJ,eg]
   have lenG:=kfq (fun i=>S.ow.getD i 0) (is.take i)
   rw[NK] at lenG
   have lenK:(kvOf (parted (fun i=>S.ow.getD i 0) (is.take i)) gl).length<sizeLine:=by
    refine kap ?_
    unfold kvOf
    rw[ML]
    omega
   refine⟨_,rfl, .inr (.inr (.inl ⟨rfl, .inl ⟨_,Z.dk⟩⟩)),_,rfl,x,d.qc,dxs,fss,_,rfl,Z.sm _ _ hx,W.qc.cl,W.qC,l1,_,rfl,o,_,_,_,rfl,rfl,SqL.of (Z.sm _ _ ho),kaz (v:=.int (ln:Nat)) (by rw[Nz,eln];rfl),by decide,fun e he=>?_⟩
   have ned:dd≠e:=kah Z.dk he
   refine⟨dd,kvOf (parted (fun i=>S.ow.getD i 0) (is.take i)) gl,(ln:Nat), .ref e,rfl,rfl,by rw[kaj ned];exact Z.dk,lenK,fun v hv=>?_,fun hn=>?_⟩
   ·rcases khJ (G:=parted (fun i=>S.ow.getD i 0) (is.take i)) ln a Z.ls.len with⟨h1,_⟩|⟨j,g,r,h1,h2,h3,h4⟩
    ·rw[h1] at hv
     cases hv
    ·rw[h3] at hv
     cases hv
     have hrv:=Z.ls.get h2 h1
     have gl20:g.length<=720:=by
      have eg':=(kcQ (fun i=>S.ow.getD i 0) (is.take i)).gs ln g (Ny h1)
      rw[eg']
      refine Nx (M3 _ _) ?_
      rw[NK]
      omega
     have hr2:(upd H1 e (.lst [])) r=some (.lst (g.map iV)):=by rw[kaj (kah hrv he)];exact hrv
     refine⟨.inl ⟨rfl,_,SqL.of hr2⟩,_,rfl,r,_,_,rfl,rfl,hr2,kap (by rw[Nq];omega),⟨_,rfl⟩,gl,?_⟩
     rw[enext,h4]
     exact Z.put he h1 h2
   ·rcases khJ (G:=parted (fun i=>S.ow.getD i 0) (is.take i)) ln a Z.ls.len with⟨_,h4⟩|⟨j,g,r,h1,h2,h3,h4⟩
    ·have he2:(upd (upd H1 e (.lst [])) dd (.dK (kvOf (parted (fun i=>S.ow.getD i 0) (is.take i)) gl++[(Sum.inl ((ln:Nat):Int), .ref e)]))) e=some (.lst []):=by rw[kaj ned.symm,kad]
     refine⟨.inl ⟨rfl,_,SqL.of he2⟩,_,rfl,e,[],_,rfl,rfl,he2,by decide,⟨_,rfl⟩,gl++[e],?_⟩
     rw[enext,h4]
     exact Z.more hd he
    ·rw[h3] at hn
     cases hn
  ·rintro σ H1 ⟨⟨v3,rfl⟩,gl,Z⟩
   rw[Nq,NY] at Z
   refine⟨_,rfl,dd,_,rfl,Z.dk,fun l hl2=>?_⟩
   rw[kiz Z.ls.len]
   refine k _ l gl (Z.sm.trans (kam hl2)) (none_of Z.sm hl2) kad (P2.mapR (f:=Prod.snd) (R:=fun r g=>(upd H1 l (.lst (gl.map V.ref))) r=some (.lst (g.map iV))) (Z.ls.mono fun r p h=>kam hl2 _ _ h)) fun r hr=>(Z.fg r hr).1
inductive kgn (d:D) (vs:List V) (H:Hp) (Q:VK) (E_:XK):Prop
 |ct (x pa:Addr)(S:Stnd)(is:List Nat)(m:Nat)(_:vs=[.ref x, .ref pa, .int m])(_:StndIs d.qc H x S)(_:H pa=some (.lst (is.map iV)))(_:is.Pairwise (· < ·))(_:(∀i∈is,i<S.pr.length))(_:is.length<64)(_:2<=m)(_:m<=20)(_:Tbs d H)(_:∀(H':Hp)(p:Addr)(gl:List Addr),Same H H'->H p=none->H' p=some (.lst (gl.map V.ref))->P2 (fun r g=>H' r=some (.lst (g.map iV))) gl (grp m (fallP S.pr is))->(∀r∈gl,H r=none)->Q (.ref p) H'):kgn d vs H Q E_
theorem kmM{pr:List Int}{is:List Nat}{ms:List Int}(hs:is.Pairwise (· < ·))(hp:ms.Perm (is.map fun(i:Nat)=>(i:Int)))(hk:ms.Pairwise fun a b=> -(pr.getD a.toNat 0)< -(pr.getD b.toNat 0)∨(-(pr.getD a.toNat 0)= -(pr.getD b.toNat 0)/\a<b)):ms.map V.int=(fallP pr is).map iV:=by
 have e:ms=(ms.map Int.toNat).map fun(i:Nat)=>(i:Int):=by
  rw[NQ]
  conv=>lhs;rw[<-List.map_id ms]
  refine Mj fun z hz=>?_
  obtain⟨i,_,rfl⟩:=NO.mp (hp.mem_iff.mp hz)
  simp
 have hp2:(ms.map Int.toNat).Perm is:=by
  have:=hp.map Int.toNat
  rw[NQ] at this
  have e2:is.map (Int.toNat∘fun(i:Nat)=>(i:Int))=is:=by
   conv=>rhs;rw[<-List.map_id is]
   exact Mj fun i _=>rfl
  rwa [e2] at this
 have hk2:(ms.map Int.toNat).Pairwise (befP pr):=by
  rw[EM]
  refine hk.imp_of_mem fun {a b} ha hb h=>?_
  obtain⟨i,_,rfl⟩:=NO.mp (hp.mem_iff.mp ha)
  obtain⟨j,_,rfl⟩:=NO.mp (hp.mem_iff.mp hb)
  unfold befP
  simp only[Int.toNat_natCast] at h⊢
  omega
 rw[e,ki1 hs hp2 hk2,NQ]
 rfl
theorem VU:kao ["standing","pieces","many","falling"] ["standing","pieces","many"] (kag kaF):=by ac_rfl
theorem kdP(W:WB K mg d base):FO P w W 1 d.Yd d.QS ["standing","pieces","many"] (kgn d):=by
 refine FunD.okC W.Q5.F VU (fun vs H Q E h=>?_) (fun A outer s H vs Q E hr h=>?_)
 ·obtain⟨x,pa,S,is,m,rfl,_⟩:=h
  rfl
 ·obtain⟨x,pa,S,is,m,rfl,hS,hpa,hs,hi,h64,hm2,hm20,htb,k⟩:=h
  obtain⟨o,p,mk,⟨dxs,fss,hx,l1,l2,l3,l4,l5⟩,ho,hp,hmk⟩:=id hS
  refine⟨_,kac (psl (i:=3) VU.nd (kiQ (N:=["piece","standing"]) (cap:=[some 0]) (pv 1) ⟨CompScope.of (N:=["piece","standing"]) (cap:=[none,some 0]) (kag kaF).names ["standing","pieces","many","falling"] rfl rfl (by decide +kernel),rfl,rfl,rfl,rfl,by decide +kernel⟩ rfl hr.depth W.code_falling_groups W.ck_falling_groups W.blt (by rfl) W.B.sorted (fun _ _ _ _ _=>rfl) (fun _ _ _ _ _=>(pe_un kh0 (pe_ix (r:=rIxL K) kax (kak (K:=K) (pv 1) rfl) (pv 0) (fun _ _=>rfl)))) (by rfl)))
   (kaf (kan (kbz (N:=["start","falling","many"]) (CompScope.of (N:=["start","falling","many"]) (cap:=[none,some 3,some 2]) (kag kaF).names ["standing","pieces","many","falling"] rfl rfl (by decide +kernel)) rfl (kfo rfl W.B.range (kaa kai (kaa (pe_op kbe (pe_op kgA (kat (r:=kaP K) kau (by rfl) W.B.len b_len (kaa (pv 3) kae)) (pv 2)) kai) (kaa (pv 2) kae)))) (fun _ _ _ _=>pgn (i:=0) (show(["start","falling","many"]:List Str).Nodup by decide +kernel)) (fun _ _ _ _=>(kcW (r:=rSlL K) kdG (pv 1) (kcP (pv 0)) (kcP (pe_op kbe (pv 0) (pv 2)))))))),?_⟩
  have htb':TbAt d.tP_falling_groups H:=htb
  obtain⟨qs0,eT,_⟩:=id htb'
  have npT:∀{b:Addr}{u:HO},H b=some u->(∀ps,u≠.tbl ps)->b≠d.tP_falling_groups:=fun {b u} e hn z=>by
   rw[z,eT] at e
   cases e
   exact hn _ rfl
  have ei:is.map iV=(is.map fun(i:Nat)=>(i:Int)).map V.int:=by rw[NQ];rfl
  refine⟨_,rfl,pa,is.map fun(i:Nat)=>(i:Int),fun a=> -(S.pr.getD a.toNat 0),rfl,SqL.of (by rw[<-ei];exact hpa),by rw[Nq];exact h64,?_,htb',npT hpa (fun ps z=>by cases z),fun H2 G n hn=>?_,fun H2 l ms G f1 f2 hpm hpw=>?_⟩
  ·rw[EM]
   exact hs.imp fun {a b} h=>by omega
  ·obtain⟨i,hin,rfl⟩:=NO.mp hn
   obtain⟨z,ez⟩:=at_of (hi i hin)
   have hx2:=G.kp _ _ (npT hx (fun ps z=>by cases z)) hx
   have hp2:=G.kp _ _ (npT hp (fun ps z=>by cases z)) hp
   refine⟨_,rfl,x,d.qc,dxs,fss,_,rfl,hx2,W.qc.cl,W.qw,l2,_,rfl,p,_,_,_,rfl,rfl,SqL.of hp2,kaz (v:=.int z) (by rw[Nz,ez];rfl),_,rfl,?_,rfl⟩
   show V.int (-z)=V.int (-(S.pr.getD ((i:Int)).toNat 0))
   rw[Int.toNat_natCast,NL,ez]
   rfl
  have s2:=G.same htb'
  rw[kmM hs hpm hpw]
  have lf:(fallP S.pr is).length=is.length:=(kbB S.pr is).length_eq
  have s3:=s2.trans (kam (o:=.lst ((fallP S.pr is).map iV)) f2)
  have el:(upd H2 l (.lst ((fallP S.pr is).map iV))) l=some (.lst ((fallP S.pr is).map iV)):=kad
  generalize upd H2 l (.lst ((fallP S.pr is).map iV))=H3 at *
  have ecnt:(Builtin.Range.rangeSize 0 ((((fallP S.pr is).map iV).length:Int)-(m:Int)+1) (m:Int)).toNat=(fallP S.pr is).length/m:=by
   rw[Nq]
   exact kho (by omega)
  have lg:=khL m (fallP S.pr is)
  refine⟨_,rfl,l,_,rfl, .inl (SqL.of el),_,rfl,_,_,rfl,rfl,_,_,rfl,rfl,_,rfl,0,_,_,rfl,by omega,?_,by omega,by omega,?_⟩
  ·rw[Nq]
   omega
  rw[ecnt]
  refine kky (n:=(fallP S.pr is).length/m) (fun i σ ys H'=>Same H3 H'/\(∃v0:Option V,σ=[v0,some (.ref l),some (.int m)])/\∃gl,ys=gl.map V.ref/\P2 (fun r g=>H' r=some (.lst (g.map iV))) gl ((grp m (fallP S.pr is)).take i)/\∀r∈gl,H r=none)
   ⟨Same.refl _,⟨none,rfl⟩,[],rfl, .nil,fun r hr=>by simp at hr⟩ ?_ ?_ ?_ ?_
  ·have:(grp m (fallP S.pr is)).length=(fallP S.pr is).length/m:=by simp[grp]
   exact ND (kap (by omega))
  ·rintro i σ ys H' hi' ⟨_,_,gl,rfl,hP,_⟩
   rw[Nq,hP.len,NK]
   have:(grp m (fallP S.pr is)).length=(fallP S.pr is).length/m:=by simp[grp]
   omega
  ·rintro i σ ys H' hi' ⟨s4,⟨v0,rfl⟩,gl,rfl,hP,hfr⟩
   have eg:(grp m (fallP S.pr is))[i]?=some (((fallP S.pr is).drop (i*m)).take m):=by
    unfold grp
    rw[Nz,EL hi']
    rfl
   have ecut:cutV ((fallP S.pr is).map iV) (some (0+(i:Int)*(m:Int))) (some (0+(i:Int)*(m:Int)+(m:Int)))=(((fallP S.pr is).drop (i*m)).take m).map iV:=by
    have:=kkv ((fallP S.pr is).map iV) (i*m) m
    rw[show(0:Int)+(i:Int)*(m:Int)=((i*m:Nat):Int) by rw[Int.zero_add,Int.natCast_mul],show((i*m:Nat):Int)+(m:Int)=((i*m+m:Nat):Int) by rw[Int.natCast_add],this,MU,Do]
   refine⟨_,rfl,_,rfl,_,rfl,_,rfl,_,rfl,_,_,rfl,rfl,_,rfl,l,_,rfl,SqL.of (s4 _ _ el),fun r hr=>?_⟩
   refine⟨s4.trans (kam hr),⟨_,rfl⟩,gl++[r],by rw[NC];rfl,?_,fun r' hr'=>?_⟩
   ·rw[kbW eg,ecut]
    exact P2.snoc (hP.mono fun r' g e=>kam hr _ _ e) kad
   ·rcases N6.mp hr' with h|h
    ·exact hfr r' h
    ·rw[Mq] at h
     rw[h]
     exact(s3.trans s4).free hr
  ·rintro σ ys H' ⟨s4,⟨v0,rfl⟩,gl,rfl,hP,hfr⟩ D hD
   have el2:(grp m (fallP S.pr is)).length=(fallP S.pr is).length/m:=by simp[grp]
   rw[MC (by omega)] at hP
   exact k _ D gl ((s3.trans s4).trans (kam hD)) ((s3.trans s4).free hD) kad (hP.mono fun r g e=>kam hD _ _ e) hfr
theorem QF:kao ["voucher","standing","pieces","groups","lasts"] ["voucher","standing","pieces"] (kag kbc):=by ac_rfl
theorem kfe(W:WB K mg d base):FO P w W 3 d.X9 d.Ya ["voucher","standing","pieces"] (kh4 d):=by
 exists W.ZY.F,QF
 ·obtain⟨v,x,pa,⟨so,ms⟩,ps,B,S,rfl,⟨mA,dxv,fsv,hv,lvm,hso,hM,hh,htb⟩,hS,hpa,wf,vo,k⟩:=h
  exists qP,kbQ,W
  exists UG,kdO,W
  exists VV,kdP,W
  exists hr1,1,hr,0
  refine⟨_,kac (ps_if (kaR (kat (r:=rIsi K) kaQ (by rfl) W.B.isi b_isi (kaa (pv 0) (kaa (kcp (v:=.ref d.c_Off) (by rfl) W.g_Off rfl) kae)))) (kaf (kan (kaN (kaa (kbu (kaa (kat (kg4 rfl) (by rfl) W.B.min b_min (kaa (kak (K:=K) (pv 0) rfl) (kaa (pcl qP hr W.qT (kaa (pv 1) (kaa (pv 2) kae))) kae))) (kaa (pv 2) kae))) kae)))) (kas))
   (kac (ps_if (kaR (kat (r:=rIsi K) kaQ (by rfl) W.B.isi b_isi (kaa (pv 0) (kaa (kcp (v:=.ref d.qi) (by rfl) W.V7 rfl) kae)))) (kac (psl (i:=3) QF.nd (kdW (kbT (kaR (kak (K:=K) (pv 0) rfl)) (pcl UG hr1 W.ZZ (kaa (pv 1) (kaa (pv 2) kae))) (kaN (kaa (pv 2) kae)))))
   (kaf (kan (kbz (N:=["group","standing","voucher"]) (CompScope.of (N:=["group","standing","voucher"]) (cap:=[none,some 1,some 0]) (kag kbc).names ["voucher","standing","pieces","groups","lasts"] rfl rfl (by decide +kernel)) rfl (kaE (K:=K) (pv 3)) (fun _ _ _ _=>pgn (i:=0) (show(["group","standing","voucher"]:List Str).Nodup by decide +kernel)) (fun _ _ _ _=>(kbu (kaa (pe_op kaI (pe_op keM (pcl qP hr W.qT (kaa (pv 1) (kaa (pv 0) kae))) (kak (K:=K) (pv 2) rfl)) kai) (kaa (pv 0) kae)))))))) (kas))
   (kac (ps_if (kaR (kat (r:=rIsi K) kaQ (by rfl) W.B.isi b_isi (kaa (pv 0) (kaa (kcp (v:=.ref d.qm) (by rfl) W.V8 rfl) kae)))) (kac (khw (N:=["group"]) (CompScope.plain rfl (by decide +kernel) (by decide +kernel) (by decide +kernel) (nd1 _)) rfl (kaE (K:=K) (pcl VV hr1 W.Q5 (kaa (pv 1) (kaa (pv 2) (kaa (kak (K:=K) (pv 0) rfl) kae))))) (fun _ _ _ _=>pgn (i:=0) (nd1 _)) (fun _ _ _ _=>(pe_ix (r:=rIxL K) kax (pv 0) (pe_un kh0 kai) (fun _ _=>rfl))) (pgn (i:=4) QF.nd))
   (kaf (kan (kbz (N:=["last","standing"]) (CompScope.of (N:=["last","standing"]) (cap:=[none,some 1]) (kag kbc).names ["voucher","standing","pieces","groups","lasts"] rfl rfl (by decide +kernel)) rfl (kaE (K:=K) (pv 4)) (fun _ _ _ _=>pgn (i:=0) (show(["last","standing"]:List Str).Nodup by decide +kernel)) (fun _ _ _ _=>(kbu (kaa (pe_ix (r:=rIxL K) kax (kak (K:=K) (pv 1) rfl) (pv 0) (fun _ _=>rfl)) (kaa (kaN (kaa (pv 0) kae)) kae)))))))) (kas))
   (kac (ps_if (kaR (kat (r:=rIsi K) kaQ (by rfl) W.B.isi b_isi (kaa (pv 0) (kaa (kcp (v:=.ref d.qj) (by rfl) W.V9 rfl) kae)))) (kac (psl (i:=3) QF.nd (pcl VV hr1 W.Q5 (kaa (pv 1) (kaa (pv 2) (kaa (kak (K:=K) (pv 0) rfl) kae)))))
   (kaf (kan (kbz (N:=["group","standing","voucher"]) (CompScope.of (N:=["group","standing","voucher"]) (cap:=[none,some 1,some 0]) (kag kbc).names ["voucher","standing","pieces","groups","lasts"] rfl rfl (by decide +kernel)) rfl (kaE (K:=K) (pv 3)) (fun _ _ _ _=>pgn (i:=0) (show(["group","standing","voucher"]:List Str).Nodup by decide +kernel)) (fun _ _ _ _=>(kbu (kaa (kat (kkG rfl) (by rfl) W.B.max b_max (kaa (pe_op kgA (pcl qP hr W.qT (kaa (pv 1) (kaa (pv 0) kae))) (kak (K:=K) (pv 2) rfl)) (kaa kai kae))) (kaa (pv 0) kae)))))))) (kas))
   (kaf (kan (kaN kae)))))),?_⟩
  have I:=kiA W hh
  exists Y4
  refine⟨_,rfl,_,_,_,_,rfl, .inr ⟨_,rfl⟩,TyOf.ins hv (cl_of W hh) I.ha I.hn I.ht I.hm,khK W hh,_,rfl,?_⟩
  have lp:=wf.lp
  have np:=wf.np
  have habl:∀i∈abt ps (kds B) ms.kind ms.lone S,i<S.pr.length:=fun i hi=>by rw[lp];exact khf hi
  have habo:∀i∈abt ps (kds B) ms.kind ms.lone S,i<S.ow.length:=fun i hi=>khf hi
  have hand:=khe ps (kds B) ms.kind ms.lone S
  have lab:(abt ps (kds B) ms.kind ms.lone S).length<=720:=Nx (kdU _ _ _ _ _) np
  cases so with
  | off am=>
   have qn:=kct (qs_nn wf.nn (abt ps (kds B) ms.kind ms.lone S))
   have ha:0<=am/\am<=1000000000000:=vo.so
   refine iteT ?_
   symm
   exists Y6
   refine⟨_,rfl,v,d.c_Off,dxv,fsv,_,rfl,hv,W.c_Off.cl,W.QC,hso,_,rfl,_,rfl,x,pa,S,_,rfl,hS,hpa,habl,lab,fun H1 s1=>?_⟩
   nofun
   exists Y6
   refine⟨_,_,rfl,_,rfl,(by show 2<=sizeLine;decide),fun t ht=>⟨(by show 1<=sizeLine;decide),fun l hl=>?_⟩⟩
   have emin:(if(qs S.pr (abt ps (kds B) ms.kind ms.lone S)).sum<am then(qs S.pr (abt ps (kds B) ms.kind ms.lone S)).sum else am)=min am (qs S.pr (abt ps (kds B) ms.kind ms.lone S)).sum:=by
    split <;> omega
   rw[emin] at hl⊢
   have s2:=s1.trans (kam (o:=.tup [.int (min am (qs S.pr (abt ps (kds B) ms.kind ms.lone S)).sum), .ref pa]) ht)
   have s3:=s2.trans (kam (o:=.lst [.ref t]) hl)
   nofun
   refine k _ l [t] [(min am (qs S.pr (abt ps (kds B) ms.kind ms.lone S)).sum,abt ps (kds B) ms.kind ms.lone S)] s3 (none_of s2 hl) kad (.cons ⟨pa,kam hl _ _ kad,s3 _ _ hpa, .inl rfl⟩ .nil) ?_ ?_ ?_ (by simp) ?_
   ·intro c g hc
    rw[Mq] at hc
    cases hc
    nofun
    exact⟨by omega,by omega,lab⟩
   ·simpa using hand
   ·simpa using habl
   ·simp[want]
  | share sh bl=>
   have hsh:1<=sh/\sh<=1000:=vo.so
   refine iteF ?_
   symm
   exists Y6
   refine⟨_,rfl,_,_,_,_,rfl, .inr ⟨_,rfl⟩,TyOf.ins hv (cl_of W hh) I.ha I.hn I.ht I.hm,kdB W hh,_,rfl,iteT ?_⟩
   nofun
   exists Y6
   refine⟨fun gv H1=>∃(gp:Addr)(gl:List Addr)(gs:List (List Nat)),gv=.ref gp/\Same H H1/\H gp=none/\H1 gp=some (.lst (gl.map V.ref))/\P2 (fun r g=>H1 r=some (.lst (g.map iV))) gl gs/\(∀r∈gl,r=pa∨H r=none)/\gs.length<=720/\(∀g∈gs,g.length<=720)/\gs.flatten.Nodup/\(∀i∈gs.flatten,i<S.pr.length)/\
    spr S.pr.length gs.flatten (gs.map fun g=>dl ((qs S.pr g).sum*sh/1000) (qs S.pr g)).flatten=spr S.pr.length (abt ps (kds B) ms.kind ms.lone S) (want (.share sh bl) S.mkd.length ((abt ps (kds B) ms.kind ms.lone S).map fun i=>S.ow.getD i 0) (qs S.pr (abt ps (kds B) ms.kind ms.lone S))),?_,?_⟩
   ·refine⟨_,rfl,v,d.qi,dxv,fsv,_,rfl,hv,W.qi.cl,W.VH,hso.2,bl,rfl,?_⟩
    cases bl with
    | true=>
     refine iteT ?_
     nofun
     exists Y10
     refine⟨_,rfl,_,rfl,x,pa,S,_,rfl,hS,hpa,habo,lab,fun H1 p gl s1 f1 h1 hP hg=>⟨p,gl,_,rfl,s1,f1,h1,hP,fun r hr=>.inr (hg r hr),?_,?_,?_,?_,?_⟩⟩
     ·rw[Nq]
      exists 4
      exact Nx (kfq _ _) lab
     ·intro g hg'
      rw[(kcQ (fun i=>S.ow.getD i 0) (abt ps (kds B) ms.kind ms.lone S)).snds] at hg'
      obtain⟨l,_,rfl⟩:=NO.mp hg'
      exists 4
      exact Nx (M3 _ _) lab
     ·have ok:=kcQ (fun i=>S.ow.getD i 0) (abt ps (kds B) ms.kind ms.lone S)
      rw[ok.snds]
      exists 4
      exact keI (f:=fun i=>S.ow.getD i 0) hand ok.nd
     ·intro i hi
      rw[(kcQ (fun i=>S.ow.getD i 0) (abt ps (kds B) ms.kind ms.lone S)).snds] at hi
      obtain⟨g,hg',hi'⟩:=MM.mp hi
      obtain⟨l,_,rfl⟩:=NO.mp hg'
      exists 4
      exact habl i (N5.mp hi').1
     ·refine kiS (fun z=>z*sh/1000) hand fun i hi=>?_
      obtain⟨ln,eln⟩:=at_of (habo i hi)
      rw[NL,eln,wf.lm]
      exists 4
      exact wf.line eln
    |false=>
     refine iteF ?_
     nofun
     exists Y10
     refine⟨_,rfl,(by show 1<=sizeLine;decide),fun p hp=>⟨p,[pa],[abt ps (kds B) ms.kind ms.lone S],rfl,kam hp,hp,kad, .cons (kam hp _ _ hpa) .nil,fun r hr=>.inl (by simpa using hr),by simp,fun g hg=>?_,by simpa using hand,by simpa using habl,by simp[want]⟩⟩
     rw[Mq] at hg
     rw[hg]
     exists 4
     exact lab
   rintro gv H1 ⟨gp,gl,gs,rfl,s1,f1,h1,hP,hor,lgs,lg,gnd,glt,gsp⟩
   have lgl:=hP.len
   have gok:∀g∈gs,∀i∈g,i<S.pr.length:=fun g hg i hi=>glt i (MM.mpr ⟨g,hg,hi⟩)
   nofun
   exists Y6
   refine⟨_,rfl,gp,rfl,⟨_,SqL.of h1⟩,kaY (xs:=gl.map V.ref) (fun i σ ys H'=>Same H1 H'/\(∃v0:Option V,σ=[v0,some (.ref x),some (.ref v)])/\∃tl,ys=tl.map V.ref/\P2 (GrpAt H H' pa) tl ((gs.take i).map fun g=>((qs S.pr g).sum*sh/1000,g)))
    ⟨Same.refl _,⟨none,rfl⟩,[],rfl, .nil⟩ (by rw[Nq];exact ND (kap (by omega))) ?_ ?_ ?_⟩
   ·rintro i σ ys H2 hi ⟨s2,_,tl,rfl,hT⟩
    nofun
    exists Y8
    refine⟨SqL.of (s2 _ _ h1),?_⟩
    rw[Nq,hT.len,Nq,NK]
    rw[Nq] at hi
    omega
   ·rintro i y σ ys H2 hy ⟨s2,⟨v0,rfl⟩,tl,rfl,hT⟩
    obtain⟨r,er,rfl⟩:=kbR hy
    obtain⟨g,eg,hr⟩:=hP.at er
    have s12:=s1.trans s2
    have hg:=Ny eg
    have sn:=kct (qs_nn wf.nn g)
    have sl:=kjL wf (lg g hg) (gok g hg)
    exists 3
    exists Y8
    refine⟨_,rfl,_,rfl,x,r,S,g,rfl,hS.same s12,s2 _ _ hr,gok g hg,lg g hg,fun H3 s3=>?_⟩
    have s13:=s12.trans s3
    exists 3
    exists Y8
    refine⟨_,rfl,v,d.qi,dxv,fsv,_,rfl,s13 _ _ hv,W.qi.cl,W.VG,hso.1,_,_,rfl,rfl, .inl ⟨by omega,by omega⟩,_,_,rfl,rfl,⟨by decide,by decide⟩,_,rfl,(by show 2<=sizeLine;decide),fun t ht=>?_⟩
    have s4:=kam (o:=.tup [.int ((qs S.pr g).sum*sh/1000), .ref r]) ht
    exists 3
    exists Y8
    refine⟨(s2.trans s3).trans s4,⟨_,rfl⟩,tl++[t],by rw[NC];rfl,?_⟩
    rw[kbW eg,NC]
    exists 3
    refine P2.snoc (hT.mono fun t' q ⟨ga,a1,a2,a3⟩=>⟨ga,(s3.trans s4) _ _ a1,(s3.trans s4) _ _ a2,a3⟩) ⟨r,kad,((s2.trans s3).trans s4) _ _ hr,hor r (Ny er)⟩
   ·rintro σ ys H2 ⟨s2,⟨v0,rfl⟩,tl,rfl,hT⟩ D hD
    rw[Nq,lgl,NY] at hT
    have s3:=kam (o:=.lst (tl.map V.ref)) hD
    have e1:(gs.map fun g=>((qs S.pr g).sum*sh/1000,g)).map Prod.snd=gs:=by
     rw[NQ]
     exists 3
     exact List.map_id' gs
    exists 3
    refine k _ D tl _ ((s1.trans s2).trans s3) (none_of (s1.trans s2) hD) kad (hT.mono fun t' q ⟨ga,a1,a2,a3⟩=>⟨ga,s3 _ _ a1,s3 _ _ a2,a3⟩) ?_ (by rw[e1];exact gnd) (by rw[e1];exact glt) (by rw[Nq];exact lgs) ?_
    ·intro c g hc
     obtain⟨g',hg',e⟩:=NO.mp hc
     cases e
     have sn:=kct (qs_nn wf.nn g)
     have:=kfH sn hsh.1 hsh.2
     exists 3
     exact⟨this.1,this.2,lg g hg'⟩
    ·rw[e1,NQ]
     exists 3
     exact gsp
  | cheap n=>
   have hn:2<=n/\n<=20:=vo.so
   obtain⟨m,rfl⟩:∃m:Nat,n=m:=⟨n.toNat,by omega⟩
   refine iteF ?_
   symm
   refine⟨_,rfl,_,_,_,_,rfl, .inr ⟨_,rfl⟩,TyOf.ins hv (cl_of W hh) I.ha I.hn I.ht I.hm,kdB W hh,_,rfl,iteF ⟨_,rfl,_,_,_,_,rfl, .inr ⟨_,rfl⟩,TyOf.ins hv (cl_of W hh) I.ha I.hn I.ht I.hm,kcS W hh,_,rfl,iteT ?_⟩⟩
   have hpw:(abt ps (kds B) ms.kind ms.lone S).Pairwise (· < ·):=MR.filter _ Dj
   have l64:(abt ps (kds B) ms.kind ms.lone S).length<64:=MB (kdU _ _ _ _ _) wf.n64
   symm
   exists Y6
   refine⟨_,rfl,_,rfl,_,rfl,v,d.qm,dxv,fsv,_,rfl,hv,W.qm.cl,W.VJ,hso,x,pa,S,_,m,rfl,hS,hpa,hpw,habl,l64,by omega,by omega,htb,fun H1 gp gl s1 f1 h1 hP0 hg=>?_⟩
   have hP:P2 (fun r g=>H1 r=some (.lst (g.map iV))) gl (grp m (fallP S.pr (abt ps (kds B) ms.kind ms.lone S))):=hP0
   clear hP0
   have lgl:=hP.len
   have lG:=khL m (fallP S.pr (abt ps (kds B) ms.kind ms.lone S))
   have lf:(fallP S.pr (abt ps (kds B) ms.kind ms.lone S)).length=(abt ps (kds B) ms.kind ms.lone S).length:=(kbB _ _).length_eq
   have hgr:∀{i:Nat}{g:List Nat},(grp m (fallP S.pr (abt ps (kds B) ms.kind ms.lone S)))[i]?=some g->0<g.length/\g[g.length-1]?=some (g.getLastD 0)/\g.getLastD 0∈abt ps (kds B) ms.kind ms.lone S:=fun {i g} eg=>by
    obtain⟨h1,h2,h3⟩:=kiC eg
    have h4:=khI (by omega) eg
    nofun
    exists Y8
    refine⟨by omega,?_,(kbB _ _).mem_iff.mp (Ny h4)⟩
    rw[h2,h3 _ (by omega)]
    exists 3
    exact h4
   have hla:∀a∈lasts (grp m (fallP S.pr (abt ps (kds B) ms.kind ms.lone S))),a∈abt ps (kds B) ms.kind ms.lone S:=fun a ha=>by
    obtain⟨g,hg',rfl⟩:=NO.mp ha
    obtain⟨j,hj⟩:=M4.mp hg'
    nofun
    exact(hgr hj).2.2
   nofun
   exists Y6
   refine⟨gp,rfl,⟨_,SqL.of h1⟩,kaY (xs:=gl.map V.ref) (fun i σ ys H'=>Same H1 H'/\(∃v0:Option V,σ=[v0])/\ys=((lasts (grp m (fallP S.pr (abt ps (kds B) ms.kind ms.lone S)))).take i).map iV)
    ⟨Same.refl _,⟨none,rfl⟩,rfl⟩ (by rw[Nq];exact ND (kap (by omega))) ?_ ?_ ?_⟩
   ·rintro i σ ys H2 hi ⟨s2,_,rfl⟩
    nofun
    exists Y8
    refine⟨SqL.of (s2 _ _ h1),?_⟩
    rw[Nq,NK,kdA]
    rw[Nq] at hi
    omega
   ·rintro i y σ ys H2 hy ⟨s2,⟨v0,rfl⟩,rfl⟩
    obtain⟨r,er,rfl⟩:=kbR hy
    obtain⟨g,eg,hr⟩:=hP.at er
    obtain⟨g0,g1,g2⟩:=hgr eg
    have al:atI (g.map iV) (-1)=some (iV (g.getLastD 0)):=khc (by rw[Nq,Nz,g1];rfl) (by rw[Nq];exact g0)
    exists 3
    exists Y8
    refine⟨_,rfl,1,rfl,r,_,_,_,rfl,rfl,SqL.of (s2 _ _ hr),al,s2,⟨_,rfl⟩,?_⟩
    rw[kbW (r:=g.getLastD 0) (by unfold lasts;rw[Nz,eg];rfl),NC]
    rfl
   rintro σ ys H2 ⟨s2,⟨v0,rfl⟩,rfl⟩ D hD
   rw[Nq,lgl,MC (by rw[kdA];exact Nt _)]
   have s3:=s2.trans (kam (o:=.lst ((lasts (grp m (fallP S.pr (abt ps (kds B) ms.kind ms.lone S)))).map iV)) hD)
   have fD:H D=none:=none_of (s1.trans s2) hD
   have eD:(upd H2 D (.lst ((lasts (grp m (fallP S.pr (abt ps (kds B) ms.kind ms.lone S)))).map iV))) D=some (.lst ((lasts (grp m (fallP S.pr (abt ps (kds B) ms.kind ms.lone S)))).map iV)):=kad
   generalize upd H2 D (.lst ((lasts (grp m (fallP S.pr (abt ps (kds B) ms.kind ms.lone S)))).map iV))=H3 at *
   obtain⟨o,p,mk,⟨dxs,fss,hx,l1,l2,l3,l4,l5⟩,ho,hp,hmk⟩:=id hS
   have s13:=s1.trans s3
   have lL:=kdA (grp m (fallP S.pr (abt ps (kds B) ms.kind ms.lone S)))
   nofun
   exists Y6
   refine⟨_,rfl,D,rfl,⟨_,SqL.of eD⟩,kaY (xs:=(lasts (grp m (fallP S.pr (abt ps (kds B) ms.kind ms.lone S)))).map iV) (fun i σ ys H'=>Same H3 H'/\(∃v0:Option V,σ=[v0,some (.ref x)])/\∃tl,ys=tl.map V.ref/\P2 (GrpAt H H' pa) tl (((lasts (grp m (fallP S.pr (abt ps (kds B) ms.kind ms.lone S)))).take i).map fun a=>(S.pr.getD a 0,[a])))
    ⟨Same.refl _,⟨none,rfl⟩,[],rfl, .nil⟩ (by rw[Nq];exact ND (kap (by omega))) ?_ ?_ ?_⟩
   ·rintro i σ ys H4 hi ⟨s4,_,tl,rfl,hT⟩
    nofun
    exists Y8
    refine⟨SqL.of (s4 _ _ eD),?_⟩
    rw[Nq,hT.len,Nq,NK]
    rw[Nq] at hi
    omega
   ·rintro i y σ ys H4 hy ⟨s4,⟨v0,rfl⟩,tl,rfl,hT⟩
    obtain⟨a,ea,rfl⟩:=kbo hy
    have ha:=hla a (Ny ea)
    obtain⟨z,ez⟩:=at_of (habl a ha)
    have ez':S.pr.getD a 0=z:=by rw[NL,ez];rfl
    have s14:=s13.trans s4
    exists 3
    exists Y8
    refine⟨_,rfl,x,d.qc,dxs,fss,_,rfl,s14 _ _ hx,W.qc.cl,W.qw,l2,_,rfl,p,_,_,_,rfl,rfl,SqL.of (s14 _ _ hp),kaz (v:=.int z) (by rw[Nz,ez];rfl),_,rfl,(by show 1<=sizeLine;decide),fun q hq=>⟨(by show 2<=sizeLine;decide),fun t ht=>?_⟩⟩
    have s5:=(kam (o:=.lst [iV a]) hq).trans (kam (o:=.tup [.int z, .ref q]) ht)
    exists 3
    exists Y8
    refine⟨s4.trans s5,⟨_,rfl⟩,tl++[t],by rw[NC];rfl,?_⟩
    rw[kbW ea,NC]
    exists 3
    exact P2.snoc (hT.mono fun t' q' ⟨ga,a1,a2,a3⟩=>⟨ga,s5 _ _ a1,s5 _ _ a2,a3⟩) ⟨q,by show upd _ _ _ _=some (.tup [.int (S.pr.getD a 0), .ref q]);rw[ez'];exact kad,kam ht _ _ kad, .inr (none_of s14 hq)⟩
   ·rintro σ ys H4 ⟨s4,⟨v0,rfl⟩,tl,rfl,hT⟩ D2 hD2
    rw[Nq,NY] at hT
    have s5:=kam (o:=.lst (tl.map V.ref)) hD2
    have e1:((lasts (grp m (fallP S.pr (abt ps (kds B) ms.kind ms.lone S)))).map fun a=>(S.pr.getD a 0,[a])).map Prod.snd=(lasts (grp m (fallP S.pr (abt ps (kds B) ms.kind ms.lone S)))).map fun a=>[a]:=by
     rw[NQ]
     rfl
    have e2:=kjB (fun i=>S.pr.getD i 0) (lasts (grp m (fallP S.pr (abt ps (kds B) ms.kind ms.lone S))))
    exists 3
    refine k _ D2 tl _ ((s13.trans s4).trans s5) (none_of (s13.trans s4) hD2) kad (hT.mono fun t' q ⟨ga,a1,a2,a3⟩=>⟨ga,s5 _ _ a1,s5 _ _ a2,a3⟩) ?_ (by rw[e1,e2.1];exact khH (by omega) (ke3 hand)) (by rw[e1,e2.1];exact fun i hi=>habl i (hla i hi)) (by rw[Nq];omega) ?_
    ·intro c g hc
     obtain⟨a,ha,e⟩:=NO.mp hc
     cases e
     have q0:(qs S.pr [a]).sum=S.pr.getD a 0:=by simp[qs]
     have q1:=kct (qs_nn wf.nn [a])
     rw[q0] at q1⊢
     exists 3
     exact⟨q1,Int.le_refl _,by simp⟩
    ·rw[e1,e2.1,NQ]
     have e3:(lasts (grp m (fallP S.pr (abt ps (kds B) ms.kind ms.lone S)))).map ((fun p=>dl p.1 (qs S.pr p.2))∘fun a=>(S.pr.getD a 0,[a]))=(lasts (grp m (fallP S.pr (abt ps (kds B) ms.kind ms.lone S)))).map fun a=>[S.pr.getD a 0]:=
      Mj fun a _=>knu _
     rw[e3,e2.2]
     exists 3
     exact(kkD (by omega) hand).symm
  | bund n pc=>
   have hn:2<=n/\n<=20/\0<=pc/\pc<=1000000000000:=vo.so
   obtain⟨m,rfl⟩:∃m:Nat,n=m:=⟨n.toNat,by omega⟩
   refine iteF ?_
   symm
   refine⟨_,rfl,_,_,_,_,rfl, .inr ⟨_,rfl⟩,TyOf.ins hv (cl_of W hh) I.ha I.hn I.ht I.hm,kdB W hh,_,rfl,iteF ⟨_,rfl,_,_,_,_,rfl, .inr ⟨_,rfl⟩,TyOf.ins hv (cl_of W hh) I.ha I.hn I.ht I.hm,kcS W hh,_,rfl,iteF ⟨_,rfl,_,_,_,_,rfl, .inr ⟨_,rfl⟩,TyOf.ins hv (cl_of W hh) I.ha I.hn I.ht I.hm,kfu W hh,_,rfl,iteT ?_⟩⟩⟩
   have hpw:(abt ps (kds B) ms.kind ms.lone S).Pairwise (· < ·):=MR.filter _ Dj
   have l64:(abt ps (kds B) ms.kind ms.lone S).length<64:=MB (kdU _ _ _ _ _) wf.n64
   symm
   exists Y6
   refine⟨_,rfl,_,rfl,_,rfl,v,d.qj,dxv,fsv,_,rfl,hv,W.qj.cl,W.VM,hso.1,x,pa,S,_,m,rfl,hS,hpa,hpw,habl,l64,by omega,by omega,htb,fun H1 gp gl s1 f1 h1 hP0 hg=>?_⟩
   have hP:P2 (fun r g=>H1 r=some (.lst (g.map iV))) gl (grp m (fallP S.pr (abt ps (kds B) ms.kind ms.lone S))):=hP0
   clear hP0
   have lgl:=hP.len
   have lG:=khL m (fallP S.pr (abt ps (kds B) ms.kind ms.lone S))
   have lf:(fallP S.pr (abt ps (kds B) ms.kind ms.lone S)).length=(abt ps (kds B) ms.kind ms.lone S).length:=(kbB _ _).length_eq
   have gin:∀g∈grp m (fallP S.pr (abt ps (kds B) ms.kind ms.lone S)),∀i∈g,i∈abt ps (kds B) ms.kind ms.lone S:=fun g hg' i hi=>(kbB _ _).mem_iff.mp (kki hg' i hi)
   have gok:∀g∈grp m (fallP S.pr (abt ps (kds B) ms.kind ms.lone S)),∀i∈g,i<S.pr.length:=fun g hg' i hi=>habl i (gin g hg' i hi)
   have lg:∀g∈grp m (fallP S.pr (abt ps (kds B) ms.kind ms.lone S)),g.length<=720:=fun g hg'=>by
    obtain⟨j,hj⟩:=M4.mp hg'
    have:=(kiC hj).2.1
    omega
   generalize egs:grp m (fallP S.pr (abt ps (kds B) ms.kind ms.lone S))=gs at *
   nofun
   exists Y6
   refine⟨_,rfl,gp,rfl,⟨_,SqL.of h1⟩,kaY (xs:=gl.map V.ref) (fun i σ ys H'=>Same H1 H'/\(∃v0:Option V,σ=[v0,some (.ref x),some (.ref v)])/\∃tl,ys=tl.map V.ref/\P2 (GrpAt H H' pa) tl ((gs.take i).map fun g=>(max 0 ((qs S.pr g).sum-pc),g)))
    ⟨Same.refl _,⟨none,rfl⟩,[],rfl, .nil⟩ (by rw[Nq];exact ND (kap (by omega))) ?_ ?_ ?_⟩
   ·rintro i σ ys H2 hi ⟨s2,_,tl,rfl,hT⟩
    nofun
    exists Y8
    refine⟨SqL.of (s2 _ _ h1),?_⟩
    rw[Nq,hT.len,Nq,NK]
    rw[Nq] at hi
    omega
   ·rintro i y σ ys H2 hy ⟨s2,⟨v0,rfl⟩,tl,rfl,hT⟩
    obtain⟨r,er,rfl⟩:=kbR hy
    obtain⟨g,eg,hr⟩:=hP.at er
    have s12:=s1.trans s2
    have hg':=Ny eg
    have sn:=kct (qs_nn wf.nn g)
    exists 3
    exists Y8
    refine⟨_,rfl,_,rfl,x,r,S,g,rfl,hS.same s12,s2 _ _ hr,gok g hg',lg g hg',fun H3 s3=>?_⟩
    have s13:=s12.trans s3
    exists 3
    exists Y8
    refine⟨_,rfl,v,d.qj,dxv,fsv,_,rfl,s13 _ _ hv,W.qj.cl,W.VN,hso.2,_,_,rfl,rfl,?_⟩
    exists 3
    exists Y8
    refine⟨_,_,rfl,_,rfl,(by show 2<=sizeLine;decide),fun t ht=>?_⟩
    have emax:(if(0:Int) > (qs S.pr g).sum-pc then 0 else(qs S.pr g).sum-pc)=max 0 ((qs S.pr g).sum-pc):=by
     split <;> omega
    rw[emax]
    have s4:=kam (o:=.tup [.int (max 0 ((qs S.pr g).sum-pc)), .ref r]) ht
    exists 3
    exists Y8
    refine⟨(s2.trans s3).trans s4,⟨_,rfl⟩,tl++[t],by rw[NC];rfl,?_⟩
    rw[kbW eg,NC]
    exists 3
    refine P2.snoc (hT.mono fun t' q ⟨ga,a1,a2,a3⟩=>⟨ga,(s3.trans s4) _ _ a1,(s3.trans s4) _ _ a2,a3⟩) ⟨r,kad,((s2.trans s3).trans s4) _ _ hr, .inr (hg r (Ny er))⟩
   ·rintro σ ys H2 ⟨s2,⟨v0,rfl⟩,tl,rfl,hT⟩ D hD
    rw[Nq,lgl,NY] at hT
    have s3:=kam (o:=.lst (tl.map V.ref)) hD
    have e1:(gs.map fun g=>(max 0 ((qs S.pr g).sum-pc),g)).map Prod.snd=gs:=by
     rw[NQ]
     exists 3
     exact List.map_id' gs
    exists 3
    refine k _ D tl _ ((s1.trans s2).trans s3) (none_of (s1.trans s2) hD) kad (hT.mono fun t' q ⟨ga,a1,a2,a3⟩=>⟨ga,s3 _ _ a1,s3 _ _ a2,a3⟩) ?_ (by rw[e1,<-egs];exact kkh (ke3 hand)) (by rw[e1];intro i hi;obtain⟨g,hg',hi'⟩:=MM.mp hi;exact gok g hg' i hi') (by rw[Nq];omega) ?_
    ·intro c g hc
     obtain⟨g',hg',e⟩:=NO.mp hc
     cases e
     have sn:=kct (qs_nn wf.nn g)
     exists 3
     exact⟨by omega,by omega,lg g hg'⟩
    ·rw[e1,NQ,<-egs]
     exists 3
     exact(kly (fun z=>max 0 (z-pc)) hand).symm
  |carr=>
   refine iteF ?_
   symm
   refine⟨_,rfl,_,_,_,_,rfl, .inr ⟨_,rfl⟩,TyOf.ins hv (cl_of W hh) I.ha I.hn I.ht I.hm,kdB W hh,_,rfl,iteF ⟨_,rfl,_,_,_,_,rfl, .inr ⟨_,rfl⟩,TyOf.ins hv (cl_of W hh) I.ha I.hn I.ht I.hm,kcS W hh,_,rfl,iteF ⟨_,rfl,_,_,_,_,rfl, .inr ⟨_,rfl⟩,TyOf.ins hv (cl_of W hh) I.ha I.hn I.ht I.hm,kfu W hh,_,rfl,iteF ?_⟩⟩⟩
   symm
   refine⟨by decide,fun l hl=>?_⟩
   symm
   refine k _ l [] [] (kam hl) hl kad .nil (fun c g hc=>by simp at hc) (by simp) (by simp) (by simp) ?_
   symm
   exact(spr_zero (k:=0)).trans spr_zero.symm
inductive kjy (K:Nr) (d:D) (vs:List V) (H:Hp) (Q:VK) (E_:XK):Prop
 |ct (v a b x:Addr)(V:Vch)(ps:List (Option Nat))(B:Bask)(S:Stnd)(_:vs=[.ref v, .ref a, .ref b, .ref x])(_:VchIs d H v V)(_:SqL K H a (ps.map pV))(_:BaskIs d.qe d.qg H b B)(_:StndIs d.qc H x S)(_:Wf ps B S)(_:VchOk ps V)(_:∀(H':Hp)(p:Addr),Same H H'->H p=none->H' p=some (.lst ((cutM V ps (kds B) S).1.map L2.V.int))->Q (.ref p) H'):kjy K d vs H Q E_
theorem qK:kao ["voucher","parents","basket","standing","pieces","wanted","cut","group","piece","part","most"] ["voucher","parents","basket","standing"] (kag kbN):=by ac_rfl
theorem kcu(W:WB K mg d base):FO P w W 4 d.X5 d.X6 ["voucher","parents","basket","standing"] (kjy K d):=by
 exists W.Q3.F,qK
 ·obtain⟨v,a,b,x,Vc,ps,B,S,rfl,hV,hA,hB,hS,wf,vo,k⟩:=h
  exists Qk,kfV,W
  exists UH,kfe,W
  exists VW,kk8,W
  exists Xu,kdY,W
  exists hr1,1,hr,0
  refine⟨_,kac (psl (i:=4) qK.nd (pcl Qk hr W.Qw (kaa (pv 0) (kaa (pv 1) (kaa (pv 2) (kaa (pv 3) kae))))))
   (kac (khw (N:=["price"]) (CompScope.plain rfl (by decide +kernel) (by decide +kernel) (by decide +kernel) (nd1 _)) rfl (kaE (K:=K) (kak (K:=K) (pv 3) rfl)) (fun _ _ _ _=>pgn (i:=0) (nd1 _)) (fun _ _ _ _=>kai) (pgn (i:=5) qK.nd))
   (kac (kaU PassesOwn.never rfl (kaE (K:=K) (pcl UH hr W.ZY (kaa (pv 0) (kaa (pv 3) (kaa (pv 4) kae))))) (kby (K:=K) (n:=2) rfl (kaC (pgn (i:=6) qK.nd) (kaC (pgn (i:=7) qK.nd) kbx)))
   (kaf (kaU PassesOwn.never rfl (kfR rfl W.B.zip (kaa (pv 7) (kaa (pcl VW hr1 W.Q2 (kaa (pv 6) (kaa (pcl Xu hr1 W.Q6 (kaa (pv 3) (kaa (pv 7) kae))) kae))) kae))) (kby (K:=K) (n:=2) rfl (kaC (pgn (i:=8) qK.nd) (kaC (pgn (i:=9) qK.nd) kbx)))
   (kaf (keE (pv 9) (keF (pv 5) (pv 8) set_list))))))
   (kac (psl (i:=10) qK.nd (kak (K:=K) (kak (K:=K) (pv 0) rfl) rfl))
   (kac (ps_if (PW.pt (kbS (kar kb6 (pv 10) kaJ (kaw _)) (kbt (kar op_gt (kat (r:=rSum K) (kc0 rfl) (by rfl) W.B.sum b_sum (kaa (pv 5) kae)) (pv 10) (kaw _))))) (kaf (kan (pcl VW hr1 W.Q2 (kaa (pv 10) (kaa (pv 5) kae))))) (kas))
   (kaf (kan (pv 5))))))),?_⟩
  have np:=wf.np
  have lp:=wf.lp
  exists Y4
  refine⟨_,rfl,_,rfl,_,rfl,_,rfl,v,a,b,x,Vc,ps,B,S,rfl,hV,hA,hB,hS,wf,vo,fun H1 pa s1 f1 h1=>?_⟩
  have habl:∀i∈abt ps (kds B) Vc.ms.kind Vc.ms.lone S,i<S.pr.length:=fun i hi=>by rw[lp];exact khf hi
  have hand:=khe ps (kds B) Vc.ms.kind Vc.ms.lone S
  have lab:(abt ps (kds B) Vc.ms.kind Vc.ms.lone S).length<=720:=Nx (kdU _ _ _ _ _) np
  obtain⟨o,p,mk,⟨dxs,fss,hx,l1,l2,l3,l4,l5⟩,ho,hp,hmk⟩:=id (hS.same s1)
  symm
  exists Y4
  refine⟨_,rfl,x,d.qc,dxs,fss,_,rfl,hx,W.qc.cl,W.qw,l2,p,rfl,⟨_,SqL.of hp⟩,kaY (xs:=S.pr.map V.int) (fun i σ ys H'=>H'=H1/\ys=(Nu i (0:Int)).map V.int/\∃v,σ=[v]) ⟨rfl,rfl,none,rfl⟩ ?_ ?_ ?_ ?_⟩
  ·rw[Nq]
   symm
   exact ND (kap (by omega))
  ·rintro i σ ys H' hi ⟨rfl,rfl,_⟩
   symm
   exact⟨SqL.of hp,by simp⟩
  ·rintro i y σ ys H' hy ⟨rfl,rfl,v,rfl⟩
   symm
   exact⟨rfl,by rw[EO,NC];rfl,_,rfl⟩
  rintro σ ys H' ⟨rfl,rfl,v0,rfl⟩ w hw
  rw[Nq]
  have s2:=s1.trans (kam (o:=.lst ((Nu S.pr.length (0:Int)).map V.int)) hw)
  have hw0:H w=none:=none_of s1 hw
  have ew:(upd H' w (.lst ((Nu S.pr.length (0:Int)).map V.int))) w=some (.lst ((Nu S.pr.length (0:Int)).map V.int)):=kad
  have h1o:=h1
  have h1:=kam (o:=.lst ((Nu S.pr.length (0:Int)).map V.int)) hw _ _ h1
  have nw:pa≠w:=kah h1o hw
  generalize upd H' w (.lst ((Nu S.pr.length (0:Int)).map V.int))=H2 at *
  symm
  exists Y4
  refine⟨_,rfl,_,rfl,_,rfl,v,x,pa,Vc,ps,B,S,rfl,hV.same s2,hS.same s2,h1,wf,vo,fun H3 gp tl gl s3 f3 h3 hP hc hnd hlt hgl hsp=>?_⟩
  have s03:=s2.trans s3
  have e3:=s3 _ _ ew
  have ngw:gp≠w:=fun e=>by rw[e,ew] at f3;cases f3
  symm
  exists Y4
  refine⟨gp,rfl,⟨_,SqL.of h3⟩,ka3 (K:=K) (a:=gp) (xs:=tl.map V.ref) (fun i σ H'=>(∃v8 v9 v10 v11 v12:Option V,σ=[some (.ref v),some (.ref a),some (.ref b),some (.ref x),some (.ref pa),some (.ref w),v8,v9,v10,v11,v12])/\But w H3 H'/\
    H' w=some (.lst ((spr S.pr.length ((gl.take i).map Prod.snd).flatten ((gl.take i).map fun p=>dl p.1 (qs S.pr p.2)).flatten).map V.int)))
   ⟨⟨none,none,none,none,none,rfl⟩,But.refl,by rw[e3];simp[kmm]⟩ (fun i σ H' _ h=>SqL.of (h.2.1 _ _ ngw h3)) ?_ ?_⟩
  ·rintro i y σ H4 hy ⟨⟨v8,v9,v10,v11,v12,rfl⟩,b4,h4⟩
   obtain⟨t,et,rfl⟩:=kbR hy
   obtain⟨⟨c,g⟩,eg,ga,ht,hga,hor⟩:=hP.at et
   have hcg:=hc c g (Ny eg)
   have hgl':∀i∈g,i<S.pr.length:=fun j hj=>hlt j (MM.mpr ⟨g,NO.mpr ⟨(c,g),Ny eg,rfl⟩,hj⟩)
   have ngaw:ga≠w:=by
    rcases hor with rfl|hor
    ·exact nw
    ·exact fun e=>by rw[e,ew] at hor;cases hor
   have ntw:t≠w:=ne_of ht e3 (by intro z;cases z)
   have htt:H4 t=some (.tup [.int c, .ref ga]):=b4 _ _ ntw ht
   have hgg:H4 ga=some (.lst (g.map iV)):=b4 _ _ ngaw hga
   symm
   exists Y6
   refine⟨t,_,rfl,SqT.of htt,rfl,_,_,rfl,_,_,rfl,rfl,?_⟩
   have hS4:StndIs d.qc H4 x S:=by
    nofun
    exact StndIs.same (H:=H) (kii hw0 s03 b4) hS
   have gnn:=qs_nn wf.nn g
   have gsum:=kjL wf hcg.2.2 hgl'
   have hg720:=hcg.2.2
   nofun
   exists Y6
   refine⟨_,rfl,_,rfl,_,rfl,_,rfl,x,ga,S,g,rfl,hS4,hgg,hgl',hg720,fun p5 hp5=>?_⟩
   have s5:=kam (o:=.lst ((qs S.pr g).map V.int)) hp5
   nofun
   exists Y6
   refine⟨c,p5,qs S.pr g,rfl,SqL.of kad,gnn,by omega,hcg.1,by omega,by rw[kcf];omega,fun p6 hp6=>?_⟩
   have s6:=s5.trans (kam (o:=.lst ((dl c (qs S.pr g)).map V.int)) hp6)
   have h6:(upd (upd H4 p5 (.lst ((qs S.pr g).map V.int))) p6 (.lst ((dl c (qs S.pr g)).map V.int))) p6=some (.lst ((dl c (qs S.pr g)).map V.int)):=kad
   have n6:H4 p6=none:=none_of s5 hp6
   generalize upd (upd H4 p5 (.lst ((qs S.pr g).map V.int))) p6 (.lst ((dl c (qs S.pr g)).map V.int))=H6 at *
   have b6:=b4.same s6
   have w6:=s6 _ _ h4
   have n6w:p6≠w:=fun e=>by rw[e,h4] at n6;cases n6
   have ldl:(dl c (qs S.pr g)).length=g.length:=by rw[kfw,kcf]
   have emin:min (g.map iV).length ((dl c (qs S.pr g)).map V.int).length=g.length:=by rw[Nq,Nq,ldl,Ei]
   have ndt:∀(j n:Nat),g[j]?=some n->(((gl.take i).map Prod.snd).flatten++g.take j++[n]).Nodup:=fun j n hj=>by
    rw[MU]
    nofun
    exact kep hnd (i:=i) (by rw[Nz,eg];rfl) hj
   have lfl:((gl.take i).map Prod.snd).flatten.length=((gl.take i).map fun p=>dl p.1 (qs S.pr p.2)).flatten.length:=by
    rw[List.length_flatten,List.length_flatten,NQ,NQ]
    congr 1
    nofun
    refine Mj fun q _=>?_
    show q.2.length=(dl q.1 (qs S.pr q.2)).length
    rw[kfw,kcf]
   nofun
   exists Y6
   refine⟨ga,p6,_,_,rfl,s6 _ _ hgg,h6,kkm (xs:=g.map iV) (ys:=(dl c (qs S.pr g)).map V.int) (fun j σ H'=>(∃v8 v9 v10 v11 v12:Option V,σ=[some (.ref v),some (.ref a),some (.ref b),some (.ref x),some (.ref pa),some (.ref w),v8,v9,v10,v11,v12])/\But w H3 H'/\H' ga=some (.lst (g.map iV))/\H' p6=some (.lst ((dl c (qs S.pr g)).map V.int))/\
     H' w=some (.lst ((spr S.pr.length (((gl.take i).map Prod.snd).flatten++g.take j) (((gl.take i).map fun p=>dl p.1 (qs S.pr p.2)).flatten++(dl c (qs S.pr g)).take j)).map V.int)))
    ⟨⟨_,_,_,_,_,rfl⟩,b6,s6 _ _ hgg,h6,by rw[w6];simp⟩ (fun j σ H' _ h=>⟨h.2.2.1,h.2.2.2.1⟩) ?_ ?_⟩
   ·rintro j y1 y2 t2 σ H7 hy1 hy2 ⟨⟨v8,v9,v10,v11,v12,rfl⟩,b7,g7,d7,w7⟩ ht2
    obtain⟨n,en,rfl⟩:=kbo hy1
    obtain⟨z,ez,rfl⟩:=kbo hy2
    have hn:=hgl' n (Ny en)
    have s8:=kam (o:=.tup [iV n,V.int z]) ht2
    nofun
    exists Y8
    refine⟨t2,_,rfl,SqT.of kad,rfl,_,_,rfl,_,_,rfl,rfl,?_⟩
    exists 3
    exists Y8
    refine⟨_,rfl,_,rfl,_,rfl,w,_,_,n,rfl,rfl,s8 _ _ w7,kdj (by rw[Nq,kc7];exact hn),⟨_,_,_,_,_,rfl⟩,(b7.same s8).trans kav,?_,?_,?_⟩
    ·rw[kaj ngaw]
     exists 3
     exact s8 _ _ g7
    ·rw[kaj n6w]
     exists 3
     exact s8 _ _ d7
    ·rw[kad,<-Er,kbW en,kbW ez,<-Mg,<-Mg]
     rw[kkR (by rw[NG,NG,lfl,NK,NK,ldl]) (ndt j n en) hn]
   ·rintro σ H7 ⟨⟨v8,v9,v10,v11,v12,rfl⟩,b7,g7,d7,w7⟩
    exists 3
    exists Y8
    refine⟨⟨_,_,_,_,_,rfl⟩,b7,?_⟩
    rw[w7,emin,NY,MC (Ey ldl),kbW eg]
    simp
  rintro σ H4 ⟨⟨v8,v9,v10,v11,v12,rfl⟩,b4,h4⟩
  have ltl:(tl.map V.ref).length=gl.length:=by rw[Nq,hP.len]
  rw[ltl,NY,hsp] at h4
  have s04:Same H H4:=kii hw0 s03 b4
  obtain⟨mA,dxv,fsv,hv,lvm,_,⟨dxm,fsm,hm,m1,m2,m3,m4,m5,m6⟩,hh,htb⟩:=id (hV.same s04)
  symm
  exists Y4
  refine⟨_,rfl,v,clsOf d Vc.so,dxv,fsv,_,rfl,hv,cl_of W hh,na_of W hh,lvm,mA,d.qf,dxm,fsm,_,rfl,hm,W.qf.cl,W.Xb,m3,?_⟩
  have wle:=ki8 (so:=Vc.so) (n:=S.mkd.length) (lines:=(abt ps (kds B) Vc.ms.kind Vc.ms.lone S).map fun i=>S.ow.getD i 0) (qs_nn wf.nn (abt ps (kds B) Vc.ms.kind Vc.ms.lone S)) vo.so
  have cn:=klw (V:=Vc) (ps:=ps) (kk:=kds B) (S:=S)
  have cs:=fun(m:Int)(e:Vc.ms.most=some m)(h0:0<=m)=>klv (V:=Vc) (ps:=ps) (kk:=kds B) (S:=S) lp wle e h0
  have sabs:=kjL wf lab habl
  generalize ewant:want Vc.so S.mkd.length ((abt ps (kds B) Vc.ms.kind Vc.ms.lone S).map fun i=>S.ow.getD i 0) (qs S.pr (abt ps (kds B) Vc.ms.kind Vc.ms.lone S))=wn at *
  have fnn:Nn (spr S.pr.length (abt ps (kds B) Vc.ms.kind Vc.ms.lone S) wn):=(kgl wf.nn wle).nn
  have fsum:(spr S.pr.length (abt ps (kds B) Vc.ms.kind Vc.ms.lone S) wn).sum<=720000000000000:=by
   have h:=(kgl wf.nn wle).sum
   have h2:=kdF (b:=1000000000000) (q:=S.pr) fun z hz=>(wf.pr z hz).2
   omega
  cases em:Vc.ms.most with
  |none=>
   symm
   refine⟨_,rfl,rfl,_,rfl,?_⟩
   show if(!decide (V.non=V.non))=true then _ else _
   rw[kj0]
   refine iteF (iteF ⟨_,rfl,k _ w s04 hw0 ?_⟩)
   rw[h4,cn em]
  | some m=>
   have hm0:=vo.ms.most m em
   symm
   refine⟨_,rfl,rfl,_,rfl,?_⟩
   show if(!decide (V.int m=V.non))=true then _ else _
   rw[kj1]
   refine iteT ?_
   symm
   exists Y6
   refine⟨_,rfl,w,_,rfl,SqL.of h4,_,rfl,_,_,rfl,rfl,_,rfl,?_⟩
   by_cases hgt:(spr S.pr.length (abt ps (kds B) Vc.ms.kind Vc.ms.lone S) wn).sum > m
   ·rw[decide_eq_true hgt]
    refine iteT ?_
    nofun
    exists Y8
    refine⟨_,rfl,_,rfl,m,w,_,rfl,SqL.of h4,fnn,by omega,hm0.1,by omega,by rw[kc7];omega,fun p7 hp7=>?_⟩
    exists 3
    refine k _ p7 (s04.trans (kam hp7)) (none_of s04 hp7) ?_
    rw[kad,cs m em hm0.1,if_pos hgt]
   ·rw[decide_eq_false hgt]
    refine iteF ?_
    exists 3
    refine⟨_,rfl,k _ w s04 hw0 ?_⟩
    rw[h4,cs m em hm0.1,if_neg hgt]
theorem kmp:kao ["voucher","parents","basket","standing"] ["voucher","parents","basket","standing"] (kag kjF):=by ac_rfl
theorem kmE(W:WB K mg d base):FO P w W 5 d.X1 d.X2 ["voucher","parents","basket","standing"] (klP K d):=by
 exists W.ZW.F,kmp
 ·obtain⟨v,a,b,x,Vc,ps,B,S,rfl,hV,hA,hB,hS,wf,vo,k⟩:=h
  exists Xx,kcu,W
  exists Xy,kch,W
  exists hr2,2,hr,0
  refine⟨_,kaf (kan (kbu (kaa (pcl Xx hr W.Q3 (kaa (pv 0) (kaa (pv 1) (kaa (pv 2) (kaa (pv 3) kae))))) (kaa (pcl Xy hr2 W.Q4 (kaa (pv 0) (kaa (pv 3) kae))) kae)))),?_⟩
  refine⟨_,rfl,_,rfl,_,rfl,_,rfl,v,a,b,x,Vc,ps,B,S,rfl,hV,hA,hB,hS,wf,vo,fun H1 p s1 f1 h1=>?_⟩
  refine⟨_,rfl,_,rfl,v,x,Vc,S,rfl,hV.same s1,hS.same s1,(by show 2<=sizeLine;decide),fun t ht=>?_⟩
  rw[<-kko (ps:=ps) (kk:=kds B) (S:=S) vo]
  refine k _ t p (s1.trans (kam ht)) (none_of s1 ht) f1 ?_ (kam ht _ _ h1)
  exact kad
theorem klA{l:List Nat}{f g:Nat->Bool}(h:∀x∈l,f x=g x):l.any f=l.any g:=by
 induction l with
 |nil=>rfl
 |cons a l ih=>rw[Mz,Mz,h a NV,ih fun x hx=>h x (NR _ hx)]
theorem ke4{ow:List Nat}{cs:List Int}{i o l:Nat}(h:ow[i]?=some o):kbH (ow.take (i+1)) cs l=(kbH (ow.take i) cs l||(o==l&&decide (0<cs.getD i 0))):=by
 have hi:=at_lt h
 unfold kbH
 rw[NK,NK,Eo (by omega),Eo (by omega),Mh,List.any_append]
 congr 1
 ·refine klA fun j hj=>?_
  have hj':j<i:=by simpa using hj
  simp only[NL,List.getElem?_take]
  rw[if_pos (by omega),if_pos hj']
 ·simp only[Mz,List.any_nil,Dr]
  rw[NL,List.getElem?_take,if_pos (by omega),h]
  rfl
inductive kc3 (d:D) (vs:List V) (H:Hp) (Q:VK) (E_:XK):Prop
 |ct (v x c:Addr)(V:Vch)(S:Stnd)(cs:List Int)(_:vs=[.ref v, .ref x, .ref c])(_:VchIs d H v V)(_:StndIs d.qc H x S)(_:H c=some (.lst (cs.map L2.V.int)))(_:cs.length=S.ow.length)(_:S.ow.length<=720)(_:S.mkd.length<=12)(_:(∀l∈S.ow,l<S.mkd.length))(_:∀(H':Hp)(p:Addr),Same H H'->H p=none->H' p=some (.lst (((Nw S.mkd.length).map fun l=>S.mkd.getD l false||(V.ms.lone&&kbH S.ow cs l)).map L2.V.bl))->Q (.ref p) H'):kc3 d vs H Q E_
theorem QG:kao ["voucher","standing","piece_cuts","marked","owner","cut"] ["voucher","standing","piece_cuts"] (kag kb0):=by ac_rfl
theorem kec(W:WB K mg d base):FO P w W 1 d.Ye d.Yf ["voucher","standing","piece_cuts"] (kc3 d):=by
 exists W.Z9.F,QG
 ·obtain⟨v,x,c,Vc,S,cs,rfl,⟨mA,dxv,fsv,hv,lvm,_,⟨dxm,fsm,hm,m1,m2,m3,m4,m5,m6⟩,hh,htb⟩,⟨o,p,mk,⟨dxs,fss,hx,l1,l2,l3,l4,l5⟩,ho,hp,hmk⟩,hc,lc,lo,lmk,hw,k⟩:=h
  refine⟨_,kac (psl (i:=3) QG.nd (kaK (r:=ka4 K) kaA (by rfl) W.B.list kbj (kaa (kak (K:=K) (pv 1) rfl) kae)))
   (kac (ps_if (kaR (kak (K:=K) (kak (K:=K) (pv 0) rfl) rfl)) (kaf (kaU PassesOwn.never rfl (kfR rfl W.B.zip (kaa (kak (K:=K) (pv 1) rfl) (kaa (pv 2) kae))) (kby (K:=K) (n:=2) rfl (kaC (pgn (i:=4) QG.nd) (kaC (pgn (i:=5) QG.nd) kbx)))
   (kaf (ps_if (kar op_gt (pv 5) kai (kaw _)) (kaf (keE pe_bl (keF (pv 3) (pv 4) set_list))) (kas))))) (kas))
   (kaf (kan (pv 3)))),?_⟩
  have e0:S.mkd.map V.bl=((Nw S.mkd.length).map fun l=>S.mkd.getD l false||kbH (S.ow.take 0) cs l).map V.bl:=by
   congr 1
   apply MF
   ·simp
   ·intro j h1 h2
    simp[kbH,h1]
  exists Y4
  refine⟨_,rfl,x,d.qc,dxs,fss,_,rfl,hx,W.qc.cl,W.Qh,l4,mk,_,rfl, .inl (SqL.of hmk),fun q hq=>?_⟩
  have s1:=kam (o:=.lst (S.mkd.map V.bl)) hq
  symm
  exists Y4
  refine⟨_,rfl,v,clsOf d Vc.so,dxv,fsv,_,rfl,s1 _ _ hv,cl_of W hh,na_of W hh,lvm,mA,d.qf,dxm,fsm,_,rfl,s1 _ _ hm,W.qf.cl,W.qU,m6,_,rfl,?_⟩
  cases e:Vc.ms.lone with
  |false=>
   refine iteF ?_
   symm
   exists Y6
   refine⟨_,rfl,k _ q s1 hq ?_⟩
   rw[e0]
   simp only[e,Ew,Dr]
   rw[kad]
   congr 2
   simp[kbH]
  | true=>
   refine iteT ?_
   have emin:min (S.ow.map iV).length (cs.map V.int).length=S.ow.length:=by rw[Nq,Nq,lc,Ei]
   symm
   exists Y6
   refine⟨_,rfl,x,d.qc,dxs,fss,_,rfl,s1 _ _ hx,W.qc.cl,W.qC,l1,_,rfl,o,c,_,_,rfl,s1 _ _ ho,s1 _ _ hc,
    kkm (xs:=S.ow.map iV) (ys:=cs.map V.int) (fun i σ H'=>(∃v4 v5:Option V,σ=[some (.ref v),some (.ref x),some (.ref c),some (.ref q),v4,v5])/\But q H H'/\H' q=some (.lst (((Nw S.mkd.length).map fun l=>S.mkd.getD l false||kbH (S.ow.take i) cs l).map V.bl)))
     ⟨⟨none,none,rfl⟩,But.of_same s1,by rw[kad,e0]⟩ (fun i σ H' _ h=>⟨h.2.1 _ _ (kah ho hq) ho,h.2.1 _ _ (kah hc hq) hc⟩) ?_ ?_⟩
   ·rintro i y z t σ H1 hy hz ⟨⟨v4,v5,rfl⟩,b1,h1⟩ ht
    obtain⟨ln,eln,rfl⟩:=kbo hy
    obtain⟨cz,ecz,rfl⟩:=kbo hz
    have hln:=hw ln (Ny eln)
    have st:=fun l=>ke4 (cs:=cs) (l:=l) eln
    have eg:cs.getD i 0=cz:=by rw[NL,ecz];rfl
    have tq:q≠t:=kah h1 ht
    have b2:=b1.same (kam (o:=.tup [iV ln,V.int cz]) ht)
    have h2:=kam (o:=.tup [iV ln,V.int cz]) ht _ _ h1
    nofun
    exists Y8
    refine⟨t,_,rfl,SqT.of kad,rfl,_,_,rfl,_,_,rfl,rfl,?_⟩
    exists 3
    exists Y8
    refine⟨_,rfl,_,_,rfl,rfl,_,rfl,?_⟩
    by_cases hc0:cz > 0
    ·rw[decide_eq_true hc0]
     refine iteT ?_
     exists 3
     exists Y10
     refine⟨_,rfl,_,rfl,q,_,_,ln,rfl,rfl,h2,kdj (by simpa using hln),⟨_,_,rfl⟩,b2.trans kav,?_⟩
     rw[kad,<-Er]
     congr 3
     apply MF
     ·simp
     ·intro j g1 g2
      have hj:j<S.mkd.length:=by simpa using g1
      rw[Dh]
      simp only[Eb,Ek]
      rw[st j,eg]
      by_cases hjl:ln=j
      ·subst hjl
       simp[hc0]
      ·rw[if_neg hjl,show(ln==j)=false by simpa using hjl]
       simp
    ·rw[decide_eq_false hc0]
     refine iteF ?_
     try first|apply Y10|apply Y8|apply Y6|apply Y4
     exists Y10
     refine⟨⟨_,_,rfl⟩,b2,?_⟩
     rw[h2]
     congr 3
     try first|apply Y10|apply Y8|apply Y6|apply Y4
     refine Mj fun l _=>?_
     rw[st l,eg,show decide (0<cz)=false by simpa using hc0]
     simp
   ·rintro σ H1 ⟨⟨v4,v5,rfl⟩,b1,h1⟩
    rw[emin,NY] at h1
    exists 3
    exists Y8
    refine⟨_,rfl,k _ q (kkH b1 hq) hq ?_⟩
    rw[h1]
    simp only[e,Bool.true_and]
noncomputable def rmv(x:Addr)(H:Hp):Hp:=fun a=>if a=x then none else H a
theorem kik{x:Addr}{H:Hp}:rmv x H x=none:=if_pos rfl
theorem kez{x a:Addr}{H:Hp}(n:a≠x):rmv x H a=H a:=if_neg n
theorem kfO{x a:Addr}{H:Hp}{o:HO}(h:rmv x H a=some o):H a=some o:=by
 by_cases e:a=x
 ·subst e
  rw[kik] at h
  cases h
 ·rw[kez e] at h
  exact h
theorem kjH{x:Addr}{H:Hp}(hx:NX H x):But x H (rmv x H):=fun b u n e=>ev_eq (by rw[kez n];exact e) fun⟨ps,e1,t,hor⟩=>⟨ps,by rw[kez n];exact e1,t,fun pos c ec=>by
 obtain⟨c',rfl,z2⟩:=hor pos c ec
 exact⟨c',rfl,by rw[kez fun e=>hx _ (e▸z2)];exact z2⟩⟩
theorem kjG{x:Addr}{H:Hp}:Same (rmv x H) H:=fun b u e=>ev_eq (kfO e) fun⟨ps,e1,t,hor⟩=>⟨ps,kfO e1,t,fun pos c ec=>by
 obtain⟨c',rfl,z2⟩:=hor pos c ec
 exact⟨c',rfl,kfO z2⟩⟩
theorem kgf{Hs H H':Hp}{x:Addr}(s:Same Hs H)(b:But x H H')(f:Hs x=none):Same Hs H':=fun c u e=>kbD (s c u e) fun u' e'=>b c u' (kah e f) e'
inductive StndN (C:Addr) (H0 H:Hp) (x:Addr) (S:Stnd):Prop
 |ct (_:H0 x=none)(o p mk:Addr)(_:StandAt C H x o p mk S.cg)(_:H0 o=none)(_:H0 p=none)(_:H0 mk=none)(_:H o=some (.lst (S.ow.map iV)))(_:H p=some (.lst (S.pr.map V.int)))(_:H mk=some (.lst (S.mkd.map V.bl))):StndN C H0 H x S
theorem StndN.is{C x:Addr}{H0 H:Hp}{S:Stnd}:StndN C H0 H x S->StndIs C H x S:=by rintro⟨_,o,p,mk,h,_,_,_,h1,h2,h3⟩;exact⟨o,p,mk,h,h1,h2,h3⟩
theorem kce{H0 H:Hp}{q a:Addr}(hq:H0 q≠none)(f:H0 a=none):rmv q H a=H a:=kez fun e=>hq (e▸f)
theorem StndN.rmv{C x q:Addr}{H0 H:Hp}{S:Stnd}(hq:H0 q≠none):StndN C H0 H x S->StndIs C (rmv q H) x S:=by rintro⟨f,o,p,mk,⟨dx,fs,hx,r⟩,f1,f2,f3,h1,h2,h3⟩;exact⟨o,p,mk,⟨dx,fs,(kce hq f).trans hx,r⟩,(kce hq f1).trans h1,(kce hq f2).trans h2,(kce hq f3).trans h3⟩
inductive WayN (d:D) (m:Nat) (H0 H:Hp) (w t b x:Addr) (hand:List Int) (used:List Nat):Prop
 |ct (_:H0 w=none)(dx:Addr)(fs:List (Str×V))(h u:Addr)(_:H0 h=none)(_:H0 u=none)(_:H w=some (.ins d.c_Way dx fs))(_:fs.lookup ("till" :Str)=some (.ref t))(_:fs.lookup ("basket" :Str)=some (.ref b))(_:fs.lookup ("hand" :Str)=some (.ref h))(_:fs.lookup ("used" :Str)=some (.ref u))(_:fs.lookup ("standing" :Str)=some (.ref x))(_:fs.lookup ("word_for" :Str)=none)(_:fs.lookup ("behind" :Str)=none)(_:fs.lookup ("is_let_by" :Str)=none)(_:fs.lookup ("followers" :Str)=none)(_:fs.length<=m)(_:H h=some (.lst (hand.map V.int)))(_:H u=some (.lst (used.map iV))):WayN d m H0 H w t b x hand used
theorem WayN.at{d:D}{m:Nat}{H0 H:Hp}{w t b x:Addr}{hand:List Int}{used:List Nat}:WayN d m H0 H w t b x hand used->WayAt d m H w t b x hand used:=by rintro⟨_,dx,fs,h,u,_,_,h1,h2,h3,h4,h5,h6,h7,h8,h9,h10,h11,h12,h13⟩;exact⟨dx,fs,h,u,h1,h2,h3,h4,h5,h6,h7,h8,h9,h10,h11,h12,h13⟩
theorem WayN.rmv{d:D}{m:Nat}{H0 H:Hp}{w t b x q:Addr}{hand:List Int}{used:List Nat}(hq:H0 q≠none):WayN d m H0 H w t b x hand used->WayAt d m (rmv q H) w t b x hand used:=by rintro⟨f,dx,fs,h,u,f1,f2,g,h2,h3,h4,h5,h6,h7,h8,h9,h10,h11,h12,h13⟩;exact⟨dx,fs,h,u,(kce hq f).trans g,h2,h3,h4,h5,h6,h7,h8,h9,h10,h11,(kce hq f1).trans h12,(kce hq f2).trans h13⟩
inductive kih (K:Nr) (d:D) (vs:List V) (H:Hp) (Q:VK) (E_:XK):Prop
 |ct (v a b x:Addr)(V:Vch)(ps:List (Option Nat))(B:Bask)(S:Stnd)(_:vs=[.ref v, .ref a, .ref b, .ref x])(_:VchIs d H v V)(_:SqL K H a (ps.map pV))(_:BaskIs d.qe d.qg H b B)(_:StndIs d.qc H x S)(_:Wf ps B S)(_:VchOk ps V)(_:∀(H':Hp)(x':Addr),Same H H'->H x'=none->StndN d.qc H H' x' (aftM V ps (kds B) S)->Q (.ref x') H'):kih K d vs H Q E_
theorem Xz:kao ["voucher","parents","basket","standing","piece_cuts","left"] ["voucher","parents","basket","standing"] (kag khv):=by ac_rfl
theorem kk9(W:WB K mg d base):FO P w W 5 d.X3 d.X4 ["voucher","parents","basket","standing"] (kih K d):=by
 exists W.ZX.F,Xz
 ·obtain⟨v,a,b,x,Vc,ps,B,S,rfl,hV,hA,hB,hS,wf,vo,k⟩:=h
  exists Xx,kcu,W
  exists qL,kbk,W
  exists Xy,kch,W
  exists UI,kec,W
  exists hr1,1,hr,0
  exists hr2,2,hr,0
  exists hr3,3,hr,0
  refine⟨_,kac (psl (i:=4) Xz.nd (pcl Xx hr W.Q3 (kaa (pv 0) (kaa (pv 1) (kaa (pv 2) (kaa (pv 3) kae))))))
   (kac (psl (i:=5) Xz.nd (kaX (W.qx.mk' W.qc) qL hr3 rfl W.qc.m W.qx.b .nil pass0 (kaa (pv 2) kae)))
   (kac (kaH (pv 5) (kaK (r:=ka4 K) kaA (by rfl) W.B.list kbj (kaa (kak (K:=K) (pv 3) rfl) kae)) rfl)
   (kac (kaH (pv 5) (kbz (N:=["price","cut"]) (CompScope.plain rfl (by decide +kernel) (by decide +kernel) (by decide +kernel) (show(["price","cut"]:List Str).Nodup by decide +kernel)) rfl (kfR rfl W.B.zip (kaa (kak (K:=K) (pv 3) rfl) (kaa (pv 4) kae))) (fun _ _ _ _=>kby (K:=K) (n:=2) rfl (kaC (pgn (i:=0) (show(["price","cut"]:List Str).Nodup by decide +kernel)) (kaC (pgn (i:=1) (show(["price","cut"]:List Str).Nodup by decide +kernel)) kbx))) (fun _ _ _ _=>(pe_op kgA (pv 0) (pv 1)))) rfl)
   (kac (kaH (pv 5) (pe_op kgA (kak (K:=K) (pv 3) rfl) (pcl Xy hr2 W.Q4 (kaa (pv 0) (kaa (pv 3) kae)))) rfl)
   (kac (kaH (pv 5) (pcl UI hr1 W.Z9 (kaa (pv 0) (kaa (pv 3) (kaa (pv 4) kae)))) rfl)
   (kaf (kan (pv 5)))))))),?_⟩
  have np:=wf.np
  have lp:=wf.lp
  have lcut:(cutM Vc ps (kds B) S).1.length=S.pr.length:=(kkw wf.nn wf.cg.1 vo.so fun m e=>(vo.ms.most m e).1).1.1
  exists Y4
  refine⟨_,rfl,_,rfl,_,rfl,_,rfl,v,a,b,x,Vc,ps,B,S,rfl,hV,hA,hB,hS,wf,vo,fun H1 pc s1 f1 h1=>?_⟩
  obtain⟨l,ls,hb1,hl1,hL1⟩:=id (hB.same s1)
  symm
  exists Y4
  refine⟨_,rfl,kj2 hb1 hl1 hL1 wf.nl wf.ok fun H2 y s2 f2 dxy fsy hy ly lyw=>?_⟩
  have fy:H y=none:=none_of s1 f2
  have s02:=s1.trans s2
  obtain⟨o,p,mk,⟨dxs,fss,hx,l1,l2,l3,l4,l5⟩,ho,hp,hmk⟩:=id hS
  symm
  exists Y4
  refine⟨_,rfl,x,d.qc,dxs,fss,_,rfl,s02 _ _ hx,W.qc.cl,W.qC,l1,o,_,rfl, .inl (SqL.of (s02 _ _ ho)),fun q1 hq1=>?_⟩
  have n1:q1≠y:=(kah hy hq1).symm
  symm
  exists Y4
  refine⟨_,rfl,y,d.qc,dxy,fsy,rfl,kam hq1 _ _ hy,W.qc.cl,W.qC,few (by omega),?_⟩
  have s3:Same H (upd (upd H2 q1 (.lst (S.ow.map iV))) y (.ins d.qc dxy (putF "owners" (.ref q1) fsy))):=kaq fy (s02.trans (kam hq1))
  have e3:(upd (upd H2 q1 (.lst (S.ow.map iV))) y (.ins d.qc dxy (putF "owners" (.ref q1) fsy))) q1=some (.lst (S.ow.map iV)):=by rw[kaj n1,kad]
  have y3:(upd (upd H2 q1 (.lst (S.ow.map iV))) y (.ins d.qc dxy (putF "owners" (.ref q1) fsy))) y=some (.ins d.qc dxy (putF "owners" (.ref q1) fsy)):=kad
  have c3:(upd (upd H2 q1 (.lst (S.ow.map iV))) y (.ins d.qc dxy (putF "owners" (.ref q1) fsy))) pc=some (.lst ((cutM Vc ps (kds B) S).1.map V.int)):=by
   rw[kaj (kah h1 f2)]
   symm
   exact kam hq1 _ _ (s2 _ _ h1)
  have f3:=Nx (kal (f:="owners") (v:=.ref q1) ly) (by decide:11<=20)
  generalize upd (upd H2 q1 (.lst (S.ow.map iV))) y (.ins d.qc dxy (putF "owners" (.ref q1) fsy))=H3 at *
  have emin:min (S.pr.map V.int).length ((cutM Vc ps (kds B) S).1.map V.int).length=S.pr.length:=by rw[Nq,Nq,lcut,Ei]
  symm
  exists Y4
  refine⟨_,rfl,x,d.qc,dxs,fss,_,rfl,s3 _ _ hx,W.qc.cl,W.qw,l2,_,rfl,p,pc,_,_,rfl,s3 _ _ hp,c3,
   kiG (xs:=S.pr.map V.int) (ys:=(cutM Vc ps (kds B) S).1.map V.int) (fun i σ zs H'=>Same H3 H'/\zs=((N2 (· - ·) S.pr (cutM Vc ps (kds B) S).1).take i).map V.int/\∃v0 v1:Option V,σ=[v0,v1])
    ⟨Same.refl _,rfl,none,none,rfl⟩ (by rw[emin];exact ND (kap (by omega))) (fun i σ zs H' hi h=>⟨h.1 _ _ (s3 _ _ hp),h.1 _ _ c3,by rw[h.2.1,Nq,NK,ML,lcut];rw[emin] at hi;omega⟩) ?_ ?_⟩
  ·rintro i y1 y2 t σ zs H4 hy1 hy2 ⟨s4,rfl,v0,v1,rfl⟩ ht
   obtain⟨z1,ez1,rfl⟩:=kbo hy1
   obtain⟨z2,ez2,rfl⟩:=kbo hy2
   symm
   exists Y6
   refine⟨t,_,rfl,SqT.of kad,rfl,_,_,rfl,_,_,rfl,rfl,_,rfl,_,rfl,_,_,rfl,rfl,s4.trans (kam ht),?_,_,_,rfl⟩
   rw[kbW (r:=z1-z2) (by rw[Em,ez1,ez2]),NC]
   rfl
  rintro σ zs H4 ⟨s4,rfl,v0,v1,rfl⟩ q2 hq2
  rw[emin,MC (by rw[ML,lcut];omega)]
  have n2:q2≠y:=(kah (s4 _ _ y3) hq2).symm
  have n12:q1≠q2:=kah (s4 _ _ e3) hq2
  have s5:=kam (o:=.lst ((N2 (· - ·) S.pr (cutM Vc ps (kds B) S).1).map V.int)) hq2
  symm
  exists Y4
  refine⟨_,rfl,y,d.qc,dxy,_,rfl,s5 _ _ (s4 _ _ y3),W.qc.cl,W.qw,few f3,?_⟩
  have s6:Same H (upd (upd H4 q2 (.lst ((N2 (· - ·) S.pr (cutM Vc ps (kds B) S).1).map V.int))) y (.ins d.qc dxy (putF "prices" (.ref q2) (putF "owners" (.ref q1) fsy)))):=kaq fy ((s3.trans s4).trans s5) (nx (s5 _ _ (s4 _ _ y3)))
  have e6:(upd (upd H4 q2 (.lst ((N2 (· - ·) S.pr (cutM Vc ps (kds B) S).1).map V.int))) y (.ins d.qc dxy (putF "prices" (.ref q2) (putF "owners" (.ref q1) fsy)))) q1=some (.lst (S.ow.map iV)):=by
   rw[kaj n1]
   symm
   exact s5 _ _ (s4 _ _ e3)
  have p6:(upd (upd H4 q2 (.lst ((N2 (· - ·) S.pr (cutM Vc ps (kds B) S).1).map V.int))) y (.ins d.qc dxy (putF "prices" (.ref q2) (putF "owners" (.ref q1) fsy)))) q2=some (.lst ((N2 (· - ·) S.pr (cutM Vc ps (kds B) S).1).map V.int)):=by rw[kaj n2,kad]
  have y6:(upd (upd H4 q2 (.lst ((N2 (· - ·) S.pr (cutM Vc ps (kds B) S).1).map V.int))) y (.ins d.qc dxy (putF "prices" (.ref q2) (putF "owners" (.ref q1) fsy)))) y=some (.ins d.qc dxy (putF "prices" (.ref q2) (putF "owners" (.ref q1) fsy))):=kad
  have c6:(upd (upd H4 q2 (.lst ((N2 (· - ·) S.pr (cutM Vc ps (kds B) S).1).map V.int))) y (.ins d.qc dxy (putF "prices" (.ref q2) (putF "owners" (.ref q1) fsy)))) pc=some (.lst ((cutM Vc ps (kds B) S).1.map V.int)):=by
   rw[kaj (kah h1 f2)]
   symm
   exact s5 _ _ (s4 _ _ c3)
  have f6:=Nx (kal (f:="prices") (v:=.ref q2) (kal (f:="owners") (v:=.ref q1) ly)) (by decide:12<=20)
  generalize upd (upd H4 q2 (.lst ((N2 (· - ·) S.pr (cutM Vc ps (kds B) S).1).map V.int))) y (.ins d.qc dxy (putF "prices" (.ref q2) (putF "owners" (.ref q1) fsy)))=H6 at *
  symm
  exists Y4
  refine⟨_,rfl,x,d.qc,dxs,fss,_,rfl,s6 _ _ hx,W.qc.cl,W.qV,l3,_,rfl,_,rfl,v,x,Vc,S,rfl,hV.same s6,hS.same s6,_,_,rfl,rfl,?_⟩
  rw[<-kko (ps:=ps) (kk:=kds B) (S:=S) vo]
  symm
  exists Y4
  refine⟨_,rfl,y,d.qc,dxy,_,rfl,y6,W.qc.cl,W.qV,few f6,?_⟩
  have s7:Same H (upd H6 y (.ins d.qc dxy (putF "carriage" (.int (S.cg-(cutM Vc ps (kds B) S).2)) (putF "prices" (.ref q2) (putF "owners" (.ref q1) fsy))))):=kaq fy s6
  have e7:(upd H6 y (.ins d.qc dxy (putF "carriage" (.int (S.cg-(cutM Vc ps (kds B) S).2)) (putF "prices" (.ref q2) (putF "owners" (.ref q1) fsy))))) q1=some (.lst (S.ow.map iV)):=by rw[kaj n1];exact e6
  have p7:(upd H6 y (.ins d.qc dxy (putF "carriage" (.int (S.cg-(cutM Vc ps (kds B) S).2)) (putF "prices" (.ref q2) (putF "owners" (.ref q1) fsy))))) q2=some (.lst ((N2 (· - ·) S.pr (cutM Vc ps (kds B) S).1).map V.int)):=by rw[kaj n2];exact p6
  have y7:(upd H6 y (.ins d.qc dxy (putF "carriage" (.int (S.cg-(cutM Vc ps (kds B) S).2)) (putF "prices" (.ref q2) (putF "owners" (.ref q1) fsy))))) y=some (.ins d.qc dxy (putF "carriage" (.int (S.cg-(cutM Vc ps (kds B) S).2)) (putF "prices" (.ref q2) (putF "owners" (.ref q1) fsy)))):=kad
  have c7:(upd H6 y (.ins d.qc dxy (putF "carriage" (.int (S.cg-(cutM Vc ps (kds B) S).2)) (putF "prices" (.ref q2) (putF "owners" (.ref q1) fsy))))) pc=some (.lst ((cutM Vc ps (kds B) S).1.map V.int)):=by rw[kaj (kah h1 f2)];exact c6
  have f7:=Nx (kal (f:="carriage") (v:=.int (S.cg-(cutM Vc ps (kds B) S).2)) (kal (f:="prices") (v:=.ref q2) (kal (f:="owners") (v:=.ref q1) ly))) (by decide:13<=20)
  generalize upd H6 y (.ins d.qc dxy (putF "carriage" (.int (S.cg-(cutM Vc ps (kds B) S).2)) (putF "prices" (.ref q2) (putF "owners" (.ref q1) fsy))))=H7 at *
  symm
  exists Y4
  refine⟨_,rfl,_,rfl,_,rfl,v,x,pc,Vc,S,_,rfl,hV.same s7,hS.same s7,c7,by rw[lcut,lp],np,by rw[wf.lm];exact wf.nl,fun l hl=>?_,fun H8 q3 s8 f8 h8=>?_⟩
  ·obtain⟨i,hi⟩:=M4.mp hl
   rw[wf.lm]
   symm
   exact wf.line hi
  have n3:q3≠y:=(kah y7 f8).symm
  symm
  exists Y4
  refine⟨_,rfl,y,d.qc,dxy,_,rfl,s8 _ _ y7,W.qc.cl,W.Qh,few f7,?_⟩
  symm
  exists Y4
  refine⟨_,rfl,k _ y (kaq fy (s7.trans s8) (nx (s8 _ _ y7))) fy ⟨fy,q1,q2,q3,⟨dxy,_,kad,?_,?_,?_,?_,?_⟩,none_of s02 hq1,none_of (s3.trans s4) hq2,none_of s7 f8,?_,?_,?_⟩⟩
  ·ac_nf
  ·ac_nf
  ·ac_nf
   rfl
  ·ac_nf
  ·rw[kab,if_neg (by decide +kernel),kab,if_neg (by decide +kernel),kab,if_neg (by decide +kernel),kab,if_neg (by decide +kernel)]
   symm
   exact lyw
  ·rw[kaj n1]
   symm
   exact s8 _ _ e7
  ·rw[kaj n2]
   symm
   exact s8 _ _ p7
  ·rw[kaj n3]
   symm
   exact h8
inductive khj (d:D) (vs:List V) (H:Hp) (Q:VK) (E_:XK):Prop
 |ct (H0:Hp)(x dx p vl rl:Addr)(ps vs' rs:List V)(bk:Str)(_:vs=[.ref x, .ref p, .ref vl, .ref rl, .str bk])(_:H0 x=none)(_:Same H0 H)(_:H x=some (.ins d.qd dx []))(_:H0 p=some (.lst ps))(_:H0 vl=some (.lst vs'))(_:H0 rl=some (.lst rs))(_:∀(H':Hp)(p' vl' rl':Addr)(fs:List (Str×V)),Same H0 H'->H0 p'=none->H0 vl'=none->H0 rl'=none->H' p'=some (.lst ps)->H' vl'=some (.lst vs')->H' rl'=some (.lst rs)->H' x=some (.ins d.qd dx fs)->fs.lookup ("parents" :Str)=some (.ref p')->fs.lookup ("vouchers" :Str)=some (.ref vl')->fs.lookup ("rules" :Str)=some (.ref rl')->fs.lookup ("back" :Str)=some (.str bk)->Q .non H'):khj d vs H Q E_
theorem kgv:kao ["self","parents","vouchers","rules","back"] ["self","parents","vouchers","rules","back"] (kag ka7):=by ac_rfl
theorem kgK(W:WB K mg d base):FO P w W 1 d.ZR d.Q1 ["self","parents","vouchers","rules","back"] (khj d):=by
 exists W.VS.F,kgv
 ·obtain⟨H0,x,dx,p,vl,rl,ps,vs',rs,bk,rfl,fx,s0,hx,hp,hvl,hrl,k⟩:=h
  refine⟨_,kac (kaH (pv 0) (kaK (r:=ka4 K) kaA (by rfl) W.B.list kbj (kaa (pv 1) kae)) rfl)
   (kac (kaH (pv 0) (kaK (r:=ka4 K) kaA (by rfl) W.B.list kbj (kaa (pv 2) kae)) rfl)
   (kac (kaH (pv 0) (kaK (r:=ka4 K) kaA (by rfl) W.B.list kbj (kaa (pv 3) kae)) rfl)
   (kaf (kaH (pv 0) (pv 4) rfl)))),?_⟩
  exists Y4
  refine⟨_,rfl,p,_,rfl, .inl (SqL.of (s0 _ _ hp)),fun p' hp'=>?_⟩
  have n1:=kam (o:=.lst ps) hp'
  have fp:=s0.free hp'
  have np:p'≠x:=(kah hx hp').symm
  have e1:(upd H p' (.lst ps)) p'=some (.lst ps):=kad
  have s1:=s0.trans n1
  have hx1:=n1 _ _ hx
  clear n1
  generalize upd H p' (.lst ps)=H1 at *
  symm
  exists Y4
  refine⟨_,rfl,x,d.qd,dx,[],rfl,hx1,W.qd.cl,W.qO,by decide,?_⟩
  have s2:Same H0 (upd H1 x (.ins d.qd dx (putF "parents" (.ref p') []))):=kaq fx s1 (nx hx1)
  have e2:(upd H1 x (.ins d.qd dx (putF "parents" (.ref p') []))) p'=some (.lst ps):=by rw[kaj np];exact e1
  have hx2:(upd H1 x (.ins d.qd dx (putF "parents" (.ref p') []))) x=some (.ins d.qd dx (putF "parents" (.ref p') [])):=kad
  generalize upd H1 x (.ins d.qd dx (putF "parents" (.ref p') []))=H2 at *
  symm
  exists Y4
  refine⟨_,rfl,vl,_,rfl, .inl (SqL.of (s2 _ _ hvl)),fun v' hv'=>?_⟩
  have n3:=kam (o:=.lst vs') hv'
  have fv:=s2.free hv'
  have nv:v'≠x:=(kah hx2 hv').symm
  have s3:=s2.trans n3
  have e3:=n3 _ _ e2
  have ev3:(upd H2 v' (.lst vs')) v'=some (.lst vs'):=kad
  have hx3:=n3 _ _ hx2
  clear n3
  generalize upd H2 v' (.lst vs')=H3 at *
  symm
  exists Y4
  refine⟨_,rfl,x,d.qd,dx,_,rfl,hx3,W.qd.cl,W.qp,few (Nx (kal (n:=0) (Nt _)) (by decide)),?_⟩
  have s4:Same H0 (upd H3 x (.ins d.qd dx (putF "vouchers" (.ref v') (putF "parents" (.ref p') [])))):=kaq fx s3 (nx hx3)
  have e4:(upd H3 x (.ins d.qd dx (putF "vouchers" (.ref v') (putF "parents" (.ref p') [])))) p'=some (.lst ps):=by rw[kaj np];exact e3
  have ev4:(upd H3 x (.ins d.qd dx (putF "vouchers" (.ref v') (putF "parents" (.ref p') [])))) v'=some (.lst vs'):=by rw[kaj nv];exact ev3
  have hx4:(upd H3 x (.ins d.qd dx (putF "vouchers" (.ref v') (putF "parents" (.ref p') [])))) x=some (.ins d.qd dx (putF "vouchers" (.ref v') (putF "parents" (.ref p') []))):=kad
  generalize upd H3 x (.ins d.qd dx (putF "vouchers" (.ref v') (putF "parents" (.ref p') [])))=H4 at *
  symm
  exists Y4
  refine⟨_,rfl,rl,_,rfl, .inl (SqL.of (s4 _ _ hrl)),fun r' hr'=>?_⟩
  have n5:=kam (o:=.lst rs) hr'
  have fr:=s4.free hr'
  have nr:r'≠x:=(kah hx4 hr').symm
  have s5:=s4.trans n5
  have e5:=n5 _ _ e4
  have ev5:=n5 _ _ ev4
  have er5:(upd H4 r' (.lst rs)) r'=some (.lst rs):=kad
  have hx5:=n5 _ _ hx4
  clear n5
  generalize upd H4 r' (.lst rs)=H5 at *
  symm
  exists Y4
  refine⟨_,rfl,x,d.qd,dx,_,rfl,hx5,W.qd.cl,W.qX,few (Nx (kal (kal (n:=0) (Nt _))) (by decide)),?_⟩
  have s6:Same H0 (upd H5 x (.ins d.qd dx (putF "rules" (.ref r') (putF "vouchers" (.ref v') (putF "parents" (.ref p') []))))):=kaq fx s5 (nx hx5)
  have hx6:(upd H5 x (.ins d.qd dx (putF "rules" (.ref r') (putF "vouchers" (.ref v') (putF "parents" (.ref p') []))))) x=some (.ins d.qd dx (putF "rules" (.ref r') (putF "vouchers" (.ref v') (putF "parents" (.ref p') [])))):=kad
  symm
  exists Y4
  refine⟨_,rfl,_,rfl,x,d.qd,dx,_,rfl,hx6,W.qd.cl,W.Ue,few (Nx (kal (kal (kal (n:=0) (Nt _)))) (by decide)),?_⟩
  symm
  refine k _ p' v' r' _ (kaq fx s6 (nx hx6)) fp fv fr ?_ ?_ ?_ kad ?_ ?_ ?_ ?_
  ·rw[kaj np,kaj np];exact e5
  ·rw[kaj nv,kaj nv];exact ev5
  ·rw[kaj nr,kaj nr];exact er5
  ·ac_nf
  ·ac_nf
  ·ac_nf
  ·ac_nf
theorem kmI{d:D}{H:Hp}{p vl rl:Addr}{T:TillD}{va ra:List Addr}{R:Addr->Hp->Prop}{E:XK}(hp:H p=some (.lst (T.ps.map pV)))(hvl:H vl=some (.lst (va.map V.ref)))(hv:P2 (fun a V=>VchIs d H a V) va T.vs)(hrl:H rl=some (.lst (ra.map V.ref)))(hr:P2 (fun a r=>RulIs H a r) ra T.rs)
  (k:∀(H':Hp)(x:Addr),Same H H'->H x=none->TillIs d H' x T->R x H'):
  ∀x dx,H x=none->H dx=none->dx≠x->khj d [.ref x, .ref p, .ref vl, .ref rl, .str T.bk] (upd (upd H dx (.own x)) x (.ins d.qd dx [])) (fun v H2=>v=.non/\R x H2) E:=
 fun x dx nx nd _=>⟨H,x,dx,p,vl,rl,_,_,_,_,rfl,nx,kbd nx nd,kad,hp,hvl,hrl,fun H' p' vl' rl' fs s f1 f2 f3 h1 h2 h3 hx l1 l2 l3 l4=>⟨rfl,k H' x s nx ⟨dx,fs,p',vl',rl',va,ra,hx,l1,l2,l3,l4,h1,h2,hv.mono fun a V h=>h.same s,h3,hr.mono fun a r h=>s _ _ h⟩⟩⟩
inductive khk (f:List Rul->List Nat->Nat->Bool) (vs:List V) (H:Hp) (Q:VK) (E_:XK):Prop
 |ct (rl u:Addr)(ra:List Addr)(rs:List Rul)(used:List Nat)(n:Nat)(_:vs=[.ref rl, .ref u,iV n])(_:H rl=some (.lst (ra.map V.ref)))(_:P2 (fun a r=>RulIs H a r) ra rs)(_:H u=some (.lst (used.map iV)))(_:Q (.bl (f rs used n)) H):khk f vs H Q E_
theorem kkL{f:Rul->Bool}{rs:List Rul}{i:Nat}{r:Rul}(e:rs[i]?=some r)(h:f r=true):rs.any f=true:=List.any_eq_true.mpr ⟨r,Ny e,h⟩
theorem kmb{f:Rul->Bool}{rs:List Rul}{n:Nat}(hn:n=rs.length)(h:∀r∈rs.take n,f r=false):rs.any f=false:=by
 rw[hn,NY] at h
 cases e:rs.any f with
 |false=>rfl
 |true=>
  obtain⟨r,hr,e2⟩:=List.any_eq_true.mp e
  rw[h r hr] at e2
  cases e2
theorem kca{f:Rul->Bool}{rs:List Rul}{i:Nat}{r:Rul}(e:rs[i]?=some r)(h:∀q∈rs.take i,f q=false)(hr:f r=false):∀q∈rs.take (i+1),f q=false:=fun q hq=>by
 rw[ME,e] at hq
 rcases N6.mp hq with z|z
 ·exact h q z
 ·have e2:q=r:=by simpa using z
  rw[e2]
  exact hr
theorem QH:kao ["rules","used","number","word","one","other"] ["rules","used","number"] (kag kck):=by ac_rfl
theorem keO(W:WB K mg d base):FO P w W 1 d.Ys d.Yt ["rules","used","number"] (khk kfs):=by
 exists W.Ve.F,QH
 ·obtain⟨rl,u,ra,rs,used,n,rfl,hrl,hr,hu,k⟩:=h
  refine⟨_,kac (kaU PassesOwn.never rfl (kaE (K:=K) (pv 0)) (kby (K:=K) (n:=3) rfl (kaC (pgn (i:=3) QH.nd) (kaC (pgn (i:=4) QH.nd) (kaC (pgn (i:=5) QH.nd) kbx))))
   (kaf (ps_if (PW.pt (kbS (kar op_eq (pv 3) kb5 (kaw _)) (kbt (PW.pt (pw_or (PW.pt (kbS (kar op_eq (pv 4) (pv 2) (kaw _)) (kbt (kar kb7 (pv 5) (pv 1) (by with_unfolding_all rfl))))) (keC (PW.pt (kbS (kar op_eq (pv 5) (pv 2) (kaw _)) (kbt (kar kb7 (pv 4) (pv 1) (by with_unfolding_all rfl))))))))))) (kaf (kan pe_bl)) (kas))))
   (kaf (kan pe_bl)),?_⟩
  refine⟨_,rfl,rl,rfl,⟨_,SqL.of hrl⟩,ka3 (xs:=ra.map V.ref) (fun i σ H'=>H'=H/\(∀r∈rs.take i,nevR used n r=false)/\∃v3 v4 v5:Option V,σ=[some (.ref rl),some (.ref u),some (iV n),v3,v4,v5])
   ⟨rfl,(fun r hr=>by simp at hr),none,none,none,rfl⟩ (fun i σ H' _ h=>by rw[h.1];exact SqL.of hrl) ?_ ?_⟩
  ·rintro i y σ H' hy ⟨rfl,hno,v3,v4,v5,rfl⟩
   obtain⟨a,ea,rfl⟩:=kbR hy
   obtain⟨r,er,hra⟩:=hr.at ea
   have yes:nevR used n r=true->Q (.bl true) H':=fun e=>by
    have z:=kkL (f:=nevR used n) er e
    unfold kfs at k
    rw[z] at k
    exact k
   refine⟨a,_,rfl,SqT.of hra,rfl,_,_,rfl,_,_,rfl,_,_,rfl,rfl,?_⟩
   refine⟨_,rfl,rfl,_,rfl,?_⟩
   show if decide (V.str r.w=V.str "never")=true then _ else _
   rw[eq_str]
   by_cases hw:r.w=("never" :Str)
   ·rw [decide_eq_true hw]
    refine iteT ⟨_,rfl,_,rfl,rfl,_,rfl,?_⟩
    show if decide (iV r.a=iV n)=true then _ else _
    rw[kg0]
    by_cases ha:r.a=n
    ·rw[decide_eq_true ha]
     refine iteT ⟨_,rfl,_,rfl,u,_,rfl, .inl (SqL.of hu),rfl,kcs _,_,rfl,?_⟩
     rw[if_neg NB,kcr]
     cases hb:used.contains r.b with
     |true=>exact iteT (iteT (yes (by unfold nevR;rw[decide_eq_true hw,decide_eq_true ha,hb];rfl)))
     | false=>
      refine iteF ⟨_,rfl,_,rfl,rfl,_,rfl,?_⟩
      show if decide (iV r.b=iV n)=true then _ else _
      rw[kg0]
      by_cases hc:r.b=n
      ·rw[decide_eq_true hc]
       refine iteT ⟨_,rfl,_,rfl,u,_,rfl, .inl (SqL.of hu),rfl,kcs _,_,rfl,?_⟩
       rw[if_neg NB,kcr]
       cases hd:used.contains r.a with
       |true=>exact iteT (yes (by unfold nevR;rw[decide_eq_true hw,decide_eq_true ha,hb,decide_eq_true hc,hd];rfl))
       |false=>exact iteF ⟨rfl,kca er hno (by unfold nevR;rw[decide_eq_true hw,decide_eq_true ha,hb,decide_eq_true hc,hd];rfl),_,_,_,rfl⟩
      ·rw[decide_eq_false hc]
       exact iteF (iteF ⟨rfl,kca er hno (by unfold nevR;rw[decide_eq_true hw,decide_eq_true ha,hb,decide_eq_false hc];rfl),_,_,_,rfl⟩)
    ·rw[decide_eq_false ha]
     refine iteF (iteF ⟨_,rfl,_,rfl,rfl,_,rfl,?_⟩)
     show if decide (iV r.b=iV n)=true then _ else _
     rw[kg0]
     by_cases hc:r.b=n
     ·rw[decide_eq_true hc]
      refine iteT ⟨_,rfl,_,rfl,u,_,rfl, .inl (SqL.of hu),rfl,kcs _,_,rfl,?_⟩
      rw[if_neg NB,kcr]
      cases hd:used.contains r.a with
      |true=>exact iteT (yes (by unfold nevR;rw[decide_eq_true hw,decide_eq_false ha,decide_eq_true hc,hd];rfl))
      |false=>exact iteF ⟨rfl,kca er hno (by unfold nevR;rw[decide_eq_true hw,decide_eq_false ha,decide_eq_true hc,hd];rfl),_,_,_,rfl⟩
     ·rw[decide_eq_false hc]
      exact iteF (iteF ⟨rfl,kca er hno (by unfold nevR;rw[decide_eq_true hw,decide_eq_false ha,decide_eq_false hc];rfl),_,_,_,rfl⟩)
   ·rw[decide_eq_false hw]
    refine iteF (iteF ⟨rfl,kca er hno ?_,_,_,_,rfl⟩)
    unfold nevR
    rw[decide_eq_false hw]
    rfl
  ·rintro σ H' ⟨rfl,hno,v3,v4,v5,rfl⟩
   have z:=kmb (by rw[Nq];exact hr.len) hno
   unfold kfs at k
   rw[z] at k
   exact k
theorem QI:kao ["rules","used","number","word","one","other"] ["rules","used","number"] (kag kcl):=by ac_rfl
theorem keP(W:WB K mg d base):FO P w W 1 d.Yu d.Yv ["rules","used","number"] (khk kfy):=by
 exists W.Vf.F,QI
 ·obtain⟨rl,u,ra,rs,used,n,rfl,hrl,hr,hu,k⟩:=h
  refine⟨_,kac (kaU PassesOwn.never rfl (kaE (K:=K) (pv 0)) (kby (K:=K) (n:=3) rfl (kaC (pgn (i:=3) QI.nd) (kaC (pgn (i:=4) QI.nd) (kaC (pgn (i:=5) QI.nd) kbx))))
   (kaf (ps_if (PW.pt (kbS (kar op_eq (pv 3) kb5 (kaw _)) (kbS (kar op_eq (pv 4) (pv 2) (kaw _)) (kbt (kar kb7 (pv 5) (pv 1) (by with_unfolding_all rfl)))))) (kaf (kan pe_bl)) (kas))))
   (kaf (kan pe_bl)),?_⟩
  refine⟨_,rfl,rl,rfl,⟨_,SqL.of hrl⟩,ka3 (xs:=ra.map V.ref) (fun i σ H'=>H'=H/\(∀r∈rs.take i,ahdR used n r=false)/\∃v3 v4 v5:Option V,σ=[some (.ref rl),some (.ref u),some (iV n),v3,v4,v5])
   ⟨rfl,(fun r hr=>by simp at hr),none,none,none,rfl⟩ (fun i σ H' _ h=>by rw[h.1];exact SqL.of hrl) ?_ ?_⟩
  ·rintro i y σ H' hy ⟨rfl,hno,v3,v4,v5,rfl⟩
   obtain⟨a,ea,rfl⟩:=kbR hy
   obtain⟨r,er,hra⟩:=hr.at ea
   have yes:ahdR used n r=true->Q (.bl true) H':=fun e=>by
    have z:=kkL (f:=ahdR used n) er e
    unfold kfy at k
    rw[z] at k
    exact k
   refine⟨a,_,rfl,SqT.of hra,rfl,_,_,rfl,_,_,rfl,_,_,rfl,rfl,?_⟩
   refine⟨_,rfl,rfl,_,rfl,?_⟩
   show if decide (V.str r.w=V.str "ahead")=true then _ else _
   rw[eq_str]
   by_cases hw:r.w=("ahead" :Str)
   ·rw[decide_eq_true hw]
    refine iteT ⟨_,rfl,_,rfl,rfl,_,rfl,?_⟩
    show if decide (iV r.a=iV n)=true then _ else _
    rw[kg0]
    by_cases ha:r.a=n
    ·rw[decide_eq_true ha]
     refine iteT ⟨_,rfl,_,rfl,u,_,rfl, .inl (SqL.of hu),rfl,kcs _,_,rfl,?_⟩
     rw[if_neg NB,kcr]
     cases hb:used.contains r.b with
     |true=>exact iteT (yes (by unfold ahdR;rw[decide_eq_true hw,decide_eq_true ha,hb];rfl))
     |false=>exact iteF ⟨rfl,kca er hno (by unfold ahdR;rw[decide_eq_true hw,decide_eq_true ha,hb];rfl),_,_,_,rfl⟩
    ·rw[decide_eq_false ha]
     exact iteF (iteF ⟨rfl,kca er hno (by unfold ahdR;rw[decide_eq_true hw,decide_eq_false ha];rfl),_,_,_,rfl⟩)
   ·rw[decide_eq_false hw]
    refine iteF (iteF ⟨rfl,kca er hno ?_,_,_,_,rfl⟩)
    unfold ahdR
    rw[decide_eq_false hw]
    rfl
  ·rintro σ H' ⟨rfl,hno,v3,v4,v5,rfl⟩
   have z:=kmb (by rw[Nq];exact hr.len) hno
   unfold kfy at k
   rw[z] at k
   exact k
inductive kgp (vs:List V) (H:Hp) (Q:VK) (E_:XK):Prop
 |ct (rl u:Addr)(ra:List Addr)(rs:List Rul)(order:List Nat)(_:vs=[.ref rl, .ref u])(_:H rl=some (.lst (ra.map V.ref)))(_:P2 (fun a r=>RulIs H a r) ra rs)(_:H u=some (.lst (order.map iV)))(_:Q (pV (onlyM rs order)) H):kgp vs H Q E_
theorem kiD{f:Rul->Bool}:∀{rs:List Rul}{i:Nat}{r:Rul},rs[i]?=some r->f r=true->(∀q∈rs.take i,f q=false)->rs.find? f=some r
 |[],i,r,e,_,_=>by simp at e
 |q::rs,0,r,e,h,_=>by
  have e2:q=r:=by simpa using e
  subst e2
  simp[h]
 |q::rs,i+1,r,e,h,hno=>by
  have h1:=hno q (by simp)
  rw[List.find?_cons_of_neg (by rw[h1];simp)]
  exact kiD (by simpa using e) h fun z hz=>hno z (by simp[hz])
theorem kmS{f:Rul->Bool}{rs:List Rul}{n:Nat}(hn:n=rs.length)(h:∀r∈rs.take n,f r=false):rs.find? f=none:=by
 rw[hn,NY] at h
 exact List.find?_eq_none.mpr fun r hr=>by rw[h r hr];simp
theorem QJ:kao ["rules","order","word","one","other"] ["rules","order"] (kag kbv):=by ac_rfl
theorem kdt(W:WB K mg d base):FO P w W 1 d.Yw d.Yx ["rules","order"] kgp:=by
 exists W.Vg.F,QJ
 ·obtain⟨rl,u,ra,rs,order,rfl,hrl,hr,hu,k⟩:=h
  refine⟨_,kac (kaU PassesOwn.never rfl (kaE (K:=K) (pv 0)) (kby (K:=K) (n:=3) rfl (kaC (pgn (i:=2) QJ.nd) (kaC (pgn (i:=3) QJ.nd) (kaC (pgn (i:=4) QJ.nd) kbx))))
   (kaf (ps_if (PW.pt (kbS (kar op_eq (pv 2) kb5 (kaw _)) (kbS (kar kb7 (pv 3) (pv 1) (by with_unfolding_all rfl)) (kbt (kar kdX (pv 4) (pv 1) (by with_unfolding_all rfl)))))) (kaf (kan (pv 3))) (kas))))
   (kaf (kan kaJ)),?_⟩
  refine⟨_,rfl,rl,rfl,⟨_,SqL.of hrl⟩,ka3 (xs:=ra.map V.ref) (fun i σ H'=>H'=H/\(∀r∈rs.take i,loneM order r=false)/\∃v3 v4 v5:Option V,σ=[some (.ref rl),some (.ref u),v3,v4,v5])
   ⟨rfl,(fun r hr=>by simp at hr),none,none,none,rfl⟩ (fun i σ H' _ h=>by rw[h.1];exact SqL.of hrl) ?_ ?_⟩
  ·rintro i y σ H' hy ⟨rfl,hno,v3,v4,v5,rfl⟩
   obtain⟨a,ea,rfl⟩:=kbR hy
   obtain⟨r,er,hra⟩:=hr.at ea
   refine⟨a,_,rfl,SqT.of hra,rfl,_,_,rfl,_,_,rfl,_,_,rfl,rfl,?_⟩
   refine⟨_,rfl,rfl,_,rfl,?_⟩
   show if decide (V.str r.w=V.str "only")=true then _ else _
   rw[eq_str]
   by_cases hw:r.w=("only" :Str)
   ·rw[decide_eq_true hw]
    refine iteT ⟨_,rfl,_,rfl,u,_,rfl, .inl (SqL.of hu),rfl,kcs _,_,rfl,?_⟩
    rw[if_neg NB,kcr]
    cases ha:order.contains r.a with
    | true=>
     refine iteT ⟨_,rfl,_,rfl,u,_,rfl, .inl (SqL.of hu),rfl,kcs _,_,rfl,?_⟩
     rw[if_pos rfl,kcr]
     cases hb:order.contains r.b with
     |true=>exact iteF ⟨rfl,kca er hno (by unfold loneM;rw[decide_eq_true hw,ha,hb];rfl),_,_,_,rfl⟩
     |false=>
      refine iteT ⟨_,rfl,?_⟩
      have z:=kiD (f:=loneM order) er (by unfold loneM;rw[decide_eq_true hw,ha,hb];rfl) hno
      unfold onlyM at k
      rw[z] at k
      exact k
    |false=>exact iteF (iteF ⟨rfl,kca er hno (by unfold loneM;rw[decide_eq_true hw,ha];rfl),_,_,_,rfl⟩)
   ·rw[decide_eq_false hw]
    refine iteF (iteF ⟨rfl,kca er hno ?_,_,_,_,rfl⟩)
    unfold loneM
    rw[decide_eq_false hw]
    rfl
  ·rintro σ H' ⟨rfl,hno,v3,v4,v5,rfl⟩
   have z:=kmS (by rw[Nq];exact hr.len) hno
   unfold onlyM at k
   rw[z] at k
   exact k
inductive kh2 (d:D) (vs:List V) (H:Hp) (Q:VK) (E_:XK):Prop
 |ct (t h u:Addr)(T:TillD)(hand:List Int)(used:List Nat)(n:Nat)(V:Vch)(_:vs=[.ref t, .ref h, .ref u,iV n])(_:TillIs d H t T)(_:H h=some (.lst (hand.map L2.V.int)))(_:H u=some (.lst (used.map iV)))(_:T.vs[n]?=some V)(_:hand.length=T.vs.length)(_:Q (sV (wordM V T.rs hand used n)) H):kh2 d vs H Q E_
theorem kd4:kao ["till","hand","used","number"] ["till","hand","used","number"] (kag kbX):=by ac_rfl
theorem kea(W:WB K mg d base):FO P w W 2 d.Yq d.Yr ["till","hand","used","number"] (kh2 d):=by
 exists W.Vd.F,kd4
 ·obtain⟨t,h,u,T,hand,used,n,Vc,rfl,hT,hh,hu,hn,hl,k⟩:=h
  obtain⟨dx,fs,p,vl,rl,va,ra,ht,t1,t2,t3,t4,hp,hvl,hva,hrl,hra⟩:=hT
  exists UJ,keO,W
  exists UK,keP,W
  refine⟨_,kac (ps_if (kar op_gt (pe_op kbe (pe_bm Mp PySem.F.slot_list_count PySem.F.type_list_count klb (pv 2) (kaa (pv 3) kae)) kai) (pe_ix (r:=rIxL K) kax (pv 1) (pv 3) (fun _ _=>rfl)) (kaw _)) (kaf (kan kb5)) (kas))
   (kac (ps_if (PW.pt (kbS (kaR (kak (K:=K) (kak (K:=K) (pe_ix (r:=rIxL K) kax (kak (K:=K) (pv 0) rfl) (pv 3) (fun _ _=>rfl)) rfl) rfl)) (kbt (kar kb7 (pv 3) (pv 2) (by with_unfolding_all rfl))))) (kaf (kan kb5)) (kas))
   (kac (ps_if (kaR (pcl UJ hr W.Ve (kaa (kak (K:=K) (pv 0) rfl) (kaa (pv 2) (kaa (pv 3) kae))))) (kaf (kan kb5)) (kas))
   (kac (ps_if (kaR (pcl UK hr W.Vf (kaa (kak (K:=K) (pv 0) rfl) (kaa (pv 2) (kaa (pv 3) kae))))) (kaf (kan kb5)) (kas))
   (kaf (kan kaJ))))),?_⟩
  obtain⟨v,ev⟩:=at_of (xs:=va) (i:=n) (by rw[hva.len];exact at_lt hn)
  obtain⟨Vc',eV',hV⟩:=hva.at ev
  rw[hn] at eV'
  cases eV'
  obtain⟨mA,dxv,fsv,hv,lvm,_,⟨dxm,fsm,hm,m1,m2,m3,m4,m5,m6⟩,hh',_⟩:=id hV
  obtain⟨z,ez⟩:=at_of (xs:=hand) (i:=n) (by rw[hl];exact at_lt hn)
  have eu:H u=some (.lst ((used.map fun(i:Nat)=>(i:Int)).map V.int)):=by rw[hu,NQ];rfl
  have eg:hand.getD n 0=z:=by rw[NL,ez];rfl
  refine⟨_,rfl, .inl ⟨rfl,_,SqL.of hu⟩,_,rfl,u,_,_,rfl,rfl,eu,_,_,rfl,rfl,_,rfl,_,rfl,h,_,_,_,rfl,rfl,SqL.of hh,kaz (v:=.int z) (by rw[Nz,ez];rfl),_,_,rfl,rfl,_,rfl,?_⟩
  rw[kmV]
  unfold wordM at k
  rw[eg] at k
  by_cases c1:z<(used.count n:Int)+1
  ·rw[if_pos c1] at k
   rw[show decide ((used.count n:Int)+1 > z)=true from decide_eq_true c1]
   exact iteT k
  rw[if_neg c1] at k
  rw[show decide ((used.count n:Int)+1 > z)=false from decide_eq_false c1]
  refine iteF ?_
  refine⟨_,rfl,t,d.qd,dx,fs,_,rfl,ht,W.qd.cl,W.qp,t2,_,rfl,vl,_,_,_,rfl,rfl,SqL.of hvl,kaz (v:=.ref v) (by rw[Nz,ev];rfl),v,clsOf d Vc.so,dxv,fsv,_,rfl,hv,cl_of W hh',na_of W hh',lvm,mA,d.qf,dxm,fsm,_,rfl,hm,W.qf.cl,W.VE,m5,Vc.ms.once,rfl,?_⟩
  cases ho:Vc.ms.once with
  | true=>
   rw[ho,Bool.true_and] at k
   refine iteT ⟨_,rfl,_,rfl,u,_,rfl, .inl (SqL.of hu),rfl,kcs _,_,rfl,?_⟩
   rw[if_neg NB,kcr]
   cases hc:used.contains n with
   |true=>
    rw[hc,if_pos rfl] at k
    exact iteT k
   | false=>
    rw[hc,if_neg NB] at k
    refine iteF ?_
    refine⟨_,rfl,t,d.qd,dx,fs,_,rfl,ht,W.qd.cl,W.qX,t3,_,rfl,_,rfl,rl,u,ra,T.rs,used,n,rfl,hrl,hra,hu,_,rfl,?_⟩
    cases h1:kfs T.rs used n with
    |true=>
     rw[h1,if_pos rfl] at k
     exact iteT k
    | false=>
     rw[h1,if_neg NB] at k
     refine iteF ⟨_,rfl,t,d.qd,dx,fs,_,rfl,ht,W.qd.cl,W.qX,t3,_,rfl,_,rfl,rl,u,ra,T.rs,used,n,rfl,hrl,hra,hu,_,rfl,?_⟩
     cases h2:kfy T.rs used n with
     |true=>
      rw[h2,if_pos rfl] at k
      exact iteT k
     |false=>
      rw[h2,if_neg NB] at k
      exact iteF k
  | false=>
   rw[ho,Ew,if_neg NB] at k
   refine iteF (iteF ?_)
   refine⟨_,rfl,t,d.qd,dx,fs,_,rfl,ht,W.qd.cl,W.qX,t3,_,rfl,_,rfl,rl,u,ra,T.rs,used,n,rfl,hrl,hra,hu,_,rfl,?_⟩
   cases h1:kfs T.rs used n with
   |true=>
    rw[h1,if_pos rfl] at k
    exact iteT k
   | false=>
    rw[h1,if_neg NB] at k
    refine iteF ⟨_,rfl,t,d.qd,dx,fs,_,rfl,ht,W.qd.cl,W.qX,t3,_,rfl,_,rfl,rl,u,ra,T.rs,used,n,rfl,hrl,hra,hu,_,rfl,?_⟩
    cases h2:kfy T.rs used n with
    |true=>
     rw[h2,if_pos rfl] at k
     exact iteT k
    |false=>
     rw[h2,if_neg NB] at k
     exact iteF k
inductive kjl (d:D) (vs:List V) (H:Hp) (Q:VK) (E_:XK):Prop
 |ct (H0:Hp)(w dx t b h:Addr)(hand:List Int)(B:Bask)(_:vs=[.ref w, .ref t, .ref b, .ref h])(_:H0 w=none)(_:Same H0 H)(_:H w=some (.ins d.c_Way dx []))(_:H0 h=some (.lst (hand.map V.int)))(_:BaskIs d.qe d.qg H0 b B)(_:B.rs.length<=12)(_:(∀r∈B.rs,r.Ok))(_:∀(H':Hp)(x:Addr),Same H0 H'->H0 x=none->WayN d 5 H0 H' w t b x hand []->StndIs d.qc H' x (stnd0 B)->Q .non H'):kjl d vs H Q E_
theorem khq:kao ["self","till","basket","hand"] ["self","till","basket","hand"] (kag kdK):=by ac_rfl
theorem kb9(W:WB K mg d base):FO P w W 4 d.ZF d.ZG ["self","till","basket","hand"] (kjl d):=by
 exists W.qy.F,khq
 ·obtain⟨H0,wy,dx,t,b,h,hand,B,rfl,fw,s0,hw,hh,hb,hB,hok,k⟩:=h
  exists qL,kbk,W
  refine⟨_,kac (kaH (pv 0) (pv 1) rfl)
   (kac (kaH (pv 0) (pv 2) rfl)
   (kac (kaH (pv 0) (kaK (r:=ka4 K) kaA (by rfl) W.B.list kbj (kaa (pv 3) kae)) rfl)
   (kac (kaH (pv 0) (kaN kae) rfl)
   (kaf (kaH (pv 0) (kaX (W.qx.mk' W.qc) qL hr rfl W.qc.m W.qx.b .nil pass0 (kaa (pv 2) kae)) rfl))))),?_⟩
  exists Y4
  refine⟨_,rfl,_,rfl,wy,d.c_Way,dx,[],rfl,hw,W.c_Way.cl,W.qt,by decide,?_⟩
  have s1:Same H0 (upd H wy (.ins d.c_Way dx (putF "till" (.ref t) []))):=kaq fw s0 (nx hw)
  have hw1:(upd H wy (.ins d.c_Way dx (putF "till" (.ref t) []))) wy=some (.ins d.c_Way dx (putF "till" (.ref t) [])):=kad
  generalize upd H wy (.ins d.c_Way dx (putF "till" (.ref t) []))=H1 at *
  symm
  exists Y4
  refine⟨_,rfl,_,rfl,wy,d.c_Way,dx,_,rfl,hw1,W.c_Way.cl,W.qW,few (Nx (kal (n:=0) (Nt _)) (by decide)),?_⟩
  have s2:Same H0 (upd H1 wy (.ins d.c_Way dx (putF "basket" (.ref b) (putF "till" (.ref t) [])))):=kaq fw s1 (nx hw1)
  have hw2:(upd H1 wy (.ins d.c_Way dx (putF "basket" (.ref b) (putF "till" (.ref t) [])))) wy=some (.ins d.c_Way dx (putF "basket" (.ref b) (putF "till" (.ref t) []))):=kad
  generalize upd H1 wy (.ins d.c_Way dx (putF "basket" (.ref b) (putF "till" (.ref t) [])))=H2 at *
  symm
  exists Y4
  refine⟨_,rfl,h,_,rfl, .inl (SqL.of (s2 _ _ hh)),fun h' hh'=>?_⟩
  have n3:=kam (o:=.lst (hand.map V.int)) hh'
  have nh:h'≠wy:=(kah hw2 hh').symm
  have s3:=s2.trans n3
  have e3:(upd H2 h' (.lst (hand.map V.int))) h'=some (.lst (hand.map V.int)):=kad
  have hw3:=n3 _ _ hw2
  clear n3
  generalize upd H2 h' (.lst (hand.map V.int))=H3 at *
  symm
  exists Y4
  refine⟨_,rfl,wy,d.c_Way,dx,_,rfl,hw3,W.c_Way.cl,W.QD,few (Nx (kal (kal (n:=0) (Nt _))) (by decide)),?_⟩
  have s4:Same H0 (upd H3 wy (.ins d.c_Way dx (putF "hand" (.ref h') (putF "basket" (.ref b) (putF "till" (.ref t) []))))):=kaq fw s3 (nx hw3)
  have e4:(upd H3 wy (.ins d.c_Way dx (putF "hand" (.ref h') (putF "basket" (.ref b) (putF "till" (.ref t) []))))) h'=some (.lst (hand.map V.int)):=by rw[kaj nh];exact e3
  have hw4:(upd H3 wy (.ins d.c_Way dx (putF "hand" (.ref h') (putF "basket" (.ref b) (putF "till" (.ref t) []))))) wy=some (.ins d.c_Way dx (putF "hand" (.ref h') (putF "basket" (.ref b) (putF "till" (.ref t) [])))):=kad
  generalize upd H3 wy (.ins d.c_Way dx (putF "hand" (.ref h') (putF "basket" (.ref b) (putF "till" (.ref t) []))))=H4 at *
  symm
  exists Y4
  refine⟨by decide,fun u hu=>?_⟩
  have n5:=kam (o:=.lst []) hu
  have nu:u≠wy:=(kah hw4 hu).symm
  have s5:=s4.trans n5
  have e5:=n5 _ _ e4
  have eu5:(upd H4 u (.lst [])) u=some (.lst (([]:List Nat).map iV)):=kad
  have hw5:=n5 _ _ hw4
  clear n5
  generalize upd H4 u (.lst [])=H5 at *
  symm
  exists Y4
  refine⟨_,rfl,wy,d.c_Way,dx,_,rfl,hw5,W.c_Way.cl,W.qr,few (Nx (kal (kal (kal (n:=0) (Nt _)))) (by decide)),?_⟩
  have s6:Same H0 (upd H5 wy (.ins d.c_Way dx (putF "used" (.ref u) (putF "hand" (.ref h') (putF "basket" (.ref b) (putF "till" (.ref t) [])))))):=kaq fw s5 (nx hw5)
  have e6:(upd H5 wy (.ins d.c_Way dx (putF "used" (.ref u) (putF "hand" (.ref h') (putF "basket" (.ref b) (putF "till" (.ref t) [])))))) h'=some (.lst (hand.map V.int)):=by rw[kaj nh];exact e5
  have eu6:(upd H5 wy (.ins d.c_Way dx (putF "used" (.ref u) (putF "hand" (.ref h') (putF "basket" (.ref b) (putF "till" (.ref t) [])))))) u=some (.lst (([]:List Nat).map iV)):=by rw[kaj nu];exact eu5
  have hw6:(upd H5 wy (.ins d.c_Way dx (putF "used" (.ref u) (putF "hand" (.ref h') (putF "basket" (.ref b) (putF "till" (.ref t) [])))))) wy=some (.ins d.c_Way dx (putF "used" (.ref u) (putF "hand" (.ref h') (putF "basket" (.ref b) (putF "till" (.ref t) []))))):=kad
  generalize upd H5 wy (.ins d.c_Way dx (putF "used" (.ref u) (putF "hand" (.ref h') (putF "basket" (.ref b) (putF "till" (.ref t) [])))))=H6 at *
  symm
  exists Y4
  refine⟨_,rfl,khC (hb.same s6) hB hok fun H7 x s7 f7 hx=>?_⟩
  have hw7:=s7 _ _ hw6
  have fx:H0 x=none:=s6.free f7
  have nxw:x≠wy:=(kah hw6 f7).symm
  symm
  exists Y4
  refine⟨_,rfl,wy,d.c_Way,dx,_,rfl,hw7,W.c_Way.cl,W.qA,few (Nx (kal (kal (kal (kal (n:=0) (Nt _))))) (by decide)),?_⟩
  symm
  refine k _ x (kaq fw (s6.trans s7) (nx hw7)) fx ⟨fw,dx,_,h',u,none_of s2 hh',none_of s4 hu,kad,?_,?_,?_,?_,?_,?_,?_,?_,?_,?_,?_,?_⟩ ?_
  ·ac_nf
  ·ac_nf
  ·ac_nf
  ·ac_nf
  ·ac_nf
  ·ac_nf
   rfl
  ·ac_nf
   rfl
  ·ac_nf
   rfl
  ·ac_nf
   rfl
  ·exact Nx (kal (kal (kal (kal (kal (n:=0) (Nt _)))))) (by decide)
  ·rw[kaj nh];exact s7 _ _ e6
  ·rw[kaj nu];exact s7 _ _ eu6
  ·obtain⟨o,pp,mm,⟨dxs,fss,hxs,q⟩,ho,hpp,hmm⟩:=hx
   symm
   exact⟨o,pp,mm,⟨dxs,fss,by rw[kaj nxw];exact hxs,q⟩,by rw[kaj (ne_of ho hw7 (by intro z;cases z))];exact ho,by rw[kaj (ne_of hpp hw7 (by intro z;cases z))];exact hpp,by rw[kaj (ne_of hmm hw7 (by intro z;cases z))];exact hmm⟩
theorem kgN{d:D}{H:Hp}{t b h:Addr}{hand:List Int}{B:Bask}{R:Addr->Hp->Prop}{E:XK}(hh:H h=some (.lst (hand.map V.int)))(hb:BaskIs d.qe d.qg H b B)(hB:B.rs.length<=12)(hok:∀r∈B.rs,r.Ok)
  (k:∀(H':Hp)(w x:Addr),Same H H'->H w=none->H x=none->WayN d 5 H H' w t b x hand []->StndIs d.qc H' x (stnd0 B)->R w H'):
  ∀w dx,H w=none->H dx=none->dx≠w->kjl d [.ref w, .ref t, .ref b, .ref h] (upd (upd H dx (.own w)) w (.ins d.c_Way dx [])) (fun v H2=>v=.non/\R w H2) E:=
 fun w dx nw nd _=>⟨H,w,dx,t,b,h,hand,B,rfl,nw,kbd nw nd,kad,hh,hb,hB,hok,fun H' x s f hW hx=>⟨rfl,k H' w x s nw f hW hx⟩⟩
inductive kgm (d:D) (vs:List V) (H:Hp) (Q:VK) (E_:XK):Prop
 |ct (wy t b x:Addr)(T:TillD)(B:Bask)(S:Stnd)(hand:List Int)(used:List Nat)(n:Nat)(V:Vch)(_:vs=[.ref wy,iV n])(_:WayIs d H wy t b x hand used)(_:TillIs d H t T)(_:BaskIs d.qe d.qg H b B)(_:StndIs d.qc H x S)(_:Wf T.ps B S)(_:VchOk T.ps V)(_:T.vs[n]?=some V)(_:hand.length=T.vs.length)(_:∀(H':Hp),Same H H'->Q (dueM V T B hand used S n) H'):kgm d vs H Q E_
theorem VX:kao ["self","number","word"] ["self","number"] (kag kco):=by ac_rfl
theorem kb8(W:WB K mg d base):FO P w W 5 d.ZH d.ZI ["self","number"] (kgm d):=by
 exists W.qN.F,VX
 ·obtain⟨wy,t,b,x,T,B,S,hand,used,n,Vc,rfl,hW,hT,hB,hS,wf,vo,hn,hl,k⟩:=h
  obtain⟨dxw,fsw,h,u,hw,w1,w2,w3,w4,w5,w6,w7,w8,w9,w10,hh,hu⟩:=id hW
  obtain⟨dx,fs,p,vl,rl,va,ra,ht,t1,t2,t3,t4,hp,hvl,hva,hrl,hra⟩:=id hT
  exists UL,kea,W
  exists UM,kgD,W
  exists hr2,2,hr,0
  refine⟨_,kac (psl (i:=2) VX.nd (pcl UL hr2 W.Vd (kaa (kak (K:=K) (pv 0) rfl) (kaa (kak (K:=K) (pv 0) rfl) (kaa (kak (K:=K) (pv 0) rfl) (kaa (pv 1) kae))))))
   (kac (ps_if (kar kb6 (pv 2) kaJ (kaw _)) (kaf (kan (pv 2))) (kas))
   (kaf (kan (pcl UM hr W.ZV (kaa (pe_ix (r:=rIxL K) kax (kak (K:=K) (kak (K:=K) (pv 0) rfl) rfl) (pv 1) (fun _ _=>rfl)) (kaa (kak (K:=K) (kak (K:=K) (pv 0) rfl) rfl) (kaa (kak (K:=K) (pv 0) rfl) (kaa (kak (K:=K) (pv 0) rfl) kae)))))))),?_⟩
  obtain⟨v,ev⟩:=at_of (xs:=va) (i:=n) (by rw[hva.len];exact at_lt hn)
  obtain⟨Vc',eV',hV⟩:=hva.at ev
  rw[hn] at eV'
  cases eV'
  refine⟨_,rfl,wy,d.c_Way,dxw,fsw,_,rfl,hw,W.c_Way.cl,W.qt,w1,_,rfl,wy,d.c_Way,dxw,fsw,_,rfl,hw,W.c_Way.cl,W.QD,w3,_,rfl,wy,d.c_Way,dxw,fsw,_,rfl,hw,W.c_Way.cl,W.qr,w4,_,rfl,t,h,u,T,hand,used,n,Vc,rfl,hT,hh,hu,hn,hl,?_⟩
  unfold dueM at k
  cases e:wordM Vc T.rs hand used n with
  |some z=>
   rw[e] at k
   refine⟨_,rfl,rfl,_,rfl,?_⟩
   show if(!decide (V.str z=V.non))=true then _ else _
   rw[show(!decide (V.str z=V.non))=true by simp]
   exact iteT ⟨_,rfl,k H (Same.refl _)⟩
  |none=>
   rw[e] at k
   refine⟨_,rfl,rfl,_,rfl,?_⟩
   show if(!decide (V.non=V.non))=true then _ else _
   rw[show(!decide (V.non=V.non))=false by simp]
   refine iteF ⟨_,rfl,wy,d.c_Way,dxw,fsw,_,rfl,hw,W.c_Way.cl,W.qt,w1,t,d.qd,dx,fs,_,rfl,ht,W.qd.cl,W.qp,t2,_,rfl,vl,_,_,_,rfl,rfl,SqL.of hvl,kaz (v:=.ref v) (by rw[Nz,ev];rfl),?_⟩
   refine⟨_,rfl,wy,d.c_Way,dxw,fsw,_,rfl,hw,W.c_Way.cl,W.qt,w1,t,d.qd,dx,fs,_,rfl,ht,W.qd.cl,W.qO,t1,_,rfl,wy,d.c_Way,dxw,fsw,_,rfl,hw,W.c_Way.cl,W.qW,w2,_,rfl,wy,d.c_Way,dxw,fsw,_,rfl,hw,W.c_Way.cl,W.qA,w5,?_⟩
   exact⟨v,p,b,x,Vc,T.ps,B,S,rfl,hV,SqL.of hp,hB,hS,wf,vo,k⟩
inductive kie (d:D) (vs:List V) (H:Hp) (Q:VK) (E_:XK):Prop
 |ct (wy t b x:Addr)(T:TillD)(B:Bask)(S:Stnd)(hand:List Int)(used:List Nat)(n:Nat)(V:Vch)(_:vs=[.ref wy,iV n])(_:WayIs d H wy t b x hand used)(_:TillIs d H t T)(_:BaskIs d.qe d.qg H b B)(_:StndIs d.qc H x S)(_:Wf T.ps B S)(_:VchOk T.ps V)(_:T.vs[n]?=some V)(_:used.length<64)(_:∀(H':Hp)(wy' x':Addr),Same H H'->H wy'=none->WayN d 7 H H' wy' t b x' hand (used++[n])->StndN d.qc H H' x' (aftM V T.ps (kds B) S)->Q (.ref wy') H'):kie d vs H Q E_
theorem VY:kao ["self","number","further"] ["self","number"] (kag kcO):=by ac_rfl
theorem kbU(W:WB K mg d base):FO P w W 6 d.ZJ d.ZK ["self","number"] (kie d):=by
 exists W.qD.F,VY
 ·obtain⟨wy,t,b,x,T,B,S,hand,used,n,Vc,rfl,hW,hT,hB,hS,wf,vo,hn,hl,k⟩:=h
  obtain⟨dxw,fsw,h,u,hw,w1,w2,w3,w4,w5,w6,w7,w8,w9,w10,hh,hu⟩:=id hW
  obtain⟨dx,fs,p,vl,rl,va,ra,ht,t1,t2,t3,t4,hp,hvl,hva,hrl,hra⟩:=id hT
  exists qG,kb9,W
  exists UN,kk9,W
  refine⟨_,kac (psl (i:=2) VY.nd (kaX (W.qy.mk' W.c_Way) qG hr rfl W.c_Way.m W.qy.b .nil pass0 (kaa (kak (K:=K) (pv 0) rfl) (kaa (kak (K:=K) (pv 0) rfl) (kaa (kak (K:=K) (pv 0) rfl) kae)))))
   (kac (kaH (pv 2) (pe_op klV (kak (K:=K) (pv 0) rfl) (kaN (kaa (pv 1) kae))) rfl)
   (kac (kaH (pv 2) (pcl UN hr W.ZX (kaa (pe_ix (r:=rIxL K) kax (kak (K:=K) (kak (K:=K) (pv 0) rfl) rfl) (pv 1) (fun _ _=>rfl)) (kaa (kak (K:=K) (kak (K:=K) (pv 0) rfl) rfl) (kaa (kak (K:=K) (pv 0) rfl) (kaa (kak (K:=K) (pv 0) rfl) kae))))) rfl)
   (kaf (kan (pv 2))))),?_⟩
  obtain⟨v,ev⟩:=at_of (xs:=va) (i:=n) (by rw[hva.len];exact at_lt hn)
  obtain⟨Vc',eV',hV⟩:=hva.at ev
  rw[hn] at eV'
  cases eV'
  exists Y4
  refine⟨_,rfl,wy,d.c_Way,dxw,fsw,_,rfl,hw,W.c_Way.cl,W.qt,w1,_,rfl,wy,d.c_Way,dxw,fsw,_,rfl,hw,W.c_Way.cl,W.qW,w2,_,rfl,wy,d.c_Way,dxw,fsw,_,rfl,hw,W.c_Way.cl,W.QD,w3,kgN hh hB wf.nl wf.ok fun H1 y x1 s1 fy fx1 hy hx1=>?_⟩
  obtain⟨_,dxy,fsy,h1,u1,fh1,_,hyy,y1,y2,y3,y4,y5,y6,y7,y8,y9,y10,hh1,hu1⟩:=hy
  symm
  exists Y4
  refine⟨_,rfl,wy,d.c_Way,dxw,fsw,_,rfl,s1 _ _ hw,W.c_Way.cl,W.qr,w4,_,rfl,(by show 1<=sizeLine;decide),fun q1 hq1=>?_⟩
  have n2:=kam (o:=.lst [iV n]) hq1
  have eq1:(upd H1 q1 (.lst [iV n])) q1=some (.lst [iV n]):=kad
  have s2:=s1.trans n2
  have hy2:=n2 _ _ hyy
  have hh2:=n2 _ _ hh1
  clear n2
  generalize upd H1 q1 (.lst [iV n])=H2 at *
  symm
  exists Y4
  refine⟨u,q1,_,_,rfl,rfl,s2 _ _ hu,eq1,ND (kap (by rw[Nq];show _+1<=1000;omega)),fun q2 hq2=>?_⟩
  have n3:=kam (o:=.lst (used.map iV++[iV n])) hq2
  have eq2:(upd H2 q2 (.lst (used.map iV++[iV n]))) q2=some (.lst ((used++[n]).map iV)):=by rw[kad,NC];rfl
  have s3:=s2.trans n3
  have hy3:=n3 _ _ hy2
  have hh3:=n3 _ _ hh2
  have nq2:q2≠y:=(kah hy2 hq2).symm
  clear n3
  generalize upd H2 q2 (.lst (used.map iV++[iV n]))=H3 at *
  have nh1:h1≠y:=ne_of hh3 hy3 (by intro z;cases z)
  symm
  exists Y4
  refine⟨_,rfl,y,d.c_Way,dxy,fsy,rfl,hy3,W.c_Way.cl,W.qr,few (Nx y10 (by decide)),?_⟩
  have s4:Same H (upd H3 y (.ins d.c_Way dxy (putF "used" (.ref q2) fsy))):=kaq fy s3 (nx hy3)
  have eq4:(upd H3 y (.ins d.c_Way dxy (putF "used" (.ref q2) fsy))) q2=some (.lst ((used++[n]).map iV)):=by rw[kaj nq2];exact eq2
  have hh4:(upd H3 y (.ins d.c_Way dxy (putF "used" (.ref q2) fsy))) h1=some (.lst (hand.map V.int)):=by rw[kaj nh1];exact hh3
  have hy4:(upd H3 y (.ins d.c_Way dxy (putF "used" (.ref q2) fsy))) y=some (.ins d.c_Way dxy (putF "used" (.ref q2) fsy)):=kad
  generalize upd H3 y (.ins d.c_Way dxy (putF "used" (.ref q2) fsy))=H4 at *
  symm
  exists Y4
  refine⟨_,rfl,wy,d.c_Way,dxw,fsw,_,rfl,s4 _ _ hw,W.c_Way.cl,W.qt,w1,t,d.qd,dx,fs,_,rfl,s4 _ _ ht,W.qd.cl,W.qp,t2,_,rfl,vl,_,_,_,rfl,rfl,SqL.of (s4 _ _ hvl),kaz (v:=.ref v) (by rw[Nz,ev];rfl),?_⟩
  symm
  exists Y4
  refine⟨_,rfl,wy,d.c_Way,dxw,fsw,_,rfl,s4 _ _ hw,W.c_Way.cl,W.qt,w1,t,d.qd,dx,fs,_,rfl,s4 _ _ ht,W.qd.cl,W.qO,t1,_,rfl,wy,d.c_Way,dxw,fsw,_,rfl,s4 _ _ hw,W.c_Way.cl,W.qW,w2,_,rfl,wy,d.c_Way,dxw,fsw,_,rfl,s4 _ _ hw,W.c_Way.cl,W.qA,w5,?_⟩
  symm
  exists Y4
  refine⟨v,p,b,x,Vc,T.ps,B,S,rfl,hV.same s4,SqL.of (s4 _ _ hp),hB.same s4,hS.same s4,wf,vo,fun H5 x' s5 f5 ⟨_,o,pp,mm,⟨dxs,fss,hxs,q⟩,fo,fpp,fmm,ho,hpp,hmm⟩=>?_⟩
  have hy5:=s5 _ _ hy4
  have hh5:=s5 _ _ hh4
  have eq5:=s5 _ _ eq4
  have nx':x'≠y:=(kah hy4 f5).symm
  symm
  exists Y4
  refine⟨_,rfl,y,d.c_Way,dxy,_,rfl,hy5,W.c_Way.cl,W.qA,few (Nx (kal y10) (by decide)),?_⟩
  symm
  exists Y4
  refine⟨_,rfl,k _ y x' (kaq fy (s4.trans s5) (nx hy5)) fy ⟨fy,dxy,_,h1,q2,fh1,none_of s2 hq2,kad,?_,?_,?_,?_,?_,?_,?_,?_,?_,?_,?_,?_⟩ ?_⟩
  ·ac_nf
   symm
   exact y1
  ·ac_nf
   symm
   exact y2
  ·ac_nf
   symm
   exact y3
  ·ac_nf
  ·ac_nf
  ·ac_nf
   symm
   exact y6
  ·ac_nf
   symm
   exact y7
  ·ac_nf
   symm
   exact y8
  ·ac_nf
   symm
   exact y9
  ·exact Nx (kal (kal y10)) (by decide)
  ·rw[kaj nh1];exact hh5
  ·rw[kaj nq2];exact eq5
  ·exact⟨none_of s4 f5,o,pp,mm,⟨dxs,fss,by rw[kaj nx'];exact hxs,q⟩,none_of s4 fo,none_of s4 fpp,none_of s4 fmm,by rw[kaj (ne_of ho hy5 (by intro z;cases z))];exact ho,by rw[kaj (ne_of hpp hy5 (by intro z;cases z))];exact hpp,by rw[kaj (ne_of hmm hy5 (by intro z;cases z))];exact hmm⟩
inductive kju (d:D) (vs:List V) (H:Hp) (Q:VK) (E_:XK):Prop
 |ct (wy t b x:Addr)(T:TillD)(hand:List Int)(used:List Nat)(_:vs=[.ref wy])(_:WayIs d H wy t b x hand used)(_:TillIs d H t T)(_:Q (.bl (onlyM T.rs used).isNone) H):kju d vs H Q E_
theorem kd6:kao ["self"] ["self"] (kag kb3):=by ac_rfl
theorem kcE(W:WB K mg d base):FO P w W 2 d.ZN d.ZO ["self"] (kju d):=by
 exists W.Qi.F,kd6
 ·obtain⟨wy,t,b,x,T,hand,used,rfl,hW,hT,k⟩:=h
  obtain⟨dxw,fsw,h,u,hw,w1,w2,w3,w4,w5,w6,w7,w8,w9,w10,hh,hu⟩:=id hW
  obtain⟨dx,fs,p,vl,rl,va,ra,ht,t1,t2,t3,t4,hp,hvl,hva,hrl,hra⟩:=id hT
  exists UO,kdt,W
  refine⟨_,kaf (kan (kbP kcg (pcl UO hr W.Vg (kaa (kak (K:=K) (kak (K:=K) (pv 0) rfl) rfl) (kaa (kak (K:=K) (pv 0) rfl) kae))) kaJ (kaw _))),?_⟩
  refine⟨_,rfl,wy,d.c_Way,dxw,fsw,_,rfl,hw,W.c_Way.cl,W.qt,w1,t,d.qd,dx,fs,_,rfl,ht,W.qd.cl,W.qX,t3,_,rfl,wy,d.c_Way,dxw,fsw,_,rfl,hw,W.c_Way.cl,W.qr,w4,rl,u,ra,T.rs,used,rfl,hrl,hra,hu,rfl,?_⟩
  cases e:onlyM T.rs used with
  |none=>
   rw[e] at k
   show Q (.bl (decide (V.non=V.non))) H
   rw[show decide (V.non=V.non)=true by simp]
   exact k
  |some z=>
   rw[e] at k
   show Q (.bl (decide (V.int (z:Int)=V.non))) H
   rw[show decide (V.int (z:Int)=V.non)=false by simp]
   exact k
noncomputable def canM(T:TillD)(B:Bask)(hand:List Int)(used:List Nat)(S:Stnd)(n:Nat):Bool:=match T.vs[n]? with
 |none=>false
 |some V=>decide (dueM V T B hand used S n=.non)
noncomputable def folM(T:TillD)(B:Bask)(hand:List Int)(used:List Nat)(S:Stnd):List Nat:=(Nw T.vs.length).filter (canM T B hand used S)
theorem kiP{p:Nat->Bool}{i:Nat}:(Nw (i+1)).filter p=(Nw i).filter p++(if p i=true then [i] else []):=by
 rw[Mh,Mx,MT,Ep]
inductive kic (d:D) (vs:List V) (H:Hp) (Q:VK) (E_:XK):Prop
 |ct (wy t b x:Addr)(T:TillD)(B:Bask)(S:Stnd)(hand:List Int)(used:List Nat)(_:vs=[.ref wy])(_:WayIs d H wy t b x hand used)(_:TillIs d H t T)(_:kbJ T)(_:BaskIs d.qe d.qg H b B)(_:StndIs d.qc H x S)(_:Wf T.ps B S)(_:hand.length=T.vs.length)(_:∀(H':Hp)(p:Addr),Same H H'->H p=none->H' p=some (.lst ((folM T B hand used S).map iV))->Q (.ref p) H'):kic d vs H Q E_
theorem kd7:kao ["self"] ["self"] (kag kbs):=by ac_rfl
theorem ked(W:WB K mg d base):FO P w W 6 d.ZL d.ZM ["self"] (kic d):=by
 exists W.Xo.F,kd7
 ·obtain⟨wy,t,b,x,T,B,S,hand,used,rfl,hW,hT,tok,hB,hS,wf,hl,kk⟩:=h
  obtain⟨dxw,fsw,h,u,hw,w1,w2,w3,w4,w5,w6,w7,w8,w9,w10,hh,hu⟩:=id hW
  obtain⟨dx,fs,p,vl,rl,va,ra,ht,t1,t2,t3,t4,hp,hvl,hva,hrl,hra⟩:=id hT
  exists Ql,kb8,W
  refine⟨_,kaf (kan (kfT (N:=["number","self"]) (CompScope.of (N:=["number","self"]) (cap:=[none,some 0]) (kag kbs).names ["self"] rfl rfl (by decide +kernel)) rfl (kba rfl W.B.range (kaa (kat (r:=kaP K) kau (by rfl) W.B.len b_len (kaa (kak (K:=K) (kak (K:=K) (pv 0) rfl) rfl) kae)) kae)) (fun _ _ _ _=>pgn (i:=0) (show(["number","self"]:List Str).Nodup by decide +kernel)) (fun _ _ _ _=>khx (kar kcg (kdi (pv 1) W.c_Way.cl W.qN.me Ql hr W.qN.b .nil pass0 (kaa (pv 0) kae)) kaJ (kaw _))) (fun _ _ _ _=>(pv 0)))),?_⟩
  have nv:=tok.nv
  have lva:=hva.len
  refine⟨_,rfl,wy,d.c_Way,dxw,fsw,_,rfl,hw,W.c_Way.cl,W.qt,w1,t,d.qd,dx,fs,_,rfl,ht,W.qd.cl,W.qp,t2,vl,_,rfl, .inl (SqL.of hvl),_,rfl,by omega,by rw[Nq];omega,?_⟩
  rw[show(((va.map V.ref).length:Nat):Int).toNat=T.vs.length by rw[Nq];omega]
  refine khS (fun i σ ys H'=>Same H H'/\ys=((Nw i).filter (canM T B hand used S)).map iV/\∃v0:Option V,σ=[v0,some (.ref wy)]) ⟨Same.refl _,rfl,none,rfl⟩ (ND (kap (by omega))) ?_ ?_ ?_
  ·rintro i σ ys H' hi ⟨_,rfl,_⟩
   rw[Nq]
   exact Nx (M3 _ _) (by rw[List.length_range];exact Nt _)
  ·rintro i σ ys H' hi ⟨s1,rfl,v0,rfl⟩
   rw[Int.zero_add]
   obtain⟨Vc,hV⟩:=at_of (xs:=T.vs) (i:=i) hi
   have vo:=tok.vs Vc (Ny hV)
   refine⟨_,rfl,wy,dxw,fsw,rfl,s1 _ _ hw,w6,_,rfl,wy,t,b,x,T,B,S,hand,used,i,Vc,rfl,hW.same s1,hT.same s1,hB.same s1,hS.same s1,wf,vo,hV,hl,fun H2 s2=>⟨rfl,_,rfl,?_⟩⟩
   have ec:canM T B hand used S i=decide (dueM Vc T B hand used S i=.non):=by unfold canM;rw[hV]
   rw[kiP,ec]
   by_cases hn:dueM Vc T B hand used S i=.non
   ·rw[decide_eq_true hn]
    refine iteT ⟨_,rfl,s1.trans s2,?_,_,rfl⟩
    rw[if_pos rfl,NC]
    rfl
   ·rw[decide_eq_false hn]
    refine iteF ⟨s1.trans s2,?_,_,rfl⟩
    rw[if_neg NB,Ml]
  ·rintro σ ys H' ⟨s1,rfl,v0,rfl⟩ q hq
   exact kk _ q (s1.trans (kam hq)) (s1.free hq) kad
noncomputable def remM(hand:List Int)(used:List Nat):Nat:=((Nw hand.length).map fun m=>(hand.getD m 0-(used.count m:Int)).toNat).sum
theorem kh1{f g:Nat->Nat}{n:Nat}:∀{L:Nat},n<L->f n=g n+1->(∀m,m≠n->f m=g m)->((Nw L).map f).sum=((Nw L).map g).sum+1
 |0,h,_,_=>by omega
 | L+1,h,h1,h2=>by
  rw[Mh,NC,NC,M5,M5]
  simp only[NJ,MI,M1,ET]
  by_cases e:n=L
  ·subst e
   have:(Nw n).map f=(Nw n).map g:=Mj fun m hm=>h2 m (by have:=M6.mp hm;omega)
   rw[this,h1]
   omega
  ·rw[kh1 (by omega) h1 h2,h2 L (Ne.symm e)]
   omega
theorem kej{hand:List Int}{used:List Nat}{n:Nat}(hn:n<hand.length)(h:(used.count n:Int)+1<=hand.getD n 0):remM hand used=remM hand (used++[n])+1:=by
 unfold remM
 refine kh1 hn ?_ fun m hm=>?_
 ·rw[List.count_append,show List.count n [n]=1 by simp]
  generalize hand.getD n 0=g at *
  omega
 ·rw[List.count_append]
  have:List.count m [n]=0:=by simp[Ne.symm hm]
  rw[this]
  simp
theorem kjI:∀(hand:List Int),(∀z∈hand,0<=z)->(remM hand []:Int)=hand.sum:=by
 intro hand h
 have key:∀(L:Nat),L<=hand.length->((((Nw L).map fun m=>(hand.getD m 0-((([]:List Nat).count m:Nat):Int)).toNat).sum:Nat):Int)=(hand.take L).sum:=by
  intro L
  induction L with
  |zero=>intro _;rfl
  |succ L ih=>
   intro hL
   have hz:hand[L]?=some hand[L]:=MD (by omega)
   have e:hand.take (L+1)=hand.take L++[hand[L]]:=by rw[ME,hz];rfl
   have h0:=h hand[L] (List.getElem_mem _)
   rw[Mh,NC,M5,e,M5]
   simp only[NJ,MI,M1,ET,List.count_nil]
   have eg:hand.getD L 0=hand[L]:=by rw[NL,hz];rfl
   rw[eg]
   have:=ih (by omega)
   simp only[List.count_nil] at this
   omega
 have:=key hand.length (Nt _)
 rw[NY] at this
 exact this
theorem kkC{p:Nat->Bool}{f:Nat->Nat}(h:∀m,p m=true->1<=f m):∀L:Nat,((Nw L).filter p).length<=((Nw L).map f).sum
 |0=>Nt _
 | L+1=>by
  have ih:=kkC h L
  rw[Mh,Mx,NG,NC,M5]
  simp only[NJ,MI,M1,ET,MT,Ep]
  by_cases e:p L=true
  ·have:=h L e
   rw[if_pos e]
   simp
   omega
  ·rw[if_neg e]
   simp
   omega
noncomputable def fan:Nat->Nat
 |0=>1
 |r+1=>1+(r+1)*fan r
theorem kf8{α:Type}{f:Nat->List α}{k:Nat}:∀{l:List Nat},(∀n∈l,(f n).length<=k)->(l.flatMap f).length<=l.length*k
 |[],_=>by simp
 |a::l,h=>by
  have ih:=kf8 (f:=f) (k:=k) (l:=l) fun n hn=>h n (NR _ hn)
  rw[Ec,NG,NW,Nat.add_mul,Nat.one_mul]
  have:=h a NV
  omega
theorem kf9:∀{r s:Nat},r<=s->fan r<=fan s
 |r,0,h=>by rw[Nat.le_zero.mp h];exact Nt _
 | r,s+1,h=>by
  by_cases e:r=s+1
  ·rw[e];exact Nt _
  ·have:=kf9 (r:=r) (s:=s) (by omega)
   show fan r<=1+(s+1)*fan s
   have h2:fan s<=(s+1)*fan s:=Nat.le_mul_of_pos_left _ (by omega)
   omega
variable {T:TillD}{B:Bask}{hand:List Int}
theorem kcZ{used:List Nat}{S:Stnd}{n:Nat}(h:canM T B hand used S n=true):n<T.vs.length/\(used.count n:Int)+1<=hand.getD n 0:=by
 unfold canM at h
 cases e:T.vs[n]? with
 |none=>rw[e] at h;cases h
 | some V=>
  rw[e] at h
  refine⟨at_lt e,?_⟩
  have h1:dueM V T B hand used S n=.non:=of_decide_eq_true h
  unfold dueM wordM at h1
  by_cases c1:hand.getD n 0<(used.count n:Int)+1
  ·rw[if_pos c1] at h1
   cases h1
  ·omega
theorem kl1{used:List Nat}{S:Stnd}(hl:hand.length=T.vs.length):(folM T B hand used S).length<=remM hand used:=by
 unfold folM remM
 rw[<-hl]
 refine kkC (fun m hm=>?_) _
 have:=(kcZ hm).2
 omega
noncomputable def walkM(T:TillD)(B:Bask)(hand:List Int):List Nat->List Nat->Stnd->List Nat×Stnd
 |[],used,S=>(used,S)
 |n::ns,used,S=>match T.vs[n]? with
  |none=>(used,S)
  |some V=>if dueM V T B hand used S n=.non then walkM T B hand ns (used++[n]) (aftM V T.ps (kds B) S) else(used,S)
inductive kjm (d:D) (vs:List V) (H:Hp) (Q:VK) (E_:XK):Prop
 |ct (t b h o:Addr)(T:TillD)(B:Bask)(hand:List Int)(order:List Nat)(_:vs=[.ref t, .ref b, .ref h, .ref o])(_:TillIs d H t T)(_:kbJ T)(_:BaskIs d.qe d.qg H b B)(_:Wf T.ps B (stnd0 B))(_:H h=some (.lst (hand.map V.int)))(_:H o=some (.lst (order.map iV)))(_:hand.length=T.vs.length)(_:(∀n∈order,n<T.vs.length))(_:order.length<64)(_:∀(H':Hp)(wy x:Addr),Same H H'->H wy=none->WayIs d H' wy t b x hand (walkM T B hand order [] (stnd0 B)).1->StndIs d.qc H' x (walkM T B hand order [] (stnd0 B)).2->Wf T.ps B (walkM T B hand order [] (stnd0 B)).2->Q (.ref wy) H'):kjm d vs H Q E_
theorem QK:kao ["till","basket","hand","order","way","number"] ["till","basket","hand","order"] (kag kfL):=by ac_rfl
theorem kjX(W:WB K mg d base):FO P w W 7 d.Yo d.Yp ["till","basket","hand","order"] (kjm d):=by
 exists W.Vb.F,QK
 ·obtain⟨t,b,h,o,T,B,hand,order,rfl,hT,tok,hB,wf0,hh,ho,hl,hlt,h64,k⟩:=h
  exists qG,kb9,W
  exists Ql,kb8,W
  exists qQ,kbU,W
  exists hr5,5,hr,0
  refine⟨_,kac (psl (i:=4) QK.nd (kaX (W.qy.mk' W.c_Way) qG hr5 rfl W.c_Way.m W.qy.b .nil pass0 (kaa (pv 0) (kaa (pv 1) (kaa (pv 2) kae)))))
   (kac (kaU PassesOwn.never rfl (kaE (K:=K) (pv 3)) (pgn (i:=5) QK.nd)
   (kac (ps_if (kar kb6 (kdi (pv 4) W.c_Way.cl W.qN.me Ql hr5 W.qN.b .nil pass0 (kaa (pv 5) kae)) kaJ (kaw _)) (kaf (kan (pv 4))) (kas))
   (kaf (psl (i:=4) QK.nd (kdi (pv 4) W.c_Way.cl W.qD.me qQ hr W.qD.b .nil pass0 (kaa (pv 5) kae))))))
   (kaf (kan (pv 4)))),?_⟩
  generalize eR:walkM T B hand order [] (stnd0 B)=R at k
  exists Y4
  refine⟨_,rfl,_,rfl,_,rfl,kgN hh hB wf0.nl wf0.ok fun H1 y0 x0 s1 fy0 fx0 hy0N hx0=>?_⟩
  have hy0:=hy0N.at
  symm
  exists Y4
  refine⟨_,rfl,o,rfl,⟨_,SqL.of (s1 _ _ ho)⟩,ka3 (xs:=order.map iV) (fun i σ H'=>Same H H'/\∃(y x:Addr)(used:List Nat)(S:Stnd)(v5:Option V),WayIs d H' y t b x hand used/\H y=none/\StndIs d.qc H' x S/\Wf T.ps B S/\used.length=i/\walkM T B hand (order.drop i) used S=R/\σ=[some (.ref t),some (.ref b),some (.ref h),some (.ref o),some (.ref y),v5])
   ⟨s1,y0,x0,[],_,none,hy0.most (by decide),fy0,hx0,wf0,rfl,eR,rfl⟩ (fun i σ H' _ h=>SqL.of (h.1 _ _ ho)) ?_ ?_⟩
  ·rintro i yv σ H' hyv ⟨sI,y,x,used,S,v5,hY,fy,hx,wf,hul,hwalk,rfl⟩
   obtain⟨n,en,rfl⟩:∃n,order[i]?=some n/\yv=iV n:=kbo hyv
   have hi:=at_lt en
   obtain⟨Vc,hV⟩:=at_of (hlt n (Ny en))
   have vo:=tok.vs Vc (Ny hV)
   have ed:order.drop i=n::order.drop (i+1):=by
    obtain⟨h1,h2⟩:=NF.mp en
    rw[My h1,h2]
   rw[ed] at hwalk
   have hwk:=hwalk
   unfold walkM at hwk
   rw[hV] at hwk
   simp only at hwk
   obtain⟨dxw,fsw,hd,u,hw,w1,w2,w3,w4,w5,w6,w7,w8,w9,w10,hh',hu⟩:=id hY
   symm
   exists Y6
   refine⟨_,rfl,y,dxw,fsw,rfl,hw,w6,_,rfl,y,t,b,x,T,B,S,hand,used,n,Vc,rfl,hY,hT.same sI,hB.same sI,hx,wf,vo,hV,hl,fun H2 s2=>⟨rfl,_,rfl,?_⟩⟩
   have s02:=sI.trans s2
   by_cases hn:dueM Vc T B hand used S n=.non
   ·rw[if_pos hn] at hwk
    rw[hn]
    rw[show(!decide (V.non=V.non))=false by simp]
    refine iteF ?_
    nofun
    exists Y8
    refine⟨_,rfl,y,dxw,fsw,rfl,s2 _ _ hw,w7,_,rfl,y,t,b,x,T,B,S,hand,used,n,Vc,rfl,hY.same s2,hT.same s02,hB.same s02,hx.same s2,wf,vo,hV,by omega,fun H3 y' x' s3 fy' hY1 hx1=>?_⟩
    have hY':=hY1.at
    have hx':=hx1.is
    exists 3
    exact⟨s02.trans s3,y',x',used++[n],_,_,hY',s02.free fy',hx',wf.after vo,by rw[NG,hul];rfl,hwk,rfl⟩
   ·rw[if_neg hn] at hwk
    rw[show(!decide (dueM Vc T B hand used S n=V.non))=true by simp[hn]]
    refine iteT ?_
    exists 3
    exists Y8
    refine⟨_,rfl,k H2 y x s02 fy ?_ ?_ ?_⟩
    ·rw[<-hwk];exact hY.same s2
    ·rw[<-hwk];exact hx.same s2
    ·rw[<-hwk];exact wf
  ·rintro σ H' ⟨sI,y,x,used,S,v5,hY,fy,hx,wf,hul,hwalk,rfl⟩
   rw[Nq,MG] at hwalk
   have hwk:=hwalk
   unfold walkM at hwk
   nofun
   exists Y6
   refine⟨_,rfl,k H' y x sI fy ?_ ?_ ?_⟩
   ·rw[<-hwk];exact hY
   ·rw[<-hwk];exact hx
   ·rw[<-hwk];exact wf
noncomputable def kcw(T:TillD)(B:Bask)(hand:List Int)(order:List Nat):Option (Nat×L2.V):=
 let r:=walkM T B hand order [] (stnd0 B)
 if r.1.length<order.length then match T.vs[order.getD r.1.length 0]? with
  |none=>none
  |some V=>some (r.1.length,dueM V T B hand r.1 r.2 (order.getD r.1.length 0))
 else if(onlyM T.rs r.1).isNone=true then none else some (r.1.length, .str "only")
noncomputable def FltIs(H:Hp)(v:L2.V):Option (Nat×L2.V)->Prop
 |none=>v=.non
 |some (k,z)=>∃a,v=.ref a/\H a=some (.tup [iV k,z])
inductive kjw (d:D) (vs:List V) (H:Hp) (Q:VK) (E_:XK):Prop
 |ct (t b h o:Addr)(T:TillD)(B:Bask)(hand:List Int)(order:List Nat)(_:vs=[.ref t, .ref b, .ref h, .ref o])(_:TillIs d H t T)(_:kbJ T)(_:BaskIs d.qe d.qg H b B)(_:Wf T.ps B (stnd0 B))(_:H h=some (.lst (hand.map V.int)))(_:H o=some (.lst (order.map iV)))(_:hand.length=T.vs.length)(_:(∀n∈order,n<T.vs.length))(_:order.length<64)(_:∀(H':Hp)(v:L2.V),Same H H'->FltIs H' v (kcw T B hand order)->Q v H'):kjw d vs H Q E_
theorem XA:kao ["till","basket","hand","order","way","place"] ["till","basket","hand","order"] (kag kht):=by ac_rfl
theorem kir(W:WB K mg d base):FO P w W 8 d.Ym d.Yn ["till","basket","hand","order"] (kjw d):=by
 exists W.Q7.F,XA
 ·obtain⟨t,b,h,o,T,B,hand,order,rfl,hT,tok,hB,wf0,hh,ho,hl,hlt,h64,k⟩:=h
  exists UP,kjX,W
  exists Ql,kb8,W
  exists XB,kcE,W
  exists hr2,2,hr,0
  exists hr5,5,hr,0
  refine⟨_,kac (psl (i:=4) XA.nd (pcl UP hr W.Vb (kaa (pv 0) (kaa (pv 1) (kaa (pv 2) (kaa (pv 3) kae))))))
   (kac (psl (i:=5) XA.nd (kat (r:=kaP K) kau (by rfl) W.B.len b_len (kaa (kak (K:=K) (pv 4) rfl) kae)))
   (kac (ps_if (kar op_lt (pv 5) (kat (r:=kaP K) kau (by rfl) W.B.len b_len (kaa (pv 3) kae)) (kaw _)) (kaf (kan (kbu (kaa (pv 5) (kaa (kdi (pv 4) W.c_Way.cl W.qN.me Ql hr5 W.qN.b .nil pass0 (kaa (pe_ix (r:=rIxL K) kax (pv 3) (pv 5) (fun _ _=>rfl)) kae)) kae))))) (kas))
   (kac (ps_if (kc4 (kaR (kcX (pv 4) W.c_Way.cl W.Qi.me XB hr2 W.Qi.b .nil pass0))) (kaf (kan (kbu (kaa (pv 5) (kaa kb5 kae))))) (kas))
   (kaf (kan kaJ))))),?_⟩
  exists Y4
  refine⟨_,rfl,_,rfl,_,rfl,_,rfl,t,b,h,o,T,B,hand,order,rfl,hT,tok,hB,wf0,hh,ho,hl,hlt,h64,fun H1 y x s1 fy hY hx wf=>?_⟩
  unfold kcw at k
  simp only at k
  generalize walkM T B hand order [] (stnd0 B)=r at *
  obtain⟨used,S⟩:=r
  simp only at *
  obtain⟨dxw,fsw,hd,u,hw,w1,w2,w3,w4,w5,w6,w7,w8,w9,w10,hh',hu⟩:=id hY
  symm
  exists Y4
  refine⟨_,rfl,y,d.c_Way,dxw,fsw,_,rfl,hw,W.c_Way.cl,W.qr,w4,u,_,rfl, .inl (SqL.of hu),?_⟩
  rw[Nq]
  symm
  exists Y4
  refine⟨_,rfl,_,rfl,o,_,rfl, .inl (SqL.of (s1 _ _ ho)),_,_,rfl,rfl,_,rfl,?_⟩
  rw[Nq]
  by_cases hlen:used.length<order.length
  ·rw[if_pos hlen] at k
   rw[show decide ((used.length:Int)<(order.length:Int))=true by simp;exact hlen]
   obtain⟨n,en⟩:=at_of hlen
   have eg:order.getD used.length 0=n:=by rw[NL,en];rfl
   obtain⟨Vc,hV⟩:=at_of (hlt n (Ny en))
   rw[eg,hV] at k
   have vo:=tok.vs Vc (Ny hV)
   refine iteT ?_
   symm
   exists Y6
   refine⟨_,rfl,_,rfl,y,dxw,fsw,rfl,hw,w6,_,rfl,_,rfl,o,_,_,_,rfl,rfl,SqL.of (s1 _ _ ho),kaz (v:=iV n) (by rw[Nz,en];rfl),y,t,b,x,T,B,S,hand,used,n,Vc,rfl,hY,hT.same s1,hB.same s1,hx,wf,vo,hV,hl,fun H2 s2=>?_⟩
   nofun
   exists Y6
   refine⟨(by show 2<=sizeLine;decide),fun q hq=>?_⟩
   nofun
   exact k _ _ ((s1.trans s2).trans (kam hq)) ⟨q,rfl,kad⟩
  ·rw[if_neg hlen] at k
   rw[show decide ((used.length:Int)<(order.length:Int))=false by simp;omega]
   refine iteF ?_
   nofun
   exists Y6
   refine⟨_,rfl,y,dxw,fsw,rfl,hw,w8,y,t,b,x,T,hand,used,rfl,hY,hT.same s1,_,rfl,?_⟩
   cases e:(onlyM T.rs used).isNone with
   |true=>
    rw[e,if_pos rfl] at k
    refine iteF ?_
    nofun
    exact k H1 _ s1 rfl
   |false=>
    rw[e,if_neg NB] at k
    refine iteT ?_
    nofun
    exists Y8
    refine⟨_,rfl,(by show 2<=sizeLine;decide),fun q hq=>?_⟩
    exists 3
    exact k _ _ (s1.trans (kam hq)) ⟨q,rfl,kad⟩
noncomputable def waysM(T:TillD)(B:Bask)(hand:List Int):Nat->List Nat->Stnd->List (List Nat×Stnd)
 |0,_,_=>[]
 |k+1,used,S=>(if(onlyM T.rs used).isNone=true then [(used,S)] else [])++(folM T B hand used S).flatMap fun n=>match T.vs[n]? with
  |none=>[]
  |some V=>waysM T B hand k (used++[n]) (aftM V T.ps (kds B) S)
noncomputable def Deep(T:TillD)(B:Bask)(hand:List Int):Nat->List Nat->Stnd->Prop
 |0,_,_=>False
 |k+1,used,S=>∀n∈folM T B hand used S,∀V,T.vs[n]?=some V->Deep T B hand k (used++[n]) (aftM V T.ps (kds B) S)
theorem WayN.same{d:D}{m:Nat}{H0 H H':Hp}{w t b x:Addr}{hand:List Int}{used:List Nat}(s:Same H H'):WayN d m H0 H w t b x hand used->WayN d m H0 H' w t b x hand used:=by rintro⟨f,dx,fs,h,u,f1,f2,h1,h2,h3,h4,h5,h6,h7,h8,h9,h10,h11,h12,h13⟩;exact
 ⟨f,dx,fs,h,u,f1,f2,s _ _ h1,h2,h3,h4,h5,h6,h7,h8,h9,h10,h11,s _ _ h12,s _ _ h13⟩
theorem StndN.same{C x:Addr}{H0 H H':Hp}{S:Stnd}(s:Same H H'):StndN C H0 H x S->StndN C H0 H' x S:=by rintro⟨f,o,p,mk,⟨dx,fs,hx,r⟩,f1,f2,f3,h1,h2,h3⟩;exact⟨f,o,p,mk,⟨dx,fs,s _ _ hx,r⟩,f1,f2,f3,s _ _ h1,s _ _ h2,s _ _ h3⟩
noncomputable def WayQ(d:D)(t b:Addr)(hand:List Int)(H0 H:Hp)(w:Addr)(q:List Nat×Stnd):Prop:=∃x,WayN d 7 H0 H w t b x hand q.1/\StndN d.qc H0 H x q.2
theorem WayQ.same{d:D}{t b w:Addr}{hand:List Int}{H0 H H':Hp}{q:List Nat×Stnd}(s:Same H H'):WayQ d t b hand H0 H w q->WayQ d t b hand H0 H' w q:=by rintro⟨x,h1,h2⟩;exact⟨x,h1.same s,h2.same s⟩
theorem WayQ.rmv{d:D}{t b w z:Addr}{hand:List Int}{H0 H1 H:Hp}{q:List Nat×Stnd}(s:Same H0 H1)(hz:H1 z≠none):WayQ d t b hand H1 H w q->WayQ d t b hand H0 (Vs.rmv z H) w q:=by rintro⟨x,⟨f,dx,fs,h,u,f1,f2,g,h2,h3,h4,h5,h6,h7,h8,h9,h10,h11,h12,h13⟩,⟨e,o,p,mk,⟨dy,gs,hx,r⟩,e1,e2,e3,k1,k2,k3⟩⟩;exact
 ⟨x,⟨none_of s f,dx,fs,h,u,none_of s f1,none_of s f2,(kce hz f).trans g,h2,h3,h4,h5,h6,h7,h8,h9,h10,h11,(kce hz f1).trans h12,(kce hz f2).trans h13⟩,
  ⟨none_of s e,o,p,mk,⟨dy,gs,(kce hz e).trans hx,r⟩,none_of s e1,none_of s e2,none_of s e3,(kce hz e1).trans k1,(kce hz e2).trans k2,(kce hz e3).trans k3⟩⟩
inductive kfk (d:D) (n:Nat) (vs:List V) (H:Hp) (Q:VK) (E_:XK):Prop
 |ct (H0:Hp)(wy t b:Addr)(T:TillD)(B:Bask)(S:Stnd)(hand:List Int)(used:List Nat)(_:vs=[.ref wy])(_:Same H0 H)(_:WayQ d t b hand H0 H wy (used,S))(_:TillIs d H t T)(_:kbJ T)(_:BaskIs d.qe d.qg H b B)(_:Wf T.ps B S)(_:hand.length=T.vs.length)(_:Deep T B hand n used S)(_:used.length+n<64)(_:(waysM T B hand n used S).length<=1000)(_:∀(H':Hp)(p:Addr)(wl:List Addr),Same H H'->H p=none->H' p=some (.lst (wl.map V.ref))->P2 (fun w q=>WayQ d t b hand H0 H' w q) wl (waysM T B hand n used S)->Q (.ref p) H'):kfk d n vs H Q E_
theorem kjk{d:D}{vs:List V}{H:Hp}{Q:VK}{E:XK}(h:kfk d 0 vs H Q E):False:=by
 obtain⟨_,_,_,_,_,_,_,_,_,_,_,_,_,_,_,_,_,h,_⟩:=h
 exact h
theorem kgZ{α β:Type}{f: α->List β}{l:List α}{i:Nat}{a: α}(h:l[i]?=some a):(l.take (i+1)).flatMap f=(l.take i).flatMap f++f a:=by
 rw[take_snoc h,EU,Ec,EV,Ml]
theorem kmP{α β:Type}{f: α->List β}{l:List α}{i:Nat}:((l.take i).flatMap f).length<=(l.flatMap f).length:=by
 conv=>rhs;rw[<-Dm i l,EU,NG]
 omega
theorem XC:kao ["way","found","number"] ["way"] (kag kc8):=by ac_rfl
theorem ke9(W:WB K mg d base)(n:Nat)(G_rec:FO P w W (6+n) d.q9 d.Qa ["way"] ((kfk d) n)):FO P w W (6+n+1) d.q9 d.Qa ["way"] ((kfk d) (n+1)):=by
 refine FunD.ok W.Qd.F XC (fun vs H Q E h=>?_) (fun cdv A outer s H vs Q E hr h=>?_)
 ·obtain⟨H0,wy,t,b,T,B,S,hand,used,rfl,_⟩:=h
  rfl
 ·obtain⟨H0,wy,t,b,T,B,S,hand,used,rfl,s0,hq,hT,tok,hB,wf,hl,hdp,h64,hlen,kk⟩:=h
  exists XB,kcE,W
  exists UQ,ked,W
  exists qQ,kbU,W
  have hr2:Room 2 _:=hr.mono (by omega)
  have hr6:Room 6 _:=hr.mono (by omega)
  refine⟨_,kac (psl (i:=1) XC.nd (kdW (kbT (kaR (kcX (pv 0) W.c_Way.cl W.Qi.me XB hr2 W.Qi.b .nil pass0)) (kaN (kaa (pv 0) kae)) (kaN kae))))
   (kac (kaU PassesOwn.never rfl (kaE (K:=K) (kcX (pv 0) W.c_Way.cl W.Xo.me UQ hr6 W.Xo.b .nil pass0)) (pgn (i:=2) XC.nd)
   (kaf (ka9 (pe_bm Mp ER ES kdv (pv 1) (kaa (khz G_rec hr rfl W.Qd.m W.Qd.F.kp W.Qd.b .nil pass0 (kaa (kdi (pv 0) W.c_Way.cl W.qD.me qQ hr6 W.qD.b .nil pass0 (kaa (pv 2) kae)) kae)) kae)))))
   (kaf (kan (pv 1)))),?_⟩
  obtain⟨x,hY,hS⟩:=id hq
  have hYI:=hY.at
  have hSI:=hS.is
  obtain⟨dxw,fsw,hd,u,hw,w1,w2,w3,w4,w5,w6,w7,w8,w9,w10,hh,hu⟩:=id hYI
  have hws:waysM T B hand (n+1) used S=(if(onlyM T.rs used).isNone=true then [(used,S)] else [])++(folM T B hand used S).flatMap fun m=>match T.vs[m]? with
   |none=>[]
   |some V=>waysM T B hand n (used++[m]) (aftM V T.ps (kds B) S):=rfl
  generalize hpre:(if(onlyM T.rs used).isNone=true then [(used,S)] else [])=pre at hws
  have hdp':∀m∈folM T B hand used S,∀V,T.vs[m]?=some V->Deep T B hand n (used++[m]) (aftM V T.ps (kds B) S):=hdp
  generalize hfm:(fun m=>match T.vs[m]? with
   |none=>[]
   |some V=>waysM T B hand n (used++[m]) (aftM V T.ps (kds B) S))=fm at hws
  refine⟨fun v H1=>∃(fo:Addr)(wl:List Addr),v=.ref fo/\Same H H1/\H fo=none/\H1 fo=some (.lst (wl.map V.ref))/\P2 (fun w q=>WayQ d t b hand H0 H w q) wl pre,?_,?_⟩
  ·refine⟨_,rfl,wy,dxw,fsw,rfl,hw,w8,wy,t,b,x,T,hand,used,rfl,hYI,hT,_,rfl,?_⟩
   cases e:(onlyM T.rs used).isNone with
   |true=>
    rw[e,if_pos rfl] at hpre
    subst hpre
    exact iteT ⟨_,rfl,(by show 1<=sizeLine;decide),fun fo ffo=>⟨fo,[wy],rfl,kam ffo,ffo,kad, .cons hq .nil⟩⟩
   |false=>
    rw[e,if_neg NB] at hpre
    subst hpre
    exact iteF ⟨(by show 0<=sizeLine;decide),fun fo ffo=>⟨fo,[],rfl,kam ffo,ffo,kad, .nil⟩⟩
  rintro v H1 ⟨fo,wl0,rfl,s1,ffo,efo0,hwl0⟩
  refine⟨_,rfl,wy,dxw,fsw,rfl,s1 _ _ hw,w9,wy,t,b,x,T,B,S,hand,used,rfl,hYI.same s1,hT.same s1,tok,hB.same s1,hSI.same s1,wf,hl,fun H2 fl s2 ffl efl=>?_⟩
  have s02:=s1.trans s2
  refine⟨fl,rfl,⟨_,SqL.of efl⟩,ka3 (xs:=(folM T B hand used S).map iV) (fun i σ H'=>Same H H'/\H' fl=some (.lst ((folM T B hand used S).map iV))/\∃(Hw:Hp)(wl:List Addr)(v2:Option V),Same Hw H'/\Same H0 Hw/\Hw fo=none/\H' fo=some (.lst (wl.map V.ref))/\P2 (fun w q=>WayQ d t b hand H0 Hw w q) wl (pre++((folM T B hand used S).take i).flatMap fm)/\σ=[some (.ref wy),some (.ref fo),v2])
   ⟨s02,efl,H,wl0,none,s02,s0,ffo,s2 _ _ efo0,by rw[List.take_zero,EV,Ml];exact hwl0,rfl⟩ (fun i σ H' _ h=>SqL.of h.2.1) ?_ ?_⟩
  ·rintro i y σ H' hy ⟨sI,efl',Hw,wl,v2,sw,s0w,fwo,efo,hwl,rfl⟩
   obtain⟨m,em,rfl⟩:∃m,(folM T B hand used S)[i]?=some m/\y=iV m:=kbo hy
   have hmem:=Ny em
   have hm:m<T.vs.length:=by
    unfold folM at hmem
    exact M6.mp (N5.mp hmem).1
   obtain⟨Vc,hV⟩:=at_of hm
   have vo:=tok.vs Vc (Ny hV)
   have efm:fm m=waysM T B hand n (used++[m]) (aftM Vc T.ps (kds B) S):=by rw[<-hfm];simp only[hV]
   have hle:=kmP (f:=fm) (l:=folM T B hand used S) (i:=i+1)
   rw[kgZ em,NG] at hle
   rw[hws,NG] at hlen
   have lwl:=hwl.len
   rw[NG] at lwl
   refine⟨_,rfl, .inl ⟨rfl,_,SqL.of efo⟩,_,rfl,wy,dxw,fsw,rfl,sI _ _ hw,w7,_,rfl,wy,t,b,x,T,B,S,hand,used,m,Vc,rfl,hYI.same sI,hT.same sI,hB.same sI,hSI.same sI,wf,vo,hV,by omega,fun H4 wy' x' s4 f4 hY' hx'=>?_⟩
   have s04:=sI.trans s4
   refine⟨H',wy',t,b,T,B,aftM Vc T.ps (kds B) S,hand,used++[m],rfl,s4,⟨x',hY',hx'⟩,hT.same s04,tok,hB.same s04,wf.after vo,hl,hdp' m hmem Vc hV,(by rw[NG,Mv];omega),(by rw[<-efm];omega),fun H5 p5 wl5 s5 f5 e5 hwl5=>?_⟩
   have s15:=s4.trans s5
   have efo5:=s15 _ _ efo
   rw[<-efm] at hwl5
   have l5:=hwl5.len
   refine⟨fo,p5,_,_,rfl,rfl,efo5,e5,ND (kap (by rw[Nq,Nq];omega)),?_⟩
   rw[<-NC]
   have hfo':H' fo≠none:=by rw[efo];intro z;cases z
   have nfl:fl≠fo:=fun e=>by
    rw[e] at ffl
    rw[efo0] at ffl
    cases ffl
   have bw:=kjH (x:=fo) (H:=H5) (nx efo5)
   have sw5:=kgf (sw.trans s15) bw fwo
   have s0H':Same H0 H':=s0.trans sI
   refine⟨kaq ffo (sI.trans s15) (nx efo5),by rw[kaj nfl];exact s15 _ _ efl',Vs.rmv fo H5,wl++wl5,_,kgf kjG (kav (nx efo5)) kik,s0w.trans sw5,kik,kad,?_,rfl⟩
   rw[kgZ em,<-Mg]
   exact P2.append (hwl.mono fun w q h=>h.same sw5) (hwl5.mono fun w q h=>h.rmv s0H' hfo')
  ·rintro σ H' ⟨sI,_,Hw,wl,v2,sw,s0w,fwo,efo,hwl,rfl⟩
   rw[Nq,NY,<-hws] at hwl
   exact⟨_,rfl,kk H' fo wl sI ffo efo (hwl.mono fun w q h=>h.same sw)⟩
theorem kdq(W:WB K mg d base):∀n:Nat,FO P w W (6+n) d.q9 d.Qa ["way"] ((kfk d) n)
 |0=>⟨fun _ _ _ _ h=>(kjk h).elim,fun _ _ _ _ _ _ _ _ _ _ _ _ _ h=>(kjk h).elim⟩
 |n+1=>ke9 W n (kdq W n)
theorem kgB(W:WB K mg d base):FO P w W 16 d.q9 d.Qa ["way"] ((kfk d) 10):=kdq W 10
theorem kkq(hl:hand.length=T.vs.length):∀(k:Nat)(used:List Nat)(S:Stnd),remM hand used<k->Deep T B hand k used S
 |0,_,_,h=>by omega
 |k+1,used,S,h=>fun n hn V _=>by
  have hc:=(N5.mp hn).2
  obtain⟨h1,h2⟩:=kcZ hc
  have:=kej (hand:=hand) (used:=used) (n:=n) (by omega) h2
  exact kkq hl k _ _ (by omega)
theorem khY{T:TillD}{B:Bask}{hand:List Int}(hl:hand.length=T.vs.length):∀(k:Nat)(used:List Nat)(S:Stnd),(waysM T B hand k used S).length<=fan (remM hand used)
 |0,_,_=>by unfold waysM;exact N1 _
 | k+1,used,S=>by
  have h0:(if(onlyM T.rs used).isNone=true then [(used,S)] else []).length<=1:=by split <;> simp
  unfold waysM
  rw[NG]
  cases er:remM hand used with
  |zero=>
   have hf:=kl1 (T:=T) (B:=B) (used:=used) (S:=S) hl
   rw[er] at hf
   have:folM T B hand used S=[]:=DN.mp (Nat.le_zero.mp hf)
   rw[this,EV]
   show _+0<=1
   omega
  | succ r=>
   have hf:=kl1 (T:=T) (B:=B) (used:=used) (S:=S) hl
   rw[er] at hf
   show _<=1+(r+1)*fan r
   refine Nx (Nat.add_le_add h0 (kf8 (k:=fan r) (fun n hn=>?_))) (Nat.add_le_add_left (Dl _ hf) 1)
   cases e:T.vs[n]? with
   |none=>exact N1 _
   |some V=>
    have hc:=(N5.mp hn).2
    obtain⟨h1,h2⟩:=kcZ hc
    have hd:=kej (hand:=hand) (used:=used) (n:=n) (by omega) h2
    have hi:=khY (B:=B) hl k (used++[n]) (aftM V T.ps (kds B) S)
    rw[show remM hand (used++[n])=r by omega] at hi
    exact hi
theorem kkg{S:Stnd}(hl:hand.length=T.vs.length)(hn:∀z∈hand,0<=z)(h5:hand.sum<=5):Deep T B hand 10 [] S/\(waysM T B hand 10 [] S).length<=1000:=by
 have e:=kjI hand hn
 have h:remM hand []<=5:=by omega
 exact⟨kkq hl 10 [] S (by omega),Nx (khY hl 10 [] S) (Nx (kf9 h) (by decide))⟩
noncomputable def ker(V:Vch)(ps:List (Option Nat))(B:Bask)(S:Stnd):Bool:=match V.so with
 | .off a=>decide ((qs S.pr (abt ps (kds B) V.ms.kind V.ms.lone S)).sum<a)
 |_=>false
inductive kh6 (d:D) (vs:List V) (H:Hp) (Q:VK) (E_:XK):Prop
 |ct (wy t b x v:Addr)(T:TillD)(B:Bask)(S:Stnd)(hand:List Int)(used:List Nat)(V:Vch)(_:vs=[.ref wy, .ref v])(_:WayIs d H wy t b x hand used)(_:TillIs d H t T)(_:BaskIs d.qe d.qg H b B)(_:StndIs d.qc H x S)(_:Wf T.ps B S)(_:VchIs d H v V)(_:VchOk T.ps V)(_:∀(H':Hp),Same H H'->Q (.bl (ker V T.ps B S)) H'):kh6 d vs H Q E_
theorem VZ:kao ["way","voucher","pieces"] ["way","voucher"] (kag kfM):=by ac_rfl
theorem kjY(W:WB K mg d base):FO P w W 4 d.YJ d.YK ["way","voucher"] (kh6 d):=by
 exists W.Vm.F,VZ
 ·obtain⟨wy,t,b,x,v,T,B,S,hand,used,⟨so,ms⟩,rfl,hW,hT,hB,hS,wf,hV,vo,kk⟩:=h
  obtain⟨mA,dxv,fsv,hv,lvm,hso,hM,hh,htb⟩:=id hV
  obtain⟨dxw,fsw,h,u,hw,w1,w2,w3,w4,w5,w6,w7,w8,w9,w10,hh',hu⟩:=id hW
  obtain⟨dx,fs,p,vl,rl,va,ra,ht,t1,t2,t3,t4,hp,hvl,hva,hrl,hra⟩:=id hT
  have I:=kiA W hh
  have lp:=wf.lp
  have np:=wf.np
  have habl:∀i∈abt T.ps (kds B) ms.kind ms.lone S,i<S.pr.length:=fun i hi=>by rw[lp];exact khf hi
  have lab:(abt T.ps (kds B) ms.kind ms.lone S).length<=720:=Nx (kdU _ _ _ _ _) np
  exists Qk,kfV,W
  exists qP,kbQ,W
  exists hr2,2,hr,0
  refine⟨_,kac (ps_if (kc4 (kaR (kat (r:=rIsi K) kaQ (by rfl) W.B.isi b_isi (kaa (pv 1) (kaa (kcp (v:=.ref d.c_Off) (by rfl) W.g_Off rfl) kae))))) (kaf (kan pe_bl)) (kas))
   (kac (psl (i:=2) VZ.nd (pcl Qk hr W.Qw (kaa (pv 1) (kaa (kak (K:=K) (kak (K:=K) (pv 0) rfl) rfl) (kaa (kak (K:=K) (pv 0) rfl) (kaa (kak (K:=K) (pv 0) rfl) kae))))))
   (kaf (kan (kbP op_gt (kak (K:=K) (pv 1) rfl) (pcl qP hr2 W.qT (kaa (kak (K:=K) (pv 0) rfl) (kaa (pv 2) kae))) (kaw _))))),?_⟩
  refine⟨_,rfl,_,_,_,_,rfl, .inr ⟨_,rfl⟩,TyOf.ins hv (cl_of W hh) I.ha I.hn I.ht I.hm,khK W hh,_,rfl,?_⟩
  cases so with
  |off am=>
   refine iteF ⟨_,rfl,_,rfl,wy,d.c_Way,dxw,fsw,_,rfl,hw,W.c_Way.cl,W.qt,w1,t,d.qd,dx,fs,_,rfl,ht,W.qd.cl,W.qO,t1,_,rfl,wy,d.c_Way,dxw,fsw,_,rfl,hw,W.c_Way.cl,W.qW,w2,_,rfl,wy,d.c_Way,dxw,fsw,_,rfl,hw,W.c_Way.cl,W.qA,w5,v,p,b,x,⟨.off am,ms⟩,T.ps,B,S,rfl,hV,SqL.of hp,hB,hS,wf,vo,fun H1 g s1 fg eg=>?_⟩
   refine⟨_,rfl,v,d.c_Off,dxv,fsv,_,rfl,s1 _ _ hv,W.c_Off.cl,W.QC,hso,_,rfl,wy,d.c_Way,dxw,fsw,_,rfl,s1 _ _ hw,W.c_Way.cl,W.qA,w5,_,rfl,x,g,S,_,rfl,hS.same s1,eg,habl,lab,fun H2 s2=>⟨_,_,rfl,rfl,?_⟩⟩
   exact kk H2 (s1.trans s2)
  |share a b=>exact iteT (kk H (Same.refl _))
  |cheap a=>exact iteT (kk H (Same.refl _))
  |bund a b=>exact iteT (kk H (Same.refl _))
  |carr=>exact iteT (kk H (Same.refl _))
noncomputable def kbh(T:TillD)(B:Bask):List Nat->Stnd->Nat->Option Nat
 |[],_,_=>none
 |n::ns,S,i=>match T.vs[n]? with
  |none=>none
  |some V=>if ker V T.ps B S=true then some i else kbh T B ns (aftM V T.ps (kds B) S) (i+1)
inductive kjr (d:D) (vs:List V) (H:Hp) (Q:VK) (E_:XK):Prop
 |ct (wy t b x:Addr)(T:TillD)(B:Bask)(S:Stnd)(hand:List Int)(used:List Nat)(_:vs=[.ref wy])(_:WayIs d H wy t b x hand used)(_:TillIs d H t T)(_:kbJ T)(_:BaskIs d.qe d.qg H b B)(_:Wf T.ps B (stnd0 B))(_:hand.length=T.vs.length)(_:(∀n∈used,n<T.vs.length))(_:used.length<64)(_:∀(H':Hp),Same H H'->Q (pV (kbh T B used (stnd0 B) 0)) H'):kjr d vs H Q E_
theorem Qm:kao ["way","so_far","place","number"] ["way"] (kag kbL):=by ac_rfl
theorem kdN(W:WB K mg d base):FO P w W 7 d.YH d.YI ["way"] (kjr d):=by
 exists W.Vl.F,Qm
 ·obtain⟨wy,t,b,x,T,B,S,hand,used,rfl,hW,hT,tok,hB,wf0,hl,hlt,h64,kk⟩:=h
  obtain⟨dxw,fsw,h,u,hw,w1,w2,w3,w4,w5,w6,w7,w8,w9,w10,hh',hu⟩:=id hW
  obtain⟨dx,fs,p,vl,rl,va,ra,ht,t1,t2,t3,t4,hp,hvl,hva,hrl,hra⟩:=id hT
  exists qG,kb9,W
  exists UR,kjY,W
  exists qQ,kbU,W
  exists hr4,4,hr,0
  exists hr5,5,hr,0
  refine⟨_,kac (psl (i:=1) Qm.nd (kaX (W.qy.mk' W.c_Way) qG hr5 rfl W.c_Way.m W.qy.b .nil pass0 (kaa (kak (K:=K) (pv 0) rfl) (kaa (kak (K:=K) (pv 0) rfl) (kaa (kak (K:=K) (pv 0) rfl) kae)))))
   (kac (kaU PassesOwn.never rfl (kfS rfl W.B.enum (kaa (kak (K:=K) (pv 0) rfl) kae)) (kby (K:=K) (n:=2) rfl (kaC (pgn (i:=2) Qm.nd) (kaC (pgn (i:=3) Qm.nd) kbx)))
   (kac (ps_if (kaR (pcl UR hr4 W.Vm (kaa (pv 1) (kaa (pe_ix (r:=rIxL K) kax (kak (K:=K) (kak (K:=K) (pv 0) rfl) rfl) (pv 3) (fun _ _=>rfl)) kae)))) (kaf (kan (pv 2))) (kas))
   (kaf (psl (i:=1) Qm.nd (kdi (pv 1) W.c_Way.cl W.qD.me qQ hr W.qD.b .nil pass0 (kaa (pv 3) kae))))))
   (kaf (kan kaJ))),?_⟩
  refine⟨_,rfl,wy,d.c_Way,dxw,fsw,_,rfl,hw,W.c_Way.cl,W.qt,w1,_,rfl,wy,d.c_Way,dxw,fsw,_,rfl,hw,W.c_Way.cl,W.qW,w2,_,rfl,wy,d.c_Way,dxw,fsw,_,rfl,hw,W.c_Way.cl,W.QD,w3,kgN hh' hB wf0.nl wf0.ok fun H1 y0 x0 s1 fy0 fx0 hy0N hx0=>?_⟩
  have hy0:=hy0N.at
  generalize eR:kbh T B used (stnd0 B) 0=R at kk
  refine⟨_,rfl,wy,d.c_Way,dxw,fsw,_,rfl,s1 _ _ hw,W.c_Way.cl,W.qr,w4,u,_,rfl,s1 _ _ hu,kf7 (xs:=used.map iV) (fun i σ H'=>Same H H'/\∃(y x:Addr)(us:List Nat)(S:Stnd)(v2 v3:Option V),WayIs d H' y t b x hand us/\StndIs d.qc H' x S/\Wf T.ps B S/\us.length=i/\kbh T B (used.drop i) S i=R/\σ=[some (.ref wy),some (.ref y),v2,v3])
   ⟨s1,y0,x0,[],_,none,none,hy0.most (by decide),hx0,wf0,rfl,eR,rfl⟩ (fun i σ H' _ h=>h.1 _ _ hu) ?_ ?_⟩
  ·rintro i yv tp σ H2 hyv ⟨s2,y,x',us,S',v2,v3,hY,hX,wf,hul,hR,rfl⟩ ftp
   obtain⟨n,en,rfl⟩:∃n,used[i]?=some n/\yv=iV n:=kbo hyv
   have hi:=at_lt en
   obtain⟨Vc,hV⟩:=at_of (hlt n (Ny en))
   have vo:=tok.vs Vc (Ny hV)
   have ed:used.drop i=n::used.drop (i+1):=by
    obtain⟨h1,h2⟩:=NF.mp en
    rw[My h1,h2]
   rw[ed] at hR
   unfold kbh at hR
   rw[hV] at hR
   simp only at hR
   exists H2,tp,H3,n3,e3,ftp
   have s3:=s2.trans n3
   obtain⟨v,ev⟩:=at_of (xs:=va) (i:=n) (by rw[hva.len];exact at_lt hV)
   obtain⟨Vc',eV',hVv⟩:=hva.at ev
   rw[hV] at eV'
   cases eV'
   obtain⟨dxy,fsy,hd,uy,hy,y1,y2,y3,y4,y5,y6,y7,y8,y9,y10,hhy,huy⟩:=id (hY.same n3)
   refine⟨tp,_,rfl,SqT.of e3,rfl,_,_,rfl,_,_,rfl,rfl,?_⟩
   refine⟨_,rfl,_,rfl,wy,d.c_Way,dxw,fsw,_,rfl,s3 _ _ hw,W.c_Way.cl,W.qt,w1,t,d.qd,dx,fs,_,rfl,s3 _ _ ht,W.qd.cl,W.qp,t2,_,rfl,vl,_,_,_,rfl,rfl,SqL.of (s3 _ _ hvl),kaz (v:=V.ref v) (by rw[Nz,ev];rfl),y,t,b,x',v,T,B,S',hand,us,Vc,rfl,hY.same n3,hT.same s3,hB.same s3,hX.same n3,wf,hVv.same s3,vo,fun H4 s4=>?_⟩
   have s04:=s3.trans s4
   cases cs:ker Vc T.ps B S' with
   |true=>
    rw[cs,if_pos rfl] at hR
    refine⟨_,rfl,iteT ⟨_,rfl,?_⟩⟩
    have:=kk H4 s04
    rw[<-hR] at this
    exact this
   |false=>
    rw[cs,if_neg NB] at hR
    refine⟨_,rfl,iteF ?_⟩
    refine⟨_,rfl,y,dxy,fsy,rfl,s4 _ _ hy,y7,_,rfl,y,t,b,x',T,B,S',hand,us,n,Vc,rfl,(hY.same n3).same s4,hT.same s04,hB.same s04,(hX.same n3).same s4,wf,vo,hV,by omega,fun H5 y' x'' s5 fy' hY1 hx1=>?_⟩
    exact⟨s04.trans s5,y',x'',us++[n],_,_,_,hY1.at,hx1.is,wf.after vo,by rw[NG,hul];rfl,hR,rfl⟩
  ·rintro σ H2 ⟨s2,y,x',us,S',v2,v3,hY,hX,wf,hul,hR,rfl⟩
   rw[Nq,MG] at hR
   have:=kk H2 s2
   rw[<-hR] at this
   exact this
noncomputable def kbE(T:TillD)(B:Bask):List (List Nat×Stnd)->Option (List Nat×Nat)
 |[]=>none
 |q::qs=>match kbh T B q.1 (stnd0 B) 0 with
  |some i=>some (q.1,i)
  |none=>kbE T B qs
noncomputable def LkIs(H H':Hp)(v:V):Option (List Nat×Nat)->Prop
 |none=>v=.non
 |some (o,i)=>∃p l,v=.ref p/\H l=none/\H' p=some (.tup [.ref l,iV i])/\H' l=some (.lst (o.map iV))
inductive kia (d:D) (vs:List V) (H:Hp) (Q:VK) (E_:XK):Prop
 |ct (wl t b:Addr)(wa:List Addr)(T:TillD)(B:Bask)(hand:List Int)(qs:List (List Nat×Stnd))(_:vs=[.ref wl])(_:H wl=some (.lst (wa.map V.ref)))(_:P2 (fun wy q=>∃x,WayIs d H wy t b x hand q.1) wa qs)(_:TillIs d H t T)(_:kbJ T)(_:BaskIs d.qe d.qg H b B)(_:Wf T.ps B (stnd0 B))(_:hand.length=T.vs.length)(_:(∀q∈qs,(∀n∈q.1,n<T.vs.length)/\q.1.length<64))(_:∀(H':Hp)(v:V),Same H H'->LkIs H H' v (kbE T B qs)->Q v H'):kia d vs H Q E_
theorem XD:kao ["ways","way","place"] ["ways"] (kag kbl):=by ac_rfl
theorem kc2(W:WB K mg d base):FO P w W 8 d.Qs d.Qt ["ways"] (kia d):=by
 exists W.Qz.F,XD
 ·obtain⟨wl,t,b,wa,T,B,hand,qs,rfl,hwl,hwa,hT,tok,hB,wf0,hl,hqs,kk⟩:=h
  have lwa:=hwa.len
  exists US,kdN,W
  refine⟨_,kac (kaU PassesOwn.never rfl (kaE (K:=K) (pv 0)) (pgn (i:=1) XD.nd)
   (kac (psl (i:=2) XD.nd (pcl US hr W.Vl (kaa (pv 1) kae)))
   (kaf (ps_if (kar kb6 (pv 2) kaJ (kaw _)) (kaf (kan (kbu (kaa (kaK (r:=ka4 K) kaA (by rfl) W.B.list kbj (kaa (kak (K:=K) (pv 1) rfl) kae)) (kaa (pv 2) kae))))) (kas)))))
   (kaf (kan kaJ)),?_⟩
  generalize eR:kbE T B qs=R at kk
  refine⟨_,rfl,wl,rfl,⟨_,SqL.of hwl⟩,ka3 (xs:=wa.map V.ref) (fun i σ H'=>Same H H'/\∃(v1 v2:Option V),kbE T B (qs.drop i)=R/\σ=[some (.ref wl),v1,v2])
   ⟨Same.refl _,none,none,eR,rfl⟩ (fun i σ H' _ h=>SqL.of (h.1 _ _ hwl)) ?_ ?_⟩
  ·rintro i y σ H1 hy ⟨s1,v1,v2,hR,rfl⟩
   obtain⟨wy,ew,rfl⟩:=kbR hy
   obtain⟨q,eq,x,hW⟩:=hwa.at ew
   obtain⟨hq1,hq2⟩:=hqs q (Ny eq)
   have ed:qs.drop i=q::qs.drop (i+1):=by
    obtain⟨h1,h2⟩:=NF.mp eq
    rw[My h1,h2]
   rw[ed] at hR
   unfold kbE at hR
   obtain⟨dxw,fsw,h,u,hw,w1,w2,w3,w4,w5,w6,w7,w8,w9,w10,hh',hu⟩:=id hW
   refine⟨_,rfl,wy,t,b,x,T,B,stnd0 B,hand,q.1,rfl,hW.same s1,hT.same s1,tok,hB.same s1,wf0,hl,hq1,hq2,fun H2 s2=>?_⟩
   have s02:=s1.trans s2
   cases cs:kbh T B q.1 (stnd0 B) 0 with
   |none=>
    rw[cs] at hR
    refine⟨_,rfl,rfl,_,rfl,?_⟩
    rw[show(!decide (pV (none:Option Nat)=V.non))=false by simp[pV]]
    exact iteF ⟨s02,_,_,hR,rfl⟩
   |some k=>
    rw[cs] at hR
    refine⟨_,rfl,rfl,_,rfl,?_⟩
    rw[show(!decide (pV (some k)=V.non))=true by simp[pV]]
    refine iteT ⟨_,rfl,wy,d.c_Way,dxw,fsw,_,rfl,s02 _ _ hw,W.c_Way.cl,W.qr,w4,u,_,rfl, .inl (SqL.of (s02 _ _ hu)),fun l fl=>?_⟩
    exists H2,l,H3,n3,e3,fl
    refine⟨_,rfl,(by show 2<=sizeLine;decide),fun p fp=>?_⟩
    exists H3,p,H4,n4,e4,fp
    refine kk H4 (.ref p) ((s02.trans n3).trans n4) ?_
    rw[<-hR]
    exact⟨p,l,rfl,s02.free fl,e4,n4 _ _ e3⟩
  ·rintro σ H1 ⟨s1,v1,v2,hR,rfl⟩
   rw[Nq,lwa,MG] at hR
   refine kk H1 .non s1 ?_
   rw[<-hR]
   rfl
noncomputable def withW(n:Nat):List (List Nat×Stnd)->Option (List Nat)
 |[]=>none
 |q::qs=>if q.1.contains n=true then some q.1 else withW n qs
noncomputable def LkW(H H':Hp)(v:V):Option (List Nat)->Prop
 |none=>v=.non
 |some o=>∃p l,v=.ref p/\H l=none/\H' p=some (.tup [.ref l])/\H' l=some (.lst (o.map iV))
inductive spOW (d:D) (vs:List V) (H:Hp) (Q:VK) (E_:XK):Prop
 |ct (wl t b:Addr)(wa:List Addr)(hand:List Int)(qs:List (List Nat×Stnd))(n:Nat)(_:vs=[.ref wl,iV n])(_:H wl=some (.lst (wa.map V.ref)))(_:P2 (fun wy q=>∃x,WayIs d H wy t b x hand q.1) wa qs)(_:∀(H':Hp)(v:V),Same H H'->LkW H H' v (withW n qs)->Q v H'):spOW d vs H Q E_
theorem V1:kao ["ways","voucher","way"] ["ways","voucher"] (kag kcH):=by ac_rfl
theorem kfU(W:WB K mg d base):FO P w W 1 d.YF d.YG ["ways","voucher"] (spOW d):=by
 exists W.Vk.F,V1
 ·obtain⟨wl,t,b,wa,hand,qs,n,rfl,hwl,hwa,kk⟩:=h
  have lwa:=hwa.len
  refine⟨_,kac (kaU PassesOwn.never rfl (kaE (K:=K) (pv 0)) (pgn (i:=2) V1.nd)
   (kaf (ps_if (kar kb7 (pv 1) (kak (K:=K) (pv 2) rfl) (by with_unfolding_all rfl)) (kaf (kan (kbu (kaa (kaK (r:=ka4 K) kaA (by rfl) W.B.list kbj (kaa (kak (K:=K) (pv 2) rfl) kae)) kae)))) (kas))))
   (kaf (kan kaJ)),?_⟩
  generalize eR:withW n qs=R at kk
  refine⟨_,rfl,wl,rfl,⟨_,SqL.of hwl⟩,ka3 (xs:=wa.map V.ref) (fun i σ H'=>H'=H/\∃(v2:Option V),withW n (qs.drop i)=R/\σ=[some (.ref wl),some (iV n),v2])
   ⟨rfl,none,eR,rfl⟩ (fun i σ H' _ h=>by rw[h.1];exact SqL.of hwl) ?_ ?_⟩
  ·rintro i y σ H1 hy ⟨rfl,v2,hR,rfl⟩
   obtain⟨wy,ew,rfl⟩:=kbR hy
   obtain⟨q,eq,x,hW⟩:=hwa.at ew
   have ed:qs.drop i=q::qs.drop (i+1):=by
    obtain⟨h1,h2⟩:=NF.mp eq
    rw[My h1,h2]
   rw[ed] at hR
   unfold withW at hR
   obtain⟨dxw,fsw,h,u,hw,w1,w2,w3,w4,w5,w6,w7,w8,w9,w10,hh',hu⟩:=id hW
   refine⟨_,rfl,_,rfl,wy,d.c_Way,dxw,fsw,_,rfl,hw,W.c_Way.cl,W.qr,w4,u,_,rfl, .inl (SqL.of hu),rfl,kcs _,_,rfl,?_⟩
   rw[if_neg NB,kcr]
   cases hc:q.1.contains n with
   |true=>
    rw[hc,if_pos rfl] at hR
    refine iteT ⟨_,rfl,wy,d.c_Way,dxw,fsw,_,rfl,hw,W.c_Way.cl,W.qr,w4,u,_,rfl, .inl (SqL.of hu),fun l fl=>?_⟩
    exists H1,l,H3,n3,e3,fl
    refine⟨(by show 1<=sizeLine;decide),fun p fp=>?_⟩
    exists H3,p,H4,n4,e4,fp
    refine kk H4 (.ref p) (n3.trans n4) ?_
    rw[<-hR]
    exact⟨p,l,rfl,fl,e4,n4 _ _ e3⟩
   |false=>
    rw[hc,if_neg NB] at hR
    exact iteF ⟨rfl,_,hR,rfl⟩
  ·rintro σ H1 ⟨rfl,v2,hR,rfl⟩
   rw[Nq,lwa,MG] at hR
   refine kk H1 .non (Same.refl _) ?_
   rw[<-hR]
   rfl
noncomputable def unlW(qs:List (List Nat×Stnd)):List (List Nat×Stnd)->Option (List Nat×List Nat)
 |[]=>none
 |q::rs=>match qs.find? (fun r=>r.1.isPerm q.1) with
  |none=>unlW qs rs
  |some r=>if r.2.pr.sum+r.2.cg=q.2.pr.sum+q.2.cg then unlW qs rs else some (r.1,q.1)
noncomputable def KeyOf(u:List Nat)(k:List Key):Prop:=∃ms:List Int,k=ms.map Sum.inl/\ms.Perm (u.map fun(n:Nat)=>(n:Int))/\ms.Pairwise (·<=·)
theorem kfF:∀{xs ys:List Int},xs.Perm ys->xs.Pairwise (·<=·)->ys.Pairwise (·<=·)->xs=ys:=fun h p q=>El.eq_of_pairwise (fun a b _ _ h1 h2=>Int.le_antisymm h1 h2) p q h
theorem kiu{u v:List Nat}(h:(u.map fun(n:Nat)=>(n:Int)).Perm (v.map fun(n:Nat)=>(n:Int))):u.Perm v:=by
 have:=h.map Int.toNat
 rw[NQ,NQ] at this
 simpa[Function.comp_def] using this
theorem KeyOf.perm{u v:List Nat}{k:List Key}:KeyOf u k->KeyOf v k->u.Perm v:=fun⟨m1,e1,p1,_⟩ ⟨m2,e2,p2,_⟩=>by
 have e:m1=m2:=(List.map_inj_right (fun _ _ h=>by injection h)).mp (e1.symm.trans e2)
 subst e
 exact kiu (p1.symm.trans p2)
theorem KeyOf.of{u v:List Nat}{k:List Key}(h:u.Perm v):KeyOf u k->KeyOf v k:=by rintro⟨m,e,p,s⟩;exact⟨m,e,p.trans (h.map _),s⟩
theorem khM{α:Type}{p: α->Bool}:∀{l:List α}{j:Nat}{q: α},l[j]?=some q->p q=true->(∀j' q',j'<j->l[j']?=some q'->p q'=false)->l.find? p=some q
 |[],j,q,h,_,_=>by simp at h
 |a::l,0,q,h,hp,_=>by
  have e:a=q:=by simpa using h
  rw[Mo,e,hp]
 |a::l,j+1,q,h,hp,hn=>by
  rw[Mo,hn 0 a (by omega) rfl]
  exact khM (l:=l) (j:=j) (by simpa using h) hp fun j' q' hj e=>hn (j'+1) q' (by omega) (by simpa using e)
noncomputable def Fst(wa:List Addr)(qs:List (List Nat×Stnd))(i:Nat)(kvs:List (List Key×V)):Prop:=∀k:List Key,
 (valV kvs k=none/\∀j q,j<i->qs[j]?=some q->¬KeyOf q.1 k)∨
 ∃(j:Nat)(q:List Nat×Stnd)(w:Addr),j<i/\qs[j]?=some q/\wa[j]?=some w/\KeyOf q.1 k/\valV kvs k=some (.ref w)/\∀j' q',j'<j->qs[j']?=some q'->¬KeyOf q'.1 k
theorem Fst.find{qs:List (List Nat×Stnd)}{j:Nat}{q r:List Nat×Stnd}{k:List Key}(hk:KeyOf q.1 k)(e:qs[j]?=some r)(hr:KeyOf r.1 k)(hn:∀j' q',j'<j->qs[j']?=some q'->¬KeyOf q'.1 k):qs.find? (fun r=>r.1.isPerm q.1)=some r:=
 khM e (EW.mpr (hr.perm hk)) fun j' q' hj e'=>by
  cases c:q'.1.isPerm q.1 with
  |false=>rfl
  |true=>exact(hn j' q' hj e' (hk.of (EW.mp c).symm)).elim
theorem Fst.old{wa:List Addr}{qs:List (List Nat×Stnd)}{i:Nat}{kvs:List (List Key×V)}{q:List Nat×Stnd}{k0:List Key}{v:V}(h:Fst wa qs i kvs)(eq:qs[i]?=some q)(hk:KeyOf q.1 k0)(hv:valV kvs k0=some v):
  ∃(j:Nat)(r:List Nat×Stnd)(w:Addr),wa[j]?=some w/\qs[j]?=some r/\v=.ref w/\qs.find? (fun r=>r.1.isPerm q.1)=some r/\Fst wa qs (i+1) kvs:=by
 rcases h k0 with⟨hn,_⟩|⟨j,r,w,hj,e1,e2,hr,e3,hn⟩
 ·rw[hn] at hv;cases hv
 ·rw[hv] at e3
  cases e3
  refine⟨j,r,w,e2,e1,rfl,Fst.find hk e1 hr hn,fun k=>?_⟩
  rcases h k with⟨g1,g2⟩|⟨j2,r2,w2,hj2,g⟩
  ·refine .inl ⟨g1,fun j3 q3 hj3 e=>?_⟩
   rcases EX.mp hj3 with c|c
   ·exact g2 j3 q3 c e
   ·subst c
    rw[eq] at e
    cases e
    intro z
    exact g2 j r hj e1 (KeyOf.of (hk.perm hr) z)
  ·exact .inr ⟨j2,r2,w2,by omega,g⟩
theorem Fst.new{wa:List Addr}{qs:List (List Nat×Stnd)}{i:Nat}{kvs:List (List Key×V)}{q:List Nat×Stnd}{w:Addr}{k0:List Key}(h:Fst wa qs i kvs)(eq:qs[i]?=some q)(ew:wa[i]?=some w)(hk:KeyOf q.1 k0)(hv:valV kvs k0=none):
  qs.find? (fun r=>r.1.isPerm q.1)=some q/\Fst wa qs (i+1) (putK kvs k0 (.ref w)):=by
 rcases h k0 with⟨_,hn⟩|⟨j,r,w,hj,e1,e2,hr,e3,hn⟩
 ·refine⟨Fst.find hk eq hk hn,fun k=>?_⟩
  rw[kfD]
  by_cases c:k=k0
  ·subst c
   rw[if_pos rfl]
   exact .inr ⟨i,q,w,by omega,eq,ew,hk,rfl,hn⟩
  ·rw[if_neg c]
   rcases h k with⟨g1,g2⟩|⟨j2,r2,w2,hj2,g⟩
   ·refine .inl ⟨g1,fun j3 q3 hj3 e=>?_⟩
    rcases EX.mp hj3 with c3|c3
    ·exact g2 j3 q3 c3 e
    ·subst c3
     rw[eq] at e
     cases e
     rintro⟨m1,rfl,p1,s1⟩
     obtain⟨m2,rfl,p2,s2⟩:=hk
     exact c (by rw[kfF (p1.trans p2.symm) s1 s2])
   ·exact .inr ⟨j2,r2,w2,by omega,g⟩
 ·rw[hv] at e3;cases e3
noncomputable def LkU(H H':Hp)(v:V):Option (List Nat×List Nat)->Prop
 |none=>v=.non
 |some (o,o2)=>∃p l l2,v=.ref p/\H l=none/\H l2=none/\l2≠l/\H' p=some (.tup [.ref l, .ref l2])/\H' l=some (.lst (o.map iV))/\H' l2=some (.lst (o2.map iV))
inductive spUnl (d:D) (vs:List V) (H:Hp) (Q:VK) (E_:XK):Prop
 |ct (wl t b:Addr)(wa:List Addr)(hand:List Int)(qs:List (List Nat×Stnd))(_:vs=[.ref wl])(_:H wl=some (.lst (wa.map V.ref)))(_:P2 (fun wy q=>∃x,WayIs d H wy t b x hand q.1/\StndIs d.qc H x q.2) wa qs)(_:(∀q∈qs,q.1.length<64))(_:qs.length<=1000)(_:∀(H':Hp)(v:V),Same H H'->LkU H H' v (unlW qs qs)->Q v H'):spUnl d vs H Q E_
theorem QL:kao ["ways","firsts","way","first"] ["ways"] (kag kbY):=by ac_rfl
theorem keb(W:WB K mg d base):FO P w W 2 d.Qq d.Qr ["ways"] (spUnl d):=by
 exists W.Qy.F,QL
 ·obtain⟨wl,t,b,wa,hand,qs,rfl,hwl,hwa,hqs,lqs,kk⟩:=h
  have lwa:=hwa.len
  exists QM,kcv,W
  refine⟨_,kac (psl (i:=1) QL.nd kkX)
   (kac (kaU PassesOwn.never rfl (kaE (K:=K) (pv 0)) (pgn (i:=2) QL.nd)
   (kac (psl (i:=3) QL.nd (pe_bm Da EF DM (kmG (hu_of hr)) (pv 1) (kaa (kaK (r:=klQ K) kkF (by rfl) W.B.tuple kkJ (kaa (kat (r:=kjK K) kd2 (by rfl) W.B.sorted kge (kaa (kak (K:=K) (pv 2) rfl) kae)) kae)) (kaa (pv 2) kae))))
   (kaf (ps_if (kar op_ne (kcX (kak (K:=K) (pv 3) rfl) W.qc.cl W.qM.me QM hr W.qM.b .nil pass0) (kcX (kak (K:=K) (pv 2) rfl) W.qc.cl W.qM.me QM hr W.qM.b .nil pass0) (kaw _)) (kaf (kan (kbu (kaa (kaK (r:=ka4 K) kaA (by rfl) W.B.list kbj (kaa (kak (K:=K) (pv 3) rfl) kae)) (kaa (kaK (r:=ka4 K) kaA (by rfl) W.B.list kbj (kaa (kak (K:=K) (pv 2) rfl) kae)) kae))))) (kas)))))
   (kaf (kan kaJ))),?_⟩
  generalize eR:unlW qs qs=R at kk
  refine fun f ff=>?_
  exists H,f,H1,n1,e1,ff
  refine⟨_,rfl,wl,rfl,⟨_,SqL.of (n1 _ _ hwl)⟩,ka3 (xs:=wa.map V.ref) (fun i σ H'=>Same H H'/\∃(kvs:List (List Key×V))(v2 v3:Option V),H' f=some (.dT kvs)/\kvs.length<=i/\Fst wa qs i kvs/\unlW qs (qs.drop i)=R/\σ=[some (.ref wl),some (.ref f),v2,v3])
   ⟨n1,[],none,none,e1,Nt _,fun k=>.inl ⟨rfl,fun j q hj=>by omega⟩,eR,rfl⟩ (fun i σ H' _ h=>SqL.of (h.1 _ _ hwl)) ?_ ?_⟩
  ·rintro i y σ H2 hy ⟨s2,kvs,v2,v3,ef,lk,hF,hR,rfl⟩
   obtain⟨wy,ew,rfl⟩:=kbR hy
   obtain⟨q,eq,x,hW,hX⟩:=hwa.at ew
   have hi:=at_lt eq
   have hq1:=hqs q (Ny eq)
   have ed:qs.drop i=q::qs.drop (i+1):=by
    obtain⟨h1,h2⟩:=NF.mp eq
    rw[My h1,h2]
   rw[ed] at hR
   unfold unlW at hR
   obtain⟨dxw,fsw,h,u,hw,w1,w2,w3,w4,w5,w6,w7,w8,w9,w10,hh',hu⟩:=id hW
   have hu2:=s2 _ _ hu
   rw[show q.1.map iV=(q.1.map fun(n:Nat)=>(n:Int)).map V.int by rw[NQ];rfl] at hu2
   refine sN fun A1 hA1=>?_
   have go:∀(H5:Hp)(wf:Addr)(r:List Nat×Stnd)(kv2:List (List Key×V))(j:Nat),Same H H5->H5 f=some (.dT kv2)->kv2.length<=i+1->Fst wa qs (i+1) kv2->wa[j]?=some wf->qs[j]?=some r->qs.find? (fun r=>r.1.isPerm q.1)=some r->A1 [some (.ref wl),some (.ref f),some (.ref wy),some (.ref wf)] H5:=by
    intro H5 wf r kv2 j s5 ef5 lk2 hF2 ewf er hfd
    rw[hfd] at hR
    simp only at hR
    obtain⟨r',er',xr,hWr,hXr⟩:=hwa.at ewf
    rw[er] at er'
    cases er'
    obtain⟨dxr,fsr,hr9,ur,hwr,r1,r2,r3,r4,r5,r6,r7,r8,r9,r10,hhr,hur⟩:=id hWr
    obtain⟨ow,pp,mm,⟨dxs,fss,hxs,l1,l2,l3,l4,l5⟩,how,hpp,hmm⟩:=id hX
    obtain⟨ow2,pp2,mm2,⟨dxs2,fss2,hxs2,k1,k2,k3,k4,k5⟩,how2,hpp2,hmm2⟩:=id hXr
    refine hA1 _ _ ?_
    refine⟨_,rfl,wf,d.c_Way,dxr,fsr,_,rfl,s5 _ _ hwr,W.c_Way.cl,W.qA,r5,xr,dxs2,fss2,rfl,s5 _ _ hxs2,k5,xr,ow2,pp2,mm2,r.2.cg,r.2.pr,rfl,⟨dxs2,fss2,s5 _ _ hxs2,k1,k2,k3,k4,k5⟩,s5 _ _ hpp2,?_⟩
    refine⟨_,rfl,wy,d.c_Way,dxw,fsw,_,rfl,s5 _ _ hw,W.c_Way.cl,W.qA,w5,x,dxs,fss,rfl,s5 _ _ hxs,l5,x,ow,pp,mm,q.2.cg,q.2.pr,rfl,⟨dxs,fss,s5 _ _ hxs,l1,l2,l3,l4,l5⟩,s5 _ _ hpp,rfl,_,rfl,?_⟩
    by_cases c:r.2.pr.sum+r.2.cg=q.2.pr.sum+q.2.cg
    ·rw[if_pos c] at hR
     rw[show(!decide (V.int (r.2.pr.sum+r.2.cg)=V.int (q.2.pr.sum+q.2.cg)))=false by rw[c];simp]
     exact iteF ⟨s5,kv2,_,_,ef5,lk2,hF2,hR,rfl⟩
    ·rw[if_neg c] at hR
     rw[show(!decide (V.int (r.2.pr.sum+r.2.cg)=V.int (q.2.pr.sum+q.2.cg)))=true by simp[c]]
     refine iteT ⟨_,rfl,wf,d.c_Way,dxr,fsr,_,rfl,s5 _ _ hwr,W.c_Way.cl,W.qr,r4,ur,_,rfl, .inl (SqL.of (s5 _ _ hur)),fun l6 fl6=>?_⟩
     exists H5,l6,H6,n6,e6,fl6
     refine⟨_,rfl,wy,d.c_Way,dxw,fsw,_,rfl,(s5.trans n6) _ _ hw,W.c_Way.cl,W.qr,w4,u,_,rfl, .inl (SqL.of ((s5.trans n6) _ _ hu)),fun l7 fl7=>?_⟩
     exists H6,l7,H7,n7,e7,fl7
     refine⟨(by show 2<=sizeLine;decide),fun p8 fp8=>?_⟩
     exists H7,p8,H8,n8,e8,fp8
     have s6:=s5.trans n6
     refine kk H8 (.ref p8) ((s6.trans n7).trans n8) ?_
     rw[<-hR]
     exact⟨p8,l6,l7,rfl,s5.free fl6,s6.free fl7,(kah e6 fl7).symm,e8,(n7.trans n8) _ _ e6,n8 _ _ e7⟩
   clear hA1
   refine⟨_,rfl, .inr (.inr (.inl ⟨rfl, .inr ⟨_,ef⟩⟩)),_,rfl,wy,d.c_Way,dxw,fsw,_,rfl,s2 _ _ hw,W.c_Way.cl,W.qr,w4,u,_,rfl,SqL.of hu2,(by rw[Nq];exact hq1),fun l3 ms fl3 hpm hso=>?_⟩
   exists H2,l3,H3,n3,e3,fl3
   refine⟨l3,_,rfl,SqL.of e3,fun l4 fl4=>?_⟩
   exists H3,l4,H4,n4,e4,fl4
   have hk:KeyOf q.1 (ms.map Sum.inl):=⟨ms,rfl,hpm,hso⟩
   have s34:=n3.trans n4
   have s4:=s2.trans s34
   refine⟨_,rfl,f,l4,kvs,ms.map Sum.inl, .ref wy,rfl,rfl,s34 _ _ ef,(by rw[e4,NQ];rfl),kap (by omega),fun v hv=>?_,fun hn=>?_⟩
   ·obtain⟨j,r,w',g1,g2,rfl,g3,g4⟩:=hF.old eq hk hv
    exact go H4 w' r kvs j s4 (s34 _ _ ef) (by omega) g4 g1 g2 g3
   ·obtain⟨g1,g2⟩:=hF.new eq ew hk hn
    exact go _ wy q _ i (kaq ff s4 (nx (s34 _ _ ef))) kad (Nx (kcb _ _ _) (by omega)) g2 ew eq g1
  ·rintro σ H2 ⟨s2,kvs,v2,v3,ef,lk,hF,hR,rfl⟩
   rw[Nq,lwa,MG] at hR
   refine kk H2 .non s2 ?_
   rw[<-hR]
   rfl
theorem wayF{d:D}{m:Nat}{H:Hp}{w t b x:Addr}{hand:List Int}{used:List Nat}(hm:m<=7):WayAt d m H w t b x hand used->WayN d 7 (fun _=>none) H w t b x hand used:=by rintro⟨dx,fs,h,u,h1,h2,h3,h4,h5,h6,h7,h8,h9,h10,h11,h12,h13⟩;exact
 ⟨rfl,dx,fs,h,u,rfl,rfl,h1,h2,h3,h4,h5,h6,h7,h8,h9,h10,Nx h11 hm,h12,h13⟩
theorem stndF{C x:Addr}{H:Hp}{S:Stnd}:StndIs C H x S->StndN C (fun _=>none) H x S:=by rintro⟨o,p,mk,h,h1,h2,h3⟩;exact⟨rfl,o,p,mk,h,rfl,rfl,rfl,h1,h2,h3⟩
theorem sameF{H:Hp}:Same (fun _=>none) H:=fun b u e=>by cases e
noncomputable def ones(T:TillD):List Int:=T.vs.map fun _=>(1:Int)
inductive Itm where
 |l (o:List Nat)
 |n (k:Nat)
noncomputable def ItmAt(H H':Hp)(v:V):Itm->Prop
 | .l o=>∃a,v=.ref a/\H a=none/\H' a=some (.lst (o.map iV))
 | .n k=>v=iV k
theorem ItmAt.same{H0 H H':Hp}{v:V}(s:Same H H'):∀{i:Itm},ItmAt H0 H v i->ItmAt H0 H' v i
 | .l _,⟨a,e,f,h⟩=>⟨a,e,f,s _ _ h⟩
 | .n _,h=>h
theorem ItmAt.free{H0 H H':Hp}{v:V}(s:Same H0 H):∀{i:Itm},ItmAt H H' v i->ItmAt H0 H' v i
 | .l _,⟨a,e,f,h⟩=>⟨a,e,s.free f,h⟩
 | .n _,h=>h
noncomputable def LkG(H H':Hp)(v:V):Option (List Itm)->Prop
 |none=>v=.non
 |some is=>∃p vs,v=.ref p/\H' p=some (.tup vs)/\P2 (fun v i=>ItmAt H H' v i) vs is/\vs.length<=2/\vs≠[]
noncomputable def kbg(R:Bask->List (List Nat×Stnd)->Option (List Itm))(T:TillD):List Bask->Nat->Option (Nat×List Itm)
 |[],_=>none
 |B::bs,i=>match R B (waysM T B (ones T) 10 [] (stnd0 B)) with
  |some is=>some (i,is)
  |none=>kbg R T bs (i+1)
noncomputable def FdG(H H':Hp)(v:V):Option (Nat×List Itm)->Prop
 |none=>v=.non
 |some (i,is)=>∃p vs,v=.ref p/\H' p=some (.tup (iV i::vs))/\P2 (fun v i=>ItmAt H H' v i) vs is/\vs.length<=2/\vs≠[]
inductive spLkG (d:D) (T:TillD) (Xt:Hp->Prop) (R:Bask->List (List Nat×Stnd)->Option (List Itm)) (vs:List V) (H:Hp) (Q:VK) (E_:XK):Prop
 |ct (wl t b:Addr)(wa:List Addr)(B:Bask)(qs:List (List Nat×Stnd))(_:vs=[.ref wl])(_:Xt H)(_:H wl=some (.lst (wa.map V.ref)))(_:P2 (fun wy q=>∃x,WayIs d H wy t b x (ones T) q.1/\StndIs d.qc H x q.2) wa qs)(_:TillIs d H t T)(_:kbJ T)(_:BaskIs d.qe d.qg H b B)(_:Wf T.ps B (stnd0 B))(_:(∀q∈qs,(∀n∈q.1,n<T.vs.length)/\q.1.length<64))(_:qs.length<=1000)(_:∀(H':Hp)(v:V),Same H H'->LkG H H' v (R B qs)->Q v H'):spLkG d T Xt R vs H Q E_
theorem kiq:∀(l:List Vch),(l.map fun _=>(1:Int)).sum=l.length
 |[]=>rfl
 |_::l=>by
  rw[NJ,M1,kiq l,NW]
  omega
theorem kjW{T:TillD}{B:Bask}(h:T.vs.length<=5):Deep T B (ones T) 10 [] (stnd0 B)/\(waysM T B (ones T) 10 [] (stnd0 B)).length<=1000:=by
 refine kkg (by unfold ones;rw[Nq]) (fun z hz=>?_) (by unfold ones;rw[kiq];omega)
 unfold ones at hz
 obtain⟨_,_,rfl⟩:=NO.mp hz
 decide
theorem ki7:∀(k:Nat)(used:List Nat)(S:Stnd),(∀n∈used,n<T.vs.length)->∀q∈waysM T B hand k used S,(∀n∈q.1,n<T.vs.length)/\q.1.length<=used.length+k
 |0,used,S,_,q,h=>by simp[waysM] at h
 | k +1,used,S,hu,q,h=>by
  unfold waysM at h
  rcases N6.mp h with h|h
  ·split at h
   ·rw[Mq.mp h]
    exact⟨hu,by show used.length<=_;omega⟩
   ·simp at h
  ·obtain⟨n,hn,h2⟩:=EY.mp h
   cases eV:T.vs[n]? with
   |none=>rw[eV] at h2;simp at h2
   | some V=>
    rw[eV] at h2
    obtain⟨g1,g2⟩:=ki7 k (used++[n]) _ (fun m hm=>by
     rcases N6.mp hm with h'|h'
     ·exact hu m h'
     ·have e:m=n:=by simpa using h'
      rw[e]
      exact at_lt eV) q h2
    rw[NG,Mv] at g2
    exact⟨g1,by omega⟩
inductive kjv (P:Program) (w:World) (K:Nr) (mg:Str->Option Value) (base:Heap) (d:D) (k:Nat) (vs:List V) (H:Hp) (Q:VK) (E_:XK):Prop
 |ct (t bl f:Addr)(fo:Obj)(fd:FuncData)(ba:List Addr)(T:TillD)(bs:List Bask)(Xt:Hp->Prop)(R:Bask->List (List Nat×Stnd)->Option (List Itm))(_:vs=[.ref t, .ref bl, .ref f])(_:FnOk P w K mg base (CX0) k f fd ["ways"] (spLkG d T Xt R))(_:fo.data=.func fd)(_:Binds K fd ["ways"] [])(_:Xt H)(_:(∀H1 H2,Same H1 H2->Xt H1->Xt H2))(_:(∀H1,Xt H1->NH K (.ref f)=true∨H1 f=some (Fz f fo)))(_:TillIs d H t T)(_:kbJ T)(_:T.vs.length<=5)(_:H bl=some (.lst (ba.map V.ref)))(_:P2 (fun a B=>BaskIs d.qe d.qg H a B/\Wf T.ps B (stnd0 B)) ba bs)(_:∀(H':Hp)(v:V),Same H H'->FdG H H' v (kbg R T bs 0)->Q v H'):kjv P w K mg base d k vs H Q E_
theorem QN:kao ["till","baskets","look","number","basket","found"] ["till","baskets","look"] (kag kcA):=by ac_rfl
theorem kcq(W:WB K mg d base):FO P w W 20 d.YD d.YE ["till","baskets","look"] (kjv P w K mg base d 19):=by
 exists W.Qx.F,QN
 ·obtain⟨t,bl,f,fo,fd,ba,T,bs,Xt,R9,rfl,Gl,hfo,bl9,hXt,hXs,hXk,hT,tok,h5,hbl,hba,kk⟩:=h
  obtain⟨dx,fs,p,vl,rl,va,ra,ht,t1,t2,t3,t4,hp,hvl,hva,hrl,hra⟩:=id hT
  have lba:=hba.len
  have lva:=hva.len
  exists UT,kgB,W
  exists qG,kb9,W
  exists hr5,5,hr,0
  exists hr16,16,hr,0
  refine⟨_,kac (kaU PassesOwn.never rfl (kfS rfl W.B.enum (kaa (pv 1) kae)) (kby (K:=K) (n:=2) rfl (kaC (pgn (i:=3) QN.nd) (kaC (pgn (i:=4) QN.nd) kbx)))
   (kac (psl (i:=5) QN.nd (kk2 (pv 2) Gl hr hfo bl9 (kaa (pcl UT hr16 W.Qd (kaa (kaX (W.qy.mk' W.c_Way) qG hr5 rfl W.c_Way.m W.qy.b .nil pass0 (kaa (pv 0) (kaa (pv 4) (kaa (kbz (N:=["voucher"]) (CompScope.plain rfl (by decide +kernel) (by decide +kernel) (by decide +kernel) (nd1 _)) rfl (kaE (K:=K) (kak (K:=K) (pv 0) rfl)) (fun _ _ _ _=>pgn (i:=0) (nd1 _)) (fun _ _ _ _=>kai)) kae)))) kae)) kae)))
   (kaf (ps_if (kar kb6 (pv 5) kaJ (kaw _)) (kaf (kan (pe_op kmB (kbu (kaa (pv 3) kae)) (pv 5)))) (kas)))))
   (kaf (kan kaJ)),?_⟩
  generalize eR:kbg R9 T bs 0=R at kk
  refine⟨_,rfl,bl,_,rfl,hbl,kf7 (xs:=ba.map V.ref) (fun i σ H'=>Same H H'/\∃(v3 v4 v5:Option V),kbg R9 T (bs.drop i) i=R/\σ=[some (.ref t),some (.ref bl),some (.ref f),v3,v4,v5])
   ⟨Same.refl _,none,none,none,eR,rfl⟩ (fun i σ H' _ h=>h.1 _ _ hbl) ?_ ?_⟩
  ·rintro i yv tp σ H1 hyv ⟨s1,v3,v4,v5,hR,rfl⟩ ftp
   obtain⟨b,eb,rfl⟩:=kbR hyv
   obtain⟨B,eB,hB,wf0⟩:=hba.at eb
   have ed:bs.drop i=B::bs.drop (i+1):=by
    obtain⟨h1,h2⟩:=NF.mp eB
    rw[My h1,h2]
   rw[ed] at hR
   unfold kbg at hR
   exists H1,tp,H2,n2,e2,ftp
   have s2:=s1.trans n2
   refine⟨tp,_,rfl,SqT.of e2,rfl,_,_,rfl,_,_,rfl,rfl,?_⟩
   have lon:(ones T).length=T.vs.length:=by unfold ones;rw[Nq]
   have nv:=tok.nv
   refine⟨rfl,_,rfl,_,rfl,_,rfl,t,d.qd,dx,fs,_,rfl,s2 _ _ ht,W.qd.cl,W.qp,t2,vl,rfl,⟨_,SqL.of (s2 _ _ hvl)⟩,kaY (xs:=va.map V.ref) (fun j σ ys H'=>H'=H2/\ys=((ones T).take j).map V.int/\∃v,σ=[v]) ⟨rfl,rfl,none,rfl⟩ (by rw[Nq,lva];exact ND (kap (by omega))) ?_ ?_ ?_⟩
   ·rintro j σ ys H' hj ⟨rfl,rfl,_⟩
    rw[Nq] at hj
    exact⟨SqL.of (s2 _ _ hvl),by rw[Nq,NK];omega⟩
   ·rintro j y σ ys H' hy ⟨rfl,rfl,v,rfl⟩
    have hj:j<T.vs.length:=by have:=at_lt hy;rw[Nq,lva] at this;exact this
    have e1:(ones T)[j]?=some 1:=by
     unfold ones
     rw[Nz]
     obtain⟨V,eV⟩:=at_of hj
     rw[eV]
     rfl
    refine⟨rfl,?_,_,rfl⟩
    rw[take_snoc e1,NC]
    rfl
   rintro σ ys H' ⟨rfl,rfl,v,rfl⟩ hh fhh
   rw[Nq,lva,<-lon,NY]
   exists H',hh,H3,n3,e3,fhh
   have s3:=s2.trans n3
   refine kgN e3 (hB.same s3) wf0.nl wf0.ok fun H4 y x s4 fy fx hy hx=>?_
   have s04:=s3.trans s4
   obtain⟨hdp,hlen⟩:=kjW (B:=B) h5
   refine⟨fun _=>none,y,t,b,T,B,stnd0 B,ones T,[],rfl,sameF,⟨x,wayF (by decide) hy.at,stndF hx⟩,hT.same s04,tok,hB.same s04,wf0,lon,hdp,by decide,hlen,fun H5 p5 wl s5 fp ep hwl=>?_⟩
   have s05:=s04.trans s5
   have hX5:=hXs _ _ s05 hXt
   refine⟨hXk _ hX5,p5,t,b,wl,B,waysM T B (ones T) 10 [] (stnd0 B),rfl,hX5,ep,hwl.mono (fun w q ⟨x,h1,h2⟩=>⟨x,h1.at,h2.is⟩),hT.same s05,tok,hB.same s05,wf0,fun q hq=>?_,hlen,fun H6 v6 s6 hlk=>?_⟩
   ·obtain⟨g1,g2⟩:=ki7 10 [] (stnd0 B) (fun n hn=>by simp at hn) q hq
    rw[Df] at g2
    exact⟨g1,by omega⟩
   have s06:=s05.trans s6
   cases cs:R9 B (waysM T B (ones T) 10 [] (stnd0 B)) with
   |none=>
    rw[cs] at hR hlk
    have ev:v6=.non:=hlk
    subst ev
    refine⟨_,rfl,rfl,_,rfl,?_⟩
    rw[show(!decide (V.non=V.non))=false by simp]
    exact iteF ⟨s06,_,_,_,hR,rfl⟩
   |some is=>
    rw[cs] at hR hlk
    obtain⟨p7,vs7,rfl,ep7,hi7,l7,ne7⟩:=hlk
    refine⟨_,rfl,rfl,_,rfl,?_⟩
    rw[show(!decide (V.ref p7=V.non))=true by simp]
    refine iteT ⟨_,rfl,(by show 1<=sizeLine;decide),fun t8 ft8=>?_⟩
    exists H6,t8,H8,n8,e8,ft8
    refine⟨_,rfl,t8,p7,_,_,rfl,rfl,SqT.of e8,SqT.of (n8 _ _ ep7),(fun z=>by cases z),ND (kap (by show(1+vs7.length)<=1000;omega)),(fun z=>absurd z ne7),fun _ r9 fr9=>?_⟩
    exists H8,r9,H9,n9,e9,fr9
    refine kk H9 (.ref r9) ((s06.trans n8).trans n9) ?_
    rw[<-hR]
    exact⟨r9,vs7,rfl,e9,hi7.mono fun v i h=>(h.same (n8.trans n9)).free s05,l7,ne7⟩
  ·rintro σ H1 ⟨s1,v3,v4,v5,hR,rfl⟩
   rw[Nq,lba,MG] at hR
   refine kk H1 .non s1 ?_
   rw[<-hR]
   rfl
noncomputable def lkUse(n:Nat):Bask->List (List Nat×Stnd)->Option (List Itm):=fun _ qs=>(withW n qs).map fun o=>[.l o]
theorem LkW.g{H H':Hp}{v:V}:∀{r:Option (List Nat)},LkW H H' v r->LkG H H' v (r.map fun o=>[.l o])
 |none,h=>h
 |some _,⟨p,l,e,f,h1,h2⟩=>⟨p,[.ref l],e,h1, .cons ⟨l,rfl,f,h2⟩ .nil,by simp,by simp⟩
theorem WayAt.unt{d:D}{m:Nat}{H:Hp}{w t b x c:Addr}{co:Obj}{hand:List Int}{used:List Nat}(hc:H c=some (Fz c co)):WayAt d m H w t b x hand used->WayAt d m (unt c H) w t b x hand used:=by rintro⟨dx,fs,h,u,h1,h2,h3,h4,h5,h6,h7,h8,h9,h10,h11,h12,h13⟩;exact
 ⟨dx,fs,h,u,(ka6 (ne_of h1 hc (by intro z;cases z))).trans h1,h2,h3,h4,h5,h6,h7,h8,h9,h10,h11,(ka6 (ne_of h12 hc (by intro z;cases z))).trans h12,(ka6 (ne_of h13 hc (by intro z;cases z))).trans h13⟩
theorem ItmAt.go{H0 H H':Hp}{c:Addr}{co:Obj}{v:V}(s:Same H0 H)(hc:H' c=some (Fz c co)):∀{i:Itm},ItmAt H H' v i->ItmAt H0 (unt c H') v i
 | .l _,⟨a,e,f,h⟩=>⟨a,e,s.free f,(ka6 (ne_of h hc (by intro z;cases z))).trans h⟩
 | .n _,h=>h
inductive klM (d:D) (vs:List V) (H:Hp) (Q:VK) (E_:XK):Prop
 |ct (t bl:Addr)(n:Nat)(ba:List Addr)(T:TillD)(bs:List Bask)(_:vs=[.ref t,iV n, .ref bl])(_:TillIs d H t T)(_:kbJ T)(_:T.vs.length<=5)(_:H bl=some (.lst (ba.map V.ref)))(_:P2 (fun a B=>BaskIs d.qe d.qg H a B/\Wf T.ps B (stnd0 B)) ba bs)(_:TbAt d.tP_first_use H)(_:∀(H':Hp)(v:V),Same H H'->FdG H H' v (kbg (lkUse n) T bs 0)->Q v H'):klM d vs H Q E_
theorem kgt:kao ["till","voucher","baskets"] ["till","voucher","baskets"] (kag ka1):=by ac_rfl
theorem kgE(W:WB K mg d base):FO P w W 21 d.Yy d.QT ["till","voucher","baskets"] (klM d):=by
 refine FunD.okC W.Vh.F kgt (fun vs H Q E h=>?_) (fun A outer s H vs Q E hr h=>?_)
 ·obtain⟨t,bl,n,ba,T,bs,rfl,_⟩:=h
  rfl
 ·obtain⟨t,bl,n,ba,T,bs,rfl,hT,tok,h5,hbl,hba,htb,kk⟩:=h
  exists Qn,kcq,W
  exists G_ow,kfU,W
  refine⟨_,kaf (kan (kk3 (y:="voucher") (i:=1) Qn hr W.Qx (kaa (pv 0) (kaa (pv 2) (kaa (kng (x:="ways") (N:=["ways","voucher"]) (cap:=[some 1]) ⟨CompScope.of (N:=["ways","voucher"]) (cap:=[none,some 1]) (kag ka1).names ["till","voucher","baskets"] rfl rfl (by decide +kernel),rfl,rfl,rfl,rfl,by decide +kernel⟩ W.code_first_use W.ck_first_use W.blt) kae))) rfl rfl rfl)),?_⟩
  refine⟨_,rfl,_,rfl,htb,fun H2 f cc pm ctv G f0 f2 ecc=>⟨_,rfl,fun c co uy hcell hc hco ry=>?_⟩⟩
  generalize lamN _=ql at *
  generalize hfo:MZ "<lambda>" _ _ _ _ _ pm cc ctv=fo at *
  have s2:=G.same htb
  have n3:=kam (o:=Fz f fo) f2
  have e3:(upd H2 f (Fz f fo)) f=some (Fz f fo):=kad
  have ecc3:=n3 _ _ ecc
  generalize upd H2 f (Fz f fo)=H3 at *
  have n4:=kam (o:=Fz c co) hc
  have e4:(upd H3 c (Fz c co)) c=some (Fz c co):=kad
  have ef4:=n4 _ _ e3
  have ecc4:=n4 _ _ ecc3
  have s03:=s2.trans n3
  have h0c:=s03.free hc
  have s04:=s03.trans n4
  generalize upd H3 c (Fz c co)=H4 at *
  have G_lam:=knk (P:=P) (w:=w) (K:=K) (mg:=mg) (base:=base) (k:=18) (f:=f) (c:=c) (cc:=cc) (fo:=fo) (co:=co) (x:="ways") (y:="voucher") (vy:=iV n) (uy:=uy) ⟨rfl,rfl,rfl,by decide +kernel,by decide +kernel,rfl,rfl⟩ (knw (x:="ways") (y:="voucher") ⟨rfl,rfl,rfl,by decide +kernel,by decide +kernel,rfl,rfl⟩ hcell) hfo.symm hco ry (fun A outer s H hr=>pcl G_ow (hr.mono (by decide)) W.Vk (kaa (pv 0) (kaa (pv 1) kae)))
  have UU:=(G_lam.mono (k:=19) (by decide)).imp (sp':=spLkG d T (fun H=>H f=some (Fz f fo)/\H c=some (Fz c co)/\H cc=some (CodeO cc ql)) (lkUse n)) (fun vs H Q E ⟨wl,t,b,wa,B,qs,e,⟨h1,h2,h3⟩,h4,h5,_,_,_,_,_,_,k⟩=>by
   subst e
   refine⟨_,rfl,h1,h2,h3,_,rfl,_,rfl,wl,t,b,wa,ones T,qs,n,rfl,(ka6 (ne_of h4 h2 (by intro z;cases z))).trans h4,h5.mono fun wy q ⟨x,hw,_⟩=>⟨x,hw.unt h2⟩,fun H' v s hl hn=>k _ v (kjD h2 s hn) (LkW.g ?_)⟩
   cases e:withW n qs with
   |none=>
    rw[e] at hl
    exact hl
   | some o=>
    rw[e] at hl
    obtain⟨p,l,e1,fl,e2,e3⟩:=hl
    have nl:l≠c:=kah e3 hn
    refine⟨p,l,e1,by rw[ka6 nl] at fl;exact fl,?_,?_⟩
    ·rw[kaj (kah e2 hn)]
     exact e2
    ·rw[kaj nl]
     exact e3)
  refine⟨t,bl,f,fo,_,ba,T,bs,_,lkUse n,rfl,UU,by rw[<-hfo],Binds.all fun us h=>?_,⟨ef4,e4,ecc4⟩,fun H1 H2 s ⟨h1,h2,h3⟩=>⟨s _ _ h1,s _ _ h2,s _ _ h3⟩,fun H1 h=>.inr h.1,hT.same s04,tok,h5,s04 _ _ hbl,hba.mono fun a B h=>⟨h.1.same s04,h.2⟩,fun H' v s5 hfd hcz=>?_⟩
  ·obtain⟨u,rfl⟩:∃u,us=[u]:=by
    match us,h with
    |[u],_=>exact⟨u,rfl⟩
   rfl
  refine kk _ v (kmq h0c (s04.trans s5) hcz) ?_
  cases e:kbg (lkUse n) T bs 0 with
  |none=>
   rw[e] at hfd
   exact hfd
  |some z=>
   obtain⟨i,is⟩:=z
   rw[e] at hfd
   obtain⟨p,vs,e1,e2,hi,l2,ne⟩:=hfd
   exact⟨p,vs,e1,(ka6 (ne_of e2 hcz (by intro z;cases z))).trans e2,hi.mono fun v i h=>h.go s04 hcz,l2,ne⟩
noncomputable def lkUnl:Bask->List (List Nat×Stnd)->Option (List Itm):=fun _ qs=>(unlW qs qs).map fun z=>[.l z.1, .l z.2]
theorem LkU.g{H H':Hp}{v:V}:∀{r:Option (List Nat×List Nat)},LkU H H' v r->LkG H H' v (r.map fun z=>[.l z.1, .l z.2])
 |none,h=>h
 |some (_,_),⟨p,l,l2,e,f1,f2,_,h1,h2,h3⟩=>⟨p,[.ref l, .ref l2],e,h1, .cons ⟨l,rfl,f1,h2⟩ (.cons ⟨l2,rfl,f2,h3⟩ .nil),by simp,by simp⟩
inductive klN (d:D) (vs:List V) (H:Hp) (Q:VK) (E_:XK):Prop
 |ct (t bl:Addr)(ba:List Addr)(T:TillD)(bs:List Bask)(_:vs=[.ref t, .ref bl])(_:TillIs d H t T)(_:kbJ T)(_:T.vs.length<=5)(_:H bl=some (.lst (ba.map V.ref)))(_:P2 (fun a B=>BaskIs d.qe d.qg H a B/\Wf T.ps B (stnd0 B)) ba bs)(_:∀(H':Hp)(v:V),Same H H'->FdG H H' v (kbg lkUnl T bs 0)->Q v H'):klN d vs H Q E_
theorem ket:kao ["till","baskets"] ["till","baskets"] (kag kci):=by ac_rfl
theorem keN(W:WB K mg d base):FO P w W 21 d.Yz d.YA ["till","baskets"] (klN d):=by
 exists W.Vi.F,ket
 ·obtain⟨t,bl,ba,T,bs,rfl,hT,tok,h5,hbl,hba,kk⟩:=h
  have G_os:=((keb (P:=P) (w:=w) (base:=base) W).mono (k:=19) (by decide)).imp (sp':=spLkG d T (fun _=>True) lkUnl) (fun vs H Q E ⟨wl,t,b,wa,B,qs,e,_,h4,h5,_,_,_,_,hq,lq,k⟩=>⟨wl,t,b,wa,ones T,qs,e,h4,h5,fun q h=>(hq q h).2,lq,fun H' v s hl=>k H' v s hl.g⟩)
  exists Qn,kcq,W
  refine⟨_,kaf (kan (pcl Qn hr W.Qx (kaa (pv 0) (kaa (pv 1) (kaa (kcp (v:=.ref d.Qq) (by rfl) W.Qy.m rfl) kae))))),?_⟩
  exact⟨_,rfl,_,rfl,t,bl,d.Qq,{cls:=.none,data:=.func d.Qr},d.Qr,ba,T,bs,_,lkUnl,rfl,G_os,rfl,W.Qy.b,trivial,fun _ _ _ _=>trivial,fun _ _=>.inl W.Qy.F.kp,hT,tok,h5,hbl,hba,kk⟩
noncomputable def keV(T:TillD):Bask->List (List Nat×Stnd)->Option (List Itm):=fun B qs=>(kbE T B qs).map fun z=>[.l z.1, .n z.2]
theorem LkIs.g{H H':Hp}{v:V}:∀{r:Option (List Nat×Nat)},LkIs H H' v r->LkG H H' v (r.map fun z=>[.l z.1, .n z.2])
 |none,h=>h
 |some (_,_),⟨p,l,e,f1,h1,h2⟩=>⟨p,[.ref l,_],e,h1, .cons ⟨l,rfl,f1,h2⟩ (.cons rfl .nil),by simp,by simp⟩
inductive kid (d:D) (vs:List V) (H:Hp) (Q:VK) (E_:XK):Prop
 |ct (t bl:Addr)(ba:List Addr)(T:TillD)(bs:List Bask)(_:vs=[.ref t, .ref bl])(_:TillIs d H t T)(_:kbJ T)(_:T.vs.length<=5)(_:H bl=some (.lst (ba.map V.ref)))(_:P2 (fun a B=>BaskIs d.qe d.qg H a B/\Wf T.ps B (stnd0 B)) ba bs)(_:∀(H':Hp)(v:V),Same H H'->FdG H H' v (kbg (keV T) T bs 0)->Q v H'):kid d vs H Q E_
theorem kfb:kao ["till","baskets"] ["till","baskets"] (kag kcz):=by ac_rfl
theorem kff(W:WB K mg d base):FO P w W 21 d.YB d.YC ["till","baskets"] (kid d):=by
 exists W.Vj.F,kfb
 ·obtain⟨t,bl,ba,T,bs,rfl,hT,tok,h5,hbl,hba,kk⟩:=h
  have G_os:=((kc2 (P:=P) (w:=w) (base:=base) W).mono (k:=19) (by decide)).imp (sp':=spLkG d T (fun _=>True) (keV T)) (fun vs H Q E ⟨wl,t,b,wa,B,qs,e,_,h4,h5,hT,tok,hB,wf,hq,lq,k⟩=>⟨wl,t,b,wa,T,B,ones T,qs,e,h4,h5.mono fun wy q ⟨x,hw,_⟩=>⟨x,hw⟩,hT,tok,hB,wf,by unfold ones;rw[Nq],hq,fun H' v s hl=>k H' v s hl.g⟩)
  exists Qn,kcq,W
  refine⟨_,kaf (kan (pcl Qn hr W.Qx (kaa (pv 0) (kaa (pv 1) (kaa (kcp (v:=.ref d.Qs) (by rfl) W.Qz.m rfl) kae))))),?_⟩
  exact⟨_,rfl,_,rfl,t,bl,d.Qs,{cls:=.none,data:=.func d.Qt},d.Qt,ba,T,bs,_,keV T,rfl,G_os,rfl,W.Qz.b,trivial,fun _ _ _ _=>trivial,fun _ _=>.inl W.Qz.F.kp,hT,tok,h5,hbl,hba,kk⟩
structure Step where
 n:Nat
 cs:List Int
 c:Int
noncomputable def StepIs(H:Hp)(a:Addr)(s:Step):Prop:=∃l,H a=some (.tup [iV s.n, .ref l, .int s.c])/\H l=some (.lst (s.cs.map V.int))
theorem StepIs.same{H H':Hp}{a:Addr}{t:Step}(s:Same H H'):StepIs H a t->StepIs H' a t:=by rintro⟨l,h1,h2⟩;exact⟨l,s _ _ h1,s _ _ h2⟩
noncomputable def StepN(H0 H:Hp)(a:Addr)(s:Step):Prop:=H0 a=none/\∃l,H0 l=none/\H a=some (.tup [iV s.n, .ref l, .int s.c])/\H l=some (.lst (s.cs.map V.int))
theorem StepN.same{H0 H H':Hp}{a:Addr}{t:Step}(s:Same H H'):StepN H0 H a t->StepN H0 H' a t:=by rintro⟨f,l,g,h1,h2⟩;exact⟨f,l,g,s _ _ h1,s _ _ h2⟩
theorem StepN.but{H0 H H':Hp}{a x:Addr}{t:Step}(b:But x H H')(hx:H0 x≠none):StepN H0 H a t->StepN H0 H' a t:=by rintro⟨f,l,g,h1,h2⟩;exact⟨f,l,g,b _ _ (fun e=>hx (e▸f)) h1,b _ _ (fun e=>hx (e▸g)) h2⟩
structure BillD where
 order:List Nat
 steps:List Step
 pr:List Int
 cg:Int
 total:Int
inductive BillIs (d:D) (H0 H:Hp) (b:Addr) (B:BillD):Prop
 |ct (dx:Addr)(fs:List (Str×V))(o s p:Addr)(sa:List Addr)(_:H b=some (.ins d.qh dx fs))(_:fs.lookup ("order" :Str)=some (.ref o))(_:fs.lookup ("steps" :Str)=some (.ref s))(_:fs.lookup ("prices" :Str)=some (.ref p))(_:fs.lookup ("carriage" :Str)=some (.int B.cg))(_:fs.lookup ("total" :Str)=some (.int B.total))(_:H0 b=none)(_:H0 o=none)(_:H0 s=none)(_:H0 p=none)(_:H o=some (.lst (B.order.map iV)))(_:H s=some (.lst (sa.map V.ref)))(_:P2 (fun a t=>StepN H0 H a t) sa B.steps)(_:H p=some (.lst (B.pr.map V.int))):BillIs d H0 H b B
theorem BillIs.same{d:D}{H0 H H':Hp}{b:Addr}{B:BillD}(z:Same H H'):BillIs d H0 H b B->BillIs d H0 H' b B:=by rintro⟨dx,fs,o,s,p,sa,h1,h2,h3,h4,h5,h6,f1,f2,f3,f4,h7,h8,h9,h10⟩;exact
 ⟨dx,fs,o,s,p,sa,z _ _ h1,h2,h3,h4,h5,h6,f1,f2,f3,f4,z _ _ h7,z _ _ h8,h9.mono fun a t h=>h.same z,z _ _ h10⟩
theorem BillIs.but{d:D}{H0 H H':Hp}{b x:Addr}{B:BillD}(z:But x H H')(hx:H0 x≠none):BillIs d H0 H b B->BillIs d H0 H' b B:=by rintro⟨dx,fs,o,s,p,sa,h1,h2,h3,h4,h5,h6,f1,f2,f3,f4,h7,h8,h9,h10⟩;exact
 ⟨dx,fs,o,s,p,sa,z _ _ (fun e=>hx (e▸f1)) h1,h2,h3,h4,h5,h6,f1,f2,f3,f4,z _ _ (fun e=>hx (e▸f2)) h7,z _ _ (fun e=>hx (e▸f3)) h8,h9.mono fun a t h=>h.but z hx,z _ _ (fun e=>hx (e▸f4)) h10⟩
inductive khm (d:D) (vs:List V) (H:Hp) (Q:VK) (E_:XK):Prop
 |ct (H0:Hp)(b dx o s x:Addr)(order:List Nat)(steps:List Step)(S:Stnd)(sa:List Addr)(_:vs=[.ref b, .ref o, .ref s, .ref x])(_:H0 b=none)(_:Same H0 H)(_:H b=some (.ins d.qh dx []))(_:H0 o=some (.lst (order.map iV)))(_:H0 s=some (.lst (sa.map V.ref)))(_:P2 (fun a t=>StepIs H0 a t) sa steps)(_:steps.length<64)(_:StndIs d.qc H0 x S)(_:∀H',Same H0 H'->BillIs d H0 H' b ⟨order,steps,S.pr,S.cg,S.pr.sum+S.cg⟩->Q .non H'):khm d vs H Q E_
theorem kgx:kao ["self","order","steps","standing"] ["self","order","steps","standing"] (kag kdg):=by ac_rfl
theorem kgM(W:WB K mg d base):FO P w W 2 d.ZP d.ZQ ["self","order","steps","standing"] (khm d):=by
 exists W.Xq.F,kgx
 ·obtain⟨H0,b,dx,o,st,x,order,steps,S,sa,rfl,fb,s0,hb,ho,hst,hsa,h64,hS,kk⟩:=h
  obtain⟨ow,pp,mm,⟨dxs,fss,hxs,l1,l2,l3,l4,l5⟩,how,hpp,hmm⟩:=id hS
  exists QM,kcv,W
  refine⟨_,kac (kaH (pv 0) (kaK (r:=ka4 K) kaA (by rfl) W.B.list kbj (kaa (pv 1) kae)) rfl)
   (kac (kaH (pv 0) (kbz (N:=["number","piece_cuts","carriage_cut"]) (CompScope.plain rfl (by decide +kernel) (by decide +kernel) (by decide +kernel) (show(["number","piece_cuts","carriage_cut"]:List Str).Nodup by decide +kernel)) rfl (kaE (K:=K) (pv 2)) (fun _ _ _ _=>kby (K:=K) (n:=3) rfl (kaC (pgn (i:=0) (show(["number","piece_cuts","carriage_cut"]:List Str).Nodup by decide +kernel)) (kaC (pgn (i:=1) (show(["number","piece_cuts","carriage_cut"]:List Str).Nodup by decide +kernel)) (kaC (pgn (i:=2) (show(["number","piece_cuts","carriage_cut"]:List Str).Nodup by decide +kernel)) kbx)))) (fun _ _ _ _=>(kbu (kaa (pv 0) (kaa (kaK (r:=ka4 K) kaA (by rfl) W.B.list kbj (kaa (pv 1) kae)) (kaa (pv 2) kae)))))) rfl)
   (kac (kaH (pv 0) (kaK (r:=ka4 K) kaA (by rfl) W.B.list kbj (kaa (kak (K:=K) (pv 3) rfl) kae)) rfl)
   (kac (kaH (pv 0) (kak (K:=K) (pv 3) rfl) rfl)
   (kaf (kaH (pv 0) (kcX (pv 3) W.qc.cl W.qM.me QM hr W.qM.b .nil pass0) rfl))))),?_⟩
  exists Y4
  refine⟨_,rfl,o,_,rfl, .inl (SqL.of (s0 _ _ ho)),fun o' ho'=>?_⟩
  have n1:=kam (o:=.lst (order.map iV)) ho'
  have fo:=s0.free ho'
  have no:o'≠b:=(kah hb ho').symm
  have e1:(upd H o' (.lst (order.map iV))) o'=some (.lst (order.map iV)):=kad
  have s1:=s0.trans n1
  have hb1:=n1 _ _ hb
  clear n1
  generalize upd H o' (.lst (order.map iV))=H1 at *
  symm
  exists Y4
  refine⟨_,rfl,b,d.qh,dx,[],rfl,hb1,W.qh.cl,W.Ub,by decide,?_⟩
  have s2:Same H0 (upd H1 b (.ins d.qh dx (putF "order" (.ref o') []))):=kaq fb s1 (nx hb1)
  have e2:(upd H1 b (.ins d.qh dx (putF "order" (.ref o') []))) o'=some (.lst (order.map iV)):=by rw[kaj no];exact e1
  have hb2:(upd H1 b (.ins d.qh dx (putF "order" (.ref o') []))) b=some (.ins d.qh dx (putF "order" (.ref o') [])):=kad
  generalize upd H1 b (.ins d.qh dx (putF "order" (.ref o') []))=H2 at *
  symm
  exists Y4
  refine⟨_,rfl,st,rfl,⟨_,SqL.of (s2 _ _ hst)⟩,kaY (xs:=sa.map V.ref) (fun i σ ys H'=>Same H2 H'/\∃(ta:List Addr)(v0 v1 v2:Option V),ys=ta.map V.ref/\P2 (fun a t=>StepN H0 H' a t) ta (steps.take i)/\σ=[v0,v1,v2])
   ⟨Same.refl _,[],none,none,none,rfl, .nil,rfl⟩ (by rw[Nq,hsa.len];exact ND (kap (by omega))) ?_ ?_ ?_⟩
  ·rintro i σ ys H' hi ⟨s3,ta,v0,v1,v2,rfl,hT,rfl⟩
   symm
   exists Y6
   refine⟨SqL.of (s3 _ _ (s2 _ _ hst)),?_⟩
   rw[Nq,hT.len,NK]
   rw[Nq,hsa.len] at hi
   omega
  ·rintro i y σ ys H' hy ⟨s3,ta,v0,v1,v2,rfl,hT,rfl⟩
   obtain⟨a,ea,rfl⟩:=kbR hy
   obtain⟨t,et,l,ha,hl⟩:=hsa.at ea
   have s03:=s2.trans s3
   nofun
   exists Y6
   refine⟨a,_,rfl,SqT.of (s03 _ _ ha),rfl,_,_,rfl,_,_,rfl,_,_,rfl,rfl,?_⟩
   nofun
   exists Y6
   refine⟨_,rfl,_,rfl,l,_,rfl, .inl (SqL.of (s03 _ _ hl)),fun l' hl'=>⟨_,rfl,(by show 3<=sizeLine;decide),fun q hq=>?_⟩⟩
   have n4:=kam (o:=.lst (t.cs.map V.int)) hl'
   have n5:=kam (o:=.tup [iV t.n,V.ref l',V.int t.c]) hq
   nofun
   exists Y6
   refine⟨s3.trans (n4.trans n5),ta++[q],_,_,_,by rw[NC];rfl,?_,rfl⟩
   rw[kbW et]
   nofun
   exact P2.snoc (hT.mono fun a t h=>h.same (n4.trans n5)) ⟨s03.free (n4.free hq),l',s03.free hl',kad,n5 _ _ kad⟩
  rintro σ ys H3 ⟨s3,ta,v0,v1,v2,rfl,hT,rfl⟩ sp hsp
  rw[Nq,hsa.len,NY] at hT
  have n4:=kam (o:=.lst (ta.map V.ref)) hsp
  have s03:=s2.trans s3
  have fsp:=s03.free hsp
  have hb3:=s3 _ _ hb2
  have nsp:sp≠b:=(kah hb3 hsp).symm
  have s4:=s03.trans n4
  have e4:=n4 _ _ (s3 _ _ e2)
  have es4:(upd H3 sp (.lst (ta.map V.ref))) sp=some (.lst (ta.map V.ref)):=kad
  have hT4:P2 (fun a t=>StepN H0 (upd H3 sp (.lst (ta.map V.ref))) a t) ta steps:=hT.mono fun a t h=>h.same n4
  have hb4:=n4 _ _ hb3
  clear n4
  generalize upd H3 sp (.lst (ta.map V.ref))=H4 at *
  symm
  exists Y4
  refine⟨_,rfl,b,d.qh,dx,_,rfl,hb4,W.qh.cl,W.Xp,few (Nx (kal (n:=0) (Nt _)) (by decide)),?_⟩
  have b5:But b H4 (upd H4 b (.ins d.qh dx (putF "steps" (.ref sp) (putF "order" (.ref o') [])))):=kav (nx hb4)
  have s5:Same H0 (upd H4 b (.ins d.qh dx (putF "steps" (.ref sp) (putF "order" (.ref o') [])))):=kaq fb s4 (nx hb4)
  have e5:(upd H4 b (.ins d.qh dx (putF "steps" (.ref sp) (putF "order" (.ref o') [])))) o'=some (.lst (order.map iV)):=by rw[kaj no];exact e4
  have es5:(upd H4 b (.ins d.qh dx (putF "steps" (.ref sp) (putF "order" (.ref o') [])))) sp=some (.lst (ta.map V.ref)):=by rw[kaj nsp];exact es4
  have hb5:(upd H4 b (.ins d.qh dx (putF "steps" (.ref sp) (putF "order" (.ref o') [])))) b=some (.ins d.qh dx (putF "steps" (.ref sp) (putF "order" (.ref o') []))):=kad
  have stepb:∀{H5:Hp},But b H4 H5->P2 (fun a t=>StepN H0 H5 a t) ta steps:=fun {H5} bt=>hT4.mono fun a t ⟨f,l,g,h1,h2⟩=>⟨f,l,g,bt _ _ (ne_of h1 hb4 (by intro z;cases z)) h1,bt _ _ (ne_of h2 hb4 (by intro z;cases z)) h2⟩
  generalize upd H4 b (.ins d.qh dx (putF "steps" (.ref sp) (putF "order" (.ref o') [])))=H5 at *
  symm
  exists Y4
  refine⟨_,rfl,x,d.qc,dxs,fss,_,rfl,s5 _ _ hxs,W.qc.cl,W.qw,l2,pp,_,rfl, .inl (SqL.of (s5 _ _ hpp)),fun p' hp'=>?_⟩
  have n6:=kam (o:=.lst (S.pr.map V.int)) hp'
  have fp:=s5.free hp'
  have np:p'≠b:=(kah hb5 hp').symm
  have s6:=s5.trans n6
  have b6:=b5.same n6
  have e6:=n6 _ _ e5
  have es6:=n6 _ _ es5
  have ep6:(upd H5 p' (.lst (S.pr.map V.int))) p'=some (.lst (S.pr.map V.int)):=kad
  have hb6:=n6 _ _ hb5
  clear n6
  generalize upd H5 p' (.lst (S.pr.map V.int))=H6 at *
  symm
  exists Y4
  refine⟨_,rfl,b,d.qh,dx,_,rfl,hb6,W.qh.cl,W.Uc,few (Nx (kal (kal (n:=0) (Nt _))) (by decide)),?_⟩
  have b7:But b H4 (upd H6 b (.ins d.qh dx (putF "prices" (.ref p') (putF "steps" (.ref sp) (putF "order" (.ref o') []))))):=b6.trans (kav (nx hb6))
  have s7:Same H0 (upd H6 b (.ins d.qh dx (putF "prices" (.ref p') (putF "steps" (.ref sp) (putF "order" (.ref o') []))))):=kaq fb s6 (nx hb6)
  have e7:(upd H6 b (.ins d.qh dx (putF "prices" (.ref p') (putF "steps" (.ref sp) (putF "order" (.ref o') []))))) o'=some (.lst (order.map iV)):=by rw[kaj no];exact e6
  have es7:(upd H6 b (.ins d.qh dx (putF "prices" (.ref p') (putF "steps" (.ref sp) (putF "order" (.ref o') []))))) sp=some (.lst (ta.map V.ref)):=by rw[kaj nsp];exact es6
  have ep7:(upd H6 b (.ins d.qh dx (putF "prices" (.ref p') (putF "steps" (.ref sp) (putF "order" (.ref o') []))))) p'=some (.lst (S.pr.map V.int)):=by rw[kaj np];exact ep6
  have hb7:(upd H6 b (.ins d.qh dx (putF "prices" (.ref p') (putF "steps" (.ref sp) (putF "order" (.ref o') []))))) b=some (.ins d.qh dx (putF "prices" (.ref p') (putF "steps" (.ref sp) (putF "order" (.ref o') [])))):=kad
  generalize upd H6 b (.ins d.qh dx (putF "prices" (.ref p') (putF "steps" (.ref sp) (putF "order" (.ref o') []))))=H7 at *
  symm
  exists Y4
  refine⟨_,rfl,x,d.qc,dxs,fss,_,rfl,s7 _ _ hxs,W.qc.cl,W.qV,l3,_,rfl,b,d.qh,dx,_,rfl,hb7,W.qh.cl,W.Ud,few (Nx (kal (kal (kal (n:=0) (Nt _)))) (by decide)),?_⟩
  have s8:Same H0 (upd H7 b (.ins d.qh dx (putF "carriage" (.int S.cg) (putF "prices" (.ref p') (putF "steps" (.ref sp) (putF "order" (.ref o') [])))))):=kaq fb s7 (nx hb7)
  have hb8:(upd H7 b (.ins d.qh dx (putF "carriage" (.int S.cg) (putF "prices" (.ref p') (putF "steps" (.ref sp) (putF "order" (.ref o') [])))))) b=some (.ins d.qh dx (putF "carriage" (.int S.cg) (putF "prices" (.ref p') (putF "steps" (.ref sp) (putF "order" (.ref o') []))))):=kad
  symm
  exists Y4
  refine⟨_,rfl,x,dxs,fss,rfl,s8 _ _ hxs,l5,x,ow,pp,mm,S.cg,S.pr,rfl,⟨dxs,fss,s8 _ _ hxs,l1,l2,l3,l4,l5⟩,s8 _ _ hpp,_,rfl,b,d.qh,dx,_,rfl,hb8,W.qh.cl,W.VR,few (Nx (kal (kal (kal (kal (n:=0) (Nt _))))) (by decide)),?_⟩
  symm
  refine kk _ (kaq fb s8 (nx hb8)) ⟨dx,_,o',sp,p',ta,kad,?_,?_,?_,?_,?_,fb,fo,fsp,fp,?_,?_,stepb ((b7.trans (kav (nx hb7))).trans (kav (nx hb8))),?_⟩
  ·ac_nf
  ·ac_nf
  ·ac_nf
  ·ac_nf
  ·ac_nf
  ·rw[kaj no,kaj no];exact e7
  ·rw[kaj nsp,kaj nsp];exact es7
  ·rw[kaj np,kaj np];exact ep7
theorem kmK{d:D}{H:Hp}{o s x:Addr}{order:List Nat}{steps:List Step}{S:Stnd}{sa:List Addr}{R:Addr->Hp->Prop}{E:XK}(ho:H o=some (.lst (order.map iV)))(hs:H s=some (.lst (sa.map V.ref)))(hsa:P2 (fun a t=>StepIs H a t) sa steps)(h64:steps.length<64)(hS:StndIs d.qc H x S)
  (k:∀(H':Hp)(b:Addr),Same H H'->BillIs d H H' b ⟨order,steps,S.pr,S.cg,S.pr.sum+S.cg⟩->R b H'):
  ∀b dx,H b=none->H dx=none->dx≠b->khm d [.ref b, .ref o, .ref s, .ref x] (upd (upd H dx (.own b)) b (.ins d.qh dx [])) (fun v H2=>v=.non/\R b H2) E:=
 fun b dx nb nd _=>⟨H,b,dx,o,s,x,order,steps,S,sa,rfl,nb,kbd nb nd,kad,ho,hs,hsa,h64,hS,fun H' z hB=>⟨rfl,k H' b z hB⟩⟩
theorem kdL{H:Hp}{sp o:Addr}{xs:List Addr}{ys:List V}(hsp:H sp=some (.lst (xs.map V.ref)))(h0:xs≠[])(ho:H o=some (.lst ys))(hy:∀y∈ys,∀r,y≠V.ref r):o≠sp:=fun z=>by
 rw[z,hsp] at ho
 injection ho with ho
 injection ho with ho
 cases xs with
 |nil=>exact h0 rfl
 |cons r xs=>exact hy (V.ref r) (by rw[<-ho];simp) r rfl
theorem StndIs.butR{C sp x:Addr}{H H':Hp}{S:Stnd}{xs:List Addr}(b:But sp H H')(hsp:H sp=some (.lst (xs.map V.ref)))(h0:xs≠[]):StndIs C H x S->StndIs C H' x S:=by rintro⟨o,p,mk,⟨dx,fs,hx,q⟩,ho,hp,hm⟩;exact
 ⟨o,p,mk,⟨dx,fs,b _ _ (ne_of hx hsp (by intro z;cases z)) hx,q⟩,
  b _ _ (kdL hsp h0 ho fun y hy r e=>by obtain⟨n,_,rfl⟩:=NO.mp hy;cases e) ho,
  b _ _ (kdL hsp h0 hp fun y hy r e=>by obtain⟨n,_,rfl⟩:=NO.mp hy;cases e) hp,
  b _ _ (kdL hsp h0 hm fun y hy r e=>by obtain⟨n,_,rfl⟩:=NO.mp hy;cases e) hm⟩
theorem WayAt.butR{d:D}{m:Nat}{sp w t b x:Addr}{H H':Hp}{hand:List Int}{used:List Nat}{xs:List Addr}(z:But sp H H')(hsp:H sp=some (.lst (xs.map V.ref)))(h0:xs≠[]):WayAt d m H w t b x hand used->WayAt d m H' w t b x hand used:=by rintro⟨dx,fs,h,u,h1,h2,h3,h4,h5,h6,h7,h8,h9,h10,h11,h12,h13⟩;exact
 ⟨dx,fs,h,u,z _ _ (ne_of h1 hsp (by intro z;cases z)) h1,h2,h3,h4,h5,h6,h7,h8,h9,h10,h11,
  z _ _ (kdL hsp h0 h12 fun y hy r e=>by obtain⟨n,_,rfl⟩:=NO.mp hy;cases e) h12,
  z _ _ (kdL hsp h0 h13 fun y hy r e=>by obtain⟨n,_,rfl⟩:=NO.mp hy;cases e) h13⟩
noncomputable def billM(T:TillD)(B:Bask):List Nat->Stnd->List Step×Stnd
 |[],S=>([],S)
 |n::ns,S=>match T.vs[n]? with
  |none=>([],S)
  |some V=>(⟨n,(cutM V T.ps (kds B) S).1,(cutM V T.ps (kds B) S).2⟩::(billM T B ns (aftM V T.ps (kds B) S)).1,(billM T B ns (aftM V T.ps (kds B) S)).2)
noncomputable def kiI(T:TillD)(B:Bask)(order:List Nat):BillD:=⟨order,(billM T B order (stnd0 B)).1,(billM T B order (stnd0 B)).2.pr,(billM T B order (stnd0 B)).2.cg,(billM T B order (stnd0 B)).2.pr.sum+(billM T B order (stnd0 B)).2.cg⟩
inductive kh8 (d:D) (vs:List V) (H:Hp) (Q:VK) (E_:XK):Prop
 |ct (t b h o:Addr)(T:TillD)(B:Bask)(hand:List Int)(order:List Nat)(_:vs=[.ref t, .ref b, .ref h, .ref o])(_:TillIs d H t T)(_:kbJ T)(_:BaskIs d.qe d.qg H b B)(_:Wf T.ps B (stnd0 B))(_:H h=some (.lst (hand.map V.int)))(_:H o=some (.lst (order.map iV)))(_:hand.length=T.vs.length)(_:(∀n∈order,n<T.vs.length))(_:order.length<64)(_:kcw T B hand order=none)(_:∀(H0 H':Hp)(bl:Addr),Same H H0->Same H0 H'->BillIs d H0 H' bl (kiI T B order)->Q (.ref bl) H'):kh8 d vs H Q E_
theorem qR:kao ["till","basket","hand","order","due","way","steps","number","told"] ["till","basket","hand","order"] (kag kfN):=by ac_rfl
theorem kgC(W:WB K mg d base):FO P w W 9 d.YL d.YM ["till","basket","hand","order"] (kh8 d):=by
 exists W.Q8.F,qR
 ·obtain⟨t,b,h,o,T,B,hand,order,rfl,hT,tok,hB,wf0,hh,ho,hl,hlt,h64,hf,kk⟩:=h
  exists XE,kir,W
  exists qG,kb9,W
  exists UV,kmE,W
  exists qQ,kbU,W
  exists UW,kgM,W
  exists hr3,3,hr,0
  exists hr5,5,hr,0
  exists hr6,6,hr,0
  refine⟨_,kac (psl (i:=4) qR.nd (pcl XE hr W.Q7 (kaa (pv 0) (kaa (pv 1) (kaa (pv 2) (kaa (pv 3) kae))))))
   (kac (ps_if (kar kb6 (pv 4) kaJ (kaw _)) (kaf (ps_no)) (kas))
   (kac (psl (i:=5) qR.nd (kaX (W.qy.mk' W.c_Way) qG hr5 rfl W.c_Way.m W.qy.b .nil pass0 (kaa (pv 0) (kaa (pv 1) (kaa (pv 2) kae)))))
   (kac (psl (i:=6) qR.nd (kaN kae))
   (kac (kaU PassesOwn.never rfl (kaE (K:=K) (pv 3)) (pgn (i:=7) qR.nd)
   (kac (psl (i:=8) qR.nd (pcl UV hr5 W.ZW (kaa (pe_ix (r:=rIxL K) kax (kak (K:=K) (pv 0) rfl) (pv 7) (fun _ _=>rfl)) (kaa (kak (K:=K) (pv 0) rfl) (kaa (pv 1) (kaa (kak (K:=K) (pv 5) rfl) kae))))))
   (kac (ka9 (pe_bm Mp MV MW kbF (pv 6) (kaa (kbu (kaa (pv 7) (kaa (pe_ix (r:=rIxT K) kcG (pv 8) kai (fun _ _=>rfl)) (kaa (pe_ix (r:=rIxT K) kcG (pv 8) kai (fun _ _=>rfl)) kae)))) kae)))
   (kaf (psl (i:=5) qR.nd (kdi (pv 5) W.c_Way.cl W.qD.me qQ hr6 W.qD.b .nil pass0 (kaa (pv 7) kae)))))))
   (kaf (kan (kaX (W.Xq.mk' W.qh) UW hr3 rfl W.qh.m W.Xq.b .nil pass0 (kaa (pv 3) (kaa (pv 6) (kaa (kak (K:=K) (pv 5) rfl) kae)))))))))),?_⟩
  exists Y4
  refine⟨_,rfl,_,rfl,_,rfl,_,rfl,t,b,h,o,T,B,hand,order,rfl,hT,tok,hB,wf0,hh,ho,hl,hlt,h64,fun H1 v s1 hF=>?_⟩
  rw[hf] at hF
  have ev:v=.non:=hF
  subst ev
  symm
  exists Y4
  refine⟨_,rfl,rfl,_,rfl,?_⟩
  show if(!decide (V.non=V.non))=true then _ else _
  rw[show(!decide (V.non=V.non))=false by simp]
  refine iteF ?_
  symm
  exists Y4
  refine⟨_,rfl,_,rfl,_,rfl,kgN (s1 _ _ hh) (hB.same s1) wf0.nl wf0.ok fun H2 y0 x0 s2 fy0 fx0 hy0N hx0=>?_⟩
  have hy0:=hy0N.at
  have s02:=s1.trans s2
  symm
  exists Y4
  refine⟨by decide,fun sp fsp=>?_⟩
  generalize hgH3:upd H2 sp _=H3
  obtain⟨n3,(esp0:H3 sp=some (.lst (([]:List Addr).map V.ref)))⟩:=kay hgH3 fsp
  have fsp0:=s02.free fsp
  generalize eR:billM T B order (stnd0 B)=R at *
  symm
  exists Y4
  refine⟨_,rfl,o,rfl,⟨_,SqL.of ((s02.trans n3) _ _ ho)⟩,ka3 (xs:=order.map iV) (fun i σ H'=>Same H2 H'/\∃(y x:Addr)(used:List Nat)(S:Stnd)(sa:List Addr)(st:List Step)(v7 v8:Option V),WayIs d H' y t b x hand used/\StndIs d.qc H' x S/\(sa=[]->WayIs d H2 y t b x hand used/\StndIs d.qc H2 x S)/\Wf T.ps B S/\used.length=i/\H' sp=some (.lst (sa.map V.ref))/\P2 (fun a t=>StepIs H' a t) sa st/\st.length=i/\st++(billM T B (order.drop i) S).1=R.1/\(billM T B (order.drop i) S).2=R.2/\σ=[some (.ref t),some (.ref b),some (.ref h),some (.ref o),some .non,some (.ref y),some (.ref sp),v7,v8])
   ⟨n3,y0,x0,[],_,[],[],none,none,(hy0.most (by decide)).same n3,hx0.same n3,(fun _=>⟨hy0.most (by decide),hx0⟩),wf0,rfl,esp0, .nil,rfl,by rw[M9,eR];rfl,by rw[M9,eR],rfl⟩ (fun i σ H' _ h=>SqL.of ((s02.trans h.1) _ _ ho)) ?_ ?_⟩
  ·rintro i yv σ H' hyv ⟨sI,y,x,used,S,sa,st,v7,v8,hY,hx,h2,wf,hul,hsp,hsa,hsl,hR1,hR2,rfl⟩
   obtain⟨n,en,rfl⟩:∃n,order[i]?=some n/\yv=iV n:=kbo hyv
   have hi:=at_lt en
   obtain⟨Vc,hV⟩:=at_of (hlt n (Ny en))
   have vo:=tok.vs Vc (Ny hV)
   have ed:order.drop i=n::order.drop (i+1):=by
    obtain⟨z1,z2⟩:=NF.mp en
    rw[My z1,z2]
   rw[ed] at hR1 hR2
   unfold billM at hR1 hR2
   rw[hV] at hR1 hR2
   simp only at hR1 hR2
   have s0I:=s02.trans sI
   obtain⟨dxw,fsw,hd,u,hw,w1,w2,w3,w4,w5,w6,w7,w8,w9,w10,hh',hu⟩:=id hY
   obtain⟨dx,fs,p,vl,rl,va,ra,ht,t1,t2,t3,t4,hp,hvl,hva,hrl,hra⟩:=id (hT.same s0I)
   obtain⟨vv,evv⟩:=at_of (xs:=va) (i:=n) (by rw[hva.len];exact at_lt hV)
   obtain⟨Vc',eV',hVv⟩:=hva.at evv
   rw[hV] at eV'
   cases eV'
   symm
   exists Y6
   refine⟨_,rfl,t,d.qd,dx,fs,_,rfl,ht,W.qd.cl,W.qp,t2,_,rfl,vl,_,_,_,rfl,rfl,SqL.of hvl,kaz (v:=.ref vv) (by rw[Nz,evv];rfl),?_⟩
   nofun
   exists Y6
   refine⟨_,rfl,t,d.qd,dx,fs,_,rfl,ht,W.qd.cl,W.qO,t1,_,rfl,_,rfl,y,d.c_Way,dxw,fsw,_,rfl,hw,W.c_Way.cl,W.qA,w5,?_⟩
   nofun
   exists Y6
   refine⟨vv,p,b,x,Vc,T.ps,B,S,rfl,hVv,SqL.of hp,hB.same s0I,hx,wf,vo,fun H4 tt pc s4 ft fpc htt hpc=>?_⟩
   have hsp4:=s4 _ _ hsp
   nofun
   exists Y6
   refine⟨_,rfl, .inl ⟨rfl,_,SqL.of hsp4⟩,_,rfl,_,rfl,tt,_,_,_,rfl,rfl,SqT.of htt,rfl,_,rfl,tt,_,_,_,rfl,rfl,SqT.of htt,rfl,(by show 3<=sizeLine;decide),fun q hq=>?_⟩
   have n5:=kam (o:=.tup [iV n,V.ref pc,V.int (cutM Vc T.ps (kds B) S).2]) hq
   have eq5:(upd H4 q (.tup [iV n,V.ref pc,V.int (cutM Vc T.ps (kds B) S).2])) q=some (.tup [iV n,V.ref pc,V.int (cutM Vc T.ps (kds B) S).2]):=kad
   have s5:=s4.trans n5
   have hsp5:=n5 _ _ hsp4
   have hpc5:=n5 _ _ hpc
   have npc:pc≠sp:=(kah hsp fpc).symm
   clear n5
   generalize upd H4 q (.tup [iV n,V.ref pc,V.int (cutM Vc T.ps (kds B) S).2])=H5 at *
   nofun
   exists Y6
   refine⟨sp,_,_,rfl,rfl,hsp5,kap (by rw[Nq,hsa.len];omega),?_⟩
   have b6:But sp H5 (upd H5 sp (.lst (sa.map V.ref++[V.ref q]))):=kav (nx hsp5)
   have s6:Same H2 (upd H5 sp (.lst (sa.map V.ref++[V.ref q]))):=kaq fsp (sI.trans s5) (nx hsp5)
   have esp6:(upd H5 sp (.lst (sa.map V.ref++[V.ref q]))) sp=some (.lst ((sa++[q]).map V.ref)):=by rw[kad,NC];rfl
   generalize upd H5 sp (.lst (sa.map V.ref++[V.ref q]))=H6 at *
   have hYx:WayIs d H6 y t b x hand used/\StndIs d.qc H6 x S:=by
    by_cases h0:sa=[]
    ·exact⟨(h2 h0).1.same s6,(h2 h0).2.same s6⟩
    ·exact⟨(hY.same s5).butR b6 hsp5 h0,(hx.same s5).butR b6 hsp5 h0⟩
   have hst:P2 (fun a t=>StepIs H6 a t) (sa++[q]) (st++[⟨n,(cutM Vc T.ps (kds B) S).1,(cutM Vc T.ps (kds B) S).2⟩]):=by
    nofun
    refine P2.snoc ?_ ⟨pc,b6 _ _ (ne_of eq5 hsp5 (by intro z;cases z)) eq5,b6 _ _ npc hpc5⟩
    by_cases h0:sa=[]
    ·subst h0
     cases hsa
     nofun
     exact .nil
    ·refine hsa.mono fun a t zz=>?_
     obtain⟨l,g1,g2⟩:=zz
     have g1':=s5 _ _ g1
     have g2':=s5 _ _ g2
     nofun
     exists Y10
     refine⟨l,b6 _ _ (ne_of g1' hsp5 (by intro z;cases z)) g1',b6 _ _ ?_ g2'⟩
     exists 4
     exact kdL hsp5 h0 g2' fun y hy r e=>by obtain⟨n,_,rfl⟩:=NO.mp hy;cases e
   have s06:=s02.trans s6
   obtain⟨dxw',fsw',hd',u',hw',_,_,_,_,_,_,w7',_⟩:=id hYx.1
   nofun
   exists Y6
   refine⟨_,rfl,y,dxw',fsw',rfl,hw',w7',_,rfl,y,t,b,x,T,B,S,hand,used,n,Vc,rfl,hYx.1,hT.same s06,hB.same s06,hYx.2,wf,vo,hV,by omega,fun H7 y' x' s7 fy' hY1 hx1=>?_⟩
   have hY':=hY1.at
   have hx':=hx1.is
   nofun
   exists Y6
   refine⟨s6.trans s7,y',x',used++[n],_,sa++[q],_,_,_,hY',hx',(fun e=>by simp at e),wf.after vo,by rw[NG,hul];rfl,s7 _ _ esp6,hst.mono fun a t h=>h.same s7,by rw[NG,hsl];rfl,?_,hR2,rfl⟩
   rw[Mg]
   nofun
   exact hR1
  ·rintro σ H' ⟨sI,y,x,used,S,sa,st,v7,v8,hY,hx,h2,wf,hul,hsp,hsa,hsl,hR1,hR2,rfl⟩
   rw[Nq,MG] at hR1 hR2
   unfold billM at hR1 hR2
   have e1:st=R.1:=by simpa using hR1
   have e2:S=R.2:=hR2
   obtain⟨dxw,fsw,hd,u,hw,w1,w2,w3,w4,w5,w6,w7,w8,w9,w10,hh',hu⟩:=id hY
   rw[Nq] at hsl
   nofun
   exists Y6
   refine⟨_,rfl,_,rfl,_,rfl,y,d.c_Way,dxw,fsw,_,rfl,hw,W.c_Way.cl,W.qA,w5,kmK ((s02.trans sI) _ _ ho) hsp hsa (by omega) hx fun H8 bl s8 hBl=>?_⟩
   nofun
   refine kk H' H8 bl (s02.trans sI) s8 ?_
   unfold kiI
   rw[eR,<-e1,<-e2]
   nofun
   exact hBl
theorem kfI:kao ["_law_found"] ["_law_found"] (kag kcJ):=by ac_rfl
theorem kfX(W:WB K mg d base):FO P w W 1 d.YN d.YO ["_law_found"] kh3:=by
 exists W.Q9.F,kfI
 ·obtain⟨n,rfl,k⟩:=h
  refine⟨_,kaf (kan (klT (kat (r:=rIsi K) kaQ (by rfl) W.B.isi b_isi (kaa (pv 0) (kaa (keG (v:=.ty "int") (by rfl) W.B.int b_int rfl) kae))) (kjQ (knf (kat (r:=rIsi K) kaQ (by rfl) W.B.isi b_isi (kaa (pv 0) (kaa (keG (v:=.ty "bool") (by rfl) W.B.bool knz rfl) kae))))))),?_⟩
  exact⟨_,rfl,_,_,_,_,rfl, .inl ⟨_,rfl⟩,TyOf.int _,kbV _ _,_,rfl,iteT ⟨_,rfl,_,_,_,_,rfl, .inl ⟨_,rfl⟩,TyOf.int _,kgU _,_,rfl,k⟩⟩
theorem khp:kao ["_law_cell","_law_factor","_law_prime"] ["_law_cell","_law_factor","_law_prime"] (kag kdJ):=by ac_rfl
theorem kbA(W:WB K mg d base):FO P w W 1 d.YQ d.YR ["_law_cell","_law_factor","_law_prime"] spMix:=by
 exists W.qz.F,khp
 ·obtain⟨c,f,p,rfl,hf,hp,k⟩:=h
  refine⟨_,kaf (kan (pe_op kaG (pe_op keM (pv 0) (pv 1)) (pv 2))),?_⟩
  exact⟨_,rfl,_,rfl,_,_,rfl,rfl, .inr hf,_,rfl,_,_,rfl,rfl,hp,k⟩
noncomputable def coinM(c:Int):Int:=if c%4=0 then c/4%10 else if c%4=1 then c/4%1000 else if c%4=2 then(if c/4%4=0 then 0 else if c/4%4=1 then 1 else if c/4%4=2 then 999999999999 else 1000000000000) else c/4*48271%1000000000001
theorem kkz(c:Int):0<=coinM c/\coinM c<=1000000000000:=by
 unfold coinM
 repeat' split
 all_goals omega
theorem dec_ii{i j:Int}:(decide (V.int i=V.int j)=true)↔i=j:=by
 rw[decide_eq_true_iff]
 exact⟨fun h=>by injection h,fun h=>by rw[h]⟩
inductive kjz (vs:List V) (H:Hp) (Q:VK) (E_:XK):Prop
 |ct (c:Int)(_:vs=[.int c])(_:∀(H':Hp),Same H H'->Q (.int (coinM c)) H'):kjz vs H Q E_
theorem V2:kao ["_law_cell","_law_how"] ["_law_cell"] (kag kdf):=by ac_rfl
theorem kdZ(W:WB K mg d base):FO P w W 1 d.YS d.YT ["_law_cell"] kjz:=by
 exists W.Xa.F,V2
 ·obtain⟨c,rfl,kk⟩:=h
  refine⟨_,kac (psl (i:=1) V2.nd (pe_op kaG (pv 0) kai))
   (kac (ps_if (kar op_eq (pv 1) kai (kaw _)) (kaf (kan (pe_op kaG (pe_op kaI (pv 0) kai) kai))) (kas))
   (kac (ps_if (kar op_eq (pv 1) kai (kaw _)) (kaf (kan (pe_op kaG (pe_op kaI (pv 0) kai) kai))) (kas))
   (kac (ps_if (kar op_eq (pv 1) kai (kaw _)) (kaf (kan (pe_ix (r:=rIxL K) kax (kaN (kaa kai (kaa kai (kaa kai (kaa kai kae))))) (pe_op kaG (pe_op kaI (pv 0) kai) kai) (fun _ _=>rfl)))) (kas))
   (kaf (kan (pe_op kaG (pe_op keM (pe_op kaI (pv 0) kai) kai) kai)))))),?_⟩
  have hcm:coinM c=if c%4=0 then c/4%10 else if c%4=1 then c/4%1000 else if c%4=2 then(if c/4%4=0 then 0 else if c/4%4=1 then 1 else if c/4%4=2 then 999999999999 else 1000000000000) else c/4*48271%1000000000001:=rfl
  have kk0:=kk H (Same.refl _)
  refine⟨_,rfl,_,_,rfl,rfl,(by show(0:Int)<4;decide),?_⟩
  refine⟨_,rfl,rfl,_,rfl,ite2 (fun h=>?_) (fun h=>?_)⟩
  ·have h0:=dec_ii.mp h
   rw[hcm,if_pos h0] at kk0
   exact⟨_,rfl,_,_,rfl,rfl,⟨by decide,by decide⟩,_,_,rfl,rfl,(by show(0:Int)<10;decide),kk0⟩
  have h0:¬c%4=0:=fun z=>h (dec_ii.mpr z)
  refine⟨_,rfl,rfl,_,rfl,ite2 (fun h=>?_) (fun h=>?_)⟩
  ·have h1:=dec_ii.mp h
   rw[hcm,if_neg h0,if_pos h1] at kk0
   exact⟨_,rfl,_,_,rfl,rfl,⟨by decide,by decide⟩,_,_,rfl,rfl,(by show(0:Int)<1000;decide),kk0⟩
  have h1:¬c%4=1:=fun z=>h (dec_ii.mpr z)
  refine⟨_,rfl,rfl,_,rfl,ite2 (fun h=>?_) (fun h=>?_)⟩
  ·have h2:=dec_ii.mp h
   refine⟨(by show 4<=sizeLine;decide),fun l fl=>?_⟩
   exists H,l,H1,n1,e1,fl
   have kk1:=kk H1 n1
   rw[hcm,if_neg h0,if_neg h1,if_pos h2] at kk1
   have hix:atI [V.int 0,V.int 1,V.int 999999999999,V.int 1000000000000] (c/4%4)=some (.int (if c/4%4=0 then 0 else if c/4%4=1 then 1 else if c/4%4=2 then 999999999999 else 1000000000000)):=by
    have hc:c/4%4=0∨c/4%4=1∨c/4%4=2∨c/4%4=3:=by omega
    rcases hc with e|e|e|e <;> rw[e] <;> rfl
   exact⟨_,rfl,_,_,rfl,rfl,⟨by decide,by decide⟩,_,_,rfl,rfl,(by show(0:Int)<4;decide),l,_,_,_,rfl,rfl,SqL.of e1,hix,kk1⟩
  have h2:¬c%4=2:=fun z=>h (dec_ii.mpr z)
  rw[hcm,if_neg h0,if_neg h1,if_neg h2] at kk0
  exact⟨_,rfl,_,_,rfl,rfl,⟨by decide,by decide⟩,_,_,rfl,rfl, .inr ⟨by decide,by decide⟩,_,_,rfl,rfl,(by show(0:Int)<1000000000001;decide),kk0⟩
inductive klJ (vs:List V) (H:Hp) (Q:VK) (E_:XK):Prop
 |ct (c:Int)(_:vs=[.int c])(_:∀(H':Hp)(p:Addr)(ps:List (Option Nat)),Same H H'->H p=none->H' p=some (.lst (ps.map pV))->Good ps->ps.length<=4->0<ps.length->Q (.ref p) H'):klJ vs H Q E_
theorem QO:kao ["_law_cell","_law_parents_here","_law_k","_law_drawn"] ["_law_cell"] (kag kcn):=by ac_rfl
theorem keR(W:WB K mg d base):FO P w W 2 d.YU d.YV ["_law_cell"] klJ:=by
 exists W.Vn.F,QO
 ·obtain⟨c,rfl,kk⟩:=h
  exists qq,kbA,W
  refine⟨_,kac (psl (i:=1) QO.nd (kaN kae))
   (kac (kaU PassesOwn.never rfl (kba rfl W.B.range (kaa (pe_op kbe kai (pe_op kaG (pv 0) kai)) kae)) (pgn (i:=2) QO.nd)
   (kac (psl (i:=3) QO.nd (pcl qq hr W.qz (kaa (pe_op kbe (pe_op kbe (pv 0) (pe_op keM (pv 2) (pv 2))) kai) (kaa kai (kaa kai kae)))))
   (kaf (ka9 (pe_bm Mp MV MW kbF (pv 1) (kaa (kdW (kbT (PW.pt (pw_or (kar op_eq (pv 2) kai (kaw _)) (keC (kar op_eq (pe_op kaG (pv 3) kai) kai (kaw _))))) kaJ (pe_op kaG (pe_op kaI (pv 3) kai) (pv 2)))) kae))))))
   (kaf (kan (pv 1)))),?_⟩
  refine⟨by decide,fun p fp=>?_⟩
  exists H,p,H1,n1,e1,fp
  obtain⟨m,em⟩:=Int.eq_ofNat_of_zero_le (show 0<=1+c%4 by omega)
  have hm4:m<=4/\0<m:=by omega
  refine⟨_,rfl,_,_,rfl,rfl,(by show(0:Int)<4;decide),_,_,rfl,rfl,_,rfl,by omega,by omega,?_⟩
  rw[show((1:Int)+c%4).toNat=m by omega]
  refine kbi (fun i σ H'=>Same H H'/\∃(ps:List (Option Nat))(v2 v3:Option V),σ=[some (.int c),some (.ref p),v2,v3]/\H' p=some (.lst (ps.map pV))/\ps.length=i/\Good ps)
   ⟨n1,[],none,none,rfl,e1,rfl,klm⟩ ?_ ?_
  ·rintro i σ H' hi ⟨s2,ps,v2,v3,rfl,hp2,hl,hg⟩
   rw[Int.zero_add]
   refine⟨_,rfl,_,rfl,_,rfl,_,_,rfl,rfl, .inl ⟨by omega,by omega⟩,_,_,rfl,rfl,_,_,rfl,rfl,_,16807,2147483399,rfl,⟨by decide,by decide⟩,by decide,?_⟩
   dsimp only
   have hx0:0<=(c+(i:Int)*(i:Int)+1)*16807%2147483399:=by omega
   generalize (c+(i:Int)*(i:Int)+1)*16807%2147483399=mx at *
   refine⟨_,rfl, .inl ⟨rfl,_,SqL.of hp2⟩,?_⟩
   refine⟨fun v H3=>H3=H'/\∃o:Option Nat,v=pV o/\∀k,o=some k->k<i,?_,?_⟩
   ·refine⟨_,rfl,rfl,_,rfl,?_⟩
    show if decide (iV i=iV 0)=true then _ else _
    rw[kg0]
    by_cases h0:i=0
    ·rw[decide_eq_true h0]
     exact iteT (iteT ⟨rfl,none,rfl,fun k e=>by cases e⟩)
    ·rw[decide_eq_false h0]
     have k0:0<=mx/3%(i:Int):=Int.emod_nonneg _ (by omega)
     have k1:mx/3%(i:Int)<(i:Int):=Int.emod_lt_of_pos _ (by omega)
     refine iteF ⟨_,rfl,_,_,rfl,rfl,(by show(0:Int)<3;decide),rfl,_,rfl,ite2 (fun _=>⟨rfl,none,rfl,fun k e=>by cases e⟩) (fun _=>?_)⟩
     refine⟨_,rfl,_,_,rfl,rfl,⟨by decide,by decide⟩,_,rfl,_,_,rfl,rfl,(by show(0:Int)<(i:Int);omega),rfl,some (mx/3%(i:Int)).toNat,?_,fun k e=>by cases e;omega⟩
     show V.int _=V.int (((mx/3%(i:Int)).toNat:Nat):Int)
     rw[Int.toNat_of_nonneg k0]
   rintro v H3 ⟨rfl,o,rfl,ho⟩
   refine⟨p,_,_,rfl,rfl,hp2,kap (by rw[Nq];omega),?_⟩
   refine⟨kaq fp s2 (nx hp2),ps++[o],_,_,rfl,?_,by simp[hl],kkl hg (fun k e=>by rw[hl];exact ho k e)⟩
   rw[kad]
   simp
  ·rintro σ H' ⟨s2,ps,v2,v3,rfl,hp2,hl,hg⟩
   exact⟨_,rfl,kk H' p ps s2 fp hp2 hg (by omega) (by omega)⟩
inductive kib (d:D) (vs:List V) (H:Hp) (Q:VK) (E_:XK):Prop
 |ct (c:Int)(ps:List (Option Nat))(_:vs=[.int c,iV ps.length])(_:0<ps.length)(_:∀(H':Hp)(x:Addr)(M:Mks),Same H H'->H x=none->MksIs d.qf H' x M->MksOk ps M->Q (.ref x) H'):kib d vs H Q E_
theorem QP:kao ["_law_cell","_law_kinds","_law_kind","_law_needs","_law_most_here"] ["_law_cell","_law_kinds"] (kag kcN):=by ac_rfl
theorem kf1(W:WB K mg d base):FO P w W 3 d.YW d.YX ["_law_cell","_law_kinds"] (kib d):=by
 exists W.Vo.F,QP
 ·obtain⟨c,ps,rfl,hn,kk⟩:=h
  exists qq,kbA,W
  exists Xs,kdu,W
  exists hr1,1,hr,0
  refine⟨_,kac (psl (i:=2) QP.nd (kdW (kbT (kar op_eq (pe_op kaG (pv 0) kai) kai (kaw _)) kaJ (pe_op kaG (pe_op kaI (pv 0) kai) (pv 1)))))
   (kac (psl (i:=3) QP.nd (kdW (kbT (kar op_gt (pe_op kaG (pe_op kaI (pv 0) kai) kai) kai (kaw _)) kai (pe_op kaG (pcl qq hr1 W.qz (kaa (pv 0) (kaa kai (kaa kai kae)))) kai))))
   (kac (psl (i:=4) QP.nd (kdW (kbT (kar op_gt (pe_op kaG (pe_op kaI (pv 0) kai) kai) kai (kaw _)) kaJ (pe_op kaG (pcl qq hr1 W.qz (kaa (pv 0) (kaa kai (kaa kai kae)))) kai))))
   (kaf (kan (kaX (W.QB.mk' W.qf) Xs hr rfl W.qf.m W.QB.b .nil pass0 (kaa (pv 2) (kaa (pv 3) (kaa (pv 4) (kaa (kbP op_eq (pe_op kaG (pe_op kaI (pv 0) kai) kai) kai (kaw _)) (kaa (kbP op_eq (pe_op kaG (pe_op kaI (pv 0) kai) kai) kai (kaw _)) (kaa (kbP op_eq (pe_op kaG (pe_op kaI (pv 0) kai) kai) kai (kaw _)) kae))))))))))),?_⟩
  refine⟨fun v H'=>H'=H/\∃kd:Option Nat,(∀k,kd=some k->k<ps.length)/\v=pV kd,?_,?_⟩
  ·refine⟨_,rfl,_,_,rfl,rfl,(by show(0:Int)<2;decide),rfl,_,rfl,ite2 (fun _=>⟨rfl,none,(fun z e=>by cases e),rfl⟩) (fun _=>?_)⟩
   have k0:0<=c/2%(ps.length:Int):=Int.emod_nonneg _ (by omega)
   have k1:c/2%(ps.length:Int)<(ps.length:Int):=Int.emod_lt_of_pos _ (by omega)
   refine⟨_,rfl,_,_,rfl,rfl,⟨by decide,by decide⟩,_,rfl,_,_,rfl,rfl,(by show(0:Int)<(ps.length:Int);omega),rfl,some (c/2%(ps.length:Int)).toNat,(fun k e=>by cases e;omega),?_⟩
   show V.int _=V.int (((c/2%(ps.length:Int)).toNat:Nat):Int)
   rw[Int.toNat_of_nonneg k0]
  rintro v H' ⟨rfl,kd,hkd,rfl⟩
  refine⟨fun v H2=>H2=H'/\∃nd:Int,(0<=nd/\nd<=1000000000000)/\v=.int nd,?_,?_⟩
  ·refine⟨_,rfl,_,_,rfl,rfl,⟨by decide,by decide⟩,_,_,rfl,rfl,(by show(0:Int)<3;decide),_,_,rfl,rfl,_,rfl,ite2 (fun _=>⟨rfl,0,⟨by decide,by decide⟩,rfl⟩) (fun _=>?_)⟩
   exact⟨_,rfl,c,48271,2147483647,rfl,⟨by decide,by decide⟩,by decide,_,_,rfl,rfl,(by show(0:Int)<60;decide),rfl,c*48271%2147483647%60,⟨by omega,by omega⟩,rfl⟩
  rintro v H2 ⟨rfl,nd,hnd,rfl⟩
  refine⟨fun v H3=>H3=H2/\∃mo:Option Int,(∀z,mo=some z->0<=z/\z<=1000000000000)/\v=oV mo,?_,?_⟩
  ·refine⟨_,rfl,_,_,rfl,rfl,⟨by decide,by decide⟩,_,_,rfl,rfl,(by show(0:Int)<4;decide),_,_,rfl,rfl,_,rfl,ite2 (fun _=>⟨rfl,none,(fun z e=>by cases e),rfl⟩) (fun _=>?_)⟩
   exact⟨_,rfl,c,69621,2147483629,rfl,⟨by decide,by decide⟩,by decide,_,_,rfl,rfl,(by show(0:Int)<40;decide),rfl,some (c*69621%2147483629%40),(fun y e=>by cases e;omega),rfl⟩
  rintro v H3 ⟨rfl,mo,hmo,rfl⟩
  have fin:∀b1 b2 b3:Bool,∀x dx,H3 x=none->H3 dx=none->dx≠x->kei d.qf [.ref x,pV kd, .int nd,oV mo, .bl b1, .bl b2, .bl b3] (upd (upd H3 dx (.own x)) x (.ins d.qf dx [])) (fun v H2=>v=.non/\Q (.ref x) H2) E0:=fun b1 b2 b3=>kiw (M:=⟨kd,nd,mo,b1,b2,b3⟩) fun H1 x s1 fx hM=>kk H1 x _ s1 fx hM ⟨hkd,hnd,hmo⟩
  refine⟨_,rfl,_,rfl,_,rfl,_,rfl,_,_,rfl,rfl,⟨by decide,by decide⟩,_,_,rfl,rfl,(by show(0:Int)<5;decide),rfl,_,rfl,_,_,rfl,rfl,⟨by decide,by decide⟩,_,_,rfl,rfl,(by show(0:Int)<3;decide),rfl,_,rfl,_,_,rfl,rfl,⟨by decide,by decide⟩,_,_,rfl,rfl,(by show(0:Int)<3;decide),rfl,?_⟩
  exact fin _ _ _
theorem at3V'{a b c:V}{i:Int}(h0:0<=i)(h3:i<3):∃v,atI [a,b,c] i=some v/\(v=a∨v=b∨v=c):=by
 obtain⟨n,rfl⟩:=Int.eq_ofNat_of_zero_le h0
 have hn:n<3:=by omega
 match n,hn with
 |0,_=>exact⟨a,rfl, .inl rfl⟩
 |1,_=>exact⟨b,rfl, .inr (.inl rfl)⟩
 |2,_=>exact⟨c,rfl, .inr (.inr rfl)⟩
theorem at2V{a b:V}{i:Int}(h0:0<=i)(h2:i<2):∃v,atI [a,b] i=some v/\(v=a∨v=b):=by
 obtain⟨n,rfl⟩:=Int.eq_ofNat_of_zero_le h0
 have hn:n<2:=by omega
 match n,hn with
 |0,_=>exact⟨a,rfl, .inl rfl⟩
 |1,_=>exact⟨b,rfl, .inr rfl⟩
inductive kh5 (d:D) (vs:List V) (H:Hp) (Q:VK) (E_:XK):Prop
 |ct (c:Int)(ps:List (Option Nat))(_:vs=[.int c,iV ps.length])(_:0<ps.length)(_:Tbs d H)(_:∀(H':Hp)(x:Addr)(V:Vch),Same H H'->H x=none->VchIs d H' x V->VchOk ps V->Q (.ref x) H'):kh5 d vs H Q E_
theorem QQ:kao ["_law_cell","_law_kinds","_law_marks_here","_law_sort","_law_rest"] ["_law_cell","_law_kinds"] (kag kcm):=by ac_rfl
theorem keQ(W:WB K mg d base):FO P w W 6 d.YY d.YZ ["_law_cell","_law_kinds"] (kh5 d):=by
 exists W.Vp.F,QQ
 ·obtain⟨c,ps,rfl,hn,htb0,kk⟩:=h
  exists UX,kf1,W
  exists qq,kbA,W
  exists UY,khB,W
  exists XF,kdZ,W
  exists UZ,kf2,W
  exists U0,kee,W
  exists U1,kfh,W
  exists U2,kef,W
  exists hr1,1,hr,0
  exists hr3,3,hr,0
  refine⟨_,kac (psl (i:=2) QQ.nd (pcl UX hr3 W.Vo (kaa (pcl qq hr1 W.qz (kaa (pv 0) (kaa kai (kaa kai kae)))) (kaa (pv 1) kae))))
   (kac (psl (i:=3) QQ.nd (pe_op kaG (pv 0) kai))
   (kac (psl (i:=4) QQ.nd (pe_op kaI (pv 0) kai))
   (kac (ps_if (kar op_lt (pv 3) kai (kaw _)) (kaf (kan (kaX (W.Xc.mk' W.c_Off) UY hr rfl W.c_Off.m W.Xc.b .nil pass0 (kaa (pe_ix (r:=rIxL K) kax (kaN (kaa (pe_op kaG (pv 4) kai) (kaa (pcl XF hr1 W.Xa (kaa (pv 4) kae)) kae))) (pe_op kaI (pe_op kaG (pv 4) kai) kai) (fun _ _=>rfl)) (kaa (pv 2) kae))))) (kas))
   (kac (ps_if (kar op_eq (pv 3) kai (kaw _)) (kaf (kan (kaX (W.Xd.mk' W.qi) UZ hr rfl W.qi.m W.Xd.b .nil pass0 (kaa (pe_ix (r:=rIxL K) kax (kaN (kaa kai (kaa (pe_op kbe kai (pe_op kaG (pe_op kaI (pv 4) kai) kai)) kae))) (pe_op kaG (pv 4) kai) (fun _ _=>rfl)) (kaa (kbP op_eq (pe_op kaG (pe_op kaI (pv 4) kai) kai) kai (kaw _)) (kaa (pv 2) kae)))))) (kas))
   (kac (ps_if (kar op_eq (pv 3) kai (kaw _)) (kaf (kan (kaX (W.Xe.mk' W.qm) U0 hr rfl W.qm.m W.Xe.b .nil pass0 (kaa (pe_op kbe kai (pe_op kaG (pv 4) kai)) (kaa (pv 2) kae))))) (kas))
   (kac (ps_if (kar op_eq (pv 3) kai (kaw _)) (kaf (kan (kaX (W.Xf.mk' W.qj) U1 hr rfl W.qj.m W.Xf.b .nil pass0 (kaa (pe_op kbe kai (pe_op kaG (pv 4) kai)) (kaa (pe_op kaG (pe_op kaI (pv 4) kai) kai) (kaa (pv 2) kae)))))) (kas))
   (kaf (kan (kaX (W.Xg.mk' W.qo) U2 hr rfl W.qo.m W.Xg.b .nil pass0 (kaa (pv 2) kae)))))))))),?_⟩
  exists Y4
  refine⟨_,rfl,c,39373,2147483587,rfl,⟨by decide,by decide⟩,by decide,_,rfl,_,ps,rfl,hn,fun H1 mA M s1 f1 hM hMo=>?_⟩
  symm
  exists Y4
  refine⟨_,rfl,_,_,rfl,rfl,(by show(0:Int)<6;decide),?_⟩
  symm
  exists Y4
  refine⟨_,rfl,_,_,rfl,rfl,⟨by decide,by decide⟩,?_⟩
  show gName 4 (V.int (c/6)) _ _ _
  generalize c/6=rs
  have fin:∀(so:Srt)(H2:Hp)(x:Addr),Same H1 H2->H1 x=none->VchIs d H2 x ⟨so,M⟩->SrtOk so->Q (.ref x) H2:=fun so H2 x s2 f2 hV hso=>kk H2 x _ (s1.trans s2) (s1.free f2) hV ⟨hso,hMo⟩
  have htb:Tbs d H1:=Tbs.same s1 htb0
  symm
  exists Y4
  refine⟨_,rfl,_,_,rfl,rfl,_,rfl,ite2 (fun _=>?_) (fun _=>?_)⟩
  ·refine⟨_,rfl,_,_,rfl,rfl,(by show(0:Int)<60;decide),_,rfl,_,rfl,fun H2 s2=>⟨(by show 2<=sizeLine;decide),fun l fl=>?_⟩⟩
   exists H2,l,H3,n3,e3,fl
   have s13:=s2.trans n3
   obtain⟨v,ev,hv⟩:=at2V (a:=.int (rs%60)) (b:=.int (coinM rs)) (i:=rs%7/6) (by omega) (by omega)
   have hco:=kkz rs
   obtain⟨z,rfl,hz⟩:∃z:Int,v=.int z/\0<=z/\z<=1000000000000:=by
    rcases hv with rfl|rfl
    ·exact⟨_,rfl,by omega,by omega⟩
    ·exact⟨_,rfl,hco⟩
   symm
   exact⟨_,rfl,_,_,rfl,rfl,(by show(0:Int)<7;decide),_,_,rfl,rfl,⟨by decide,by decide⟩,l,_,_,_,rfl,rfl,SqL.of e3,ev,_,rfl,kgO (so:=.off z) ⟨_,rfl⟩ rfl (hM.same s13) (fun H4 x s4 f4 hV=>fin (.off z) H4 x (s13.trans s4) (s13.free f4) hV hz) (Tbs.same s13 htb)⟩
  symm
  exists Y4
  refine⟨_,rfl,rfl,_,rfl,ite2 (fun _=>?_) (fun _=>?_)⟩
  ·refine⟨_,rfl,_,_,rfl,rfl,⟨by decide,by decide⟩,_,_,rfl,rfl,(by show(0:Int)<1000;decide),_,_,rfl,rfl,(by show 2<=sizeLine;decide),fun l fl=>?_⟩
   exists H1,l,H3,n3,e3,fl
   obtain⟨v,ev,hv⟩:=at2V (a:=.int 1000) (b:=.int (1+rs/2%1000)) (i:=rs%2) (by omega) (by omega)
   obtain⟨sh,rfl,hsh⟩:∃sh:Int,v=.int sh/\1<=sh/\sh<=1000:=by
    rcases hv with rfl|rfl
    ·exact⟨1000,rfl,by decide,by decide⟩
    ·exact⟨_,rfl,by omega,by omega⟩
   have mk:∀b:Bool,∀x dx,H3 x=none->H3 dx=none->dx≠x->kdV d.qi d.qf (fun so=>∃s b,so=.share s b) (.ref x::([.int sh, .bl b]++[.ref mA])) (upd (upd H3 dx (.own x)) x (.ins d.qi dx [])) (fun v H2=>v=.non/\Q (.ref x) H2) E0:=fun b=>kgO (so:=.share sh b) ⟨_,_,rfl⟩ rfl (hM.same n3) (fun H4 x s4 f4 hV=>fin (.share sh b) H4 x (n3.trans s4) (n3.free f4) hV hsh) (Tbs.same n3 htb)
   symm
   exists Y6
   refine⟨_,rfl,_,_,rfl,rfl,(by show(0:Int)<2;decide),l,_,_,_,rfl,rfl,SqL.of e3,ev,_,rfl,_,_,rfl,rfl,⟨by decide,by decide⟩,_,_,rfl,rfl,(by show(0:Int)<2;decide),rfl,_,rfl,?_⟩
   nofun
   exact mk _
  symm
  exists Y4
  refine⟨_,rfl,rfl,_,rfl,ite2 (fun _=>?_) (fun _=>?_)⟩
  ·exact⟨_,rfl,_,_,rfl,rfl,(by show(0:Int)<2;decide),_,_,rfl,rfl,_,rfl,kgO (so:=.cheap (2+rs%2)) ⟨_,rfl⟩ rfl hM fun H2 x s2 f2 hV=>fin _ H2 x s2 f2 hV ⟨by omega,by omega⟩⟩
  symm
  exists Y4
  refine⟨_,rfl,rfl,_,rfl,ite2 (fun _=>?_) (fun _=>?_)⟩
  ·exact⟨_,rfl,_,_,rfl,rfl,(by show(0:Int)<2;decide),_,_,rfl,rfl,_,rfl,_,_,rfl,rfl,⟨by decide,by decide⟩,_,_,rfl,rfl,(by show(0:Int)<40;decide),_,rfl,kgO (so:=.bund (2+rs%2) (rs/2%40)) ⟨_,_,rfl⟩ rfl hM fun H2 x s2 f2 hV=>fin _ H2 x s2 f2 hV ⟨by omega,by omega,by omega,by omega⟩⟩
  symm
  exact⟨_,rfl,kgO (so:=.carr) rfl rfl hM fun H2 x s2 f2 hV=>fin _ H2 x s2 f2 hV trivial⟩
inductive kh7 (vs:List V) (H:Hp) (Q:VK) (E_:XK):Prop
 |ct (c:Int)(m:Nat)(_:vs=[.int c,iV m])(_:0<m)(_:∀(H':Hp)(l:Addr)(ra:List Addr)(rs:List Rul),Same H H'->H l=none->H' l=some (.lst (ra.map V.ref))->P2 (fun a r=>RulIs H' a r) ra rs->Q (.ref l) H'):kh7 vs H Q E_
theorem QR:kao ["_law_cell","_law_many","_law_told","_law_k","_law_drawn"] ["_law_cell","_law_many"] (kag kcM):=by ac_rfl
theorem kf0(W:WB K mg d base):FO P w W 2 d.Y0 d.Y1 ["_law_cell","_law_many"] kh7:=by
 exists W.Vq.F,QR
 ·obtain⟨c,m,rfl,hm,kk⟩:=h
  exists qq,kbA,W
  refine⟨_,kac (psl (i:=2) QR.nd (kaN kae))
   (kac (kaU PassesOwn.never rfl (kba rfl W.B.range (kaa (pe_op kaG (pv 0) kai) kae)) (pgn (i:=3) QR.nd)
   (kac (psl (i:=4) QR.nd (pcl qq hr W.qz (kaa (pe_op kbe (pe_op kbe (pv 0) (pe_op keM (pe_op keM kai (pv 3)) (pv 3))) kai) (kaa kai (kaa kai kae)))))
   (kaf (ka9 (pe_bm Mp MV MW kbF (pv 2) (kaa (kbu (kaa (pe_ix (r:=rIxL K) kax (kaN (kaa kb5 (kaa kb5 (kaa kb5 kae)))) (pe_op kaG (pv 4) kai) (fun _ _=>rfl)) (kaa (pe_op kaG (pe_op kaI (pv 4) kai) (pv 1)) (kaa (pe_op kaG (pe_op kaI (pv 4) kai) (pv 1)) kae)))) kae))))))
   (kaf (kan (pv 2)))),?_⟩
  exists Y4
  refine⟨by decide,fun l fl=>?_⟩
  generalize hg1:upd H l _=H1
  obtain⟨s1,(el1:H1 l=some (.lst (([]:List Addr).map V.ref)))⟩:=kay hg1 fl
  clear hg1
  symm
  exists Y4
  refine⟨_,rfl,_,_,rfl,rfl,(by show(0:Int)<4;decide),_,rfl,by omega,by omega,?_⟩
  symm
  refine kbi (fun i σ H'=>Same H H'/\∃(ra:List Addr)(rs:List Rul)(v3 v4:Option V),H' l=some (.lst (ra.map V.ref))/\P2 (fun a r=>RulIs H' a r) ra rs/\rs.length=i/\σ=[some (.int c),some (iV m),some (.ref l),v3,v4])
   ⟨s1,[],[],none,none,el1, .nil,rfl,rfl⟩ ?_ ?_
  ·rintro i σ H' hi ⟨s2,ra,rs,v3,v4,el,hr,hlen,rfl⟩
   have hi4:i<4:=by omega
   rw[Int.zero_add]
   symm
   exists Y6
   refine⟨_,rfl,_,rfl,_,_,rfl,rfl, .inl ⟨by decide,by decide⟩,_,rfl,_,_,rfl,rfl, .inr ⟨by omega,by omega⟩,_,_,rfl,rfl,_,_,rfl,rfl,_,40692,2147483579,rfl,⟨by decide,by decide⟩,by decide,?_⟩
   dsimp only
   have hx0:0<=(c+7*(i:Int)*(i:Int)+1)*40692%2147483579:=by omega
   generalize (c+7*(i:Int)*(i:Int)+1)*40692%2147483579=mx at *
   nofun
   exists Y6
   refine⟨_,rfl, .inl ⟨rfl,_,SqL.of el⟩,(by show 3<=sizeLine;decide),fun q1 hq1=>?_⟩
   exists H',q1,H3,n3,e3,hq1
   obtain⟨v,ev,hv⟩:=at3V' (a:=.str "only") (b:=.str "never") (c:=.str "ahead") (i:=mx%3) (by omega) (by omega)
   obtain⟨wd,rfl⟩:∃w:Str,v=.str w:=by
    rcases hv with rfl|rfl|rfl <;> exact⟨_,rfl⟩
   have x0:0<=mx/3%(m:Int):=Int.emod_nonneg _ (by omega)
   have y0:0<=mx/30%(m:Int):=Int.emod_nonneg _ (by omega)
   nofun
   exists Y6
   refine⟨_,rfl,_,_,rfl,rfl,(by show(0:Int)<3;decide),q1,_,_,_,rfl,rfl,SqL.of e3,ev,_,rfl,_,_,rfl,rfl,⟨by decide,by decide⟩,_,rfl,_,_,rfl,rfl,(by show(0:Int)<(m:Int);omega),_,rfl,_,_,rfl,rfl,⟨by decide,by decide⟩,_,rfl,_,_,rfl,rfl,(by show(0:Int)<(m:Int);omega),(by show 3<=sizeLine;decide),fun q hq=>?_⟩
   obtain⟨xn,ex⟩:=Int.eq_ofNat_of_zero_le x0
   obtain⟨yn,ey⟩:=Int.eq_ofNat_of_zero_le y0
   exists H3,q,H4,n4,e4',hq
   have e4:H4 q=some (.tup [V.str wd,V.int (xn:Int),V.int (yn:Int)]):=by
    rw[e4',<-ex,<-ey]
   have s34:=n3.trans n4
   have el4:=s34 _ _ el
   have s4:=s2.trans s34
   nofun
   exists Y6
   refine⟨l,_,_,rfl,rfl,el4,kap (by rw[Nq,hr.len];omega),?_⟩
   have b5:But l H4 (upd H4 l (.lst (ra.map V.ref++[V.ref q]))):=kav (nx el4)
   nofun
   exists Y6
   refine⟨kaq fl s4 (nx el4),ra++[q],rs++[⟨wd,xn,yn⟩],_,_,by rw[kad,NC];rfl,P2.snoc (hr.mono fun a r h=>b5 _ _ (ne_of (s34 _ _ h) el4 (by intro z;cases z)) (s34 _ _ h)) (b5 _ _ (ne_of e4 el4 (by intro z;cases z)) e4),by rw[NG,hlen];rfl,rfl⟩
  ·rintro σ H' ⟨s2,ra,rs,v3,v4,el,hr,hlen,rfl⟩
   nofun
   exact⟨_,rfl,kk H' l ra rs s2 fl el hr⟩
theorem P2.put{α β:Type}{R: α->β->Prop}{a: α}{b: β}(r:R a b):∀{as:List α}{bs:List β}(i:Nat),P2 R as bs->P2 R (as.set i a) (bs.set i b)
 |_,_,_, .nil=>.nil
 |_,_,0, .cons _ t=>.cons r t
 |_,_,i+1, .cons q t=>.cons q (P2.put r i t)
theorem kfB{d:D}{H H':Hp}{q v:Addr}{xs:List V}{Vc:Vch}(b:But q H H')(hq:H q=some (.lst xs)):VchIs d H v Vc->VchIs d H' v Vc:=by
 rintro⟨mA,dv,fv,h1,h2,h3,⟨dm,fm,hm,r⟩,h5,tb⟩
 have hn:∀{a C dx:Addr}{fs:List (Str×L2.V)},H a=some (.ins C dx fs)->a≠q:=fun h=>ne_of h hq (by intro z;cases z)
 refine⟨mA,dv,fv,b _ _ (hn h1) h1,h2,h3,⟨dm,fm,b _ _ (hn hm) hm,r⟩,h5,?_⟩
 obtain⟨ps,e,t⟩:=id tb
 exact(b _ _ (ne_of e hq (by intro z;cases z)) e).2 tb
inductive kjn (K:Nr) (d:D) (vs:List V) (H:Hp) (Q:VK) (E_:XK):Prop
 |ct (a:Addr)(ns:List Int)(m:Nat)(_:vs=[.ref a,iV m])(_:SqL K H a (ns.map V.int))(_:ns.length<=63)(_:0<m)(_:m<=4)(_:Tbs d H)(_:∀(H':Hp)(t:Addr)(T:TillD),Same H H'->H t=none->TillIs d H' t T->kbJ T->0<T.vs.length->T.vs.length<=4->Good T.ps->T.ps.length<=4->0<T.ps.length->Q (.ref t) H'):kjn K d vs H Q E_
theorem Qo:kao ["_law_script","_law_most_here","_law_first","_law_parents_here","_law_vouchers","_law_k"] ["_law_script","_law_most_here"] (kag kda):=by ac_rfl
theorem kgF(W:WB K mg d base):FO P w W 7 d.Y2 d.Y3 ["_law_script","_law_most_here"] (kjn K d):=by
 exists W.Vr.F,Qo
 ·obtain⟨a,ns,m,rfl,hS,hn,hm0,hm4,htb0,kk⟩:=h
  exists U3,keR,W
  exists qq,kbA,W
  exists U4,keQ,W
  exists U5,kgK,W
  exists U6,kf0,W
  exists hr1,1,hr,0
  exists hr2,2,hr,0
  refine⟨_,kac (psl (i:=2) Qo.nd (kcW (r:=rSlL K) kdG (pe_op kmC (pv 0) (kaN (kaa kai (kaa kai (kaa kai (kaa kai (kaa kai (kaa kai kae)))))))) kfQ (kcP kai)))
   (kac (psl (i:=3) Qo.nd (pcl U3 hr2 W.Vn (kaa (pcl qq hr1 W.qz (kaa (pe_ix (r:=rIxL K) kax (pv 2) kai (fun _ _=>rfl)) (kaa kai (kaa kai kae)))) kae)))
   (kac (psl (i:=4) Qo.nd (kaN kae))
   (kac (kaU PassesOwn.never rfl (kba rfl W.B.range (kaa (pe_op kbe kai (pe_op kaG (pe_op kaI (pe_ix (r:=rIxL K) kax (pv 2) kai (fun _ _=>rfl)) kai) (pv 1))) kae)) (pgn (i:=5) Qo.nd)
   (kaf (ka9 (pe_bm Mp MV MW kbF (pv 4) (kaa (pcl U4 hr W.Vp (kaa (pcl qq hr1 W.qz (kaa (pe_op kbe (pe_ix (r:=rIxL K) kax (pv 2) (pe_op kbe kai (pe_op kaG (pv 5) kai)) (fun _ _=>rfl)) (pv 5)) (kaa kai (kaa kai kae)))) (kaa (kat (r:=kaP K) kau (by rfl) W.B.len b_len (kaa (pv 3) kae)) kae))) kae)))))
   (kac (keD (ps_if (kar op_eq (pe_op kaG (pe_op kaI (pe_ix (r:=rIxL K) kax (pv 2) kai (fun _ _=>rfl)) kai) kai) kai (kaw _)) (kaf (keE (pe_ix (r:=rIxL K) kax (pv 4) kai (fun _ _=>rfl)) (keF (pv 4) (pe_un kh0 kai) set_list))) (kas)))
   (kaf (kan (kaX (W.VS.mk' W.qd) U5 hr2 rfl W.qd.m W.b1_Till_init (show Vals [.str "again"] [.str "again" d.tok0_Till_init] from(.cons ⟨_,rfl⟩ .nil)) pass0 (kaa (pv 3) (kaa (pv 4) (kaa (pcl U6 hr2 W.Vq (kaa (pcl qq hr1 W.qz (kaa (pe_ix (r:=rIxL K) kax (pv 2) kai (fun _ _=>rfl)) (kaa kai (kaa kai kae)))) (kaa (kat (r:=kaP K) kau (by rfl) W.B.len b_len (kaa (pv 4) kae)) kae))) kae)))))))))),?_⟩
  refine sN fun A1 hA1=>?_
  exists Y4
  refine⟨_,rfl,(by show 6<=sizeLine;decide),fun l1 fl1=>?_⟩
  exists H,l1,H1,n1,e1,fl1
  symm
  exists Y4
  refine⟨a,l1,_,_,rfl,rfl,n1.seq hS,SqL.of e1,ND (kap (by rw[Nq];show ns.length+6<=1000;omega)),fun l2 fl2=>?_⟩
  rw[show ns.map V.int++[V.int 3,V.int 1,V.int 4,V.int 1,V.int 5,V.int 9]=(ns++[3,1,4,1,5,9]).map V.int by rw[NC];rfl]
  exists H1,l2,H2,n2,e2,fl2
  symm
  exists Y4
  refine⟨_,rfl,l2,_,rfl,SqL.of e2,fun l3 fl3=>?_⟩
  rw[show(6:Int)=((6:Nat):Int) from rfl,kiF,<-MU]
  have hfl:((ns++[3,1,4,1,5,9]).take 6).length=6:=by
   rw[NK,NG]
   show min 6 (ns.length+6)=6
   omega
  generalize (ns++[3,1,4,1,5,9]).take 6=fs at *
  exists H2,l3,H3,n3,e3,fl3
  have s3:=(n1.trans n2).trans n3
  symm
  refine hA1 _ _ ?_
  clear hA1 e1 e2 n1 n2 n3 fl1 fl2 fl3
  have hat:∀i:Nat,i<6->∃z,fs[i]?=some z:=fun i hi=>at_of (by omega)
  obtain⟨z0,ez0⟩:=hat 0 (by decide)
  symm
  refine sN fun A2 hA2=>?_
  symm
  exists Y4
  refine⟨_,rfl,l3,_,_,_,rfl,rfl,SqL.of e3,kaz (j:=0) (v:=V.int z0) (by rw[Nz,ez0];rfl),z0,48271,2147483647,rfl,⟨by decide,by decide⟩,by decide,_,rfl,fun H4 p ps s4 fp ep hg hp4 hp0=>?_⟩
  symm
  refine hA2 _ _ ?_
  symm
  refine sN fun A3 hA3=>?_
  symm
  exists Y4
  refine⟨by decide,fun vl fvl=>?_⟩
  exists H4,vl,H5,n5,e5,fvl
  symm
  refine hA3 _ _ ?_
  have e35:=(s4.trans n5) _ _ e3
  have s05:=(s3.trans s4).trans n5
  symm
  refine sN fun A4 hA4=>?_
  have k0:0<=z0/5%(m:Int):=Int.emod_nonneg _ (by omega)
  have k1:z0/5%(m:Int)<(m:Int):=Int.emod_lt_of_pos _ (by omega)
  obtain⟨c,ec⟩:=Int.eq_ofNat_of_zero_le (show 0<=1+z0/5%(m:Int) by omega)
  symm
  exists Y4
  refine⟨_,rfl,l3,_,_,_,rfl,rfl,SqL.of e35,kaz (j:=0) (v:=V.int z0) (by rw[Nz,ez0];rfl),_,_,rfl,rfl,⟨by decide,by decide⟩,_,rfl,_,_,rfl,rfl,(by show(0:Int)<(m:Int);omega),_,_,rfl,rfl,_,rfl,by omega,by omega,?_⟩
  rw[show((1:Int)+z0/5%(m:Int)).toNat=c by omega]
  symm
  refine kbi (fun i σ H'=>Same H4 H'/\∃(va:List Addr)(Vs:List Vch)(v5:Option V),H' vl=some (.lst (va.map V.ref))/\P2 (fun a V=>a≠vl/\VchIs d H' a V) va Vs/\(∀V∈Vs,VchOk ps V)/\Vs.length=i/\σ=[some (.ref a),some (iV m),some (.ref l3),some (.ref p),some (.ref vl),v5])
   ⟨n5,[],[],none,e5, .nil,(fun V hV=>by simp at hV),rfl,rfl⟩ ?_ ?_
  ·rintro i σ H6 hi ⟨s6,va,Vs,v5,evl,hP,hvo,hl,rfl⟩
   rw[Int.zero_add]
   have s36:Same H3 H6:=s4.trans s6
   have e36:=s36 _ _ e3
   obtain⟨zk,ezk⟩:=hat (1+i%4) (by omega)
   have hix:atI (fs.map V.int) (1+(i:Int)%4)=some (V.int zk):=by
    rw[show(1:Int)+(i:Int)%4=((1+i%4:Nat):Int) by omega]
    symm
    exact kaz (by rw[Nz,ezk];rfl)
   symm
   exists Y6
   refine⟨_,rfl, .inl ⟨rfl,_,SqL.of evl⟩,_,rfl,_,rfl,_,_,rfl,rfl,(by show(0:Int)<4;decide),_,_,rfl,rfl,l3,_,_,_,rfl,rfl,SqL.of e36,hix,_,rfl,_,_,rfl,rfl,_,16807,2147483399,rfl,⟨by decide,by decide⟩,by decide,_,rfl,p,_,rfl, .inl (SqL.of (s6 _ _ ep)),_,ps,(by rw[Nq];rfl),hp0,Tbs.same (s3.trans s36) htb0,fun H7 v Vc s7 f7 hV vo=>?_⟩
   have evl7:=s7 _ _ evl
   have lva:=hP.len
   nofun
   exists Y6
   refine⟨vl,_,_,rfl,rfl,evl7,kap (by rw[Nq];omega),?_⟩
   rw[show va.map V.ref++[V.ref v]=(va++[v]).map V.ref by rw[NC];rfl]
   have b8:But vl H7 (upd H7 vl (.lst ((va++[v]).map V.ref))):=kav (nx evl7)
   nofun
   exists Y6
   refine⟨kaq fvl (s6.trans s7) (nx evl7),va++[v],Vs++[Vc],_,kad,P2.snoc (hP.mono fun a V h=>⟨h.1,kfB b8 evl7 (h.2.same s7)⟩) ⟨(kah evl f7).symm,kfB b8 evl7 hV⟩,fun V hV'=>?_,by simp[hl],rfl⟩
   rcases N6.mp hV' with h|h
   ·exact hvo V h
   ·have e:V=Vc:=by simpa using h
    rw[e]
    nofun
    exact vo
  rintro σ H6 ⟨s6,va,Vs,v5,evl,hP,hvo,hl,rfl⟩
  symm
  refine hA4 _ _ ?_
  have s36:Same H3 H6:=s4.trans s6
  have lva0:=hP.len
  symm
  refine sN fun A5 hA5=>?_
  symm
  exists Y4
  refine⟨fun σ' H'=>Same H4 H'/\∃(va:List Addr)(Vs:List Vch),H' vl=some (.lst (va.map V.ref))/\P2 (fun a V=>VchIs d H' a V) va Vs/\(∀V∈Vs,VchOk ps V)/\Vs.length=c/\σ'=[some (.ref a),some (iV m),some (.ref l3),some (.ref p),some (.ref vl),v5],?_,?_⟩
  ·refine⟨_,rfl,l3,_,_,_,rfl,rfl,SqL.of (s36 _ _ e3),kaz (j:=0) (v:=V.int z0) (by rw[Nz,ez0];rfl),_,_,rfl,rfl,⟨by decide,by decide⟩,_,_,rfl,rfl,(by show(0:Int)<4;decide),rfl,_,rfl,ite2 (fun _=>?_) (fun _=>⟨s6,va,Vs,evl,hP.mono fun a V h=>h.2,hvo,hl,rfl⟩)⟩
   obtain⟨a0,ea0⟩:=at_of (xs:=va) (i:=0) (by omega)
   obtain⟨V0,eV0,na0,hV0⟩:=hP.at ea0
   have hix:ixN (va.map V.ref).length (-1)=some (c-1):=by
    rw[Nq]
    unfold ixN
    rw[if_neg (by decide),if_pos (by omega)]
    symm
    exact congrArg some (by omega)
   symm
   exists Y6
   refine⟨_,rfl,vl,_,_,_,rfl,rfl,SqL.of evl,kaz (j:=0) (v:=V.ref a0) (by rw[Nz,ea0];rfl),_,rfl,_,rfl,vl,_,_,_,rfl,rfl,evl,hix,?_⟩
   rw[show(va.map V.ref).set (c-1) (V.ref a0)=(va.set (c-1) a0).map V.ref by rw[Er]]
   have b7:But vl H6 (upd H6 vl (.lst ((va.set (c-1) a0).map V.ref))):=kav (nx evl)
   nofun
   exists Y6
   refine⟨kaq fvl s6 (nx evl),va.set (c-1) a0,Vs.set (c-1) V0,kad,P2.put (kfB b7 evl hV0) _ (hP.mono fun a V h=>kfB b7 evl h.2),fun V hV=>?_,by rw[Ez];exact hl,rfl⟩
   rcases List.mem_or_eq_of_mem_set hV with h|h
   ·exact hvo V h
   ·rw[h]
    nofun
    exact hvo V0 (Ny eV0)
  rintro σ H6 ⟨s6,va,Vs,evl,hP,hvo,hl,rfl⟩
  symm
  refine hA5 _ _ ?_
  have lva:=hP.len
  obtain⟨z5,ez5⟩:=hat 5 (by decide)
  have s36:Same H3 H6:=s4.trans s6
  symm
  exists Y4
  refine⟨_,rfl,_,rfl,_,rfl,l3,_,_,_,rfl,rfl,SqL.of (s36 _ _ e3),kaz (j:=5) (v:=V.int z5) (by rw[Nz,ez5];rfl),z5,69621,2147483629,rfl,⟨by decide,by decide⟩,by decide,_,rfl,vl,_,rfl, .inl (SqL.of evl),_,Vs.length,(by rw[Nq,lva];rfl),by omega,fun H7 rl ra rs s7 f7 e7 hr=>?_⟩
  symm
  refine kmI (T:=⟨ps,Vs,rs,"again"⟩) ((s6.trans s7) _ _ ep) (s7 _ _ evl) (hP.mono fun a V h=>h.same s7) e7 hr fun H8 t s8 f8 hT=>?_
  have s38:=(s36.trans s7).trans s8
  symm
  exact kk H8 t _ (s3.trans s38) ((s3.trans (s36.trans s7)).free f8) hT ⟨hvo,by show Vs.length<=8;omega⟩ (by show 0<Vs.length;omega) (by show Vs.length<=4;omega) hg hp4 hp0
noncomputable def lineM(c:Int)(n:Nat):Row:=⟨c/7%(n:Int),(if c%3=0 then c/3%30 else if c%3=1 then 1+c/3%9 else coinM (c/3)),c/11%4,if c/90%2=0 then none else some (c/180%30)⟩
theorem khF{c:Int}{n:Nat}(hn:0<n):(lineM c n).Ok/\(0<=(lineM c n).kd/\(lineM c n).kd<(n:Int))/\0<=(lineM c n).mn/\(lineM c n).mn<=3:=by
 have k0:0<=c/7%(n:Int):=Int.emod_nonneg _ (by omega)
 have k1:c/7%(n:Int)<(n:Int):=Int.emod_lt_of_pos _ (by omega)
 have hc:=kkz (c/3)
 have hp:0<=(if c%3=0 then c/3%30 else if c%3=1 then 1+c/3%9 else coinM (c/3))/\(if c%3=0 then c/3%30 else if c%3=1 then 1+c/3%9 else coinM (c/3))<=1000000000000:=by
  repeat' split
  all_goals omega
 refine⟨⟨hp.1,hp.2,(by show 0<=c/11%4;omega),(by show c/11%4<=60;omega),fun z e=>?_⟩,⟨k0,k1⟩,(by show 0<=c/11%4;omega),(by show c/11%4<=3;omega)⟩
 have e':(if c/90%2=0 then none else some (c/180%30))=some z:=e
 split at e'
 ·cases e'
 ·cases e'
  omega
inductive kjt (d:D) (vs:List V) (H:Hp) (Q:VK) (E_:XK):Prop
 |ct (c:Int)(n:Nat)(_:vs=[.int c,iV n])(_:0<n)(_:∀(H':Hp)(x:Addr),Same H H'->H x=none->LineAt d.qe H' x (lineM c n)->Q (.ref x) H'):kjt d vs H Q E_
theorem XG:kao ["_law_cell","_law_kinds","_law_price","_law_special"] ["_law_cell","_law_kinds"] (kag kdd):=by ac_rfl
theorem kgI(W:WB K mg d base):FO P w W 3 d.Y5 d.Y7 ["_law_cell","_law_kinds"] (kjt d):=by
 exists W.Vt.F,XG
 ·obtain⟨c,n,rfl,hn,kk⟩:=h
  exists XF,kdZ,W
  exists U7,kgL,W
  exists hr1,1,hr,0
  refine⟨_,kac (psl (i:=2) XG.nd (pe_ix (r:=rIxL K) kax (kaN (kaa (pe_op kaG (pe_op kaI (pv 0) kai) kai) (kaa (pe_op kbe kai (pe_op kaG (pe_op kaI (pv 0) kai) kai)) (kaa (pcl XF hr1 W.Xa (kaa (pe_op kaI (pv 0) kai) kae)) kae)))) (pe_op kaG (pv 0) kai) (fun _ _=>rfl)))
   (kac (psl (i:=3) XG.nd (kdW (kbT (kar op_eq (pe_op kaG (pe_op kaI (pv 0) kai) kai) kai (kaw _)) kaJ (pe_op kaG (pe_op kaI (pv 0) kai) kai))))
   (kaf (kan (kaX (W.Xl.mk' W.qe) U7 hr rfl W.qe.m W.Xl.b .nil pass0 (kaa (pe_op kaG (pe_op kaI (pv 0) kai) (pv 1)) (kaa (pv 2) (kaa (pe_op kaG (pe_op kaI (pv 0) kai) kai) (kaa (pv 3) kae)))))))),?_⟩
  refine sN fun A1 hA1=>?_
  refine⟨_,rfl,_,_,rfl,rfl,⟨by decide,by decide⟩,_,_,rfl,rfl,(by show(0:Int)<30;decide),_,rfl,_,_,rfl,rfl,⟨by decide,by decide⟩,_,_,rfl,rfl,(by show(0:Int)<9;decide),_,_,rfl,rfl,_,rfl,_,_,rfl,rfl,⟨by decide,by decide⟩,_,rfl,fun H1 s1=>⟨(by show 3<=sizeLine;decide),fun l fl=>?_⟩⟩
  exists H1,l,H2,n2,e2,fl
  have hix:atI [V.int (c/3%30),V.int (1+c/3%9),V.int (coinM (c/3))] (c%3)=some (.int (if c%3=0 then c/3%30 else if c%3=1 then 1+c/3%9 else coinM (c/3))):=by
   have hc:c%3=0∨c%3=1∨c%3=2:=by omega
   rcases hc with e|e|e <;> rw[e] <;> rfl
  refine⟨_,rfl,_,_,rfl,rfl,(by show(0:Int)<3;decide),l,_,_,_,rfl,rfl,SqL.of e2,hix,?_⟩
  refine hA1 _ _ ?_
  have s02:=s1.trans n2
  refine sN fun A2 hA2=>?_
  refine⟨fun v H'=>H'=H2/\v=oV (if c/90%2=0 then none else some (c/180%30)),?_,?_⟩
  ·refine⟨_,rfl,_,_,rfl,rfl,⟨by decide,by decide⟩,_,_,rfl,rfl,(by show(0:Int)<2;decide),rfl,_,rfl,ite2 (fun h=>?_) (fun h=>?_)⟩
   ·rw[if_pos (dec_ii.mp h)]
    exact⟨rfl,rfl⟩
   ·rw[if_neg fun z=>h (dec_ii.mpr z)]
    exact⟨_,rfl,_,_,rfl,rfl,⟨by decide,by decide⟩,_,_,rfl,rfl,(by show(0:Int)<30;decide),rfl,rfl⟩
  rintro v H' ⟨rfl,rfl⟩
  refine hA2 _ _ ?_
  exact⟨_,rfl,_,_,rfl,rfl,⟨by decide,by decide⟩,_,rfl,_,_,rfl,rfl,(by show(0:Int)<(n:Int);omega),_,rfl,_,rfl,_,_,rfl,rfl,⟨by decide,by decide⟩,_,_,rfl,rfl,(by show(0:Int)<4;decide),_,rfl,kmJ (r:=lineM c n) fun H3 y s3 fy hy=>kk H3 y (s02.trans s3) (s02.free fy) hy⟩
theorem kfr{b:Nat}:∀(rs:List Row)(k:Nat),(∀r∈rs,r.mn.toNat<=b)->((rs.zipIdx k).map fun p=>Nu p.1.mn.toNat p.2).flatten.length<=b*rs.length
 |[],_,_=>by simp
 |r::rs,k,h=>by
  have h1:=h r NV
  have ih:=kfr (b:=b) rs (k+1) fun x hx=>h x (NR _ hx)
  rw[Dg,NJ,N4,NG,Mm,NW,Nat.mul_add,Nat.mul_one]
  show r.mn.toNat+_<=_
  omega
theorem kjV{b:Nat}(rs:List Row)(h:∀r∈rs,r.mn.toNat<=b):(ownN rs).length<=b*rs.length:=kfr rs 0 h
noncomputable def mixD(c:Int):Int:=(c+3)*39373%2147483587
noncomputable def drawM(ns:List Int)(m:Int)(i:Nat):List Int:=if 8<m then(((ns.drop (6+3*i)).take 3).map mixD).take 1 else((ns.drop (6+3*i)).take 3).map mixD
noncomputable def baskM(ns:List Int)(n:Nat)(m:Int)(i:Nat):Bask:=⟨(drawM ns m i).map (fun c=>lineM c n),(drawM ns m i).headD 0/13%9,decide ((drawM ns m i).getLastD 0%2=0)⟩
noncomputable def bsM(ns:List Int)(n:Nat)(m:Int):Nat->List Bask
 |0=>[]
 |i+1=>if((bsM ns n m i).length:Int)<m then bsM ns n m i++[baskM ns n m i] else bsM ns n m i
noncomputable def cntM(ns:List Int):Nat:=(Builtin.Range.rangeSize 6 (ns.length:Int) 3).toNat
theorem kkB{ns:List Int}{i:Nat}(h:i<cntM ns):6+3*i<ns.length:=by
 unfold cntM Builtin.Range.rangeSize at h
 rw[if_pos (by decide)] at h
 split at h <;> omega
theorem kiE{ns:List Int}{m:Int}{i:Nat}(h:6+3*i<ns.length):0<(drawM ns m i).length/\(drawM ns m i).length<=3:=by
 unfold drawM
 split
 ·rw[NK,Nq,NK,M8]
  omega
 ·rw[Nq,NK,M8]
  omega
theorem kkI{ns:List Int}{n:Nat}{m:Int}:∀(i:Nat),(bsM ns n m i).length<=i
 |0=>Nt _
 | i+1=>by
  have:=kkI (ns:=ns) (n:=n) (m:=m) i
  unfold bsM
  split
  ·rw[NG,Mv]
   omega
  ·omega
theorem bs_wf{ns:List Int}{ps:List (Option Nat)}{m:Int}(g:Good ps)(pl:ps.length<=4)(p0:0<ps.length):∀(i:Nat),i<=cntM ns->∀B∈bsM ns ps.length m i,Wf ps B (stnd0 B)
 |0,_,B,h=>by simp[bsM] at h
 | i +1,hi,B,h=>by
  unfold bsM at h
  split at h
  ·rcases N6.mp h with h|h
   ·exact bs_wf g pl p0 i (by omega) B h
   ·have e:B=baskM ns ps.length m i:=by simpa using h
    rw[e]
    have hd:=kiE (m:=m) (kkB (show i<cntM ns by omega))
    refine Wf.start g (by omega) (fun r hr=>?_) (fun r hr=>?_) ?_ ?_ ?_
    ·obtain⟨c,_,rfl⟩:=NO.mp hr
     exact(khF p0).2.1
    ·obtain⟨c,_,rfl⟩:=NO.mp hr
     exact(khF p0).1
    ·show((drawM ns m i).map _).length<=12
     rw[Nq]
     omega
    ·show 0<=_/13%9/\_/13%9<=_
     constructor <;> omega
    ·have hm:=kjV (b:=3) (baskM ns ps.length m i).rs (fun r hr=>by
      obtain⟨c,_,rfl⟩:=NO.mp hr
      have:=(khF (c:=c) p0).2.2
      omega)
     have hl:(baskM ns ps.length m i).rs.length<=3:=by
      show((drawM ns m i).map _).length<=3
      rw[Nq]
      omega
     omega
  ·exact bs_wf g pl p0 i (by omega) B h
noncomputable def BaskX(d:D)(z:Addr)(H:Hp)(b:Addr)(B:Bask):Prop:=b≠z/\∃(l:Addr)(ls:List Addr),l≠z/\BaskAt d.qg H b l B.cg B.m/\H l=some (.lst (ls.map V.ref))/\Lines d.qe H ls B.rs
theorem BaskX.same{d:D}{z b:Addr}{H H':Hp}{B:Bask}(s:Same H H'):BaskX d z H b B->BaskX d z H' b B:=by rintro⟨n,l,ls,nl,h1,h2,h3⟩;exact⟨n,l,ls,nl,h1.same s,s _ _ h2,h3.same s⟩
theorem BaskX.set{d:D}{z b:Addr}{H:Hp}{B:Bask}{xs:List V}{o:HO}(hz:H z=some (.lst xs)):BaskX d z H b B->BaskX d z (upd H z o) b B:=by rintro⟨n,l,ls,nl,h1,h2,h3⟩;exact⟨n,l,ls,nl,h1.set hz,(by rw[kaj nl];exact h2),h3.set hz⟩
theorem BaskX.is{d:D}{z b:Addr}{H:Hp}{B:Bask}:BaskX d z H b B->BaskIs d.qe d.qg H b B:=by rintro⟨_,l,ls,_,h1,h2,h3⟩;exact⟨l,ls,h1,h2,h3⟩
inductive kif (K:Nr) (d:D) (vs:List V) (H:Hp) (Q:VK) (E_:XK):Prop
 |ct (a:Addr)(ns:List Int)(n:Nat)(m:Int)(_:vs=[.ref a,iV n, .int m])(_:SqL K H a (ns.map V.int))(_:ns.length<=63)(_:0<n)(_:∀(H':Hp)(l:Addr)(ba:List Addr),Same H H'->H l=none->H' l=some (.lst (ba.map V.ref))->P2 (BaskX d l H') ba (bsM ns n m (cntM ns))->Q (.ref l) H'):kif K d vs H Q E_
theorem Qp:kao ["_law_script","_law_kinds","_law_most_here","_law_told","_law_start","_law_drawn"] ["_law_script","_law_kinds","_law_most_here"] (kag kbC):=by ac_rfl
theorem keS(W:WB K mg d base):FO P w W 4 d.Y9 d.Za ["_law_script","_law_kinds","_law_most_here"] (kif K d):=by
 exists W.Vu.F,Qp
 ·obtain⟨a,ns,n,m,rfl,hS,hn63,hn,kk⟩:=h
  exists qq,kbA,W
  exists U8,kfi,W
  exists U9,kgI,W
  exists hr1,1,hr,0
  exists hr2,2,hr,0
  refine⟨_,kac (psl (i:=3) Qp.nd (kaN kae))
   (kac (kaU PassesOwn.never rfl (kfo rfl W.B.range (kaa kai (kaa (kat (r:=kaP K) kau (by rfl) W.B.len b_len (kaa (pv 0) kae)) (kaa kai kae)))) (pgn (i:=4) Qp.nd)
   (kaf (ps_if (kar op_lt (kat (r:=kaP K) kau (by rfl) W.B.len b_len (kaa (pv 3) kae)) (pv 2) (kaw _)) (kac (khw (N:=["_law_cell"]) (CompScope.plain rfl (by decide +kernel) (by decide +kernel) (by decide +kernel) (nd1 _)) rfl (kaE (K:=K) (kcW (r:=rSlL K) kdG (pv 0) (kcP (pv 4)) (kcP (pe_op kbe (pv 4) kai)))) (fun _ _ _ _=>pgn (i:=0) (nd1 _)) (fun _ _ _ _=>(pcl qq hr1 W.qz (kaa (pe_op kbe (pv 0) kai) (kaa kai (kaa kai kae))))) (pgn (i:=5) Qp.nd))
   (kac (keD (ps_if (kar op_gt (pv 2) kai (kaw _)) (kaf (psl (i:=5) Qp.nd (kcW (r:=rSlL K) kdG (pv 5) kfQ (kcP kai)))) (kas)))
   (kaf (ka9 (pe_bm Mp MV MW kbF (pv 3) (kaa (kaX (W.Xn.mk' W.qg) U8 hr2 rfl W.qg.m W.Xn.b .nil pass0 (kaa (kbz (N:=["_law_cell","_law_kinds"]) (CompScope.of (N:=["_law_cell","_law_kinds"]) (cap:=[none,some 1]) (kag kbC).names ["_law_script","_law_kinds","_law_most_here","_law_told","_law_start","_law_drawn"] rfl rfl (by decide +kernel)) rfl (kaE (K:=K) (pv 5)) (fun _ _ _ _=>pgn (i:=0) (show(["_law_cell","_law_kinds"]:List Str).Nodup by decide +kernel)) (fun _ _ _ _=>(pcl U9 hr W.Vt (kaa (pv 0) (kaa (pv 1) kae))))) (kaa (pe_op kaG (pe_op kaI (pe_ix (r:=rIxL K) kax (pv 5) kai (fun _ _=>rfl)) kai) kai) (kaa (kbP op_eq (pe_op kaG (pe_ix (r:=rIxL K) kax (pv 5) (pe_un kh0 kai) (fun _ _=>rfl)) kai) kai (kaw _)) kae)))) kae)))))) (kas))))
   (kaf (kan (pv 3)))),?_⟩
  refine⟨by decide,fun l fl=>?_⟩
  exists H,l,H1,n1,e1,fl
  refine⟨_,rfl,a,_,rfl, .inl (n1.seq hS),_,_,_,rfl,⟨by decide,by decide⟩,⟨by omega,by rw[Nq];omega⟩,by decide,by decide,?_⟩
  rw[show(Builtin.Range.rangeSize 6 (((ns.map V.int).length:Nat):Int) 3).toNat=cntM ns by unfold cntM;rw[Nq]]
  refine klp (fun i σ H'=>Same H H'/\∃(ba:List Addr)(v4 v5:Option V),H' l=some (.lst (ba.map V.ref))/\P2 (BaskX d l H') ba (bsM ns n m i)/\σ=[some (.ref a),some (iV n),some (.int m),some (.ref l),v4,v5])
   ⟨n1,[],none,none,e1, .nil,rfl⟩ ?_ ?_
  ·rintro i σ H2 hi ⟨s2,ba,v4,v5,el,hba,rfl⟩
   have hlt:=kkB hi
   have lba:=hba.len
   have lbs:=kkI (ns:=ns) (n:=n) (m:=m) i
   rw[show(6:Int)+(i:Int)*3=((6+3*i:Nat):Int) by omega]
   refine⟨_,rfl,l,_,rfl, .inl (SqL.of el),_,rfl,_,_,rfl,rfl,_,rfl,?_⟩
   rw[Nq,lba]
   by_cases c:((bsM ns n m i).length:Int)<m
   ·rw[decide_eq_true c]
    refine iteT ?_
    refine sN fun A1 hA1=>?_
    refine⟨_,rfl,_,rfl,_,rfl,_,rfl,_,_,rfl,rfl,_,rfl,a,_,rfl,s2.seq hS,fun l3 fl3=>?_⟩
    rw[show((6+3*i:Nat):Int)+3=((6+3*i+3:Nat):Int) by omega,kkv,<-Do,<-MU]
    exists H2,l3,H3,n3,e3,fl3
    have l3len:((ns.drop (6+3*i)).take 3).length<=3:=by rw[NK];omega
    refine⟨l3,rfl,⟨_,SqL.of e3⟩,kaY (xs:=((ns.drop (6+3*i)).take 3).map V.int) (fun j σ ys H'=>H'=H3/\ys=((((ns.drop (6+3*i)).take 3).take j).map mixD).map V.int/\∃v,σ=[v]) ⟨rfl,rfl,none,rfl⟩ (by rw[Nq];exact ND (kap (by omega))) ?_ ?_ ?_⟩
    ·rintro j σ ys H' hj ⟨rfl,rfl,_⟩
     rw[Nq] at hj
     exact⟨SqL.of e3,by rw[Nq,Nq,NK];omega⟩
    ·rintro j y σ ys H' hy ⟨rfl,rfl,v,rfl⟩
     obtain⟨z,ez,rfl⟩:=kbo hy
     refine⟨_,rfl,_,_,rfl,rfl,_,39373,2147483587,rfl,⟨by decide,by decide⟩,by decide,rfl,?_,_,rfl⟩
     rw[take_snoc ez,NC,NC]
     rfl
    rintro σ ys H' ⟨rfl,rfl,v,rfl⟩ l4 fl4
    rw[Nq,NY]
    exists H',l4,H4,n4,e4,fl4
    refine hA1 _ _ ?_
    have s24:=n3.trans n4
    refine sN fun A2 hA2=>?_
    refine⟨fun σ' H5=>Same H2 H5/\∃dl:Addr,H5 dl=some (.lst ((drawM ns m i).map V.int))/\σ'=[some (.ref a),some (iV n),some (.int m),some (.ref l),some (iV (6+3*i)),some (.ref dl)],?_,?_⟩
    ·refine⟨_,rfl,_,_,rfl,rfl,_,rfl,?_⟩
     by_cases c8:(8:Int)<m
     ·rw[decide_eq_true c8]
      refine iteT ⟨_,rfl,_,rfl,l4,_,rfl,SqL.of e4,fun l5 fl5=>?_⟩
      rw[show(1:Int)=((1:Nat):Int) from rfl,kiF,<-MU]
      exists H4,l5,H5,n5,e5,fl5
      refine⟨s24.trans n5,l5,?_,rfl⟩
      unfold drawM
      rw[if_pos c8]
      exact e5
     ·rw[decide_eq_false c8]
      refine iteF ⟨s24,l4,?_,rfl⟩
      unfold drawM
      rw[if_neg c8]
      exact e4
    rintro σ H5 ⟨s5,dl,edl,rfl⟩
    refine hA2 _ _ ?_
    obtain⟨hd0,hd3⟩:=kiE (m:=m) hlt
    have el5:=s5 _ _ el
    obtain⟨q0,eq0⟩:=at_of hd0
    obtain⟨qk,eqk⟩:=at_of (show(drawM ns m i).length-1<(drawM ns m i).length by omega)
    have eh:(drawM ns m i).headD 0=q0:=by
     rw[List.headD_eq_head?_getD,List.head?_eq_getElem?,eq0]
     rfl
    have et:(drawM ns m i).getLastD 0=qk:=by
     rw[EN,List.getLast?_eq_getElem?,eqk]
     rfl
    have hlast:atI ((drawM ns m i).map V.int) (-1)=some (V.int qk):=khc (by rw[Nq,Nz,eqk];rfl) (by rw[Nq];exact hd0)
    refine⟨_,rfl, .inl ⟨rfl,_,SqL.of el5⟩,_,rfl,dl,rfl,⟨_,SqL.of edl⟩,kaY (xs:=(drawM ns m i).map V.int) (fun j σ ys H'=>Same H5 H'/\∃(la:List Addr)(v0:Option V),ys=la.map V.ref/\Lines d.qe H' la (((drawM ns m i).take j).map fun c=>lineM c n)/\σ=[v0,some (iV n)]) ⟨Same.refl _,[],none,rfl, .nil,rfl⟩ (by rw[Nq];exact ND (kap (by omega))) ?_ ?_ ?_⟩
    ·rintro j σ ys H' hj ⟨s6,la,v0,rfl,hla,rfl⟩
     rw[Nq] at hj
     have:=hla.len
     rw[Nq,NK] at this
     exact⟨SqL.of (s6 _ _ edl),by rw[Nq];omega⟩
    ·rintro j y σ ys H' hy ⟨s6,la,v0,rfl,hla,rfl⟩
     obtain⟨z,ez,rfl⟩:=kbo hy
     refine⟨_,rfl,_,rfl,z,n,rfl,hn,fun H7 x s7 fx hx=>⟨s6.trans s7,la++[x],_,by rw[NC];rfl,?_,rfl⟩⟩
     rw[take_snoc ez,NC]
     exact P2.snoc (hla.same s7) hx
    rintro σ ys H6 ⟨s6,la,v0,rfl,hla,rfl⟩ l7 fl7
    rw[Nq,NY] at hla
    exists H6,l7,H7,n7,e7,fl7
    have s57:=s6.trans n7
    refine⟨_,rfl,dl,_,_,_,rfl,rfl,SqL.of (s57 _ _ edl),kaz (j:=0) (v:=V.int q0) (by rw[Nz,eq0];rfl),_,_,rfl,rfl,⟨by decide,by decide⟩,_,_,rfl,rfl,(by show(0:Int)<9;decide),_,rfl,_,rfl,dl,_,_,_,rfl,rfl,SqL.of (s57 _ _ edl),hlast,_,_,rfl,rfl,(by show(0:Int)<2;decide),rfl,kmL (SqL.of e7) fun H8 b l' s8 fb fl' hl' hb'=>?_⟩
    have s28:=(s5.trans s57).trans s8
    have el8:=s28 _ _ el
    refine⟨l,_,_,rfl,rfl,el8,kap (by rw[Nq];omega),?_⟩
    rw[show ba.map V.ref++[V.ref b]=(ba++[b]).map V.ref by rw[NC];rfl]
    refine⟨kaq fl (s2.trans s28) (nx el8),ba++[b],_,_,kad,?_,rfl⟩
    unfold bsM
    rw[if_pos c]
    have el7:=(s5.trans s57) _ _ el
    refine P2.snoc (hba.mono fun b B h=>(h.same s28).set el8) (BaskX.set el8 ⟨(kah el7 fb).symm,l',la,(kah el7 fl').symm,?_,hl',(hla.same n7).same s8⟩)
    unfold baskM
    simp only
    rw[eh,et,show decide (qk%2=0)=decide (V.int (qk%2)=V.int 0) by rw[khP];rfl]
    exact hb'
   ·rw[decide_eq_false c]
    refine iteF ⟨s2,ba,_,_,el,?_,rfl⟩
    unfold bsM
    rw[if_neg c]
    exact hba
  ·rintro σ H2 ⟨s2,ba,v4,v5,el,hba,rfl⟩
   exact⟨_,rfl,kk H2 l ba s2 fl el hba⟩
noncomputable def mostM(ns:List Int)(wide:Bool):Int:=if wide=true then 1 else if(ns.take 1).sum/160%16/15=0 then 8 else 20
inductive kjs (K:Nr) (vs:List V) (H:Hp) (Q:VK) (E_:XK):Prop
 |ct (a:Addr)(ns:List Int)(wide:Bool)(_:vs=[.ref a, .bl wide])(_:SqL K H a (ns.map V.int))(_:∀(H':Hp),Same H H'->Q (.int (mostM ns wide)) H'):kjs K vs H Q E_
theorem kgu:kao ["_law_script","_law_wide"] ["_law_script","_law_wide"] (kag kdc):=by ac_rfl
theorem kgH(W:WB K mg d base):FO P w W 1 d.Zp d.Zq ["_law_script","_law_wide"] (kjs K):=by
 exists W.VB.F,kgu
 ·obtain⟨a,ns,wide,rfl,hS,kk⟩:=h
  refine⟨_,kac (ps_if (kaR (pv 1)) (kaf (kan kai)) (kas))
   (kaf (kan (pe_ix (r:=rIxL K) kax (kaN (kaa kai (kaa kai kae))) (pe_op kaI (pe_op kaG (pe_op kaI (kat (r:=rSum K) (kc0 rfl) (by rfl) W.B.sum b_sum (kaa (kcW (r:=rSlL K) kdG (pv 0) kfQ (kcP kai)) kae)) kai) kai) kai) (fun _ _=>rfl)))),?_⟩
  cases wide with
  |true=>exact⟨_,rfl,_,rfl,iteT (kk H (Same.refl _))⟩
  | false=>
   refine⟨_,rfl,_,rfl,iteF ?_⟩
   refine⟨(by show 2<=sizeLine;decide),fun l1 fl1=>?_⟩
   exists H,l1,H1,n1,e1,fl1
   refine⟨_,rfl,_,rfl,a,_,rfl,n1.seq hS,fun l2 fl2=>?_⟩
   rw[show(1:Int)=((1:Nat):Int) from rfl,kiF,<-MU]
   exists H1,l2,H2,n2,e2,fl2
   have hix:atI [V.int 8,V.int 20] ((ns.take 1).sum/160%16/15)=some (.int (if(ns.take 1).sum/160%16/15=0 then 8 else 20)):=by
    have hc:(ns.take 1).sum/160%16/15=0∨(ns.take 1).sum/160%16/15=1:=by omega
    rcases hc with e|e <;> rw[e] <;> rfl
   have:=kk H2 (n1.trans n2)
   exact⟨l2,_,rfl,SqL.of e2,_,_,rfl,rfl,⟨by decide,by decide⟩,_,_,rfl,rfl,(by show(0:Int)<16;decide),_,_,rfl,rfl,⟨by decide,by decide⟩,l1,_,_,_,rfl,rfl,SqL.of (n2 _ _ e1),hix,this⟩
noncomputable def candM(hand:List Int)(a:List Nat)(n:Nat):Bool:=decide ((a.count n:Int)<hand.getD n 0)
noncomputable def kbf(hand:List Int):Nat->List Nat->List (List Nat)
 |0,_=>[]
 |k+1,a=>a::((Nw hand.length).filter (candM hand a)).flatMap fun n=>kbf hand k (a++[n])
theorem kgQ{hand:List Int}:∀(k:Nat)(a:List Nat),∀o∈kbf hand k a,∃r,o=a++r
 |0,a,o,h=>by simp[kbf] at h
 | k+1,a,o,h=>by
  unfold kbf at h
  rcases NS.mp h with h|h
  ·exact⟨[],by rw[h,Ml]⟩
  ·obtain⟨n,_,h2⟩:=EY.mp h
   obtain⟨r,hr⟩:=kgQ k (a++[n]) o h2
   exact⟨n::r,by rw[hr,Mg];rfl⟩
theorem kgS{hand:List Int}:∀(k:Nat)(a:List Nat),(kbf hand k a).length<=fan (remM hand a)
 |0,a=>by unfold kbf;exact N1 _
 | k+1,a=>by
  unfold kbf
  rw[NW]
  have hf:((Nw hand.length).filter (candM hand a)).length<=remM hand a:=by
   unfold remM
   refine kkC (fun m hm=>?_) _
   have:=of_decide_eq_true hm
   omega
  cases er:remM hand a with
  |zero=>
   rw[er] at hf
   rw[DN.mp (Nat.le_zero.mp hf),EV]
   exact Nt _
  | succ r=>
   rw[er] at hf
   show _<=1+(r+1)*fan r
   have:=kf8 (f:=fun n=>kbf hand k (a++[n])) (k:=fan r) (l:=(Nw hand.length).filter (candM hand a)) fun n hn=>by
    have h1:=N5.mp hn
    have h2:=of_decide_eq_true h1.2
    have h3:=M6.mp h1.1
    have hd:=kej (hand:=hand) (used:=a) (n:=n) h3 (by omega)
    have hi:=kgS (hand:=hand) k (a++[n])
    rw[show remM hand (a++[n])=r by omega] at hi
    exact hi
   have hm:((Nw hand.length).filter (candM hand a)).length*fan r<=(r+1)*fan r:=Dl _ hf
   omega
theorem keg:∀(o1 o2 used:List Nat)(S S1:Stnd),walkM T B hand o1 used S=(used++o1,S1)->walkM T B hand (o1++o2) used S=walkM T B hand o2 (used++o1) S1
 |[],o2,used,S,S1,h=>by
  unfold walkM at h
  rw[Ml] at h⊢
  have:=congrArg Prod.snd h
  simp only at this
  rw[this]
  rfl
 | n::o1,o2,used,S,S1,h=>by
  have hcons:∀o:List Nat,walkM T B hand (n::o) used S=match T.vs[n]? with
   |none=>(used,S)
   |some V=>if dueM V T B hand used S n=.non then walkM T B hand o (used++[n]) (aftM V T.ps (kds B) S) else(used,S):=fun _=>rfl
  rw[MK,hcons]
  rw[hcons] at h
  cases e:T.vs[n]? with
  |none=>
   rw[e] at h
   have:=congrArg MP (congrArg Prod.fst h)
   simp at this
  | some V=>
   rw[e] at h
   simp only at h⊢
   by_cases hn:dueM V T B hand used S n=.non
   ·rw[if_pos hn] at h⊢
    have h':walkM T B hand o1 (used++[n]) (aftM V T.ps (kds B) S)=((used++[n])++o1,S1):=by rw[h,Mg];rfl
    rw[keg o1 o2 _ _ _ h',Mg]
    rfl
   ·rw[if_neg hn] at h
    have:=congrArg MP (congrArg Prod.fst h)
    simp at this
theorem ke2{α β:Type}{p: β->Bool}{f: α->List β}:∀(l:List α),(l.flatMap f).filter p=l.flatMap fun a=>(f a).filter p
 |[]=>rfl
 |a::l=>by rw[Ec,Mx,ke2 l,Ec]
theorem kkn{α β:Type}{c: α->Bool}{f g: α->List β}:∀(l:List α),(∀a∈l,c a=true->f a=g a)->(∀a∈l,c a=false->f a=[])->l.flatMap f=(l.filter c).flatMap g
 |[],_,_=>rfl
 |a::l,h1,h2=>by
  have ih:=kkn (c:=c) (f:=f) (g:=g) l (fun x hx=>h1 x (NR _ hx)) fun x hx=>h2 x (NR _ hx)
  rw[Ec,ih]
  cases e:c a with
  |true=>rw[List.filter_cons_of_pos e,Ec,h1 a NV e]
  |false=>rw[List.filter_cons_of_neg (by rw[e];simp),h2 a NV e,Mw]
theorem kdS(hl:hand.length=T.vs.length):∀(k:Nat)(a:List Nat)(S:Stnd),walkM T B hand a [] (stnd0 B)=(a,S)->(kbf hand k a).filter (fun o=>(kcw T B hand o).isNone)=(waysM T B hand k a S).map Prod.fst
 |0,_,_,_=>rfl
 | k +1,a,S,hw=>by
  unfold kbf waysM
  have h0:(kcw T B hand a).isNone=(onlyM T.rs a).isNone:=by
   unfold kcw
   simp only[hw]
   rw[if_neg (Mi _)]
   cases(onlyM T.rs a).isNone <;> rfl
  have hrest:((Nw hand.length).filter (candM hand a)).flatMap (fun n=>(kbf hand k (a++[n])).filter fun o=>(kcw T B hand o).isNone)=(folM T B hand a S).flatMap fun n=>(match T.vs[n]? with
    |none=>[]
    |some V=>waysM T B hand k (a++[n]) (aftM V T.ps (kds B) S)).map Prod.fst:=by
   rw[kkn (c:=canM T B hand a S) (g:=fun n=>(match T.vs[n]? with
    |none=>[]
    |some V=>waysM T B hand k (a++[n]) (aftM V T.ps (kds B) S)).map Prod.fst)]
   ·congr 1
    unfold folM
    rw[List.filter_filter,hl]
    refine List.filter_congr fun n _=>?_
    cases e:canM T B hand a S n with
    |false=>rfl
    |true=>
     have:=(kcZ e).2
     show(true&&decide ((a.count n:Int)<hand.getD n 0))=true
     rw[decide_eq_true (by omega)]
     rfl
   ·intro n hn hc
    obtain⟨h1,h2⟩:=kcZ hc
    obtain⟨V,hV⟩:=at_of h1
    unfold canM at hc
    rw[hV] at hc
    have hd:dueM V T B hand a S n=.non:=of_decide_eq_true hc
    have hw':walkM T B hand (a++[n]) [] (stnd0 B)=(a++[n],aftM V T.ps (kds B) S):=by
     rw[keg a [n] [] _ S (by rw[Mw];exact hw),Mw]
     unfold walkM
     rw[hV]
     simp only
     rw[if_pos hd]
     rfl
    rw[kdS hl k (a++[n]) _ hw',hV]
   ·intro n hn hc
    have hm:=M6.mp (N5.mp hn).1
    obtain⟨V,hV⟩:=at_of (xs:=T.vs) (i:=n) (by omega)
    unfold canM at hc
    rw[hV] at hc
    have hd:¬dueM V T B hand a S n=.non:=of_decide_eq_false hc
    refine DJ.mpr fun o ho=>?_
    obtain⟨r,rfl⟩:=kgQ k (a++[n]) o ho
    have hw':walkM T B hand (a++[n]++r) [] (stnd0 B)=(a,S):=by
     rw[Mg,keg a _ [] _ S (by rw[Mw];exact hw),Mw,DH]
     unfold walkM
     rw[hV]
     simp only
     rw[if_neg hd]
    have hlen:a.length<(a++[n]++r).length:=by simp only[NG,Mv];omega
    unfold kcw
    simp only[hw']
    rw[if_pos hlen]
    have eg:(a++[n]++r).getD a.length 0=n:=by
     rw[Mg,NL,MQ (Nt _),Nat.sub_self]
     rfl
    rw[eg,hV]
    simp
  rw[NC,MT,h0,ke2,hrest,List.map_flatMap]
  cases(onlyM T.rs a).isNone <;> rfl
theorem kkE{m:Nat}{a:List Nat}{n:Nat}(h:n<m):candM (Nu m 1) a n= !a.contains n:=by
 unfold candM
 rw[NL,MY,if_pos h]
 cases e:a.contains n with
 |true=>
  have hm:n∈a:=by simpa using e
  have:=List.count_pos_iff.mpr hm
  rw[decide_eq_false (by show ¬((a.count n:Int)<1);omega)]
  rfl
 |false=>
  have hm:n∉a:=by simpa using e
  rw[List.count_eq_zero.mpr hm]
  rfl
inductive kfm (k:Nat) (vs:List V) (H:Hp) (Q:VK) (E_:XK):Prop
 |ct (m:Nat)(r:Addr)(row:List Nat)(_:vs=[iV m, .ref r])(_:H r=some (.lst (row.map iV)))(_:m<=4)(_:row.length+k<=100)(_:remM (Nu m 1) row<k)(_:∀(H':Hp)(p:Addr)(ra:List Addr),Same H H'->H p=none->H' p=some (.lst (ra.map V.ref))->P2 (fun a q=>(a=r∨H a=none)/\a≠p/\H' a=some (.lst (q.map iV))) ra (kbf (Nu m 1) k row)->Q (.ref p) H'):kfm k vs H Q E_
theorem kjp{vs:List V}{H:Hp}{Q:VK}{E:XK}(h:kfm 0 vs H Q E):False:=by
 obtain⟨m,r,row,_,_,_,_,h,_⟩:=h
 exact Nat.not_lt_zero _ h
theorem kdy{m k:Nat}{a:List Nat}(hm:m<=4):(kbf (Nu m 1) k a).length<=65:=by
 refine Nx (kgS k a) (Nx (kf9 (s:=4) ?_) (by decide))
 unfold remM
 have:∀L,(((Nw L).map fun n=>((Nu m (1:Int)).getD n 0-(a.count n:Int)).toNat).sum)<=L:=fun L=>by
  induction L with
  |zero=>exact Nt _
  | succ L ih=>
   rw[Mh,NC,M5]
   simp only[NJ,MI,M1,ET]
   have:(Nu m (1:Int)).getD L 0<=1:=by
    rw[NL,MY]
    split
    ·exact Int.le_refl _
    ·decide
   omega
 rw[Mm]
 exact Nx (this m) hm
theorem XH:kao ["_law_many","_law_row","_law_told","_law_voucher_here"] ["_law_many","_law_row"] (kag kdb):=by ac_rfl
theorem kfa(W:WB K mg d base)(n:Nat)(G_rec:FO P w W (0+n) d.Qb d.Qc ["_law_many","_law_row"] (kfm n)):FO P w W (0+n+1) d.Qb d.Qc ["_law_many","_law_row"] (kfm (n+1)):=by
 exists W.Qe.F,XH
 ·obtain⟨m,r,row,rfl,hro,hm,hlen,hrem,kk⟩:=h
  refine⟨_,kac (psl (i:=2) XH.nd (kaN (kaa (pv 1) kae)))
   (kac (kaU PassesOwn.never rfl (kba rfl W.B.range (kaa (pv 0) kae)) (pgn (i:=3) XH.nd)
   (kaf (ps_if (kar kdX (pv 3) (pv 1) (by with_unfolding_all rfl)) (kaf (ka9 (pe_bm Mp ER ES kdv (pv 2) (kaa (khz G_rec hr rfl W.Qe.m W.Qe.F.kp W.Qe.b .nil pass0 (kaa (pv 0) (kaa (pe_op klV (pv 1) (kaN (kaa (pv 3) kae))) kae))) kae)))) (kas))))
   (kaf (kan (pv 2)))),?_⟩
  refine⟨_,rfl,(by show 1<=sizeLine;decide),fun p fp=>?_⟩
  have nrp:r≠p:=kah hro fp
  exists H,p,H1,n1,e1,fp
  have hfin:kbf (Nu m 1) (n+1) row=row::((Nw m).filter (candM (Nu m 1) row)).flatMap fun x=>kbf (Nu m 1) n (row++[x]):=by
   show row::((Nw (Nu m (1:Int)).length).filter _).flatMap _=_
   rw[Mm]
  have hall:=kdy (k:=n+1) (a:=row) hm
  rw[hfin] at kk hall
  refine⟨_,rfl,_,rfl,by omega,by omega,?_⟩
  rw[Int.toNat_natCast]
  refine kbi (fun i σ H'=>Same H H'/\∃(ra:List Addr)(v3:Option V),H' p=some (.lst (ra.map V.ref))/\P2 (fun a q=>(a=r∨H a=none)/\a≠p/\H' a=some (.lst (q.map iV))) ra (row::((Nw i).filter (candM (Nu m 1) row)).flatMap fun x=>kbf (Nu m 1) n (row++[x]))/\σ=[some (iV m),some (.ref r),some (.ref p),v3])
   ⟨n1,[r],none,e1, .cons ⟨.inl rfl,nrp,n1 _ _ hro⟩ .nil,rfl⟩ ?_ ?_
  ·rintro i σ Hi hi ⟨si,ra,v3,ep,hra,rfl⟩
   rw[Int.zero_add]
   refine⟨_,rfl,_,rfl,r,_,rfl, .inl (SqL.of (si _ _ hro)),rfl,kcs _,_,rfl,?_⟩
   show if(!inV (iV i) (row.map iV))=true then _ else _
   rw[kcr]
   have hc:=kkE (a:=row) hi
   have hstep:(Nw (i+1)).filter (candM (Nu m 1) row)=(Nw i).filter (candM (Nu m 1) row)++(if candM (Nu m 1) row i=true then [i] else []):=by
    rw[Mh,Mx]
    cases e:candM (Nu m 1) row i <;> simp[e]
   cases hin:row.contains i with
   |true=>
    rw[hin] at hc
    refine iteF ⟨si,ra,_,ep,?_,rfl⟩
    rw[hstep,hc]
    simpa using hra
   | false=>
    rw[hin] at hc
    refine iteT ⟨_,rfl, .inl ⟨rfl,_,SqL.of ep⟩,_,rfl,_,rfl,_,rfl,(by show 1<=sizeLine;decide),fun l1 fl1=>?_⟩
    exists Hi,l1,H2,n2,e2,fl1
    have hc':candM (Nu m 1) row i=true:=hc
    refine⟨r,l1,_,_,rfl,rfl,(si.trans n2) _ _ hro,e2,ND (kap (by rw[Nq,Mv];omega)),fun r2 fr2=>?_⟩
    rw[show row.map iV++[V.int (i:Int)]=(row++[i]).map iV by rw[NC];rfl]
    exists H2,r2,H3,n3,e3,fr2
    have n23:=n2.trans n3
    have hcd:=of_decide_eq_true hc'
    have hrd:=kej (hand:=Nu m 1) (used:=row) (n:=i) (by rw[Mm];exact hi) (by omega)
    refine⟨m,r2,row++[i],rfl,e3,hm,by rw[NG,Mv];omega,by omega,fun H4 p4 ra4 s4 f4 e4 hra4=>?_⟩
    have n24:=n23.trans s4
    have ep4:=n24 _ _ ep
    have lra:=hra.len
    have lra4:=hra4.len
    have l4:=kdy (k:=n) (a:=row++[i]) hm
    have hsub:(row::((Nw i).filter (candM (Nu m 1) row)).flatMap fun x=>kbf (Nu m 1) n (row++[x])).length<=65:=by
     refine Nx ?_ hall
     rw[NW,NW]
     refine Nat.succ_le_succ ?_
     have:∃tl,(Nw m).filter (candM (Nu m 1) row)=(Nw i).filter (candM (Nu m 1) row)++tl:=by
      have e:=List.range_add (n:=i) (m:=m-i)
      rw[show i+(m-i)=m by omega] at e
      exact⟨_,by rw[e,Mx]⟩
     obtain⟨tl,e⟩:=this
     rw[e,EU,NG]
     omega
    refine⟨p,p4,_,_,rfl,rfl,ep4,e4,ND (kap (by rw[Nq,Nq];omega)),?_⟩
    rw[<-NC]
    refine⟨kaq fp (si.trans n24) (nx ep4),ra++ra4,_,kad,?_,rfl⟩
    rw[hstep,hc',if_pos rfl,EU,<-MK]
    have hnp:∀a:Addr,Hi a=none->a≠p:=fun a z e=>by rw[e,ep] at z;cases z
    have hHi:∀a:Addr,Hi a=none->H a=none:=fun a z=>si.free z
    refine P2.append (hra.mono fun a q z=>⟨z.1,z.2.1,by rw[kaj z.2.1];exact n24 _ _ z.2.2⟩) ?_
    rw[List.flatMap_singleton]
    refine hra4.mono fun a q z=>?_
    have ha:Hi a=none:=by
     rcases z.1 with e|e
     ·rw[e]
      exact n2.free fr2
     ·exact n23.free e
    exact⟨.inr (hHi a ha),hnp a ha,by rw[kaj (hnp a ha)];exact z.2.2⟩
  ·rintro σ Hi ⟨si,ra,v3,ep,hra,rfl⟩
   exact⟨_,rfl,kk Hi p ra si fp ep hra⟩
theorem kdr(W:WB K mg d base):∀n:Nat,FO P w W (0+n) d.Qb d.Qc ["_law_many","_law_row"] (kfm n)
 |0=>⟨fun _ _ _ _ h=>(kjp h).elim,fun _ _ _ _ _ _ _ _ _ _ _ _ _ h=>(kjp h).elim⟩
 |n+1=>kfa W n (kdr W n)
theorem kgG(W:WB K mg d base):FO P w W 10 d.Qb d.Qc ["_law_many","_law_row"] (kfm 10):=kdr W 10
theorem kgR{hand:List Int}:∀(k:Nat)(a:List Nat),(∀n∈a,n<hand.length)->∀o∈kbf hand k a,(∀n∈o,n<hand.length)/\o.length<=a.length+k
 |0,a,_,o,h=>by simp[kbf] at h
 | k +1,a,ha,o,h=>by
  unfold kbf at h
  rcases NS.mp h with h|h
  ·rw[h]
   exact⟨ha,by omega⟩
  ·obtain⟨n,hn,h2⟩:=EY.mp h
   have hm:=M6.mp (N5.mp hn).1
   obtain⟨q1,q2⟩:=kgR k (a++[n]) (fun m hm'=>by
    rcases N6.mp hm' with h'|h'
    ·exact ha m h'
    ·have e:m=n:=by simpa using h'
     rw[e]
     exact hm) o h2
   rw[NG,Mv] at q2
   exact⟨q1,by omega⟩
inductive spLet (d:D) (vs:List V) (H:Hp) (Q:VK) (E_:XK):Prop
 |ct (t b:Addr)(T:TillD)(B:Bask)(_:vs=[.ref t, .ref b])(_:TillIs d H t T)(_:kbJ T)(_:T.vs.length<=4)(_:BaskIs d.qe d.qg H b B)(_:Wf T.ps B (stnd0 B))(_:∀(H':Hp)(p:Addr)(ra:List Addr),Same H H'->H p=none->H' p=some (.lst (ra.map V.ref))->P2 (fun a q=>H a=none/\H' a=some (.lst (q.map iV))) ra ((waysM T B (ones T) 10 [] (stnd0 B)).map Prod.fst)->Q (.ref p) H'):spLet d vs H Q E_
theorem kdp(T:TillD):ones T=Nu T.vs.length 1:=by
 unfold ones
 exact List.map_const' ..
theorem V3:kao ["_law_till_here","_law_basket","_law_hand"] ["_law_till_here","_law_basket"] (kag kcV):=by ac_rfl
theorem khA(W:WB K mg d base):FO P w W 11 d.Zb d.Zc ["_law_till_here","_law_basket"] (spLet d):=by
 exists W.Vv.F,V3
 ·obtain⟨t,b,T,B,rfl,hT,tok,h4,hB,wf0,kk⟩:=h
  obtain⟨dxt,fst,pp,vl,rl,va,ra,ht,t1,t2,t3,t4,hpp,hvl,hva,hrl,hra⟩:=id hT
  exists Ja,kgG,W
  exists XE,kir,W
  exists hr8,8,hr,0
  refine⟨_,kac (psl (i:=2) V3.nd (pe_op keL (kaN (kaa kai kae)) (kat (r:=kaP K) kau (by rfl) W.B.len b_len (kaa (kak (K:=K) (pv 0) rfl) kae))))
   (kaf (kan (kfT (N:=["_law_row","_law_till_here","_law_basket","_law_hand"]) (CompScope.of (N:=["_law_row","_law_till_here","_law_basket","_law_hand"]) (cap:=[none,some 0,some 1,some 2]) (kag kcV).names ["_law_till_here","_law_basket","_law_hand"] rfl rfl (by decide +kernel)) rfl (kaE (K:=K) (pcl Ja hr W.Qe (kaa (kat (r:=kaP K) kau (by rfl) W.B.len b_len (kaa (kak (K:=K) (pv 0) rfl) kae)) (kaa (kaN kae) kae)))) (fun _ _ _ _=>pgn (i:=0) (show(["_law_row","_law_till_here","_law_basket","_law_hand"]:List Str).Nodup by decide +kernel)) (fun _ _ _ _=>khx (kar kcg (pcl XE hr8 W.Q7 (kaa (pv 1) (kaa (pv 2) (kaa (pv 3) (kaa (pv 0) kae))))) kaJ (kaw _))) (fun _ _ _ _=>(pv 0))))),?_⟩
  have lva:=hva.len
  have hones:=kdp T
  have hl:(ones T).length=T.vs.length:=by unfold ones;rw[Nq]
  refine⟨(by show 1<=sizeLine;decide),fun l1 fl1=>?_⟩
  exists H,l1,H1,n1,e1,fl1
  refine⟨_,rfl,t,d.qd,dxt,fst,_,rfl,n1 _ _ ht,W.qd.cl,W.qp,t2,vl,_,rfl, .inl (SqL.of (n1 _ _ hvl)),l1,_,_,rfl,rfl,e1,by omega,(by rw[Nq];omega),ND (kap (by simp;omega)),fun h fh=>?_⟩
  rw[Nq,lva,show(((T.vs.length:Nat):Int)).toNat=T.vs.length by simp,rep1,keA,<-hones]
  exists H1,h,H2,n2,e2,fh
  have s2:=n1.trans n2
  refine⟨_,rfl,t,d.qd,dxt,fst,_,rfl,s2 _ _ ht,W.qd.cl,W.qp,t2,vl,_,rfl, .inl (SqL.of (s2 _ _ hvl)),by decide,fun r0 fr0=>?_⟩
  rw[Nq,lva]
  exists H2,r0,H3,n3,e3,fr0
  have hrem:remM (Nu T.vs.length 1) []<10:=by
   have:=kjI (Nu T.vs.length (1:Int)) (fun z hz=>by rw[(Dq.mp hz).2];decide)
   rw[kmj] at this
   omega
  refine⟨T.vs.length,r0,[],rfl,e3,h4,by decide,hrem,fun H4 p0 ra0 s4 fp0 ep0 hra0=>?_⟩
  rw[<-hones] at hra0
  have s34:=n3.trans s4
  have s04:=s2.trans s34
  have lways:=kdS (B:=B) (T:=T) hl 10 [] (stnd0 B) rfl
  have lmem:∀o∈kbf (ones T) 10 [],(∀n∈o,n<T.vs.length)/\o.length<64:=fun o ho=>by
   obtain⟨q1,q2⟩:=kgR (hand:=ones T) 10 [] (fun n h=>by simp at h) o ho
   rw[Df] at q2
   rw[hl] at q1
   exact⟨q1,by omega⟩
  have lfew:=kdy (m:=T.vs.length) (k:=10) (a:=[]) h4
  rw[<-hones] at lfew
  rw[<-lways] at kk
  generalize kbf (ones T) 10 []=L at *
  have lra0:=hra0.len
  have eh4:=s34 _ _ e2
  refine⟨p0,rfl,⟨_,SqL.of ep0⟩,ki3 (xs:=ra0.map V.ref) (fun i σ ys H'=>Same H4 H'/\∃(da:List Addr)(v0:Option V),ys=da.map V.ref/\P2 (fun c (q:List Nat)=>H c=none/\H' c=some (.lst (q.map iV))) da ((L.take i).filter fun o=>(kcw T B (ones T) o).isNone)/\σ=[v0,some (.ref t),some (.ref b),some (.ref h)]) ⟨Same.refl _,[],none,rfl, .nil,rfl⟩ (by rw[Nq];exact ND (kap (by omega))) ?_ ?_ ?_⟩
  ·rintro i σ ys H' hi ⟨s5,da,v0,rfl,hda,rfl⟩
   exact⟨SqL.of (s5 _ _ ep0),by rw[Nq,hda.len];exact Nx (M3 _ _) (by rw[NK];omega)⟩
  ·rintro i y σ ys H' hy ⟨s5,da,v0,rfl,hda,rfl⟩
   obtain⟨c,ec,rfl⟩:=kbR hy
   obtain⟨q,eq,hcn,_,hc⟩:=hra0.at ec
   have hcn':H c=none:=by
    rcases hcn with e|e
    ·rw[e]
     exact s2.free fr0
    ·exact(s2.trans n3).free e
   obtain⟨q1,q2⟩:=lmem q (Ny eq)
   have s05:=s04.trans s5
   refine⟨_,rfl,_,rfl,_,rfl,_,rfl,t,b,h,c,T,B,ones T,q,rfl,hT.same s05,tok,hB.same s05,wf0,s5 _ _ eh4,s5 _ _ hc,hl,q1,q2,fun H8 fv s8 hfv=>⟨rfl,_,rfl,?_⟩⟩
   have s58:=s5.trans s8
   rw[take_snoc eq,Mx,MT,Ep]
   cases ef:kcw T B (ones T) q with
   |none=>
    rw[ef] at hfv
    have e1:fv=.non:=hfv
    subst e1
    rw[show decide (V.non=V.non)=true by simp]
    refine iteT ⟨_,rfl,s58,da++[c],_,by rw[NC];rfl,?_,rfl⟩
    rw[if_pos (show(none:Option (Nat×V)).isNone=true from rfl)]
    exact P2.snoc (hda.mono fun c q h=>⟨h.1,s8 _ _ h.2⟩) ⟨hcn',s58 _ _ hc⟩
   |some z=>
    rw[ef] at hfv
    obtain⟨_,e1,_⟩:=hfv
    subst e1
    rw[show decide (V.ref _=V.non)=false by simp]
    refine iteF ⟨s58,da,_,rfl,?_,rfl⟩
    rw[if_neg (by simp),Ml]
    exact hda.mono fun c q h=>⟨h.1,s8 _ _ h.2⟩
  rintro σ ys H' ⟨s5,da,v0,rfl,hda,rfl⟩ D hD
  rw[Nq,lra0,NY] at hda
  have n6:=kam (o:=.lst (da.map V.ref)) hD
  exact kk _ D da ((s04.trans s5).trans n6) ((s04.trans s5).free hD) kad (hda.mono fun c q h=>⟨h.1,n6 _ _ h.2⟩)
theorem V4:kao ["_law_parents_here","_law_one","_law_other"] ["_law_parents_here","_law_one","_law_other"] (kag kcK):=by ac_rfl
theorem kfY(W:WB K mg d base):FO P w W 1 d.Zd d.Ze ["_law_parents_here","_law_one","_law_other"] (khi K):=by
 exists W.Vw.F,V4
 ·obtain⟨a,ps,one,other,rfl,hS,hg,ho,k⟩:=h
  refine⟨_,kac (kil PassesOwn.never (kar kb6 (pv 1) kaJ (kaw _))
   (kac (ps_if (kar op_eq (pv 1) (pv 2) (kaw _)) (kaf (kan pe_bl)) (kas))
   (kaf (psl (i:=1) V4.nd (pe_ix (r:=rIxL K) kax (pv 0) (pv 1) (fun _ _=>rfl))))))
   (kaf (kan pe_bl)),?_⟩
  refine khW (fun σ H'=>∃o:Option Nat,σ=[some (.ref a),some (pV o),some (.int other)]/\H'=H/\(∀i,o=some i->i<ps.length)/\decide (other∈up ps one)=decide (other∈rest ps o))
   (fun σ _=>match σ with|[_,some (.int i),_]=>i.toNat+1|_=>0) ⟨some one,rfl,rfl,fun i e=>by cases e;exact ho,rfl⟩ ?_ ?_
  ·rintro σ H' ⟨o,rfl,rfl,hb,he⟩
   refine⟨_,rfl,rfl,_,rfl,?_⟩
   cases o with
   |none=>
    show if(!decide (V.non=V.non))=true then _ else _
    rw[kj0]
    refine iteF ?_
    show Q (.bl false) _
    have e:decide (other∈up ps one)=false:=by rw[he];simp[Kin.rest]
    rw[e] at k
    exact k
   | some i=>
    show if(!decide (V.int i=V.non))=true then _ else _
    rw[kj1]
    refine iteT ?_
    have hi:=hb i rfl
    refine⟨_,rfl,_,rfl,rfl,_,rfl,?_⟩
    show if decide (V.int i=V.int other)=true then _ else _
    rw[eq_int]
    obtain⟨o,eo⟩:∃o,ps[i]?=some o:=⟨ps[i],by simp[hi]⟩
    refine ite2 (fun h=>?_) (fun h=>?_)
    ·have h':i=other:=of_decide_eq_true h
     subst h'
     have e:decide (i∈up ps one)=true:=by
      rw[he]
      show decide (i∈up ps i)=true
      rw[up_eq hg eo]
      simp
     rw[e] at k
     exact k
    ·have h':¬i=other:=fun z=>h (decide_eq_true z)
     refine⟨_,rfl,_,rfl,a,_,_,pV o,rfl,rfl,hS,kaz (by simp[eo]),?_⟩
     refine⟨⟨o,rfl,rfl,fun j e=>?_,?_⟩,?_⟩
     ·subst e
      have:=hg i j eo
      omega
     ·rw[he]
      show decide (other∈up ps i)=_
      rw[up_eq hg eo]
      have:¬other=i:=fun z=>h' z.symm
      simp[this]
     ·cases o with
      |none=>exact Nat.succ_pos _
      |some j=>
       have:=hg i j eo
       show((j:Int)).toNat+1<((i:Int)).toNat+1
       omega
  ·rintro σ H' Q' Q'' hq ⟨v,h1,h2,h3⟩
   exact⟨v,h1,h2,by obtain⟨b,e,q⟩:=h3;exact⟨b,e,hq _ _ q⟩⟩
inductive klG (d:D) (vs:List V) (H:Hp) (Q:VK) (E_:XK):Prop
 |ct (t b v pr mk:Addr)(V:Vch)(T:TillD)(B:Bask)(S:Stnd)(_:vs=[.ref t, .ref b, .ref v, .ref pr, .ref mk])(_:TillIs d H t T)(_:BaskIs d.qe d.qg H b B)(_:VchIs d H v V)(_:H pr=some (.lst (S.pr.map L2.V.int)))(_:H mk=some (.lst (S.mkd.map L2.V.bl)))(_:Wf T.ps B S)(_:S.ow=ownN B.rs)(_:∀(H':Hp),Same H H'->Q (.int (qs S.pr (abt T.ps (kds B) V.ms.kind V.ms.lone S)).sum) H'):klG d vs H Q E_
theorem qY:kao ["_law_till_here","_law_basket","_law_voucher_here","_law_prices","_law_marked","_law_told","_law_owners","_law_piece","_law_kind"] ["_law_till_here","_law_basket","_law_voucher_here","_law_prices","_law_marked"] (kag kcI):=by ac_rfl
theorem kfW(W:WB K mg d base):FO P w W 4 d.Zf d.Zg ["_law_till_here","_law_basket","_law_voucher_here","_law_prices","_law_marked"] (klG d):=by
 exists W.Vx.F,qY
 ·obtain⟨t,b,v,pr,mk,⟨so,⟨kind,nd,mo,b1,b2,lone⟩⟩,T,B,S,rfl,hT,hB,hV,hpr,hmk,wf,how,kk⟩:=h
  obtain⟨dxt,fst,p,vl,rl,va,ra,ht,t1,t2,t3,t4,hp,_⟩:=id hT
  obtain⟨l,ls,⟨dxb,fsb,hb,lb1,lb2,lb3⟩,hl,hL⟩:=id hB
  obtain⟨mA,dxv,fsv,hv,lvm,_,hM,hh,htb⟩:=id hV
  obtain⟨dxm,fsm,hm,m1,m2,m3,m4,m5,m6⟩:=id hM
  exists qL,kbk,W
  exists Jb,kfY,W
  exists hr1,1,hr,0
  refine⟨_,kac (psl (i:=5) qY.nd kai)
   (kac (psl (i:=6) qY.nd (kak (K:=K) (kaX (W.qx.mk' W.qc) qL hr rfl W.qc.m W.qx.b .nil pass0 (kaa (pv 1) kae)) rfl))
   (kac (kaU PassesOwn.never rfl (kba rfl W.B.range (kaa (kat (r:=kaP K) kau (by rfl) W.B.len b_len (kaa (pv 6) kae)) kae)) (pgn (i:=7) qY.nd)
   (kac (psl (i:=8) qY.nd (kak (K:=K) (kak (K:=K) (pv 2) rfl) rfl))
   (kaf (ps_if (PW.pt (pw_or (kar kcg (pv 8) kaJ (kaw _)) (keC (kaR (pcl Jb hr1 W.Vw (kaa (kak (K:=K) (pv 0) rfl) (kaa (kak (K:=K) (pe_ix (r:=rIxL K) kax (kak (K:=K) (pv 1) rfl) (pe_ix (r:=rIxL K) kax (pv 6) (pv 7) (fun _ _=>rfl)) (fun _ _=>rfl)) rfl) (kaa (pv 8) kae)))))))) (kaf (ps_if (PW.pt (pw_or (kc4 (kaR (kak (K:=K) (kak (K:=K) (pv 2) rfl) rfl))) (keC (kc4 (kaR (pe_ix (r:=rIxL K) kax (pv 4) (pe_ix (r:=rIxL K) kax (pv 6) (pv 7) (fun _ _=>rfl)) (fun _ _=>rfl))))))) (kaf (klR (i:=5) qY.nd rfl (Or.inl rfl) (pe_ix (r:=rIxL K) kax (pv 3) (pv 7) (fun _ _=>rfl)) klZ)) (kas))) (kas)))))
   (kaf (kan (pv 5))))),?_⟩
  refine⟨_,rfl,khC hB wf.nl wf.ok fun H1 x s1 f1 hx=>?_⟩
  obtain⟨o,p',mk',⟨dxs,fss,hxs,l1,l2,l3,l4,l5⟩,ho,_,_⟩:=id hx
  refine⟨x,d.qc,dxs,fss,_,rfl,hxs,W.qc.cl,W.qC,l1,?_⟩
  have ho':H1 o=some (.lst (S.ow.map iV)):=by rw[how];exact ho
  have np:=wf.np
  refine⟨_,rfl,o,_,rfl, .inl (SqL.of ho'),_,rfl,by omega,by rw[Nq];omega,?_⟩
  rw[Nq,show((S.ow.length:Nat):Int).toNat=S.ow.length by simp]
  refine kbi (fun i σ H'=>H'=H1/\∃v7 v8:Option V,σ=[some (.ref t),some (.ref b),some (.ref v),some (.ref pr),some (.ref mk),some (.int (qs S.pr ((Nw i).filter fun i=>hits T.ps (kds B) kind lone S.mkd (S.ow.getD i 0))).sum),some (.ref o),v7,v8])
   ⟨rfl,none,none,rfl⟩ ?_ ?_
  ·rintro i σ H' hi ⟨rfl,v7,v8,rfl⟩
   rw[Int.zero_add]
   obtain⟨ln,eln⟩:=at_of hi
   have hln:=wf.line eln
   obtain⟨r,er⟩:=at_of hln
   obtain⟨lx,elx⟩:=at_of (xs:=ls) (i:=ln) (by rw[hL.len];exact hln)
   obtain⟨dxl,fsl,hlx,lk1,_⟩:=(hL.get elx er).same s1
   have hkd:=wf.kd r (Ny er)
   obtain⟨kn,ekn⟩:=Int.eq_ofNat_of_zero_le hkd.1
   have hkn:kn<T.ps.length:=by omega
   obtain⟨mv,emv⟩:=at_of (xs:=S.mkd) (i:=ln) (by rw[wf.lm];exact hln)
   obtain⟨z,ez⟩:=at_of (xs:=S.pr) (i:=i) (by rw[wf.lp];exact hi)
   have ev:hits T.ps (kds B) kind lone S.mkd (S.ow.getD i 0)=(kHit T.ps kind kn&&(!lone|| !mv)):=by
    unfold hits
    have e1:S.ow.getD i 0=ln:=by rw[NL,eln];rfl
    have e2:S.mkd.getD ln false=mv:=by rw[NL,emv];rfl
    rw[e1,e2,klY er,ekn,Int.toNat_natCast]
   have no:hits T.ps (kds B) kind lone S.mkd (S.ow.getD i 0)=false->(qs S.pr ((Nw i).filter fun i=>hits T.ps (kds B) kind lone S.mkd (S.ow.getD i 0))).sum=(qs S.pr ((Nw (i+1)).filter fun i=>hits T.ps (kds B) kind lone S.mkd (S.ow.getD i 0))).sum:=fun e=>by rw[kgg,e];simp
   have yes:hits T.ps (kds B) kind lone S.mkd (S.ow.getD i 0)=true->(qs S.pr ((Nw i).filter fun i=>hits T.ps (kds B) kind lone S.mkd (S.ow.getD i 0))).sum+z=(qs S.pr ((Nw (i+1)).filter fun i=>hits T.ps (kds B) kind lone S.mkd (S.ow.getD i 0))).sum:=fun e=>by
    rw[kgg,e,if_pos rfl,kgz,M5]
    unfold qs
    rw[List.map_singleton,NL,ez]
    simp
   have atO:atI (S.ow.map iV) (i:Int)=some (.int (ln:Nat)):=kaz (by rw[Nz,eln];rfl)
   have atM:atI (S.mkd.map V.bl) (ln:Int)=some (.bl mv):=kaz (by rw[Nz,emv];rfl)
   have atP:atI (S.pr.map V.int) (i:Int)=some (.int z):=kaz (by rw[Nz,ez];rfl)
   have hv2:=s1 _ _ hv
   have hm2:=s1 _ _ hm
   have hgd:=wf.good
   have tl:∀(f:Bool),f=kHit T.ps kind kn->(f=true->lone=true->mv=false->hits T.ps (kds B) kind lone S.mkd (S.ow.getD i 0)=true)/\(f=true->lone=false->hits T.ps (kds B) kind lone S.mkd (S.ow.getD i 0)=true)/\(f=false->hits T.ps (kds B) kind lone S.mkd (S.ow.getD i 0)=false)/\(lone=true->mv=true->hits T.ps (kds B) kind lone S.mkd (S.ow.getD i 0)=false):=fun f ef=>by
    rw[ev,<-ef]
    refine⟨fun a b c=>by rw[a,b,c];rfl,fun a b=>by rw[a,b];rfl,fun a=>by rw[a];rfl,fun a b=>by rw[a,b];cases f <;> rfl⟩
   refine⟨_,rfl,v,clsOf d so,dxv,fsv,_,rfl,hv2,cl_of W hh,na_of W hh,lvm,mA,d.qf,dxm,fsm,_,rfl,hm2,W.qf.cl,W.Qf,m1,?_⟩
   clear wf hL hx
   cases kind with
   | none=>
    obtain⟨y1,y2,_,y4⟩:=tl true rfl
    refine⟨_,rfl,rfl,_,rfl,?_⟩
    rw[show decide (pV none=V.non)=true by show decide (V.non=V.non)=true;simp]
    refine iteT (iteT ⟨_,rfl,v,clsOf d so,dxv,fsv,_,rfl,hv2,cl_of W hh,na_of W hh,lvm,mA,d.qf,dxm,fsm,_,rfl,hm2,W.qf.cl,W.qU,m6,lone,rfl,?_⟩)
    cases lone with
    |false=>exact iteT (iteT ⟨_,rfl,_,rfl,_,rfl,pr,_,_,_,rfl,rfl,SqL.of (s1 _ _ hpr),atP,_,_,rfl,rfl,rfl,_,_,by rw[<-yes (y2 rfl rfl)];rfl⟩)
    |true=>
     refine iteF ⟨_,rfl,_,rfl,_,rfl,o,_,_,_,rfl,rfl,SqL.of ho',atO,mk,_,_,_,rfl,rfl,SqL.of (s1 _ _ hmk),atM,mv,rfl,?_⟩
     cases mv with
     |false=>exact iteT ⟨_,rfl,_,rfl,_,rfl,pr,_,_,_,rfl,rfl,SqL.of (s1 _ _ hpr),atP,_,_,rfl,rfl,rfl,_,_,by rw[<-yes (y1 rfl rfl rfl)];rfl⟩
     |true=>exact iteF ⟨rfl,_,_,by rw[<-no (y4 rfl rfl)];rfl⟩
   | some kk'=>
    refine⟨_,rfl,rfl,_,rfl,?_⟩
    rw[show decide (pV (some kk')=V.non)=false by show decide (V.int _=V.non)=false;simp]
    refine iteF ⟨_,rfl,t,d.qd,dxt,fst,_,rfl,s1 _ _ ht,W.qd.cl,W.qO,t1,_,rfl,b,d.qg,dxb,fsb,_,rfl,s1 _ _ hb,W.qg.cl,W.Qg,lb1,_,rfl,_,rfl,o,_,_,_,rfl,rfl,SqL.of ho',atO,l,_,_, .ref lx,rfl,rfl,SqL.of (s1 _ _ hl),kaz (by rw[Nz,elx];rfl),lx,d.qe,dxl,fsl,_,rfl,hlx,W.qe.cl,W.Xh,lk1,_,rfl,p,T.ps,kn,kk',by rw[ekn];rfl,SqL.of (s1 _ _ hp),hgd,hkn,_,rfl,?_⟩
    obtain⟨y1,y2,y3,y4⟩:=tl (decide (kk'∈up T.ps kn)) rfl
    cases hu:decide (kk'∈up T.ps kn) with
    |false=>exact iteF ⟨rfl,_,_,by rw[<-no (y3 hu)];rfl⟩
    | true=>
     refine iteT ⟨_,rfl,v,clsOf d so,dxv,fsv,_,rfl,hv2,cl_of W hh,na_of W hh,lvm,mA,d.qf,dxm,fsm,_,rfl,hm2,W.qf.cl,W.qU,m6,lone,rfl,?_⟩
     cases lone with
     |false=>exact iteT (iteT ⟨_,rfl,_,rfl,_,rfl,pr,_,_,_,rfl,rfl,SqL.of (s1 _ _ hpr),atP,_,_,rfl,rfl,rfl,_,_,by rw[<-yes (y2 hu rfl)];rfl⟩)
     |true=>
      refine iteF ⟨_,rfl,_,rfl,_,rfl,o,_,_,_,rfl,rfl,SqL.of ho',atO,mk,_,_,_,rfl,rfl,SqL.of (s1 _ _ hmk),atM,mv,rfl,?_⟩
      cases mv with
      |false=>exact iteT ⟨_,rfl,_,rfl,_,rfl,pr,_,_,_,rfl,rfl,SqL.of (s1 _ _ hpr),atP,_,_,rfl,rfl,rfl,_,_,by rw[<-yes (y1 hu rfl rfl)];rfl⟩
      |true=>exact iteF ⟨rfl,_,_,by rw[<-no (y4 rfl rfl)];rfl⟩
  ·rintro σ H' ⟨rfl,v7,v8,rfl⟩
   exact⟨_,rfl,kk _ s1⟩
inductive klI (d:D) (vs:List V) (H:Hp) (Q:VK) (E_:XK):Prop
 |ct (t b r:Addr)(T:TillD)(B:Bask)(row:List Nat)(_:vs=[.ref t, .ref b, .ref r])(_:TillIs d H t T)(_:kbJ T)(_:BaskIs d.qe d.qg H b B)(_:Wf T.ps B (stnd0 B))(_:H r=some (.lst (row.map iV)))(_:(∀n∈row,n<T.vs.length))(_:row.length<64)(_:kcw T B (ones T) row=none)(_:∀(H':Hp),Same H H'->Q (pV (kbh T B row (stnd0 B) 0)) H'):klI d vs H Q E_
theorem kiJ{T:TillD}{B:Bask}{n:Nat}{ms:List Nat}{S:Stnd}{Vc:Vch}(e:T.vs[n]?=some Vc):billM T B (n::ms) S=(⟨n,(cutM Vc T.ps (kds B) S).1,(cutM Vc T.ps (kds B) S).2⟩::(billM T B ms (aftM Vc T.ps (kds B) S)).1,(billM T B ms (aftM Vc T.ps (kds B) S)).2):=by
 conv=>lhs;unfold billM
 rw[e]
theorem khb{T:TillD}{B:Bask}:∀(ns:List Nat)(S:Stnd),(∀n∈ns,n<T.vs.length)->(billM T B ns S).1.length=ns.length
 |[],S,_=>rfl
 |n::ms,S,h=>by
  obtain⟨V,e⟩:=at_of (h n NV)
  rw[kiJ e,NW,NW,khb ms _ fun m hm=>h m (NR _ hm)]
noncomputable def cutTo(pr c:List Int)(j:Nat):List Int:=(N2 (· - ·) pr c).take j++pr.drop j
theorem kkx{pr c:List Int}(h:c.length=pr.length)(j:Nat):(cutTo pr c j).length=pr.length:=by
 unfold cutTo
 rw[NG,NK,ML,M8]
 omega
theorem klx{pr c:List Int}(h:c.length=pr.length){j:Nat}(hj:j<pr.length):(cutTo pr c j)[j]?=pr[j]?:=by
 unfold cutTo
 rw[MQ (by rw[NK,ML];omega),NK,ML,List.getElem?_drop]
 congr 1
 omega
theorem ki2{pr c:List Int}(h:c.length=pr.length){j:Nat}{z w:Int}(h1:pr[j]?=some z)(h2:c[j]?=some w):(cutTo pr c j).set j (z-w)=cutTo pr c (j+1):=by
 have hj:=at_lt h1
 have e:(N2 (· - ·) pr c)[j]?=some (z-w):=by rw[Em,h1,h2]
 have hl:((N2 (· - ·) pr c).take j).length=j:=by rw[NK,ML];omega
 unfold cutTo
 rw[List.set_append_right _ _ (by omega),hl,Nat.sub_self,take_snoc e,Mg]
 congr 1
 have hd:pr.drop j=z::pr.drop (j+1):=by
  obtain⟨h1,h2⟩:=NF.mp h1
  rw[My h1,h2]
 rw[hd]
 rfl
theorem kji{T:TillD}{B:Bask}{n:Nat}{ms:List Nat}{S:Stnd}{i:Nat}{V:Vch}(e:T.vs[n]?=some V):kbh T B (n::ms) S i=if ker V T.ps B S=true then some i else kbh T B ms (aftM V T.ps (kds B) S) (i+1):=by
 conv=>lhs;unfold kbh
 rw[e]
theorem qH:kao ["_law_till_here","_law_basket","_law_row","_law_bill","_law_prices","_law_owners","_law_marked","_law_place","_law_voucher_here","_law_worth_here","_law_piece"] ["_law_till_here","_law_basket","_law_row"] (kag kcL):=by ac_rfl
theorem kfZ(W:WB K mg d base):FO P w W 10 d.Zh d.Zi ["_law_till_here","_law_basket","_law_row"] (klI d):=by
 exists W.Vy.F,qH
 ·obtain⟨t,b,r,T,B,row,rfl,hT,tok,hB,wf0,hrw,hlt,h64,hf,kk⟩:=h
  obtain⟨dxt,fst,pp,vl,rl,va,ra,ht,t1,t2,t3,t4,hpp,hvl,hva,_⟩:=id hT
  obtain⟨l,ls,⟨dxb,fsb,hb,lb1,lb2,lb3⟩,hls,hL⟩:=id hB
  exists XI,kgC,W
  exists qL,kbk,W
  exists Jc,kfW,W
  exists hr3,3,hr,0
  exists hr4,4,hr,0
  refine⟨_,kac (psl (i:=3) qH.nd (pcl XI hr W.Q8 (kaa (pv 0) (kaa (pv 1) (kaa (pe_op keL (kaN (kaa kai kae)) (kat (r:=kaP K) kau (by rfl) W.B.len b_len (kaa (kak (K:=K) (pv 0) rfl) kae))) (kaa (pv 2) kae))))))
   (kac (psl (i:=4) qH.nd (kaK (r:=ka4 K) kaA (by rfl) W.B.list kbj (kaa (kak (K:=K) (kaX (W.qx.mk' W.qc) qL hr3 rfl W.qc.m W.qx.b .nil pass0 (kaa (pv 1) kae)) rfl) kae)))
   (kac (psl (i:=5) qH.nd (kak (K:=K) (kaX (W.qx.mk' W.qc) qL hr3 rfl W.qc.m W.qx.b .nil pass0 (kaa (pv 1) kae)) rfl))
   (kac (psl (i:=6) qH.nd (pe_op keL (kaN (kaa pe_bl kae)) (kat (r:=kaP K) kau (by rfl) W.B.len b_len (kaa (kak (K:=K) (pv 1) rfl) kae))))
   (kac (kaU PassesOwn.never rfl (kba rfl W.B.range (kaa (kat (r:=kaP K) kau (by rfl) W.B.len b_len (kaa (pv 2) kae)) kae)) (pgn (i:=7) qH.nd)
   (kac (psl (i:=8) qH.nd (pe_ix (r:=rIxL K) kax (kak (K:=K) (pv 0) rfl) (pe_ix (r:=rIxL K) kax (pv 2) (pv 7) (fun _ _=>rfl)) (fun _ _=>rfl)))
   (kac (psl (i:=9) qH.nd (pcl Jc hr4 W.Vx (kaa (pv 0) (kaa (pv 1) (kaa (pv 8) (kaa (pv 4) (kaa (pv 6) kae)))))))
   (kac (keD (ps_if (PW.pt (kbS (kaR (kat (r:=rIsi K) kaQ (by rfl) W.B.isi b_isi (kaa (pv 8) (kaa (kcp (v:=.ref d.c_Off) (by rfl) W.g_Off rfl) kae)))) (kbt (kar op_gt (kak (K:=K) (pv 8) rfl) (pv 9) (kaw _))))) (kaf (kan (pv 7))) (kas)))
   (kaf (kaU PassesOwn.never rfl (kba rfl W.B.range (kaa (kat (r:=kaP K) kau (by rfl) W.B.len b_len (kaa (pv 4) kae)) kae)) (pgn (i:=10) qH.nd)
   (kac (kmv (pv 4) (pv 10) klo (pe_ix (r:=rIxL K) kax (pe_ix (r:=rIxT K) kcG (pe_ix (r:=rIxL K) kax (kak (K:=K) (pv 3) rfl) (pv 7) (fun _ _=>rfl)) kai (fun _ _=>rfl)) (pv 10) (fun _ _=>rfl)) knr set_list)
   (kaf (ps_if (PW.pt (kbS (kaR (kak (K:=K) (kak (K:=K) (pv 8) rfl) rfl)) (kbt (kar op_gt (pe_ix (r:=rIxL K) kax (pe_ix (r:=rIxT K) kcG (pe_ix (r:=rIxL K) kax (kak (K:=K) (pv 3) rfl) (pv 7) (fun _ _=>rfl)) kai (fun _ _=>rfl)) (pv 10) (fun _ _=>rfl)) kai (kaw _))))) (kaf (keE pe_bl (keF (pv 6) (pe_ix (r:=rIxL K) kax (pv 5) (pv 10) (fun _ _=>rfl)) set_list))) (kas))))))))))
   (kaf (kan kaJ)))))),?_⟩
  have lva:=hva.len
  have lls:=hL.len
  have h12:=wf0.nl
  have h8:=tok.nv
  have hones:=kdp T
  have hl:(ones T).length=T.vs.length:=by unfold ones;rw[Nq]
  refine⟨_,rfl,_,rfl,(by show 1<=sizeLine;decide),fun l1 fl1=>?_⟩
  exists H,l1,H1,n1,e1,fl1
  refine⟨_,rfl,t,d.qd,dxt,fst,_,rfl,n1 _ _ ht,W.qd.cl,W.qp,t2,vl,_,rfl, .inl (SqL.of (n1 _ _ hvl)),l1,_,_,rfl,rfl,e1,by omega,(by rw[Nq];omega),ND (kap (by simp;omega)),fun h fh=>?_⟩
  rw[Nq,lva,show(((T.vs.length:Nat):Int)).toNat=T.vs.length by simp,rep1,keA,<-hones]
  exists H1,h,H2,n2,e2,fh
  have s2:=n1.trans n2
  refine⟨_,rfl,t,b,h,r,T,B,ones T,row,rfl,hT.same s2,tok,hB.same s2,wf0,e2,s2 _ _ hrw,hl,hlt,h64,hf,fun HB H3 bl s3 s3' hbl=>?_⟩
  have s03:=(s2.trans s3).trans s3'
  have hfull:=khb (T:=T) (B:=B) row (stnd0 B) hlt
  unfold kiI at hbl
  generalize hRR:billM T B row (stnd0 B)=R at *
  obtain⟨dx,fs,bo,bs,bp,sa,hb1,h2',h3',h4',h5',h6',f1,f2,f3,f4,h7',h8',h9',h10'⟩:=id hbl
  have lsa:=h9'.len
  refine⟨_,rfl,khC (hB.same s03) wf0.nl wf0.ok fun H4 x s4 fx hx=>?_⟩
  obtain⟨o4,p4,mk4,⟨dxs,fss,hxs,l1',l2',l3',l4',l5'⟩,ho4,hp4,_⟩:=id hx
  refine⟨x,d.qc,dxs,fss,_,rfl,hxs,W.qc.cl,W.qw,l2',p4,_,rfl, .inl (SqL.of hp4),fun pr fpr=>?_⟩
  exists H4,pr,H5,n5,e5,fpr
  have s35:=s4.trans n5
  have s05:=s03.trans s35
  obtain⟨lq,lsq,hbq1,hbq2,hbq3⟩:=hB.same s05
  refine⟨_,rfl,kiv hbq1 hbq2 hbq3 wf0.nl wf0.ok fun H6 x6 o6 p6 mk6 s6 fx6 fo6 _ _ hS6 ho6' _ _=>?_⟩
  obtain⟨dx6,fs6,hx6s,l16,_⟩:=hS6
  have ho6:H6 o6=some (.lst ((ownN B.rs).map iV)):=by rw[ho6',kel]
  refine⟨x6,d.qc,dx6,fs6,_,rfl,hx6s,W.qc.cl,W.qC,l16,?_⟩
  have s06:=s05.trans s6
  refine⟨(by show 1<=sizeLine;decide),fun l7 fl7=>?_⟩
  exists H6,l7,H7,n7,e7,fl7
  refine⟨_,rfl,b,d.qg,dxb,fsb,_,rfl,(s06.trans n7) _ _ hb,W.qg.cl,W.Qg,lb1,l,_,rfl, .inl (SqL.of ((s06.trans n7) _ _ hls)),l7,_,_,rfl,rfl,e7,by omega,(by rw[Nq];omega),ND (kap (by simp;omega)),fun mk fmk=>?_⟩
  rw[Nq,lls,show(((B.rs.length:Nat):Int)).toNat=B.rs.length by simp,rep1,show Nu B.rs.length (V.bl false)=(Nu B.rs.length false).map V.bl by rw[List.map_replicate]]
  exists H7,mk,H8,n8,e8,fmk
  have s68:=n7.trans n8
  have s08:=s06.trans s68
  have s38:=(s35.trans s6).trans s68
  have epr:H8 pr=some (.lst ((stnd0 B).pr.map V.int)):=(s6.trans s68) _ _ e5
  have eow:H8 o6=some (.lst ((ownN B.rs).map iV)):=s68 _ _ ho6
  have npm:pr≠mk:=kah ((s6.trans n7) _ _ e5) fmk
  have fpr3:H3 pr=none:=s4.free fpr
  have fmk3:H3 mk=none:=((s35.trans s6).trans n7).free fmk
  have now1:o6≠pr:=(kah e5 fo6).symm
  have now2:o6≠mk:=kah (n7 _ _ ho6) fmk
  have hb8:=s38 _ _ hb1
  have hs8:=s38 _ _ h8'
  have h9c:P2 (fun a t=>StepN HB H8 a t) sa R.1:=h9'.mono fun _ _ z=>z.same s38
  have nbs:∀{y:Addr}{u:HO},H3 y=some u->y≠pr/\y≠mk:=fun e=>⟨kah e fpr3,kah e fmk3⟩
  refine⟨_,rfl,r,_,rfl, .inl (SqL.of (s08 _ _ hrw)),_,rfl,by omega,(by rw[Nq];omega),?_⟩
  rw[Nq,show((row.length:Nat):Int).toNat=row.length by simp]
  refine kbi (fun i σ Hj=>Same H3 Hj/\Hj o6=some (.lst ((ownN B.rs).map iV))/\∃(S:Stnd)(v7 v8 v9 v10:Option V),Hj pr=some (.lst (S.pr.map V.int))/\Hj mk=some (.lst (S.mkd.map V.bl))/\S.ow=ownN B.rs/\Wf T.ps B S/\billM T B (row.drop i) S=(R.1.drop i,R.2)/\kbh T B (row.drop i) S i=kbh T B row (stnd0 B) 0/\σ=[some (.ref t),some (.ref b),some (.ref r),some (.ref bl),some (.ref pr),some (.ref o6),some (.ref mk),v7,v8,v9,v10])
   ⟨s38,eow,stnd0 B,none,none,none,none,epr,e8,rfl,wf0,by rw[M9,M9];exact hRR,by rw[M9],rfl⟩ ?_ ?_
  ·rintro i σ Hj hi ⟨sj,eowj,S,v7,v8,v9,v10,eprj,emkj,how,wf,hbm,hsp,rfl⟩
   rw[Int.zero_add]
   obtain⟨n,en⟩:=at_of hi
   obtain⟨Vc,eV⟩:=at_of (hlt n (Ny en))
   have vo:=tok.vs Vc (Ny eV)
   obtain⟨v,ev⟩:=at_of (xs:=va) (i:=n) (by rw[hva.len];exact at_lt eV)
   have hVc:=hva.get ev eV
   have ed:row.drop i=n::row.drop (i+1):=by
    obtain⟨h1,h2⟩:=NF.mp en
    rw[My h1,h2]
   rw[ed,kji eV] at hsp
   rw[ed,kiJ eV] at hbm
   have hb1':=congrArg Prod.fst hbm
   have hb2':=congrArg Prod.snd hbm
   simp only at hb1' hb2'
   obtain⟨sx,esx⟩:=at_of (xs:=R.1) (i:=i) (by omega)
   have ed2:R.1.drop i=sx::R.1.drop (i+1):=by
    obtain⟨h1,h2⟩:=NF.mp esx
    rw[My h1,h2]
   rw[ed2] at hb1'
   injection hb1' with hsx hb3'
   have s0j:=s03.trans sj
   refine⟨_,rfl,t,d.qd,dxt,fst,_,rfl,s0j _ _ ht,W.qd.cl,W.qp,t2,_,rfl,_,rfl,r,_,_,_,rfl,rfl,SqL.of (s0j _ _ hrw),kaz (v:=iV n) (by rw[Nz,en];rfl),vl,_,_,_,rfl,rfl,SqL.of (s0j _ _ hvl),kaz (v:=.ref v) (by rw[Nz,ev];rfl),?_⟩
   refine⟨_,rfl,_,rfl,_,rfl,_,rfl,_,rfl,t,b,v,pr,mk,Vc,T,B,S,rfl,hT.same s0j,hB.same s0j,hVc.same s0j,eprj,emkj,wf,how,fun H9 s9=>?_⟩
   have s39:=sj.trans s9
   have s09:=s03.trans s39
   obtain⟨mA,dxv,fsv,hv,lvm,hso,hM,hh,htb⟩:=hVc.same s09
   obtain⟨dxm,fsm,hm,m1,m2,m3,m4,m5,m6⟩:=id hM
   have I:=kiA W hh
   generalize hws:(qs S.pr (abt T.ps (kds B) Vc.ms.kind Vc.ms.lone S)).sum=wsum at *
   have hspB:ker Vc T.ps B S=match Vc.so with| .off a=>decide (wsum<a)|_=>false:=by
    unfold ker
    first
     |(rw[hws];done)
     |(rw[hws];cases Vc.so <;> rfl)
   refine⟨fun σ' H'=>H'=H9/\ker Vc T.ps B S=false/\σ'=[some (.ref t),some (.ref b),some (.ref r),some (.ref bl),some (.ref pr),some (.ref o6),some (.ref mk),some (iV i),some (.ref v),some (.int wsum),v10],?_,?_⟩
   ·refine⟨_,rfl,_,_,_,_,rfl, .inr ⟨_,rfl⟩,TyOf.ins hv (cl_of W hh) I.ha I.hn I.ht I.hm,khK W hh,_,rfl,?_⟩
    obtain⟨so,ms⟩:=Vc
    cases so with
    | off am=>
     refine iteT ⟨_,rfl,v,d.c_Off,dxv,fsv,_,rfl,hv,W.c_Off.cl,W.QC,hso,_,rfl,_,_,rfl,rfl,_,rfl,?_⟩
     by_cases hc:wsum<am
     ·rw[show decide (am > wsum)=true from decide_eq_true hc]
      have e:kbh T B row (stnd0 B) 0=some i:=by
       rw[<-hsp,hspB]
       exact if_pos (decide_eq_true hc)
      rw[e] at kk
      exact iteT ⟨_,rfl,kk _ s09⟩
     ·rw[show decide (am > wsum)=false from decide_eq_false hc]
      exact iteF ⟨rfl,by rw[hspB];exact decide_eq_false hc,rfl⟩
    |share _ _=>exact iteF (iteF ⟨rfl,hspB,rfl⟩)
    |cheap _=>exact iteF (iteF ⟨rfl,hspB,rfl⟩)
    |bund _ _=>exact iteF (iteF ⟨rfl,hspB,rfl⟩)
    |carr=>exact iteF (iteF ⟨rfl,hspB,rfl⟩)
   rintro σ' H' ⟨rfl,hno,rfl⟩
   rw[hno,if_neg NB] at hsp
   have lcut:(cutM Vc T.ps (kds B) S).1.length=S.pr.length:=(kkw (ps:=T.ps) (kk:=kds B) wf.nn wf.cg.1 vo.so (fun m hm=>(vo.ms.most m hm).1)).1.1
   have lpr:S.pr.length<=720:=by rw[wf.lp];exact wf.np
   obtain⟨a,ea⟩:=at_of (xs:=sa) (i:=i) (by rw[lsa];exact at_lt esx)
   obtain⟨_,sl,_,ha1,ha2⟩:=h9'.get ea esx
   have epr9:=s9 _ _ eprj
   have emk9:=s9 _ _ emkj
   have eow9:=s9 _ _ eowj
   have atS:atI (sa.map V.ref) ((i:Nat):Int)=some (.ref a):=kaz (by rw[Nz,ea];rfl)
   have hcs:sx.cs=(cutM Vc T.ps (kds B) S).1:=by rw[<-hsx]
   rw[hcs] at ha2
   generalize hcc:cutM Vc T.ps (kds B) S=cc at *
   have e0:S.mkd=(Nw S.mkd.length).map fun l=>S.mkd.getD l false||(Vc.ms.lone&&kbH (S.ow.take 0) cc.1 l):=by
    apply MF
    ·simp
    ·intro j h1 h2
     simp[kbH,h1]
   refine⟨_,rfl,pr,_,rfl, .inl (SqL.of epr9),_,rfl,by omega,(by rw[Nq];omega),?_⟩
   rw[Nq,show((S.pr.length:Nat):Int).toNat=S.pr.length by simp]
   refine kbi (fun j σ Hk=>Same H3 Hk/\Hk o6=some (.lst ((ownN B.rs).map iV))/\Hk pr=some (.lst ((cutTo S.pr cc.1 j).map V.int))/\Hk mk=some (.lst (((Nw S.mkd.length).map fun l=>S.mkd.getD l false||(Vc.ms.lone&&kbH (S.ow.take j) cc.1 l)).map V.bl))/\∃v10:Option V,σ=[some (.ref t),some (.ref b),some (.ref r),some (.ref bl),some (.ref pr),some (.ref o6),some (.ref mk),some (iV i),some (.ref v),some (.int wsum),v10])
    ⟨s39,eow9,epr9,by rw[emk9,<-e0],_,rfl⟩ ?_ ?_
   ·rintro j σ Hk hj ⟨sk,eowk,eprk,emkk,v10',rfl⟩
    rw[Int.zero_add]
    obtain⟨z,ez⟩:=at_of hj
    obtain⟨cz,ecz⟩:=at_of (xs:=cc.1) (i:=j) (by omega)
    obtain⟨ln,eln⟩:=at_of (xs:=S.ow) (i:=j) (by rw[<-wf.lp];exact hj)
    have hln:ln<S.mkd.length:=by rw[wf.lm];exact wf.line eln
    have eg:cc.1.getD j 0=cz:=by rw[NL,ecz];rfl
    have stp:=fun l=>ke4 (cs:=cc.1) (l:=l) eln
    have atP:atI ((cutTo S.pr cc.1 j).map V.int) (j:Int)=some (.int z):=kaz (by rw[Nz,klx lcut hj,ez];rfl)
    have atC:atI (cc.1.map V.int) (j:Int)=some (.int cz):=kaz (by rw[Nz,ecz];rfl)
    have hbk:=sk _ _ hb1
    have hsk:=sk _ _ h8'
    have hak:=sk _ _ ha1
    have hlk:=sk _ _ ha2
    refine⟨_,rfl,_,rfl,pr,_,_,_,rfl,rfl,SqL.of eprk,atP,_,rfl,bl,d.qh,dx,fs,_,rfl,hbk,W.qh.cl,W.Xp,h3',_,rfl,bs,_,_,_,rfl,rfl,SqL.of hsk,atS,a,_,_,_,rfl,rfl,SqT.of hak,rfl,_,rfl,sl,_,_,_,rfl,rfl,SqL.of hlk,atC,_,_,rfl,rfl,pr,_,_,j,rfl,rfl,eprk,kdj (by rw[Nq,kkx lcut];exact hj),?_⟩
    rw[<-Er,ki2 lcut ez ecz]
    have sm:Same H3 (upd Hk pr (.lst ((cutTo S.pr cc.1 (j+1)).map V.int))):=kaq fpr3 sk (nx eprk)
    have eprm:(upd Hk pr (.lst ((cutTo S.pr cc.1 (j+1)).map V.int))) pr=some (.lst ((cutTo S.pr cc.1 (j+1)).map V.int)):=kad
    have emkm:(upd Hk pr (.lst ((cutTo S.pr cc.1 (j+1)).map V.int))) mk=some (.lst (((Nw S.mkd.length).map fun l=>S.mkd.getD l false||(Vc.ms.lone&&kbH (S.ow.take j) cc.1 l)).map V.bl)):=by rw[kaj npm.symm];exact emkk
    have eowm:(upd Hk pr (.lst ((cutTo S.pr cc.1 (j+1)).map V.int))) o6=some (.lst ((ownN B.rs).map iV)):=by rw[kaj now1];exact eowk
    generalize upd Hk pr (.lst ((cutTo S.pr cc.1 (j+1)).map V.int))=Hm at *
    obtain⟨mA',dxv',fsv',hv',lvm',_,hM',hh',_⟩:=hVc.same (s03.trans sm)
    obtain⟨dxm',fsm',hm',_,_,_,_,_,m6'⟩:=id hM'
    refine⟨_,rfl,v,clsOf d Vc.so,dxv',fsv',_,rfl,hv',cl_of W hh',na_of W hh',lvm',mA',d.qf,dxm',fsm',_,rfl,hm',W.qf.cl,W.qU,m6',_,rfl,?_⟩
    cases e:Vc.ms.lone with
    |false=>
     rw[e] at emkm
     simp only[Ew] at emkm⊢
     exact iteF (iteF ⟨sm,eowm,eprm,emkm,_,rfl⟩)
    | true=>
     rw[e] at emkm
     refine iteT ⟨_,rfl,bl,d.qh,dx,fs,_,rfl,sm _ _ hb1,W.qh.cl,W.Xp,h3',_,rfl,bs,_,_,_,rfl,rfl,SqL.of (sm _ _ h8'),atS,a,_,_,_,rfl,rfl,SqT.of (sm _ _ ha1),rfl,_,rfl,sl,_,_,_,rfl,rfl,SqL.of (sm _ _ ha2),atC,_,_,rfl,rfl,_,rfl,?_⟩
     by_cases hc0:(0:Int)<cz
     ·rw[show decide (cz > 0)=true from decide_eq_true hc0]
      refine iteT ⟨_,rfl,_,rfl,_,rfl,o6,_,_,_,rfl,rfl,SqL.of eowm,kaz (v:=iV ln) (by rw[Nz,<-how,eln];rfl),mk,_,_,ln,rfl,rfl,emkm,kdj (by simpa using hln),kaq fmk3 sm (nx emkm),by rw[kaj now2];exact eowm,by rw[kaj npm];exact eprm,?_,_,rfl⟩
      rw[kad,<-Er]
      congr 3
      apply MF
      ·simp
      ·intro y g1 g2
       have hy:y<S.mkd.length:=by simpa using g1
       rw[Dh]
       simp only[Eb,Ek]
       rw[stp y,eg]
       by_cases hjl:ln=y
       ·subst hjl
        simp[hc0]
       ·rw[if_neg hjl,show(ln==y)=false by simpa using hjl]
        simp
     ·rw[show decide (cz > 0)=false from decide_eq_false hc0]
      refine iteF ⟨sm,eowm,eprm,?_,_,rfl⟩
      have st':∀l,kbH (S.ow.take (j+1)) cc.1 l=kbH (S.ow.take j) cc.1 l:=fun l=>by rw[stp l,eg,decide_eq_false hc0,Bool.and_false,Dr]
      simp only[st']
      exact emkm
   ·rintro σ Hk ⟨sk,eowk,eprk,emkk,v10',rfl⟩
    have e1:cutTo S.pr cc.1 S.pr.length=N2 (· - ·) S.pr cc.1:=by
     unfold cutTo
     rw[MG,Ml,MC (by rw[ML];omega)]
    rw[e1] at eprk
    rw[MC (by rw[wf.lp];exact Nt _)] at emkk
    have ea1:(aftM Vc T.ps (kds B) S).pr=N2 (· - ·) S.pr cc.1:=by show N2 _ _ (cutM Vc T.ps (kds B) S).1=_;rw[hcc]
    have ea2:(aftM Vc T.ps (kds B) S).mkd=(Nw S.mkd.length).map fun l=>S.mkd.getD l false||(Vc.ms.lone&&kbH S.ow cc.1 l):=by show(Nw S.mkd.length).map (fun l=>S.mkd.getD l false||(Vc.ms.lone&&kbH S.ow (cutM Vc T.ps (kds B) S).1 l))=_;rw[hcc]
    refine⟨sk,eowk,aftM Vc T.ps (kds B) S,_,_,_,_,by rw[ea1];exact eprk,by rw[ea2];exact emkk,how,wf.after vo,?_,hsp,rfl⟩
    rw[<-hb3',<-hb2']
  ·rintro σ Hj ⟨sj,eowj,S,v7,v8,v9,v10,eprj,emkj,how,wf,hbm,hsp,rfl⟩
   rw[MG] at hsp
   have e:kbh T B row (stnd0 B) 0=none:=hsp.symm
   rw[e] at kk
   exact kk _ (s03.trans sj)
noncomputable def keyS(ms:List Int):Str:=PySem.Txt.join " " (ms.map fun i=>(Str.ofString (toString i)))
noncomputable def tab55:List (List Int):=[[],[0],[1],[2],[3],[0,1],[0,2],[0,3],[1,2],[1,3],[2,3],[0,1,2],[0,1,3],[0,2,3],[1,2,3],[0,1,2,3]]
theorem kmg:∀a∈tab55,∀b∈tab55,keyS a=keyS b->a=b:=by decide +kernel
theorem sel4(f:Int->Bool):([0,1,2,3]:List Int).filter f∈tab55:=by
 simp only[MT,Ep]
 cases f 0 <;> cases f 1 <;> cases f 2 <;> cases f 3 <;> decide
theorem kjc{u:List Nat}(hn:u.Nodup)(h4:∀n∈u,n<4){ms:List Int}(hp:ms.Perm (u.map fun n:Nat=>(n:Int)))(hs:ms.Pairwise (·<=·)):ms∈tab55:=by
 have hnd:ms.Nodup:=by
  refine hp.nodup_iff.mpr (EM.mpr (hn.imp fun {a b} hab e=>hab ?_))
  omega
 have e:ms=([0,1,2,3]:List Int).filter fun x=>decide (x∈ms):=by
  refine kfF ((List.perm_ext_iff_of_nodup hnd ?_).mpr fun x=>?_) hs ?_
  ·exact MR.filter _ (by decide)
  ·rw[N5]
   refine⟨fun hx=>⟨?_,decide_eq_true hx⟩,fun hx=>of_decide_eq_true hx.2⟩
   obtain⟨n,hn',rfl⟩:=NO.mp (hp.mem_iff.mp hx)
   have:=h4 n hn'
   simp only[NS,MJ,or_false]
   omega
  ·exact MR.filter _ (by decide)
 rw[e]
 exact sel4 _
noncomputable def KeyT(u:List Nat)(k:Key):Prop:=∃ms:List Int,k=.inr (keyS ms)/\ms.Perm (u.map fun(n:Nat)=>(n:Int))/\ms.Pairwise (·<=·)
structure Nd4 (u:List Nat):Prop where
 nd:u.Nodup
 lt:∀n∈u,n<4
theorem KeyT.perm{u v:List Nat}{k:Key}(hu:Nd4 u)(hv:Nd4 v):KeyT u k->KeyT v k->u.Perm v:=fun⟨m1,e1,p1,s1⟩ ⟨m2,e2,p2,s2⟩=>by
 rw[e1] at e2
 injection e2 with e2
 have e:=kmg m1 (kjc hu.nd hu.lt p1 s1) m2 (kjc hv.nd hv.lt p2 s2) e2
 subst e
 exact kiu (p1.symm.trans p2)
theorem KeyT.of{u v:List Nat}{k:Key}(h:u.Perm v):KeyT u k->KeyT v k:=by rintro⟨m,e,p,s⟩;exact⟨m,e,p.trans (h.map _),s⟩
theorem KeyT.one{u:List Nat}{k k':Key}:KeyT u k->KeyT u k'->k=k':=fun⟨m1,e1,p1,s1⟩ ⟨m2,e2,p2,s2⟩=>by rw[e1,e2,kfF (p1.trans p2.symm) s1 s2]
noncomputable def FstT(H:Hp)(wa:List Addr)(qs:List (List Nat×Stnd))(i:Nat)(kvs:List (Key×V)):Prop:=∀k:Key,
 (valV kvs k=none/\∀j q,j<i->qs[j]?=some q->¬KeyT q.1 k)∨
 ∃(j:Nat)(q:List Nat×Stnd)(w a:Addr),j<i/\qs[j]?=some q/\wa[j]?=some w/\KeyT q.1 k/\valV kvs k=some (.ref a)/\H a=some (.tup [.ref w, .int (q.2.pr.sum+q.2.cg)])/\∀j' q',j'<j->qs[j']?=some q'->¬KeyT q'.1 k
section
variable {H H':Hp} {wa:List Addr} {qs:List (List Nat×Stnd)} {i:Nat} {kvs:List (Key×V)}
theorem FstT.same(h:FstT H wa qs i kvs)(s:Same H H'):FstT H' wa qs i kvs:=fun k=>by
 rcases h k with g|⟨j,q,w,a,g1,g2,g3,g4,g5,g6,g7⟩
 ·exact .inl g
 ·exact .inr ⟨j,q,w,a,g1,g2,g3,g4,g5,s _ _ g6,g7⟩
theorem FstT.put{f:Addr}{kv kv2:List (Key×V)}(h:FstT H wa qs i kvs)(e:H f=some (.dK kv)):FstT (upd H f (.dK kv2)) wa qs i kvs:=fun k=>by
 rcases h k with g|⟨j,q,w,a,g1,g2,g3,g4,g5,g6,g7⟩
 ·exact .inl g
 ·exact .inr ⟨j,q,w,a,g1,g2,g3,g4,g5,by rw[kaj (ne_of g6 e (by intro z;cases z))];exact g6,g7⟩
theorem FstT.find(hq:∀q∈qs,Nd4 q.1){j:Nat}{q r:List Nat×Stnd}{k:Key}(hm:q∈qs)(hk:KeyT q.1 k)(e:qs[j]?=some r)(hr:KeyT r.1 k)(hn:∀j' q',j'<j->qs[j']?=some q'->¬KeyT q'.1 k):qs.find? (fun r=>r.1.isPerm q.1)=some r:=
 khM e (EW.mpr (hr.perm (hq r (Ny e)) (hq q hm) hk)) fun j' q' hj e'=>by
  cases c:q'.1.isPerm q.1 with
  |false=>rfl
  |true=>exact(hn j' q' hj e' (hk.of (EW.mp c).symm)).elim
theorem FstT.old(hq:∀q∈qs,Nd4 q.1){q:List Nat×Stnd}{k0:Key}{v:V}(h:FstT H wa qs i kvs)(eq:qs[i]?=some q)(hk:KeyT q.1 k0)(hv:valV kvs k0=some v):
  ∃(r:List Nat×Stnd)(j:Nat)(w a:Addr),wa[j]?=some w/\qs[j]?=some r/\v=.ref a/\H a=some (.tup [.ref w, .int (r.2.pr.sum+r.2.cg)])/\qs.find? (fun r=>r.1.isPerm q.1)=some r/\FstT H wa qs (i+1) kvs:=by
 rcases h k0 with⟨hn,_⟩|⟨j,r,w,a,hj,e1,e2,hr,e3,e4,hn⟩
 ·rw[hn] at hv;cases hv
 ·rw[hv] at e3
  cases e3
  refine⟨r,j,w,a,e2,e1,rfl,e4,FstT.find hq (Ny eq) hk e1 hr hn,fun k=>?_⟩
  rcases h k with⟨g1,g2⟩|⟨j2,r2,w2,a2,hj2,g⟩
  ·refine .inl ⟨g1,fun j3 q3 hj3 e=>?_⟩
   rcases EX.mp hj3 with c|c
   ·exact g2 j3 q3 c e
   ·subst c
    rw[eq] at e
    cases e
    intro z
    exact g2 j r hj e1 (KeyT.of (hk.perm (hq q (Ny eq)) (hq r (Ny e1)) hr) z)
  ·exact .inr ⟨j2,r2,w2,a2,by omega,g⟩
theorem FstT.new(hq:∀q∈qs,Nd4 q.1){q:List Nat×Stnd}{w a:Addr}{k0:Key}(h:FstT H wa qs i kvs)(eq:qs[i]?=some q)(ew:wa[i]?=some w)(hk:KeyT q.1 k0)(hv:valV kvs k0=none)(ha:H a=some (.tup [.ref w, .int (q.2.pr.sum+q.2.cg)])):
  qs.find? (fun r=>r.1.isPerm q.1)=some q/\FstT H wa qs (i+1) (putK kvs k0 (.ref a)):=by
 rcases h k0 with⟨_,hn⟩|⟨j,r,w,a,hj,e1,e2,hr,e3,e4,hn⟩
 ·refine⟨FstT.find hq (Ny eq) hk eq hk hn,fun k=>?_⟩
  rw[kfD]
  by_cases c:k=k0
  ·subst c
   rw[if_pos rfl]
   exact .inr ⟨i,q,w,a,by omega,eq,ew,hk,rfl,ha,hn⟩
  ·rw[if_neg c]
   rcases h k with⟨g1,g2⟩|⟨j2,r2,w2,a2,hj2,g⟩
   ·refine .inl ⟨g1,fun j3 q3 hj3 e=>?_⟩
    rcases EX.mp hj3 with c3|c3
    ·exact g2 j3 q3 c3 e
    ·subst c3
     rw[eq] at e
     cases e
     intro z
     exact c (z.one hk)
   ·exact .inr ⟨j2,r2,w2,a2,by omega,g⟩
 ·rw[hv] at e3;cases e3
end
theorem kha{S':Stnd}:∀{o u:List Nat}{S:Stnd},walkM T B hand o u S=(u++o,S')->(billM T B o S).2=S'
 |[],u,S,h=>by
  unfold walkM at h
  exact(Prod.mk.inj h).2
 | n::o,u,S,h=>by
  have no:∀S,(u,S)≠(u++n::o,S'):=fun S e=>by
   have:=congrArg MP (Prod.mk.inj e).1
   simp at this
  unfold walkM at h
  unfold billM
  cases e:T.vs[n]? with
  |none=>rw[e] at h;exact absurd h (no _)
  | some V=>
   rw[e] at h
   simp only at h⊢
   by_cases c:dueM V T B hand u S n=.non
   ·rw[if_pos c] at h
    exact kha (by rw[h,Mg];rfl)
   ·rw[if_neg c] at h
    exact absurd h (no _)
theorem ki5{u:List Nat}{S:Stnd}(h:walkM T B hand u [] (stnd0 B)=(u,S)):(kiI T B u).total=S.pr.sum+S.cg:=by
 have e:=kha (u:=[]) h
 show(billM T B u (stnd0 B)).2.pr.sum+(billM T B u (stnd0 B)).2.cg=_
 rw[e]
structure RowOk (T:TillD) (B:Bask) (q:List Nat×Stnd):Prop where
 nd:Nd4 q.1
 wk:walkM T B (ones T) q.1 [] (stnd0 B)=(q.1,q.2)
 fl:kcw T B (ones T) q.1=none
 lt:∀n∈q.1,n<T.vs.length
 le:q.1.length<64
noncomputable def UnlAt(H:Hp)(v:V):Option (List Nat×List Nat)->Prop
 |none=>v=.non
 |some (o,o2)=>∃p a a2,v=.ref p/\H p=some (.tup [.ref a, .ref a2])/\H a=some (.lst (o.map iV))/\H a2=some (.lst (o2.map iV))/\o.length<64/\o2.length<64
inductive klH (d:D) (vs:List V) (H:Hp) (Q:VK) (E_:XK):Prop
 |ct (t b rl:Addr)(T:TillD)(B:Bask)(ra:List Addr)(qs:List (List Nat×Stnd))(_:vs=[.ref t, .ref b, .ref rl])(_:TillIs d H t T)(_:kbJ T)(_:BaskIs d.qe d.qg H b B)(_:Wf T.ps B (stnd0 B))(_:H rl=some (.lst (ra.map V.ref)))(_:P2 (fun a q=>H a=some (.lst (q.1.map iV))) ra qs)(_:(∀q∈qs,RowOk T B q))(_:qs.length<=65)(_:∀(H':Hp)(v:V),Same H H'->UnlAt H' v (unlW qs qs)->Q v H'):klH d vs H Q E_
theorem qZ:kao ["_law_till_here","_law_basket","_law_rows_here","_law_hand","_law_firsts","_law_row","_law_total","_law_key"] ["_law_till_here","_law_basket","_law_rows_here"] (kag kcB):=by ac_rfl
theorem kfg(W:WB K mg d base):FO P w W 10 d.Zj d.Zk ["_law_till_here","_law_basket","_law_rows_here"] (klH d):=by
 exists W.Vz.F,qZ
 ·obtain⟨t,b,rl,T,B,ra,qs,rfl,hT,tok,hB,wf0,hrl,hra,hqs,h65,kk⟩:=h
  obtain⟨dxt,fst,pp,vl,rl',va,ra',ht,t1,t2,t3,t4,hpp,hvl,hva,_⟩:=id hT
  exists XI,kgC,W
  refine⟨_,kac (psl (i:=3) qZ.nd (pe_op keL (kaN (kaa kai kae)) (kat (r:=kaP K) kau (by rfl) W.B.len b_len (kaa (kak (K:=K) (pv 0) rfl) kae))))
   (kac (psl (i:=4) qZ.nd kkY)
   (kac (kaU PassesOwn.never rfl (kaE (K:=K) (pv 2)) (pgn (i:=5) qZ.nd)
   (kac (psl (i:=6) qZ.nd (kak (K:=K) (pcl XI hr W.Q8 (kaa (pv 0) (kaa (pv 1) (kaa (pv 3) (kaa (pv 5) kae))))) rfl))
   (kac (psl (i:=7) qZ.nd (pe_bm PySem.F.plainAttrs_str PySem.F.slot_str_join PySem.F.type_str_join kmH kb5 (kaa (kbz (N:=["_law_voucher_here"]) (CompScope.plain rfl (by decide +kernel) (by decide +kernel) (by decide +kernel) (nd1 _)) rfl (kaE (K:=K) (kat (r:=kjK K) kd2 (by rfl) W.B.sorted kge (kaa (pv 5) kae))) (fun _ _ _ _=>pgn (i:=0) (nd1 _)) (fun _ _ _ _=>(kaK kg3 (by rfl) W.B.str b_str (kaa (pv 0) kae)))) kae)))
   (kac (keD (ps_if (kna (kjS (hu_of hr) (pv 7) (pv 4))) (kaf (kmu (hu_of hr) (pv 4) (pv 7) (kbu (kaa (pv 5) (kaa (pv 6) kae))) rfl)) (kas)))
   (kaf (ps_if (kar op_ne (pe_ix (r:=rIxT K) kcG (kjR (hu_of hr) (pv 4) (pv 7) (fun _ _=>rfl)) kai (fun _ _=>rfl)) (pv 6) (kaw _)) (kaf (kan (kbu (kaa (pe_ix (r:=rIxT K) kcG (kjR (hu_of hr) (pv 4) (pv 7) (fun _ _=>rfl)) kai (fun _ _=>rfl)) (kaa (pv 5) kae))))) (kas)))))))
   (kaf (kan kaJ)))),?_⟩
  have lva:=hva.len
  have lra:=hra.len
  have h8:=tok.nv
  have hones:=kdp T
  have hl:(ones T).length=T.vs.length:=by unfold ones;rw[Nq]
  have hq4:∀q∈qs,Nd4 q.1:=fun q hq=>(hqs q hq).nd
  generalize eR:unlW qs qs=R at kk
  refine⟨(by show 1<=sizeLine;decide),fun l1 fl1=>?_⟩
  exists H,l1,H1,n1,e1,fl1
  refine⟨_,rfl,t,d.qd,dxt,fst,_,rfl,n1 _ _ ht,W.qd.cl,W.qp,t2,vl,_,rfl, .inl (SqL.of (n1 _ _ hvl)),l1,_,_,rfl,rfl,e1,by omega,(by rw[Nq];omega),ND (kap (by simp;omega)),fun h fh=>?_⟩
  rw[Nq,lva,show(((T.vs.length:Nat):Int)).toNat=T.vs.length by simp,rep1,keA,<-hones]
  exists H1,h,H2,n2,e2,fh
  have s2:=n1.trans n2
  refine fun f ff=>?_
  exists H2,f,H3,n3,e3,ff
  have s3:=s2.trans n3
  have e23:=n3 _ _ e2
  have ff':H f=none:=s2.free ff
  refine⟨_,rfl,rl,rfl,⟨_,SqL.of (s3 _ _ hrl)⟩,ka3 (xs:=ra.map V.ref) (fun i σ H'=>Same H H'/\H' h=some (.lst ((ones T).map V.int))/\∃(kvs:List (Key×V))(v5 v6 v7:Option V),H' f=some (.dK kvs)/\kvs.length<=i/\FstT H' ra qs i kvs/\unlW qs (qs.drop i)=R/\σ=[some (.ref t),some (.ref b),some (.ref rl),some (.ref h),some (.ref f),v5,v6,v7])
   ⟨s3,e23,[],none,none,none,e3,Nt _,fun k=>.inl ⟨rfl,fun j q hj=>by omega⟩,eR,rfl⟩ (fun i σ H' _ h=>SqL.of (h.1 _ _ hrl)) ?_ ?_⟩
  ·rintro i y σ Hi hy ⟨si,ehi,kvs,v5,v6,v7,ef,lk,hF,hR,rfl⟩
   obtain⟨oa,eoa,rfl⟩:=kbR hy
   obtain⟨q,eq,hoa⟩:=hra.at eoa
   have hi:=at_lt eq
   have rok:=hqs q (Ny eq)
   have ed:qs.drop i=q::qs.drop (i+1):=by
    obtain⟨h1,h2⟩:=NF.mp eq
    rw[My h1,h2]
   rw[ed] at hR
   unfold unlW at hR
   refine⟨_,rfl,_,rfl,_,rfl,_,rfl,t,b,h,oa,T,B,ones T,q.1,rfl,hT.same si,tok,hB.same si,wf0,ehi,si _ _ hoa,hl,rok.lt,rok.le,rok.fl,fun HB H4 bl s4 s4' hbl=>?_⟩
   obtain⟨dx,fs,bo,bs,bp,sa,hb1,h2',h3',h4',h5',h6',_⟩:=id hbl
   have htot:=ki5 rok.wk
   rw[htot] at h6'
   refine⟨bl,d.qh,dx,fs,_,rfl,hb1,W.qh.cl,W.VR,h6',?_⟩
   have si4:=s4.trans s4'
   have s04:=si.trans si4
   clear hbl
   have ho4:=s04 _ _ hoa
   have ho4':H4 oa=some (.lst ((q.1.map fun(n:Nat)=>(n:Int)).map V.int)):=by rw[ho4,NQ];rfl
   refine⟨rfl,_,rfl,oa,_,rfl,SqL.of ho4',(by rw[Nq];exact rok.le),fun l3 ms fl3 hpm hso=>?_⟩
   exists H4,l3,H5,n5,e5,fl3
   have lms:ms.length<64:=by
    have:=hpm.length_eq
    rw[Nq] at this
    have:=rok.le
    omega
   have hms4:∀z∈ms,0<=z/\z<4:=fun z hz=>by
    obtain⟨n,hn,rfl⟩:=NO.mp (hpm.mem_iff.mp hz)
    have:=rok.nd.lt n hn
    omega
   refine⟨l3,rfl,⟨_,SqL.of e5⟩,kaY (xs:=ms.map V.int) (fun j σ ys Hy=>Hy=H5/\ys=((ms.take j).map fun i=>(Str.ofString (toString i))).map V.str/\∃v,σ=[v]) ⟨rfl,rfl,none,rfl⟩ (by rw[Nq];exact ND (kap (by omega))) ?_ ?_ ?_⟩
   ·rintro j σ ys Hy hj ⟨rfl,rfl,_⟩
    refine⟨SqL.of e5,?_⟩
    rw[Nq] at hj⊢
    rw[Nq,NK]
    omega
   ·rintro j y σ ys Hy hy ⟨rfl,rfl,v',rfl⟩
    obtain⟨z,ez,rfl⟩:=int_at hy
    have hz:=hms4 z (Ny ez)
    refine⟨_,rfl,z,rfl,?_,rfl,?_,_,rfl⟩
    ·rcases(by omega:z.natAbs=0∨z.natAbs=1∨z.natAbs=2∨z.natAbs=3) with e|e|e|e <;> rw[e] <;> decide
    ·rw[take_snoc ez,NC,NC]
     rfl
   rintro σ ys Hy ⟨rfl,rfl,v',rfl⟩ D hD
   rw[Nq,NY]
   exists Hy,D,H6,n6,e6,hD
   have htab:=kjc rok.nd.nd rok.nd.lt hpm hso
   have hjb:((ms.map fun i=>(Str.ofString (toString i))).map (·.length)).sum+(ms.map fun i=>(Str.ofString (toString i))).length*(Str.ofString " ").length<=16777216:=by
    have:∀m∈tab55,((m.map fun i=>(Str.ofString (toString i))).map (·.length)).sum+(m.map fun i=>(Str.ofString (toString i))).length*(Str.ofString " ").length<=16777216:=by decide +kernel
    exact this ms htab
   refine⟨_,D,_,rfl,rfl,SqL.of e6,hjb,?_⟩
   have hk:KeyT q.1 (.inr (keyS ms)):=⟨ms,rfl,hpm,hso⟩
   have s46:=n5.trans n6
   have s06:=s04.trans s46
   have si6:=si4.trans s46
   have hF6:=hF.same si6
   have ef6:=si6 _ _ ef
   have eh6:=si6 _ _ ehi
   refine⟨fun σ' H'=>Same H H'/\H' h=some (.lst ((ones T).map V.int))/\∃(kv2:List (Key×V))(r:List Nat×Stnd)(j:Nat)(w a:Addr),H' f=some (.dK kv2)/\kv2.length<=i+1/\FstT H' ra qs (i+1) kv2/\valV kv2 (.inr (keyS ms))=some (.ref a)/\H' a=some (.tup [.ref w, .int (r.2.pr.sum+r.2.cg)])/\ra[j]?=some w/\qs[j]?=some r/\qs.find? (fun r=>r.1.isPerm q.1)=some r/\σ'=[some (.ref t),some (.ref b),some (.ref rl),some (.ref h),some (.ref f),some (.ref oa),some (.int (q.2.pr.sum+q.2.cg)),some (.str (keyS ms))],?_,?_⟩
   ·refine⟨_,rfl,_,rfl,f,_,rfl,DGet.k (k:=.inr (keyS ms)) ef6,_,rfl,?_⟩
    cases ev:valV kvs (.inr (keyS ms)) with
    |some v=>
     obtain⟨r,j,w,a,g1,g2,rfl,g3,g4,g5⟩:=hF6.old hq4 eq hk ev
     exact iteF ⟨s06,eh6,kvs,r,j,w,a,ef6,by omega,g5,ev,g3,g1,g2,g4,rfl⟩
    |none=>
     refine iteT ⟨_,rfl,_,rfl,(by show 2<=sizeLine;decide),fun a fa=>?_⟩
     exists H6,a,H7,n7,e7,fa
     have ef7:=n7 _ _ ef6
     obtain⟨g1,g2⟩:=(hF6.same n7).new hq4 eq eoa hk ev e7
     refine⟨_,rfl,_,rfl,f,_,rfl,DPut.k (k:=.inr (keyS ms)) ef7 (kap (by omega)),?_⟩
     refine⟨kaq ff' (s06.trans n7) (nx ef7),by rw[kaj (ne_of (n7 _ _ eh6) ef7 (by intro z;cases z))];exact n7 _ _ eh6,_,q,i,oa,a,kad,Nx (kcb _ _ _) (by omega),g2.put ef7,by rw[kfD,if_pos rfl],by rw[kaj (ne_of e7 ef7 (by intro z;cases z))];exact e7,eoa,eq,g1,rfl⟩
   rintro σ' H8 ⟨s8,eh8,kv2,r,j,w,a,ef8,lk8,hF8,ev8,ea8,ew8,er8,hfd,rfl⟩
   rw[hfd] at hR
   simp only at hR
   have dg:DGet H8 f (.str (keyS ms)) (some (.ref a)):=by rw[<-ev8];exact DGet.k (k:=.inr (keyS ms)) ef8
   refine⟨_,rfl,_,rfl,f,_,rfl,dg,a,_,_,_,rfl,rfl,SqT.of ea8,rfl,_,rfl,rfl,_,rfl,?_⟩
   by_cases c:r.2.pr.sum+r.2.cg=q.2.pr.sum+q.2.cg
   ·rw[if_pos c] at hR
    rw[show(!decide (V.int (r.2.pr.sum+r.2.cg)=V.int (q.2.pr.sum+q.2.cg)))=false by rw[c];simp]
    exact iteF ⟨s8,eh8,kv2,_,_,_,ef8,lk8,hF8,hR,rfl⟩
   ·rw[if_neg c] at hR
    rw[show(!decide (V.int (r.2.pr.sum+r.2.cg)=V.int (q.2.pr.sum+q.2.cg)))=true by simp[c]]
    obtain⟨r',er',hw⟩:=hra.at ew8
    rw[er8] at er'
    cases er'
    refine iteT ⟨_,rfl,_,rfl,f,_,rfl,dg,a,_,_,_,rfl,rfl,SqT.of ea8,rfl,_,rfl,(by show 2<=sizeLine;decide),fun p8 fp8=>?_⟩
    exists H8,p8,H9,n9,e9,fp8
    refine kk H9 (.ref p8) (s8.trans n9) ?_
    rw[<-hR]
    exact⟨p8,w,oa,rfl,e9,(s8.trans n9) _ _ hw,(s8.trans n9) _ _ hoa,(hqs r (Ny er8)).le,rok.le⟩
  ·rintro σ H' ⟨si,ehi,kvs,v5,v6,v7,ef,lk,hF,hR,rfl⟩
   rw[Nq,lra,MG] at hR
   refine kk H' .non si ?_
   rw[<-hR]
   rfl
noncomputable def ItmD(dl:Addr)(H:Hp)(v:V):Itm->Prop
 | .l o=>∃a,v=.ref a/\a≠dl/\o.length<64/\H a=some (.lst (o.map iV))
 | .n k=>v=iV k
noncomputable def DuAt(dl:Addr)(H:Hp)(v:V):Option (Nat×List Itm)->Prop
 |none=>v=.non
 |some (i,is)=>∃p vs,v=.ref p/\H p=some (.tup (iV i::vs))/\P2 (fun v i=>ItmD dl H v i) vs is
theorem ItmD.same{dl:Addr}{H H':Hp}{v:V}(s:Same H H'):∀{i:Itm},ItmD dl H v i->ItmD dl H' v i
 | .l _,⟨a,e,n,m,h⟩=>⟨a,e,n,m,s _ _ h⟩
 | .n _,h=>h
theorem DuAt.same{dl:Addr}{H H':Hp}{v:V}(s:Same H H'):∀{o:Option (Nat×List Itm)},DuAt dl H v o->DuAt dl H' v o
 |none,h=>h
 |some (_,_),⟨p,vs,e,h,r⟩=>⟨p,vs,e,s _ _ h,r.mono fun _ _ z=>z.same s⟩
theorem ItmD.put{dl:Addr}{H:Hp}{v:V}{o:HO}:∀{i:Itm},ItmD dl H v i->ItmD dl (upd H dl o) v i
 | .l _,⟨a,e,n,m,h⟩=>⟨a,e,n,m,by rw[kaj n];exact h⟩
 | .n _,h=>h
theorem DuAt.put{dl:Addr}{H:Hp}{v:V}{xs:List V}{u:HO}(hd:H dl=some (.lst xs)):∀{o:Option (Nat×List Itm)},DuAt dl H v o->DuAt dl (upd H dl u) v o
 |none,h=>h
 |some (_,_),⟨p,vs,e,h,r⟩=>⟨p,vs,e,by rw[kaj (ne_of h hd (by intro z;cases z))];exact h,r.mono fun _ _ z=>z.put⟩
theorem DuAt.kind{dl:Addr}{H:Hp}{v:V}:∀{o:Option (Nat×List Itm)},DuAt dl H v o->(o=none/\v=.non)∨(o.isSome=true/\∃p,v=.ref p)
 |none,h=>.inl ⟨rfl,h⟩
 |some (_,_),⟨p,_,e,_⟩=>.inr ⟨rfl,p,e⟩
structure DuL (dl:Addr) (H:Hp) (vs:List V) (N:Nat) (F:Nat->Option (Nat×List Itm)):Prop where
 hd:H dl=some (.lst vs)
 len:vs.length=N
 at_:∀j x,vs[j]?=some x->DuAt dl H x (F j)
theorem DuL.same{dl:Addr}{H H':Hp}{vs:List V}{N:Nat}{F:Nat->Option (Nat×List Itm)}(h:DuL dl H vs N F)(s:Same H H'):DuL dl H' vs N F:=⟨s _ _ h.hd,h.len,fun j x e=>(h.at_ j x e).same s⟩
theorem DuL.cong{dl:Addr}{H:Hp}{vs:List V}{N:Nat}{F G:Nat->Option (Nat×List Itm)}(h:DuL dl H vs N F)(e:∀j,j<N->F j=G j):DuL dl H vs N G:=⟨h.hd,h.len,fun j x ex=>by rw[<-e j (by rw[<-h.len];exact at_lt ex)];exact h.at_ j x ex⟩
theorem DuL.set{dl:Addr}{H:Hp}{vs:List V}{N:Nat}{F:Nat->Option (Nat×List Itm)}(h:DuL dl H vs N F){j:Nat}{v:V}{z:Nat×List Itm}(hv:DuAt dl H v (some z)):DuL dl (upd H dl (.lst (vs.set j v))) (vs.set j v) N (fun y=>if y=j then some z else F y):=by
 refine⟨kad,by rw[Ez];exact h.len,fun y x ex=>?_⟩
 rw[List.getElem?_set] at ex
 by_cases c:j=y
 ·subst c
  rw[if_pos rfl] at ex
  rw[if_pos rfl]
  split at ex
  ·cases ex
   exact hv.put h.hd
  ·cases ex
 ·rw[if_neg c] at ex
  rw[if_neg (fun z=>c z.symm)]
  exact(h.at_ y x ex).put h.hd
theorem DuL.row{dl:Addr}{H:Hp}{vs:List V}{N:Nat}{F:Nat->Option (Nat×List Itm)}(h:DuL dl H vs N F)(hN:0<N){a:Addr}{o:List Nat}(ha:H a=some (.lst (o.map iV))):a≠dl:=fun e=>by
 rw[e,h.hd] at ha
 injection ha with ha
 injection ha with ha
 obtain⟨x,ex⟩:=at_of (xs:=vs) (i:=0) (by rw[h.len];exact hN)
 have hx:=h.at_ 0 x ex
 rw[ha] at ex
 obtain⟨n,_,rfl⟩:=kbo ex
 rcases hx.kind with⟨_,z⟩|⟨_,p,z⟩
 ·cases z
 ·cases z
theorem ke0{R:Bask->List (List Nat×Stnd)->Option (List Itm)}{T:TillD}{B:Bask}:∀(xs:List Bask)(k:Nat),kbg R T (xs++[B]) k=(kbg R T xs k).or ((R B (waysM T B (ones T) 10 [] (stnd0 B))).map fun is=>(k+xs.length,is))
 |[],k=>by
  show kbg R T [B] k=none.or _
  unfold kbg
  cases R B (waysM T B (ones T) 10 [] (stnd0 B)) with
  |none=>rfl
  |some is=>rfl
 | C::xs,k=>by
  rw[MK]
  unfold kbg
  cases R C (waysM T C (ones T) 10 [] (stnd0 C)) with
  |some is=>rfl
  |none=>
   show kbg R T (xs++[B]) (k+1)=(kbg R T xs (k+1)).or _
   rw[ke0 xs (k+1),NW,show k+1+xs.length=k+(xs.length+1) by omega]
theorem kfj{n:Nat}{q:List Nat×Stnd}:∀(qs:List (List Nat×Stnd)),withW n (qs++[q])=(withW n qs).or (if q.1.contains n=true then some q.1 else none)
 |[]=>by
  show withW n [q]=none.or _
  unfold withW withW
  split <;> simp_all
 |r::qs=>by
  rw[MK]
  unfold withW
  split
  ·rfl
  ·exact kfj qs
theorem keq{T:TillD}{B:Bask}{q:List Nat×Stnd}:∀(qs:List (List Nat×Stnd)),kbE T B (qs++[q])=(kbE T B qs).or ((kbh T B q.1 (stnd0 B) 0).map fun p=>(q.1,p))
 |[]=>by
  show kbE T B [q]=none.or _
  unfold kbE kbE
  cases kbh T B q.1 (stnd0 B) 0 <;> rfl
 |r::qs=>by
  rw[MK]
  unfold kbE
  cases kbh T B r.1 (stnd0 B) 0 with
  |some p=>rfl
  |none=>exact keq qs
theorem khX{T:TillD}{B:Bask}(h4:T.vs.length<=4):∀(k:Nat)(used:List Nat)(S:Stnd),walkM T B (ones T) used [] (stnd0 B)=(used,S)->(∀n∈used,n<T.vs.length)->used.Nodup->used.length+k<=60->∀q∈waysM T B (ones T) k used S,RowOk T B q
 |0,_,_,_,_,_,_,q,h=>by simp[waysM] at h
 | k +1,used,S,hw,hm,hd0,hk,q,h=>by
  unfold waysM at h
  rcases N6.mp h with h|h
  ·cases e:(onlyM T.rs used).isNone with
   |false=>rw[e] at h;simp at h
   |true=>
    rw[e,if_pos rfl] at h
    have eq:q=(used,S):=by simpa using h
    rw[eq]
    refine⟨⟨hd0,fun n hn=>NT (hm n hn) h4⟩,hw,?_,hm,by show used.length<64;omega⟩
    unfold kcw
    rw[hw]
    simp only
    rw[if_neg (Mi _),Option.isNone_iff_eq_none.mp e]
    rfl
  ·obtain⟨n,hn,h2⟩:=EY.mp h
   have hc:=(N5.mp hn).2
   obtain⟨hn1,hn2⟩:=kcZ hc
   obtain⟨V,hV⟩:=at_of hn1
   unfold canM at hc
   rw[hV] at hc
   have hd:dueM V T B (ones T) used S n=.non:=of_decide_eq_true hc
   rw[hV] at h2
   have hw':walkM T B (ones T) (used++[n]) [] (stnd0 B)=(used++[n],aftM V T.ps (kds B) S):=by
    rw[keg used [n] [] _ S (by rw[Mw];exact hw),Mw]
    unfold walkM
    rw[hV]
    simp only
    rw[if_pos hd]
    rfl
   have nin:n∉used:=fun hin=>by
    have h1:=List.count_pos_iff.mpr hin
    rw[kdp,NL,MY,if_pos hn1] at hn2
    simp only[Option.getD_some] at hn2
    omega
   refine khX h4 k (used++[n]) _ hw' (fun m hm'=>?_) ?_ (by rw[NG,Mv];omega) q h2
   ·rcases N6.mp hm' with h'|h'
    ·exact hm m h'
    ·have e:m=n:=by simpa using h'
     rw[e]
     exact hn1
   ·exact Ej.mpr ⟨hd0,by simp,fun a ha b hb e=>nin (by rw[<-Mq.mp hb,<-e];exact ha)⟩
theorem kkN{T:TillD}{B:Bask}(h4:T.vs.length<=4):(waysM T B (ones T) 10 [] (stnd0 B)).length<=65:=by
 have e:=kdS (B:=B) (T:=T) (hand:=ones T) (by unfold ones;rw[Nq]) 10 [] (stnd0 B) rfl
 have:=congrArg MP e
 rw[Nq] at this
 rw[<-this,kdp]
 exact Nx (M3 _ _) (kdy h4)
noncomputable def lkAt(T:TillD)(j:Nat):Bask->List (List Nat×Stnd)->Option (List Itm):=if j<T.vs.length then lkUse j else if j=T.vs.length then lkUnl else keV T
noncomputable def dueF(m:Nat)(pv:Nat->Option (Nat×List Itm))(i:Nat)(u:Option (List Itm))(w:Nat->Option (List Nat))(s:Option (List Itm)):Nat->Option (Nat×List Itm):=fun j=>(pv j).or ((if j<m then(w j).map fun o=>[.l o] else if j=m then u else s).map fun is=>(i,is))
theorem DuL.stepT{dl:Addr}{H:Hp}{vs:List V}{N:Nat}{F G:Nat->Option (Nat×List Itm)}(h:DuL dl H vs N F){j:Nat}{v:V}{z:Nat×List Itm}(hv:DuAt dl H v (some z))(hj:F j=none)(e:∀y,y<N->G y=if y=j then(F j).or (some z) else F y):DuL dl (upd H dl (.lst (vs.set j v))) (vs.set j v) N G:=
 (h.set hv).cong fun y hy=>by
  rw[e y hy]
  split
  ·rw[hj];rfl
  ·rfl
theorem DuL.stepF{dl:Addr}{H:Hp}{vs:List V}{N:Nat}{F G:Nat->Option (Nat×List Itm)}(h:DuL dl H vs N F){j:Nat}{z:Nat×List Itm}(hj:(F j).isSome=true)(e:∀y,y<N->G y=if y=j then(F j).or (some z) else F y):DuL dl H vs N G:=
 h.cong fun y hy=>by
  rw[e y hy]
  split
  ·next c=>
   rw[c]
   cases e:F j with
   |none=>rw[e] at hj;cases hj
   |some _=>rfl
  ·rfl
theorem kl6{m:Nat}{pv:Nat->Option (Nat×List Itm)}{i:Nat}{is:List Itm}{w:Nat->Option (List Nat)}{s:Option (List Itm)}(y:Nat):dueF m pv i (some is) w s y=if y=m then(dueF m pv i none w s m).or (some (i,is)) else dueF m pv i none w s y:=by
 unfold dueF
 by_cases c:y=m
 ·subst c
  rw[if_pos rfl,if_neg (Mi _),if_pos rfl,if_neg (Mi _),if_pos rfl]
  cases pv y <;> rfl
 ·rw[if_neg c,if_neg c,if_neg c]
theorem kl7{m:Nat}{pv:Nat->Option (Nat×List Itm)}{i:Nat}{is:List Itm}{w:Nat->Option (List Nat)}{u s:Option (List Itm)}(y:Nat)(hy:y<m+2):dueF m pv i u w (s.or (some is)) y=if y=m+1 then(dueF m pv i u w s (m+1)).or (some (i,is)) else dueF m pv i u w s y:=by
 unfold dueF
 by_cases c:y=m+1
 ·subst c
  rw[if_pos rfl,if_neg (by omega),if_neg (by omega),if_neg (by omega),if_neg (by omega)]
  cases pv (m+1) <;> cases s <;> rfl
 ·rw[if_neg c]
  by_cases c2:y<m
  ·rw[if_pos c2,if_pos c2]
  ·rw[if_neg c2,if_pos (by omega),if_neg c2,if_pos (by omega)]
theorem kl5{m:Nat}{pv:Nat->Option (Nat×List Itm)}{i:Nat}{o r:List Nat}{W:Nat->Option (List Nat)}{s u:Option (List Itm)}{l n:Nat}(hn:n<m)(en:r[l]?=some n)(y:Nat):
  dueF m pv i u (fun j=>(W j).or (if(r.take (l+1)).contains j=true then some o else none)) s y=if y=n then(dueF m pv i u (fun j=>(W j).or (if(r.take l).contains j=true then some o else none)) s n).or (some (i,[.l o])) else dueF m pv i u (fun j=>(W j).or (if(r.take l).contains j=true then some o else none)) s y:=by
 unfold dueF
 rw[take_snoc en]
 dsimp only
 by_cases c:y=n
 ·subst c
  rw[if_pos rfl,if_pos hn,if_pos hn,if_pos (show(r.take l++[y]).contains y=true by simp)]
  cases pv y with
  |some _=>rfl
  | none=>
   cases W y with
   |some _=>rfl
   |none=>
    split <;> rfl
 ·rw[if_neg c,show(r.take l++[n]).contains y=(r.take l).contains y by
   rw[Ed]
   simp[c]]
inductive klO (d:D) (vs:List V) (H:Hp) (Q:VK) (E_:XK):Prop
 |ct (t bl:Addr)(T:TillD)(ba:List Addr)(bs:List Bask)(_:vs=[.ref t, .ref bl])(_:TillIs d H t T)(_:kbJ T)(_:T.vs.length<=4)(_:H bl=some (.lst (ba.map V.ref)))(_:P2 (fun a B=>BaskIs d.qe d.qg H a B/\Wf T.ps B (stnd0 B)) ba bs)(_:bs.length<=500)(_:∀(H':Hp)(dl:Addr)(us:List V),Same H H'->DuL dl H' us (T.vs.length+2) (fun j=>kbg (lkAt T j) T bs 0)->Q (.ref dl) H'):klO d vs H Q E_
theorem qI:kao ["_law_till_here","_law_baskets_here","_law_dues_here","_law_many","_law_at","_law_rows_here","_law_pair","_law_row","_law_voucher_here","_law_place"] ["_law_till_here","_law_baskets_here"] (kag kde):=by ac_rfl
theorem kgJ(W:WB K mg d base):FO P w W 12 d.Zl d.Zm ["_law_till_here","_law_baskets_here"] (klO d):=by
 exists W.VA.F,qI
 ·obtain⟨t,bl,T,ba,bs,rfl,hT,tok,h4,hbl,hba,h500,kk⟩:=h
  obtain⟨dxt,fst,pp,vl,rl',va,ra',ht,t1,t2,t3,t4,hpp,hvl,hva,_⟩:=id hT
  exists Jd,khA,W
  exists Je,kfg,W
  exists Jf,kfZ,W
  exists hr10,10,hr,0
  refine⟨_,kac (psl (i:=2) qI.nd (pe_op keL (kaN (kaa kaJ kae)) (pe_op kbe (kat (r:=kaP K) kau (by rfl) W.B.len b_len (kaa (kak (K:=K) (pv 0) rfl) kae)) kai)))
   (kac (psl (i:=3) qI.nd (kat (r:=kaP K) kau (by rfl) W.B.len b_len (kaa (kak (K:=K) (pv 0) rfl) kae)))
   (kac (kaU PassesOwn.never rfl (kba rfl W.B.range (kaa (kat (r:=kaP K) kau (by rfl) W.B.len b_len (kaa (pv 1) kae)) kae)) (pgn (i:=4) qI.nd)
   (kac (psl (i:=5) qI.nd (pcl Jd hr W.Vv (kaa (pv 0) (kaa (pe_ix (r:=rIxL K) kax (pv 1) (pv 4) (fun _ _=>rfl)) kae))))
   (kac (psl (i:=6) qI.nd (pcl Je hr10 W.Vz (kaa (pv 0) (kaa (pe_ix (r:=rIxL K) kax (pv 1) (pv 4) (fun _ _=>rfl)) (kaa (pv 5) kae)))))
   (kac (keD (ps_if (PW.pt (kbS (kar kb6 (pv 6) kaJ (kaw _)) (kbt (kar kcg (pe_ix (r:=rIxL K) kax (pv 2) (pv 3) (fun _ _=>rfl)) kaJ (kaw _))))) (kaf (keE (kbu (kaa (pv 4) (kaa (pe_ix (r:=rIxT K) kcG (pv 6) kai (fun _ _=>rfl)) (kaa (pe_ix (r:=rIxT K) kcG (pv 6) kai (fun _ _=>rfl)) kae)))) (keF (pv 2) (pv 3) set_list))) (kas)))
   (kaf (kaU PassesOwn.never rfl (kaE (K:=K) (pv 5)) (pgn (i:=7) qI.nd)
   (kac (kaU PassesOwn.never rfl (kaE (K:=K) (pv 7)) (pgn (i:=8) qI.nd)
   (kaf (ps_if (kar kcg (pe_ix (r:=rIxL K) kax (pv 2) (pv 8) (fun _ _=>rfl)) kaJ (kaw _)) (kaf (keE (kbu (kaa (pv 4) (kaa (pv 7) kae))) (keF (pv 2) (pv 8) set_list))) (kas))))
   (kac (psl (i:=9) qI.nd (pcl Jf hr10 W.Vy (kaa (pv 0) (kaa (pe_ix (r:=rIxL K) kax (pv 1) (pv 4) (fun _ _=>rfl)) (kaa (pv 7) kae)))))
   (kaf (ps_if (PW.pt (kbS (kar kb6 (pv 9) kaJ (kaw _)) (kbt (kar kcg (pe_ix (r:=rIxL K) kax (pv 2) (pe_op kbe (pv 3) kai) (fun _ _=>rfl)) kaJ (kaw _))))) (kaf (keE (kbu (kaa (pv 4) (kaa (pv 7) (kaa (pv 9) kae)))) (keF (pv 2) (pe_op kbe (pv 3) kai) set_list))) (kas)))))))))))
   (kaf (kan (pv 2))))),?_⟩
  have lva:=hva.len
  have lba:=hba.len
  have hl:(ones T).length=T.vs.length:=by unfold ones;rw[Nq]
  refine⟨(by show 1<=sizeLine;decide),fun l1 fl1=>?_⟩
  exists H,l1,H1,n1,e1,fl1
  refine⟨_,rfl,t,d.qd,dxt,fst,_,rfl,n1 _ _ ht,W.qd.cl,W.qp,t2,vl,_,rfl, .inl (SqL.of (n1 _ _ hvl)),_,_,rfl,rfl,l1,_,_,rfl,rfl,e1,by omega,(by rw[Nq];omega),ND (kap (by simp;omega)),fun dl fdl=>?_⟩
  rw[Nq,lva,show(((T.vs.length:Nat):Int)+2).toNat=T.vs.length+2 by omega,rep1]
  exists H1,dl,H2,n2,e2,fdl
  have fdl0:=n1.free fdl
  have s2:=n1.trans n2
  have d2:DuL dl H2 (Nu (T.vs.length+2) V.non) (T.vs.length+2) (fun j=>kbg (lkAt T j) T (bs.take 0) 0):=⟨e2,Mm,fun j x e=>by
   rw[MY] at e
   split at e
   ·cases e
    rfl
   ·cases e⟩
  refine⟨_,rfl,t,d.qd,dxt,fst,_,rfl,s2 _ _ ht,W.qd.cl,W.qp,t2,vl,_,rfl, .inl (SqL.of (s2 _ _ hvl)),?_⟩
  refine⟨_,rfl,bl,_,rfl, .inl (SqL.of (s2 _ _ hbl)),_,rfl,by omega,(by rw[Nq];omega),?_⟩
  rw[Nq,Nq,lva,lba,Int.toNat_natCast]
  refine kbi (fun i σ H'=>Same H H'/\∃(us:List V)(v4 v5 v6 v7 v8 v9:Option V),DuL dl H' us (T.vs.length+2) (fun j=>kbg (lkAt T j) T (bs.take i) 0)/\σ=[some (.ref t),some (.ref bl),some (.ref dl),some (iV T.vs.length),v4,v5,v6,v7,v8,v9])
   ⟨s2,_,none,none,none,none,none,none,d2,rfl⟩ ?_ ?_
  ·rintro i σ Hi hi ⟨si,us,v4,v5,v6,v7,v8,v9,hD,rfl⟩
   rw[Int.zero_add]
   obtain⟨B,eB⟩:=at_of hi
   obtain⟨b,eb⟩:=at_of (xs:=ba) (i:=i) (by omega)
   obtain⟨hB,wf0⟩:=hba.get eb eB
   have atB:atI (ba.map V.ref) ((i:Nat):Int)=some (.ref b):=kaz (by rw[Nz,eb];rfl)
   refine⟨_,rfl,_,rfl,_,rfl,bl,_,_,_,rfl,rfl,SqL.of (si _ _ hbl),atB,t,b,T,B,rfl,hT.same si,tok,h4,hB.same si,wf0,fun H3 rl ra s3 frl erl hra=>?_⟩
   have hD3:=hD.same s3
   have s03:=si.trans s3
   have hrow:=khX (B:=B) h4 10 [] (stnd0 B) rfl (fun n h=>by simp at h) (by simp) (by decide)
   have hfew:=kkN (B:=B) h4
   have hstep:=fun R:Bask->List (List Nat×Stnd)->Option (List Itm)=>ke0 (R:=R) (T:=T) (B:=B) (bs.take i) 0
   generalize waysM T B (ones T) 10 [] (stnd0 B)=qs at *
   have hra3:P2 (fun a q=>H3 a=some (.lst (q.1.map iV))/\a≠dl) ra qs:=P2.of (by rw[hra.len,Nq]) fun j a q e1 e2=>by
    obtain⟨g1,g2⟩:=hra.get e1 (show(qs.map Prod.fst)[j]?=some q.1 by rw[Nz,e2];rfl)
    exact⟨g2,fun e=>by rw[e,hD.hd] at g1;cases g1⟩
   refine⟨_,rfl,_,rfl,_,rfl,bl,_,_,_,rfl,rfl,SqL.of (s03 _ _ hbl),atB,_,rfl,t,b,rl,T,B,ra,qs,rfl,hT.same s03,tok,hB.same s03,wf0,erl,hra3.mono (fun a q h=>h.1),hrow,hfew,fun H4 vp s4 hvp=>?_⟩
   have hD4:=hD3.same s4
   have s04:=s03.trans s4
   have hDz:DuL dl H4 us (T.vs.length+2) (dueF T.vs.length (fun j=>kbg (lkAt T j) T (bs.take i) 0) i none (fun _=>none) none):=hD4.cong fun j _=>by
    unfold dueF
    split
    ·exact(En).symm
    ·split <;> exact(En).symm
   have sb:=kgf s04 (kjH (nx hD4.hd)) fdl0
   have sb4:=kjG (x:=dl) (H:=H4)
   have fdlb:=kik (x:=dl) (H:=H4)
   have erlb:Vs.rmv dl H4 rl=some (.lst (ra.map V.ref)):=by
    rw[kez (fun e=>by rw[e,hD.hd] at frl;cases frl)]
    exact s4 _ _ erl
   have hrab:P2 (fun a q=>Vs.rmv dl H4 a=some (.lst (q.1.map iV))/\a≠dl) ra qs:=hra3.mono fun a q h=>⟨by rw[kez h.2];exact s4 _ _ h.1,h.2⟩
   generalize Vs.rmv dl H4=Hb at *
   obtain⟨x,ex⟩:=at_of (xs:=us) (i:=T.vs.length) (by rw[hDz.len];omega)
   have atM:atI us ((T.vs.length:Nat):Int)=some x:=kaz ex
   generalize hpv:(fun j=>kbg (lkAt T j) T (bs.take i) 0)=pv at *
   refine⟨fun σ' H'=>Same Hb H'/\∃us':List V,DuL dl H' us' (T.vs.length+2) (dueF T.vs.length pv i ((unlW qs qs).map fun z=>[.l z.1, .l z.2]) (fun _=>none) none)/\σ'=[some (.ref t),some (.ref bl),some (.ref dl),some (iV T.vs.length),some (iV i),some (.ref rl),some vp,v7,v8,v9],?_,?_⟩
   ·refine⟨_,rfl,rfl,_,rfl,?_⟩
    have hx:=hDz.at_ _ _ ex
    cases eU:unlW qs qs with
    |none=>
     rw[eU] at hvp
     have e1:vp=.non:=hvp
     subst e1
     rw[show(!decide (V.non=V.non))=false by simp]
     exact iteF (iteF ⟨sb4,us,hDz,rfl⟩)
    | some z=>
     obtain⟨o,o2⟩:=z
     rw[eU] at hvp
     obtain⟨p,a,a2,rfl,hp,ha,ha2,la,la2⟩:=hvp
     rw[show(!decide (V.ref p=V.non))=true by simp]
     refine iteT ⟨_,rfl,_,rfl,dl,us,_,_,rfl,rfl,SqL.of hDz.hd,atM,rfl,_,rfl,?_⟩
     rcases hx.kind with⟨hn,rfl⟩|⟨hs,p',rfl⟩
     ·rw[show decide (V.non=V.non)=true by simp]
      refine iteT ⟨_,rfl,_,rfl,p,_,_,_,rfl,rfl,SqT.of hp,rfl,_,rfl,p,_,_,_,rfl,rfl,SqT.of hp,rfl,(by show 3<=sizeLine;decide),fun p6 fp6=>?_⟩
      exists H4,p6,H6,n6,e6,fp6
      have hD6:=hDz.same n6
      refine⟨_,rfl,_,rfl,dl,_,_,T.vs.length,rfl,rfl,hD6.hd,kdj (by rw[hD6.len];omega),kaq fdlb (sb4.trans n6) (nx hD6.hd),_,hD6.stepT (v:=.ref p6) (z:=(i,[.l o, .l o2])) ⟨p6,_,rfl,e6, .cons ⟨a,rfl,hDz.row (by omega) ha,la,n6 _ _ ha⟩ (.cons ⟨a2,rfl,hDz.row (by omega) ha2,la2,n6 _ _ ha2⟩ .nil)⟩ hn (fun y _=>kl6 y),rfl⟩
     ·rw[show decide (V.ref p'=V.non)=false by simp]
      exact iteF ⟨sb4,us,hDz.stepF hs (fun y _=>kl6 y),rfl⟩
   rintro σ' H5 ⟨s5,us5,hD5,rfl⟩
   refine⟨_,rfl,rl,rfl,⟨_,SqL.of (s5 _ _ erlb)⟩,ka3 (xs:=ra.map V.ref) (fun k σ H'=>Same Hb H'/\∃(us':List V)(v7 v8 v9:Option V),DuL dl H' us' (T.vs.length+2) (dueF T.vs.length pv i ((unlW qs qs).map fun z=>[.l z.1, .l z.2]) (fun j=>withW j (qs.take k)) ((kbE T B (qs.take k)).map fun z=>[.l z.1, .n z.2]))/\σ=[some (.ref t),some (.ref bl),some (.ref dl),some (iV T.vs.length),some (iV i),some (.ref rl),some vp,v7,v8,v9])
    ⟨s5,us5,_,_,_,hD5,rfl⟩ (fun k σ H' _ h=>SqL.of (h.1 _ _ erlb)) ?_ ?_⟩
   ·rintro k y σ Hk hy ⟨sk,us6,v7,v8,v9,hDk,rfl⟩
    obtain⟨oa,eoa,rfl⟩:=kbR hy
    obtain⟨q,eq,hoa,noa⟩:=hrab.at eoa
    have rok:=hrow q (Ny eq)
    refine⟨_,rfl,oa,rfl,⟨_,SqL.of (sk _ _ hoa)⟩,ka3 (xs:=q.1.map iV) (fun l σ H'=>Same Hb H'/\∃(us':List V)(v8:Option V),DuL dl H' us' (T.vs.length+2) (dueF T.vs.length pv i ((unlW qs qs).map fun z=>[.l z.1, .l z.2]) (fun j=>(withW j (qs.take k)).or (if(q.1.take l).contains j=true then some q.1 else none)) ((kbE T B (qs.take k)).map fun z=>[.l z.1, .n z.2]))/\σ=[some (.ref t),some (.ref bl),some (.ref dl),some (iV T.vs.length),some (iV i),some (.ref rl),some vp,some (.ref oa),v8,v9])
     ⟨sk,us6,_,hDk.cong (fun j _=>by
      unfold dueF
      simp only[List.take_zero,List.contains_nil,Mn,if_false,En]),rfl⟩ (fun l σ H' _ h=>SqL.of (h.1 _ _ hoa)) ?_ ?_⟩
    ·rintro l y σ Hl hy ⟨sl,us7,v8,hDl,rfl⟩
     obtain⟨n,en,rfl⟩:=kbo hy
     have hn:=rok.lt n (Ny en)
     obtain⟨x,ex⟩:=at_of (xs:=us7) (i:=n) (by rw[hDl.len];omega)
     refine⟨_,rfl,_,rfl,dl,us7,_,_,rfl,rfl,SqL.of hDl.hd,kaz ex,rfl,_,rfl,?_⟩
     rcases(hDl.at_ _ _ ex).kind with⟨hz,rfl⟩|⟨hs,p',rfl⟩
     ·rw[show decide (V.non=V.non)=true by simp]
      refine iteT ⟨_,rfl,_,rfl,(by show 2<=sizeLine;decide),fun p6 fp6=>?_⟩
      exists Hl,p6,H6,n6,e6,fp6
      have hD6:=hDl.same n6
      have s6:=sl.trans n6
      exact⟨_,rfl,_,rfl,dl,_,_,n,rfl,rfl,hD6.hd,kdj (by rw[hD6.len];omega),kaq fdlb s6 (nx hD6.hd),_,_,hD6.stepT (v:=.ref p6) (z:=(i,[.l q.1])) ⟨p6,_,rfl,e6, .cons ⟨oa,rfl,noa,rok.le,s6 _ _ hoa⟩ .nil⟩ hz (fun y _=>kl5 hn en y),rfl⟩
     ·rw[show decide (V.ref p'=V.non)=false by simp]
      exact iteF ⟨sl,us7,_,hDl.stepF hs (fun y _=>kl5 hn en y),rfl⟩
    ·rintro σ Hl ⟨sl,us7,v8,hDl,rfl⟩
     rw[Nq,NY] at hDl
     have s0l:=sb.trans sl
     refine⟨_,rfl,_,rfl,_,rfl,bl,_,_,_,rfl,rfl,SqL.of (s0l _ _ hbl),atB,_,rfl,t,b,oa,T,B,q.1,rfl,hT.same s0l,tok,hB.same s0l,wf0,sl _ _ hoa,rok.lt,rok.le,rok.fl,fun H8 s8=>?_⟩
     have hD8:=hDl.same s8
     have sb8:=sl.trans s8
     have e1:∀j,(withW j (qs.take k)).or (if q.1.contains j=true then some q.1 else none)=withW j (qs.take (k+1)):=fun j=>by rw[take_snoc eq,kfj]
     simp only[e1] at hD8
     have e2:(kbE T B (qs.take (k+1))).map (fun z=>[Itm.l z.1,Itm.n z.2])=((kbE T B (qs.take k)).map fun z=>[Itm.l z.1,Itm.n z.2]).or ((kbh T B q.1 (stnd0 B) 0).map fun p=>[Itm.l q.1,Itm.n p]):=by
      rw[take_snoc eq,keq]
      cases kbE T B (qs.take k) <;> cases kbh T B q.1 (stnd0 B) 0 <;> rfl
     simp only[e2]
     refine⟨_,rfl,rfl,_,rfl,?_⟩
     cases eS:kbh T B q.1 (stnd0 B) 0 with
     |none=>
      rw[Option.map_none,En]
      exact iteF (iteF ⟨sb8,us7,_,_,_,hD8,rfl⟩)
     | some z=>
      obtain⟨x,ex⟩:=at_of (xs:=us7) (i:=T.vs.length+1) (by rw[hD8.len];omega)
      refine iteT ⟨_,rfl,_,rfl,_,_,rfl,rfl,dl,us7,_,_,rfl,rfl,SqL.of hD8.hd,kaz ex,rfl,_,rfl,?_⟩
      rcases(hD8.at_ _ _ ex).kind with⟨hz,rfl⟩|⟨hs,p',rfl⟩
      ·rw[show decide (V.non=V.non)=true by simp]
       refine iteT ⟨_,rfl,_,rfl,_,rfl,(by show 3<=sizeLine;decide),fun p6 fp6=>?_⟩
       exists H8,p6,H6,n6,e6,fp6
       have hD6:=hD8.same n6
       have s6:=sb8.trans n6
       exact⟨_,rfl,_,rfl,_,_,rfl,rfl,dl,_,_,T.vs.length+1,rfl,rfl,hD6.hd,kdj (j:=T.vs.length+1) (by rw[hD6.len];omega),kaq fdlb s6 (nx hD6.hd),_,_,_,_,hD6.stepT (v:=.ref p6) (z:=(i,[.l q.1, .n z])) ⟨p6,_,rfl,e6, .cons ⟨oa,rfl,noa,rok.le,s6 _ _ hoa⟩ (.cons rfl .nil)⟩ hz kl7,rfl⟩
      ·rw[show decide (V.ref p'=V.non)=false by simp]
       exact iteF ⟨sb8,us7,_,_,_,hD8.stepF hs kl7,rfl⟩
   ·rintro σ Hk ⟨sk,us6,v7,v8,v9,hDk,rfl⟩
    refine⟨sb.trans sk,us6,_,_,_,_,_,_,hDk.cong (fun j hj=>?_),rfl⟩
    rw[Nq,hrab.len,NY,take_snoc eB,hstep,<-hpv,EG,NK,Eo (ND hi)]
    unfold dueF lkAt
    dsimp only
    congr 1
    split
    ·rfl
    ·split <;> rfl
  ·rintro σ Hi ⟨si,us,v4,v5,v6,v7,v8,v9,hD,rfl⟩
   rw[NY] at hD
   exact⟨_,rfl,kk _ dl us si hD⟩
theorem knq{K:Nr}{H0 H:Hp}{dl:Addr}{v w:V}:∀{i:Itm},ItmAt H0 H v i->ItmD dl H w i->DEq K H 32 v w
 | .l o,⟨a,e1,_,h1⟩,⟨b,e2,_,_,h2⟩=>by
  rw[e1,e2]
  exact .flats (SqL.of h1) (SqL.of h2) (kcs o)
 | .n k,h1,h2=>by
  rw[show v=iV k from h1,show w=iV k from h2]
  exact .self rfl
theorem kiB:∀n:Nat,(Nu n (V.bl true)).all flatV=true/\inV (.bl false) (Nu n (V.bl true))=false
 |0=>⟨rfl,rfl⟩
 |n+1=>by
  rw[MA]
  exact⟨(kiB n).1,(kiB n).2⟩
inductive spIs (d:D) (vs:List V) (H:Hp) (Q:VK) (E_:XK):Prop
 |ct (v u:V)(H0:Hp)(dl:Addr)(x:Option (Nat×List Itm))(_:vs=[v,u])(_:FdG H0 H v x)(_:DuAt dl H u x)(_:∀(H':Hp),Same H H'->Q (.bl true) H'):spIs d vs H Q E_
theorem V5:kao ["_law_found","_law_due","_law_k"] ["_law_found","_law_due"] (kag kex):=by ac_rfl
theorem kiU(W:WB K mg d base):FO P w W 2 d.Zn d.Zo ["_law_found","_law_due"] (spIs d):=by
 exists W.QA.F,V5
 ·obtain⟨v,u,H0,dl,x,rfl,hv,hu,kk⟩:=h
  exists V6,kfX,W
  refine⟨_,kac (ps_if (PW.pt (pw_or (kar kcg (pv 0) kaJ (kaw _)) (keC (kar kcg (pv 1) kaJ (kaw _))))) (kaf (kan (klT (kbP kcg (pv 0) kaJ (kaw _)) (kjQ (kbP kcg (pv 1) kaJ (kaw _)))))) (kas))
   (kac (ps_if (PW.pt (pw_or (kc4 (kaR (kat (r:=rIsi K) kaQ (by rfl) W.B.isi b_isi (kaa (pv 0) (kaa (keG (v:=.ty "tuple") (by rfl) W.B.tuple kkJ rfl) kae))))) (keC (kar op_ne (kat (r:=kaP K) kau (by rfl) W.B.len b_len (kaa (pv 0) kae)) (kat (r:=kaP K) kau (by rfl) W.B.len b_len (kaa (pv 1) kae)) (kaw _))))) (kaf (kan pe_bl)) (kas))
   (kac (kaU PassesOwn.never rfl (kba rfl W.B.range (kaa (kat (r:=kaP K) kau (by rfl) W.B.len b_len (kaa (pv 1) kae)) kae)) (pgn (i:=2) V5.nd)
   (kaf (ps_if (kaR (kat (r:=rIsi K) kaQ (by rfl) W.B.isi b_isi (kaa (pe_ix (r:=rIxT K) kcG (pv 1) (pv 2) (fun _ _=>rfl)) (kaa (keG (v:=.ty "list") (by rfl) W.B.list kbj rfl) kae)))) (kaf (ps_if (PW.pt (pw_or (kc4 (kaR (kat (r:=rIsi K) kaQ (by rfl) W.B.isi b_isi (kaa (pe_ix (r:=rIxT K) kcG (pv 0) (pv 2) (fun _ _=>rfl)) (kaa (keG (v:=.ty "list") (by rfl) W.B.list kbj rfl) kae))))) (keC (kar kb7 pe_bl (kbz (N:=["_law_number"]) (CompScope.plain rfl (by decide +kernel) (by decide +kernel) (by decide +kernel) (nd1 _)) rfl (kaE (K:=K) (pe_ix (r:=rIxT K) kcG (pv 0) (pv 2) (fun _ _=>rfl))) (fun _ _ _ _=>pgn (i:=0) (nd1 _)) (fun _ _ _ _=>(pcl V6 hr W.Q9 (kaa (pv 0) kae)))) (by with_unfolding_all rfl))))) (kaf (kan pe_bl)) (kas))) (kaf (ps_if (kc4 (kaR (pcl V6 hr W.Q9 (kaa (pe_ix (r:=rIxT K) kcG (pv 0) (pv 2) (fun _ _=>rfl)) kae)))) (kaf (kan pe_bl)) (kas))))))
   (kaf (kan (kbP (kni hr.units) (pv 0) (pv 1) (kaw _)))))),?_⟩
  cases x with
  |none=>
   have e1:v=.non:=hv
   have e2:u=.non:=hu
   subst e1 e2
   refine⟨_,rfl,rfl,_,rfl,?_⟩
   rw[show decide (V.non=V.non)=true by simp]
   refine iteT (iteT ⟨_,rfl,rfl,?_⟩)
   rw[show decide (V.non=V.non)=true by simp]
   refine⟨_,rfl,iteT ⟨_,rfl,rfl,?_⟩⟩
   rw[show decide (V.non=V.non)=true by simp]
   exact kk H (Same.refl _)
  | some z=>
   obtain⟨i,is⟩:=z
   obtain⟨p,vs,rfl,ep,hvs,h2,_⟩:=hv
   obtain⟨p',ws,rfl,ep',hws⟩:=hu
   have pv:P2 (fun v i=>ItmAt H0 H v i) (iV i::vs) (.n i::is):=.cons rfl hvs
   have pw:P2 (fun v i=>ItmD dl H v i) (iV i::ws) (.n i::is):=.cons rfl hws
   have hl:(iV i::vs).length=(iV i::ws).length:=by rw[pv.len,pw.len]
   have hl3:(iV i::ws).length<=3:=by rw[<-hl,NW];omega
   clear hvs hws h2
   generalize iV i::vs=xs at *
   generalize iV i::ws=ys at *
   generalize Itm.n i::is=js at *
   refine⟨_,rfl,rfl,_,rfl,?_⟩
   rw[show decide (V.ref p=V.non)=false by simp]
   refine iteF ⟨_,rfl,rfl,_,rfl,?_⟩
   rw[show decide (V.ref p'=V.non)=false by simp]
   refine iteF ?_
   refine⟨_,rfl,_,_,_,_,rfl, .inl ⟨_,rfl⟩,TyOf.tup ep,kbV _ _,_,rfl,iteF ?_⟩
   refine⟨_,rfl,p,_,rfl, .inr (SqT.of ep),_,rfl,p',_,rfl, .inr (SqT.of ep'),rfl,_,rfl,?_⟩
   rw[hl,show(!decide (V.int ((ys.length:Nat):Int)=V.int ((ys.length:Nat):Int)))=false by simp]
   refine iteF ?_
   refine⟨_,rfl,p',_,rfl, .inr (SqT.of ep'),_,rfl,by omega,by omega,?_⟩
   rw[Int.toNat_natCast]
   refine kbi (fun k σ H'=>Same H H'/\∃(v2:Option V),σ=[some (.ref p),some (.ref p'),v2]) ⟨Same.refl _,none,rfl⟩ ?_ ?_
   ·rintro k σ Hk hk ⟨sk,v2,rfl⟩
    rw[Int.zero_add]
    obtain⟨y,ey⟩:=at_of hk
    obtain⟨x,ex⟩:=at_of (xs:=xs) (i:=k) (by omega)
    obtain⟨it,eit,hx⟩:=pv.at ex
    obtain⟨it',eit',hy⟩:=pw.at ey
    rw[eit] at eit'
    cases eit'
    have epk:=sk _ _ ep
    have epk':=sk _ _ ep'
    refine⟨_,rfl,_,rfl,p',_,_,_,rfl,rfl,SqT.of epk',kaz ey,?_⟩
    cases it with
    |n m=>
     have e1:x=iV m:=hx
     have e2:y=iV m:=hy
     subst e1 e2
     refine⟨_,_,_,_,rfl, .inl ⟨_,rfl⟩,TyOf.int _,knl (by decide +kernel) (by decide +kernel) (by decide +kernel),_,rfl,iteF ?_⟩
     refine⟨_,rfl,_,rfl,p,_,_,_,rfl,rfl,SqT.of epk,kaz ex,(m:Int),rfl,_,rfl,iteF ⟨sk,_,rfl⟩⟩
    | l o=>
     obtain⟨a,rfl,_,ha⟩:=hx
     obtain⟨b,rfl,_,lo,hb⟩:=hy
     have hak:=sk _ _ ha
     refine⟨_,_,_,_,rfl, .inl ⟨_,rfl⟩,TyOf.lst (sk _ _ hb),kbV _ _,_,rfl,iteT ?_⟩
     refine⟨_,rfl,_,rfl,p,_,_,_,rfl,rfl,SqT.of epk,kaz ex,_,_,_,_,rfl, .inl ⟨_,rfl⟩,TyOf.lst hak,kbV _ _,_,rfl,iteF ?_⟩
     refine⟨_,rfl,_,rfl,p,_,_,_,rfl,rfl,SqT.of epk,kaz ex,a,rfl,⟨_,SqL.of hak⟩,kaY (xs:=o.map iV) (fun j σ zs H'=>H'=Hk/\zs=Nu j (.bl true)/\∃v,σ=[v]) ⟨rfl,rfl,none,rfl⟩ (by rw[Nq];exact ND (kap (by omega))) ?_ ?_ ?_⟩
     ·rintro j σ zs H' hj ⟨rfl,rfl,_⟩
      rw[Nq] at hj
      exact⟨SqL.of hak,Mm⟩
     ·rintro j y σ zs H' hy ⟨rfl,rfl,v',rfl⟩
      obtain⟨m,_,rfl⟩:=kbo hy
      refine⟨_,rfl,(m:Int),rfl,rfl,?_,_,rfl⟩
      rw[EO]
     rintro σ zs H' ⟨rfl,rfl,v',rfl⟩ D hD
     rw[Nq]
     exists H',D,H6,n6,e6,hD
     refine⟨D,_,rfl, .inl (SqL.of e6),rfl,(kiB o.length).1,_,rfl,?_⟩
     show if inV (.bl false) (Nu o.length (.bl true))=true then _ else _
     rw[(kiB o.length).2]
     exact iteF ⟨sk.trans n6,_,rfl⟩
   ·rintro σ Hk ⟨sk,v2,rfl⟩
    refine⟨_,rfl,_,rfl,p,p',_,_,rfl,rfl, .inr ⟨SqT.of (sk _ _ ep),SqT.of (sk _ _ ep')⟩,hl,fun j x y ex ey=>?_,kk Hk sk⟩
    obtain⟨it,eit,hx⟩:=pv.at ex
    obtain⟨it',eit',hy⟩:=pw.at ey
    rw[eit] at eit'
    cases eit'
    exact knq (hx.same sk) (hy.same sk)
theorem kmW{ns:List Int}:cntM ns<=ns.length:=by
 cases e:cntM ns with
 |zero=>exact N1 _
 |succ n=>
  have:=kkB (ns:=ns) (i:=n) (by omega)
  omega
theorem qS:kao ["_law_script","_law_wide","_law_till_here","_law_baskets_here","_law_dues_here","_law_many","_law_voucher_here"] ["_law_script"] (kag s_law):=by ac_rfl
theorem knj(W:WB K mg d base):FO P w W 22 d.f_law d.Zr ["_law_script"] (kes K d.tP_falling_groups d.tP_first_use):=by
 refine FunD.ok W.d_law.F qS (fun vs H Q E h=>?_) (fun cdv A outer s H vs Q E hr h=>?_)
 ·obtain⟨a,ns,rfl,_⟩:=h
  rfl
 ·obtain⟨a,ns,rfl,hS,hn,htb0,htb1,k⟩:=h
  exists Jg,kgF,W
  exists Jh,keS,W
  exists Ji,kgH,W
  exists Jj,kgJ,W
  exists XJ,kiU,W
  exists Jk,kgE,W
  exists Jl,keN,W
  exists Jm,kff,W
  exists hr1,1,hr,0
  exists hr2,2,hr,0
  exists hr4,4,hr,0
  exists hr7,7,hr,0
  exists hr12,12,hr,0
  refine⟨_,kac (psl (i:=1) qS.nd (kbP op_eq (pe_op kaG (pe_op kaI (kat (r:=rSum K) (kc0 rfl) (by rfl) W.B.sum b_sum (kaa (kcW (r:=rSlL K) kdG (pv 0) kfQ (kcP kai)) kae)) kai) kai) kai (kaw _)))
   (kac (psl (i:=2) qS.nd (pcl Jg hr7 W.Vr (kaa (pv 0) (kaa (kdW (kbT (kaR (pv 1)) kai kai)) kae))))
   (kac (psl (i:=3) qS.nd (pcl Jh hr4 W.Vu (kaa (pv 0) (kaa (kat (r:=kaP K) kau (by rfl) W.B.len b_len (kaa (kak (K:=K) (pv 2) rfl) kae)) (kaa (pcl Ji hr1 W.VB (kaa (pv 0) (kaa (pv 1) kae))) kae)))))
   (kac (psl (i:=4) qS.nd (pcl Jj hr12 W.VA (kaa (pv 2) (kaa (pv 3) kae))))
   (kac (psl (i:=5) qS.nd (kat (r:=kaP K) kau (by rfl) W.B.len b_len (kaa (kak (K:=K) (pv 2) rfl) kae)))
   (kac (kaU PassesOwn.never rfl (kba rfl W.B.range (kaa (pv 5) kae)) (pgn (i:=6) qS.nd)
   (kaf (ps_if (kc4 (kaR (pcl XJ hr2 W.QA (kaa (pcl Jk hr W.Vh (kaa (pv 2) (kaa (pv 6) (kaa (kaK (r:=ka4 K) kaA (by rfl) W.B.list kbj (kaa (pv 3) kae)) kae)))) (kaa (pe_ix (r:=rIxL K) kax (pv 4) (pv 6) (fun _ _=>rfl)) kae))))) (kaf (kan pe_bl)) (kas))))
   (kac (ps_if (kc4 (kaR (pcl XJ hr2 W.QA (kaa (pcl Jl hr W.Vi (kaa (pv 2) (kaa (kaK (r:=ka4 K) kaA (by rfl) W.B.list kbj (kaa (pv 3) kae)) kae))) (kaa (pe_ix (r:=rIxL K) kax (pv 4) (pv 5) (fun _ _=>rfl)) kae))))) (kaf (kan pe_bl)) (kas))
   (kaf (kan (pcl XJ hr2 W.QA (kaa (pcl Jm hr W.Vj (kaa (pv 2) (kaa (kaK (r:=ka4 K) kaA (by rfl) W.B.list kbj (kaa (pv 3) kae)) kae))) (kaa (pe_ix (r:=rIxL K) kax (pv 4) (pe_op kbe (pv 5) kai) (fun _ _=>rfl)) kae))))))))))),?_⟩
  refine sN fun A1 hA1=>?_
  exists Y4
  refine⟨_,rfl,_,rfl,a,_,rfl,hS,fun l1 fl1=>?_⟩
  rw[show(1:Int)=((1:Nat):Int) from rfl,kiF,<-MU]
  exists H,l1,H1,n1,e1,fl1
  symm
  exists Y4
  refine⟨l1,_,rfl,SqL.of e1,_,_,rfl,rfl,⟨by decide,by decide⟩,_,_,rfl,rfl,(by show(0:Int)<8;decide),rfl,?_⟩
  symm
  refine hA1 _ _ ?_
  clear hA1
  generalize decide (V.int ((ns.take 1).sum/20%8)=V.int 3)=wide
  symm
  refine sN fun A2 hA2=>?_
  symm
  exists Y4
  refine⟨_,rfl,⟨fun v H'=>H'=H1/\∃m:Nat,0<m/\m<=4/\v=iV m,?_,?_⟩⟩
  ·exact⟨_,rfl,_,rfl,ite2 (fun _=>⟨rfl,4,by decide,by decide,rfl⟩) (fun _=>⟨rfl,3,by decide,by decide,rfl⟩)⟩
  rintro v H' ⟨rfl,m,m0,m4,rfl⟩
  symm
  exists Y4
  refine⟨a,ns,m,rfl,n1.seq hS,hn,m0,m4,Tbs.same n1 htb0,fun H2 t T s2 ft hT tok v0 v4 hg p4 p0=>?_⟩
  symm
  refine hA2 _ _ ?_
  clear hA2
  have s02:=n1.trans s2
  obtain⟨dxt,fst,pt,vl,rl,va,ra,ht,t1,t2,t3,t4,hpt,hvl,hva,hrl,hra⟩:=id hT
  have elp:(T.ps.map pV).length=T.ps.length:=Nq _
  symm
  refine sN fun A3 hA3=>?_
  symm
  exists Y4
  refine⟨_,rfl,_,rfl,t,d.qd,dxt,fst,_,rfl,ht,W.qd.cl,W.qO,t1,pt,_,rfl, .inl (SqL.of hpt),_,rfl,_,rfl,a,ns,_,rfl,s02.seq hS,fun H3 s3=>⟨a,ns,T.ps.length,_,(by rw[elp];rfl),(s02.trans s3).seq hS,hn,p0,fun H4 bl ba s4 fbl ebl hba=>?_⟩⟩
  symm
  refine hA3 _ _ ?_
  clear hA3
  have s24:=s3.trans s4
  have s04:=s02.trans s24
  have wfs:=bs_wf (ns:=ns) (m:=mostM ns wide) hg p4 p0 (cntM ns) (Nt _)
  have lbs:=kkI (ns:=ns) (n:=T.ps.length) (m:=mostM ns wide) (cntM ns)
  have lcn:=kmW (ns:=ns)
  have hbb:P2 (fun a B=>BaskIs d.qe d.qg H4 a B/\Wf T.ps B (stnd0 B)) ba (bsM ns T.ps.length (mostM ns wide) (cntM ns)):=P2.of hba.len fun i a B e1 e2=>⟨(hba.get e1 e2).is,wfs B (Ny e2)⟩
  have lb63:(bsM ns T.ps.length (mostM ns wide) (cntM ns)).length<=63:=by omega
  clear hba wfs lbs lcn
  generalize bsM ns T.ps.length (mostM ns wide) (cntM ns)=bs at *
  have lva:=hva.len
  have hT4:=hT.same s24
  have htb4:TbAt d.tP_first_use H4:=s04.tb htb1
  have ht4:=s24 _ _ ht
  have hvl4:=s24 _ _ hvl
  clear hT htb1 htb0 ht hvl hpt hva hrl hra
  symm
  refine sN fun A4 hA4=>?_
  symm
  exists Y4
  refine⟨_,rfl,_,rfl,t,bl,T,ba,bs,rfl,hT4,tok,v4,ebl,hbb,by omega,fun H5 dl us s5 hD5=>?_⟩
  symm
  refine hA4 _ _ ?_
  clear hA4
  symm
  refine sN fun A5 hA5=>?_
  symm
  exists Y4
  refine⟨_,rfl,t,d.qd,dxt,fst,_,rfl,s5 _ _ ht4,W.qd.cl,W.qp,t2,vl,_,rfl, .inl (SqL.of (s5 _ _ hvl4)),?_⟩
  rw[Nq,lva]
  symm
  refine hA5 _ _ ?_
  clear hA5
  have hat:∀j,j<T.vs.length+2->∃x,us[j]?=some x/\∀H',Same H5 H'->DuAt dl H' x (kbg (lkAt T j) T bs 0):=fun j hj=>by
   obtain⟨x,ex⟩:=at_of (xs:=us) (i:=j) (by rw[hD5.len];exact hj)
   symm
   exact⟨x,ex,fun H' s=>(hD5.at_ j x ex).same s⟩
  have hus:=hD5.hd
  have ebl5:=s5 _ _ ebl
  have hT5:=hT4.same s5
  have htb5:TbAt d.tP_first_use H5:=s5.tb htb4
  have hbb5:=hbb.mono (R':=fun a B=>BaskIs d.qe d.qg H5 a B/\Wf T.ps B (stnd0 B)) fun a B h=>⟨h.1.same s5,h.2⟩
  clear hD5 hbb hT4 htb4
  symm
  refine sN fun A6 hA6=>?_
  symm
  exists Y4
  refine⟨_,rfl,_,rfl,by omega,by omega,?_⟩
  rw[Int.toNat_natCast]
  symm
  refine kbi (fun i σ H'=>Same H5 H'/\∃(v6:Option V),σ=[some (.ref a),some (.bl wide),some (.ref t),some (.ref bl),some (.ref dl),some (iV T.vs.length),v6])
   ⟨Same.refl _,none,rfl⟩ ?_ ?_
  ·rintro i σ H6 hi ⟨s6,v6,rfl⟩
   rw[Int.zero_add]
   obtain⟨x,ex,hx⟩:=hat i (by omega)
   symm
   exists Y6
   refine⟨_,rfl,_,rfl,_,rfl,bl,_,rfl, .inl (SqL.of (s6 _ _ ebl5)),fun l7 fl7=>?_⟩
   exists H6,l7,H7,n7,e7,fl7
   have s57:=s6.trans n7
   nofun
   exists Y6
   refine⟨t,l7,i,ba,T,bs,rfl,hT5.same s57,tok,by omega,e7,hbb5.mono (fun a B h=>⟨h.1.same s57,h.2⟩),s57.tb htb5,fun H8 vf s8 hvf=>?_⟩
   have s58:=s57.trans s8
   have hx8:=hx _ s58
   rw[show lkAt T i=lkUse i from if_pos hi] at hx8
   nofun
   exists Y6
   refine⟨_,rfl,_,rfl,dl,us,_,_,rfl,rfl,SqL.of (s58 _ _ hus),kaz ex,vf,x,_,dl,_,rfl,hvf,hx8,fun H9 s9=>?_⟩
   nofun
   exact⟨_,rfl,iteF ⟨s58.trans s9,_,rfl⟩⟩
  rintro σ H6 ⟨s6,v6,rfl⟩
  symm
  refine hA6 _ _ ?_
  clear hA6
  symm
  refine sN fun A7 hA7=>?_
  obtain⟨x,ex,hx⟩:=hat T.vs.length (by omega)
  symm
  exists Y4
  refine⟨_,rfl,_,rfl,bl,_,rfl, .inl (SqL.of (s6 _ _ ebl5)),fun l7 fl7=>?_⟩
  exists H6,l7,H7,n7,e7,fl7
  have s57:=s6.trans n7
  symm
  exists Y4
  refine⟨t,l7,ba,T,bs,rfl,hT5.same s57,tok,by omega,e7,hbb5.mono (fun a B h=>⟨h.1.same s57,h.2⟩),fun H8 vf s8 hvf=>?_⟩
  have s58:=s57.trans s8
  have hx8:=hx _ s58
  rw[show lkAt T T.vs.length=lkUnl from(if_neg (Mi _)).trans (if_pos rfl)] at hx8
  symm
  exists Y4
  refine⟨_,rfl,_,rfl,dl,us,_,_,rfl,rfl,SqL.of (s58 _ _ hus),kaz ex,vf,x,_,dl,_,rfl,hvf,hx8,fun H9 s9=>?_⟩
  symm
  exists Y4
  refine⟨_,rfl,iteF ?_⟩
  symm
  refine hA7 _ _ ?_
  clear hA7
  have s59:=s58.trans s9
  obtain⟨y,ey,hy⟩:=hat (T.vs.length+1) (by omega)
  symm
  exists Y4
  refine⟨_,rfl,_,rfl,bl,_,rfl, .inl (SqL.of (s59 _ _ ebl5)),fun l10 fl10=>?_⟩
  exists H9,l10,H10,n10,e10,fl10
  have s510:=s59.trans n10
  symm
  exists Y4
  refine⟨t,l10,ba,T,bs,rfl,hT5.same s510,tok,by omega,e10,hbb5.mono (fun a B h=>⟨h.1.same s510,h.2⟩),fun H11 vg s11 hvg=>?_⟩
  have s511:=s510.trans s11
  have hy11:=hy _ s511
  rw[show lkAt T (T.vs.length+1)=keV T from(if_neg (by omega)).trans (if_neg (by omega))] at hy11
  symm
  exact⟨_,rfl,_,rfl,_,_,rfl,rfl,dl,us,_,_,rfl,rfl,SqL.of (s511 _ _ hus),kaz ey,vg,y,_,dl,_,rfl,hvg,hy11,fun H12 s12=>k _⟩
end
end Vs
namespace Vs
open PySem L2
theorem ln0{C:List Value->Prop}(k:C []):∀us:List Value,us.length=0->C us:=fun us h=>by
 cases us with
 |nil=>exact k
 |cons a us=>cases h
theorem lnS{C:List Value->Prop}{n:Nat}(k:∀(a:Value)(us:List Value),us.length=n->C (a::us)):∀us:List Value,us.length=n+1->C us:=fun us h=>by
 cases us with
 |nil=>cases h
 |cons a us=>exact k a us (Nat.succ.inj h)
def nL1{C:List Value->Prop}(k:∀a0:Value,C [a0]):∀us:List Value,us.length=1->C us:=lnS fun a0=>ln0 (k a0)
def nL2{C:List Value->Prop}(k:∀a0 a1:Value,C [a0,a1]):∀us:List Value,us.length=2->C us:=lnS fun a0=>lnS fun a1=>ln0 (k a0 a1)
noncomputable def nL3{C:List Value->Prop}(k:∀a0 a1 a2:Value,C [a0,a1,a2]):∀us:List Value,us.length=3->C us:=lnS fun a0=>lnS fun a1=>lnS fun a2=>ln0 (k a0 a1 a2)
noncomputable def nL4{C:List Value->Prop}(k:∀a0 a1 a2 a3:Value,C [a0,a1,a2,a3]):∀us:List Value,us.length=4->C us:=lnS fun a0=>lnS fun a1=>lnS fun a2=>lnS fun a3=>ln0 (k a0 a1 a2 a3)
noncomputable def nL5{C:List Value->Prop}(k:∀a0 a1 a2 a3 a4:Value,C [a0,a1,a2,a3,a4]):∀us:List Value,us.length=5->C us:=lnS fun a0=>lnS fun a1=>lnS fun a2=>lnS fun a3=>lnS fun a4=>ln0 (k a0 a1 a2 a3 a4)
noncomputable def nL6{C:List Value->Prop}(k:∀a0 a1 a2 a3 a4 a5:Value,C [a0,a1,a2,a3,a4,a5]):∀us:List Value,us.length=6->C us:=lnS fun a0=>lnS fun a1=>lnS fun a2=>lnS fun a3=>lnS fun a4=>lnS fun a5=>ln0 (k a0 a1 a2 a3 a4 a5)
noncomputable def nL7{C:List Value->Prop}(k:∀a0 a1 a2 a3 a4 a5 a6:Value,C [a0,a1,a2,a3,a4,a5,a6]):∀us:List Value,us.length=7->C us:=lnS fun a0=>lnS fun a1=>lnS fun a2=>lnS fun a3=>lnS fun a4=>lnS fun a5=>lnS fun a6=>ln0 (k a0 a1 a2 a3 a4 a5 a6)
noncomputable def bd_mk{K:Nr}{fd:FuncData}{ps:List Str}{ds:List Value}{n:Nat}(hn:n+ds.length=ps.length)(k:∀s:Shared,K.In s.heap->∀us:List Value,us.length=n->BindsTo s fd ⟨us,[]⟩ (ps.zip (us++ds))):Binds K fd ps ds:=fun s us KX hl=>k s KX us (by rw[NG] at hl;omega)
noncomputable def dn_mk{K:Nr}{st:Stmt}{ps:List Str}{f:Addr}{oc:Value}{od an:Option Addr}{osl:Array (Option Value)}{kV doc pm cdv ct:Value}{h:Heap}{mg:Str->Option Value}{x:Str}(X:K.In h)(G:h.Ns mainGlobals mg)(a:NM K mainGlobals x=some (some (.ref f)))(l:K.lookup f=some ⟨oc,od, .func (NI x x (kaD st) (kaB st) (kag st) .none kV doc pm an cdv ct),osl⟩)(c:N3 K cdv x=true)(k:NH K (.ref f)=true)(b:∀(kV doc pm:Value)(an:Option Addr)(cdv ct:Value),∀us:List Value,us.length=ps.length->bindArgs (NI x x (kaD st) (kaB st) (kag st) .none kV doc pm an cdv ct) ⟨us,[]⟩=pure (ps.zip us)):Dn K mg x st ps f (NI x x (kaD st) (kaB st) (kag st) .none kV doc pm an cdv ct):=⟨kbm l c k,Binds.all (b _ _ _ _ _ _),NZ X G a⟩
noncomputable def mt_mk{K:Nr}{st:Stmt}{ps:List Str}{f:Addr}{oc:Value}{od an:Option Addr}{osl:Array (Option Value)}{kV doc pm cdv ct:Value}{m qual:Str}{C:Addr}(a:Nv K (.ref C) m=some (some (.ref f)))(i:Me K (.ref f)=true)(l:K.lookup f=some ⟨oc,od, .func (NI m qual (kaD st) (kaB st) (kag st) .none kV doc pm an cdv ct),osl⟩)(c:N3 K cdv qual=true)(k:NH K (.ref f)=true)(b:∀(kV doc pm:Value)(an:Option Addr)(cdv ct:Value),∀us:List Value,us.length=ps.length->bindArgs (NI m qual (kaD st) (kaB st) (kag st) .none kV doc pm an cdv ct) ⟨us,[]⟩=pure (ps.zip us)):MthT K C m qual st ps f (NI m qual (kaD st) (kaB st) (kag st) .none kV doc pm an cdv ct):=⟨a,i,kbm l c k,Binds.all (b _ _ _ _ _ _)⟩
theorem all_mk{l:PySem.W.OpenLaw}{w:World}{K:Nr}{h:Heap}{mg:Str->Option Value}{fa zgs zfw z38 zg4 zhl z7x zhg zgr z2x z27 z5g z32 zx z44 z97 z3u zbh zg7 ze2 z3z z4r z4h z28 z8g z1z z4t z5e z5f z71 z4a z1r z2t ze4 ze6 z6q zad z7z z51 z62 z4z z67 z96 z80 z4g z8c za6 z6m z6d z6l z5b z7y zbw z94 zc0 zj z19 z3i zg zr z1v zl z1s z5u ze z1b z3k za zv z1n zc zy z21 zb zu z1m zp z1j z4c zi zz z2h zd z3y z31 zo za7 z4u z6e z48 z3n zk z8t zq z1k z4d zn zh z1a zt:Addr}{z7i z24 zdp z65 zjq zhj zc5 z5n zbf z9e z3q z9o ze8 z93 zfr zbt z5q zc6 z8e z3f z89 zay z4m zae z8o z2v z7o zcy z6h zct zah z55 zap zd1 z60 zcl z5x zbm:Option Addr}{z7n ze0 zje zbq zcd z9z z9l zf9 zes zc8 zcc z83 z7q zb6 zav z8d z8m zcj zcz zb0 zal zcg zdc z5y zbg:Array (Option Value)}{z73 z2e z2m z2l zw z2f zcv z72 z6w z6p z1p z6z zjs zhh zhd zhi ze9 zhe zc2 z5w z5v z5d z22 z5a zbn z9u z40 z43 z3s z1o z3o z9b zei z7w z92 z8u z4e z8z zfk zc9 z5i z5m z5p z2b z5l zcb z8w z3c z3d z34 z1c z2y z8n zat z4l z58 z4f z1x z53 zam z7s z30 z35 z3b z1h z36 z7u zdz z64 z6a z6c z3j z6b zcf zaw z57 z50 z4q z1w z4o zb9 zcn z5z z6i z6f z3m z6s zd5 z1y z5o:Value}{zbe z3a z9j zeo zbp z8k zb4 z8j zd9 zb2 z23 zd6 z3w z26 z2s z2c z6g z6y z6r:Nat}{zfy zg6 z39 zfz zhf z81 zhk zgq z2u z2a z5c z2w z3x z8h z42 zc1 zgc ze1 z47 z4w z56 z20 z7r z4n z5t z5k z68 z45 z1t z2z ze5 ze7 z6x za9 z8v z4v z61 z4i z6u z95 z8x z4s z8p za5 z6o z70 z66 z5s z86 zbd z84 z41 z3h zac z4p z6v z3r z46 z88:FuncData}{zf zm:Array Value}{z2n z63:Str}{z2g z29 z6n z6k:Int}{z2r z6j:Bool}{ts:List Addr}(X:K.In h)(G:h.Ns mainGlobals mg)(hfa:mg "law"=some (.ref fa))
  (zi8:Dn K mg "dealt" khu ["cut","weights"] zgs zfy)
  (zib:Dn K mg "under" khs ["parents","one","other"] zfw zg6)
  (z8a:Dn K mg "price_of_piece" kbK ["line","member"] z38 z39)
  (zim:Dn K mg "about" kew ["voucher","parents","basket","standing"] zg4 zfz)
  (zjb:Dn K mg "fits" kjE ["marks","parents","kind","marked"] zhl zhf)
  (zfq:Dn K mg "hindrance" kc9 ["voucher","parents","basket","standing"] z7x z81)
  (zjn:Dn K mg "cuts" kjF ["voucher","parents","basket","standing"] zhg zhk)
  (zif:Dn K mg "after" khv ["voucher","parents","basket","standing"] zgr zgq)
  (z98:Dn K mg "cuts_of_pieces" kbN ["voucher","parents","basket","standing"] z2x z2u)
  (z7g:Dn K mg "cut_of_carriage" kbw ["voucher","standing"] z27 z2a)
  (zbz:Dn K mg "wanted_cuts" kbc ["voucher","standing","pieces"] z5g z5c)
  (z8l:Dn K mg "parted_by_line" kbM ["standing","pieces"] z32 z2w)
  (z85:NM K mainGlobals "falling_groups"=some (some (.ref zx))) (z8r:K.lookup zx=some ⟨z73,z7i, .func (NI "falling_groups" "falling_groups" (kaD kaF) (kaB kaF) (kag kaF) .none z2e z2m z2l z24 zw z2f),z7n⟩) (z91:N3 K zw "falling_groups"=true) (z7t:NH K (.ref zx)=true)
  (z9r:Dn K mg "marked_behind" kb0 ["voucher","standing","piece_cuts"] z44 z3x)
  (zfi:Dn K mg "prices_of" kcy ["standing","pieces"] z97 z8h)
  (z9k:Dn K mg "sum_of_prices" kbZ ["standing","pieces"] z3u z42)
  (zgy:Dn K mg "at_most" kev ["most","number"] zbh zc1)
  (ziv:Dn K mg "fault" kht ["till","basket","hand","order"] zg7 zgc)
  (zi6:Dn K mg "way_by" kfL ["till","basket","hand","order"] ze2 ze1)
  (z9p:Dn K mg "word_of_order" kbX ["till","hand","used","number"] z3z z47)
  (zag:Dn K mg "breaks_never" kck ["rules","used","number"] z4r z4w)
  (zax:Dn K mg "breaks_ahead" kcl ["rules","used","number"] z4h z56)
  (z77:Dn K mg "without_company" kbv ["rules","order"] z28 z20)
  (zfe:Dn K mg "ways_from" kc8 ["way"] z8g z7r)
  (zfp:NM K mainGlobals "first_use"=some (some (.ref z1z))) (zeb:K.lookup z1z=some ⟨zcv,zdp, .func (NI "first_use" "first_use" (kaD ka1) (kaB ka1) (kag ka1) .none z72 z6w z6p z65 z1p z6z),ze0⟩) (zf8:N3 K z1p "first_use"=true) (zfo:NH K (.ref z1z)=true)
  (zau:Dn K mg "first_unlike" kci ["till","baskets"] z4t z4n)
  (zbc:Dn K mg "first_spill" kcz ["till","baskets"] z5e z5t)
  (zc3:Dn K mg "first_found" kcA ["till","baskets","look"] z5f z5k)
  (zch:Dn K mg "order_with" kcH ["ways","voucher"] z71 z68)
  (z99:Dn K mg "unlike_orders" kbY ["ways"] z4a z45)
  (z5r:Dn K mg "order_that_spills" kbl ["ways"] z1r z1t)
  (z7v:Dn K mg "place_of_spill" kbL ["way"] z2t z2z)
  (zhp:Dn K mg "spills" kfM ["way","voucher"] ze4 ze5)
  (zi3:Dn K mg "priced" kfN ["till","basket","hand","order"] ze6 ze7)
  (zdd:Dn K mg "_law_whole" kcJ ["_law_found"] z6q z6x)
  (zgm:Dn K mg "_law_mix" kdJ ["_law_cell","_law_factor","_law_prime"] zad za9)
  (zeq:Dn K mg "_law_coin" kdf ["_law_cell"] z7z z8v)
  (zb3:Dn K mg "_law_parents" kcn ["_law_cell"] z51 z4v)
  (zco:Dn K mg "_law_marks" kcN ["_law_cell","_law_kinds"] z62 z61)
  (zaf:Dn K mg "_law_voucher" kcm ["_law_cell","_law_kinds"] z4z z4i)
  (zcm:Dn K mg "_law_rules" kcM ["_law_cell","_law_many"] z67 z6u)
  (zea:Dn K mg "_law_till" kda ["_law_script","_law_most_here"] z96 z95)
  (zfc:Dn K mg "_law_line" kdd ["_law_cell","_law_kinds"] z80 z8x)
  (zao:Dn K mg "_law_baskets" kbC ["_law_script","_law_kinds","_law_most_here"] z4g z4s)
  (zez:Dn K mg "_law_rows" kdb ["_law_many","_law_row"] z8c z8p)
  (zgg:Dn K mg "_law_let" kcV ["_law_till_here","_law_basket"] za6 za5)
  (zcq:Dn K mg "_law_under" kcK ["_law_parents_here","_law_one","_law_other"] z6m z6o)
  (zdh:Dn K mg "_law_worth" kcI ["_law_till_here","_law_basket","_law_voucher_here","_law_prices","_law_marked"] z6d z70)
  (zda:Dn K mg "_law_spilt" kcL ["_law_till_here","_law_basket","_law_row"] z6l z66)
  (zca:Dn K mg "_law_unlike" kcB ["_law_till_here","_law_basket","_law_rows_here"] z5b z5s)
  (zew:Dn K mg "_law_dues" kde ["_law_till_here","_law_baskets_here"] z7y z86)
  (zgx:Dn K mg "_law_is" kex ["_law_found","_law_due"] zbw zbd)
  (zf3:Dn K mg "_law_most" kdc ["_law_script","_law_wide"] z94 z84)
  (zix:NM K mainGlobals "law"=some (some (.ref zc0))) (zk2:K.lookup zc0=some ⟨zjs,zjq, .func (NI "law" "law" (kaD s_law) (kaB s_law) (kag s_law) .none zhh zhd zhi zhj ze9 zhe),zje⟩) (zk1:N3 K ze9 "law"=true) (zk0:NH K (.ref zc0)=true)
  (zig:NM K mainGlobals "Marks"=some (some (.ref zj)))
  (zhu:NA K zj (.type "object")=some true) (zhs:NA K zj (.ref zj)=some true) (zhx:N9 K (.ref zj)=some (.type "type"))
  (inX:Ee K (.builtin "object.__class__") "__get__"=some (some (.builtin "getset_descriptor.__get__"))) (itX:E6 K (.builtin "object.__class__")=some true)
  (zi1:N8 K zj Str.empty=true) (zhr:Mb K zj=true) (zhv:Mf K zj=true) (zhy:Nv K (.ref zj) "__setattr__"=some (some (.builtin "object.__setattr__"))) (zhz:Mc K zj=true) (zi4:NH K (.ref zj)=true) (zi2:Nv K (.ref zj) "__class__"=some (some (.builtin "object.__class__")))
  (zdr:Nv K (.ref zj) "kind"=some none)
  (zbk:Nv K (.ref zj) "needs"=some none)
  (zdk:Nv K (.ref zj) "most"=some none)
  (zb5:Nv K (.ref zj) "member"=some none)
  (zdt:Nv K (.ref zj) "once"=some none)
  (zdi:Nv K (.ref zj) "lone"=some none)
  (zdm:Nv K (.ref zj) "__init__"=some (some (.ref z19))) (zcs:Me K (.ref z19)=true) (zdg:K.lookup z19=some ⟨zc2,zc5, .func (NI "__init__" "Marks.__init__" (kaD ka0) (kaB ka0) (kag ka0) (.ref z3i) z5w z5v z5d z5n z22 z5a),zbq⟩) (zcw:N3 K z22 "Marks.__init__"=true) (zd7:NH K (.ref z19)=true) (zs:K.lookup z3i=some ⟨zbn,zbf, .seq #[.none, .int 0 z3a, .none, .bool false, .bool false, .bool false] zbe,zcd⟩)
  (zgt:NM K mainGlobals "Voucher"=some (some (.ref zg)))
  (zg5:NA K zg (.type "object")=some true) (zgl:NA K zg (.ref zg)=some true) (zgh:N9 K (.ref zg)=some (.type "type"))
  (zgb:N8 K zg Str.empty=true) (zga:Mb K zg=true) (zg0:Mf K zg=true) (zgf:Nv K (.ref zg) "__setattr__"=some (some (.builtin "object.__setattr__"))) (zg1:Mc K zg=true) (zfx:NH K (.ref zg)=true) (zge:Nv K (.ref zg) "__class__"=some (some (.builtin "object.__class__")))
  (zba:Nv K (.ref zg) "__init__"=some (some (.ref zr))) (zb7:Me K (.ref zr)=true) (zb8:K.lookup zr=some ⟨z9u,z9e, .func (NI "__init__" "Voucher.__init__" (kaD kaS) (kaB kaS) (kag kaS) (.ref z1v) z40 z43 z3s z3q z1o z3o),z9z⟩) (zas:N3 K z1o "Voucher.__init__"=true) (zan:NH K (.ref zr)=true) (z59:K.lookup z1v=some ⟨z9b,z9o, .seq #[.none] z9j,z9l⟩)
  (zj8:NM K mainGlobals "Off"=some (some (.ref zl)))
  (z8b:NA K zl (.type "object")=some true) (z87:NA K zl (.ref zl)=some true) (z8s:N9 K (.ref zl)=some (.type "type"))
  (zjc:N8 K zl Str.empty=true) (zjm:Mb K zl=true) (zjk:Mf K zl=true) (zjj:Nv K (.ref zl) "__setattr__"=some (some (.builtin "object.__setattr__"))) (zjf:Mc K zl=true) (zjo:NH K (.ref zl)=true) (zjt:Nv K (.ref zl) "__class__"=some (some (.builtin "object.__class__")))
  (zdq:Nv K (.ref zl) "amount"=some none)
  (zf6:Nv K (.ref zl) "marks"=some none)
  (zg8:Nv K (.ref zl) "__init__"=some (some (.ref z1s))) (zg2:Me K (.ref z1s)=true) (zgi:K.lookup z1s=some ⟨zei,ze8, .func (NI "__init__" "Off.__init__" (kaD kbn) (kaB kbn) (kag kbn) (.ref z5u) z7w z92 z8u z93 z4e z8z),zf9⟩) (zg9:N3 K z4e "Off.__init__"=true) (zgn:NH K (.ref z1s)=true) (zaa:K.lookup z5u=some ⟨zfk,zfr, .seq #[.none] zeo,zes⟩)
  (zgo:NM K mainGlobals "Share"=some (some (.ref ze)))
  (z3p:NA K ze (.type "object")=some true) (z49:NA K ze (.ref ze)=some true) (z3t:N9 K (.ref ze)=some (.type "type"))
  (zhn:N8 K ze Str.empty=true) (zhw:Mb K ze=true) (zhq:Mf K ze=true) (zht:Nv K (.ref ze) "__setattr__"=some (some (.builtin "object.__setattr__"))) (zho:Mc K ze=true) (zi0:NH K (.ref ze)=true) (zhm:Nv K (.ref ze) "__class__"=some (some (.builtin "object.__class__")))
  (zbj:Nv K (.ref ze) "share"=some none)
  (z9i:Nv K (.ref ze) "by_line"=some none)
  (zbv:Nv K (.ref ze) "marks"=some none)
  (zci:Nv K (.ref ze) "__init__"=some (some (.ref z1b))) (zdj:Me K (.ref z1b)=true) (zd8:K.lookup z1b=some ⟨zc9,zbt, .func (NI "__init__" "Share.__init__" (kaD kaZ) (kaB kaZ) (kag kaZ) (.ref z3k) z5i z5m z5p z5q z2b z5l),zc8⟩) (zcu:N3 K z2b "Share.__init__"=true) (zck:NH K (.ref z1b)=true) (z3l:K.lookup z3k=some ⟨zcb,zc6, .seq #[.bool false, .none] zbp,zcc⟩)
  (zab:NM K mainGlobals "Cheapest"=some (some (.ref za)))
  (z1f:NA K za (.type "object")=some true) (z1d:NA K za (.ref za)=some true) (z1i:N9 K (.ref za)=some (.type "type"))
  (zeg:N8 K za Str.empty=true) (zem:Mb K za=true) (zej:Mf K za=true) (zfj:Nv K (.ref za) "__setattr__"=some (some (.builtin "object.__setattr__"))) (zf5:Mc K za=true) (zfg:NH K (.ref za)=true) (zey:Nv K (.ref za) "__class__"=some (some (.builtin "object.__class__")))
  (za4:Nv K (.ref za) "many"=some none)
  (z8y:Nv K (.ref za) "marks"=some none)
  (z9g:Nv K (.ref za) "__init__"=some (some (.ref zv))) (z9a:Me K (.ref zv)=true) (z9x:K.lookup zv=some ⟨z8w,z8e, .func (NI "__init__" "Cheapest.__init__" (kaD kaL) (kaB kaL) (kag kaL) (.ref z1n) z3c z3d z34 z3f z1c z2y),z83⟩) (z9d:N3 K z1c "Cheapest.__init__"=true) (z9f:NH K (.ref zv)=true) (z4b:K.lookup z1n=some ⟨z8n,z89, .seq #[.none] z8k,z7q⟩)
  (ze3:NM K mainGlobals "Bundle"=some (some (.ref zc)))
  (z2k:NA K zc (.type "object")=some true) (z2i:NA K zc (.ref zc)=some true) (z25:N9 K (.ref zc)=some (.type "type"))
  (zh7:N8 K zc Str.empty=true) (zhb:Mb K zc=true) (zh3:Mf K zc=true) (zh9:Nv K (.ref zc) "__setattr__"=some (some (.builtin "object.__setattr__"))) (zgz:Mc K zc=true) (zgu:NH K (.ref zc)=true) (zh4:Nv K (.ref zc) "__class__"=some (some (.builtin "object.__class__")))
  (zc7:Nv K (.ref zc) "many"=some none)
  (zai:Nv K (.ref zc) "price"=some none)
  (zb1:Nv K (.ref zc) "marks"=some none)
  (zbs:Nv K (.ref zc) "__init__"=some (some (.ref zy))) (zbo:Me K (.ref zy)=true) (zbx:K.lookup zy=some ⟨zat,zay, .func (NI "__init__" "Bundle.__init__" (kaD kaV) (kaB kaV) (kag kaV) (.ref z21) z4l z58 z4f z4m z1x z53),zb6⟩) (zbi:N3 K z1x "Bundle.__init__"=true) (zby:NH K (.ref zy)=true) (z5h:K.lookup z21=some ⟨zam,zae, .seq #[.none] zb4,zav⟩)
  (za8:NM K mainGlobals "Carriage"=some (some (.ref zb)))
  (z1g:NA K zb (.type "object")=some true) (z1l:NA K zb (.ref zb)=some true) (z1e:N9 K (.ref zb)=some (.type "type"))
  (zef:N8 K zb Str.empty=true) (zfb:Mb K zb=true) (zec:Mf K zb=true) (zfh:Nv K (.ref zb) "__setattr__"=some (some (.builtin "object.__setattr__"))) (zf2:Mc K zb=true) (zfv:NH K (.ref zb)=true) (zf4:Nv K (.ref zb) "__class__"=some (some (.builtin "object.__class__")))
  (z82:Nv K (.ref zb) "marks"=some none)
  (za1:Nv K (.ref zb) "__init__"=some (some (.ref zu))) (z9t:Me K (.ref zu)=true) (z9c:K.lookup zu=some ⟨z7s,z8o, .func (NI "__init__" "Carriage.__init__" (kaD kaM) (kaB kaM) (kag kaM) (.ref z1m) z30 z35 z3b z2v z1h z36),z8d⟩) (za2:N3 K z1h "Carriage.__init__"=true) (z9h:NH K (.ref zu)=true) (z3v:K.lookup z1m=some ⟨z7u,z7o, .seq #[.none] z8j,z8m⟩)
  (zjp:NM K mainGlobals "Line"=some (some (.ref zp)))
  (zi7:NA K zp (.type "object")=some true) (zj3:NA K zp (.ref zp)=some true) (zi9:N9 K (.ref zp)=some (.type "type"))
  (ziq:N8 K zp Str.empty=true) (zic:Mb K zp=true) (zj7:Mf K zp=true) (zih:Nv K (.ref zp) "__setattr__"=some (some (.builtin "object.__setattr__"))) (zj6:Mc K zp=true) (zin:NH K (.ref zp)=true) (ziu:Nv K (.ref zp) "__class__"=some (some (.builtin "object.__class__")))
  (zfd:Nv K (.ref zp) "kind"=some none)
  (zdu:Nv K (.ref zp) "price"=some none)
  (zer:Nv K (.ref zp) "many"=some none)
  (zaz:Nv K (.ref zp) "special"=some none)
  (zf0:Nv K (.ref zp) "__init__"=some (some (.ref z1j))) (zfa:Me K (.ref z1j)=true) (zee:K.lookup z1j=some ⟨zdz,zcy, .func (NI "__init__" "Line.__init__" (kaD ka8) (kaB ka8) (kag ka8) (.ref z4c) z64 z6a z6c z6h z3j z6b),zcj⟩) (zft:N3 K z3j "Line.__init__"=true) (zfm:NH K (.ref z1j)=true) (z7p:K.lookup z4c=some ⟨zcf,zct, .seq #[.none] zd9,zcz⟩)
  (zi5:NM K mainGlobals "Basket"=some (some (.ref zi)))
  (zh2:NA K zi (.type "object")=some true) (zha:NA K zi (.ref zi)=some true) (zh6:N9 K (.ref zi)=some (.type "type"))
  (zh1:N8 K zi Str.empty=true) (zgv:Mb K zi=true) (zh5:Mf K zi=true) (zh0:Nv K (.ref zi) "__setattr__"=some (some (.builtin "object.__setattr__"))) (zhc:Mc K zi=true) (zgw:NH K (.ref zi)=true) (zh8:Nv K (.ref zi) "__class__"=some (some (.builtin "object.__class__")))
  (zak:Nv K (.ref zi) "lines"=some none)
  (z78:Nv K (.ref zi) "carriage"=some none)
  (z9n:Nv K (.ref zi) "member"=some none)
  (zbu:Nv K (.ref zi) "__init__"=some (some (.ref zz))) (zbl:Me K (.ref zz)=true) (zbb:K.lookup zz=some ⟨zaw,zah, .func (NI "__init__" "Basket.__init__" (kaD kaW) (kaB kaW) (kag kaW) (.ref z2h) z57 z50 z4q z55 z1w z4o),zb0⟩) (zc4:N3 K z1w "Basket.__init__"=true) (zbr:NH K (.ref zz)=true) (z2d:K.lookup z2h=some ⟨zb9,zap, .seq #[.int 0 z23, .bool false] zb2,zal⟩)
  (zgk:NM K mainGlobals "Standing"=some (some (.ref zd)))
  (zeh:NA K zd (.type "object")=some true) (zep:NA K zd (.ref zd)=some true) (zen:N9 K (.ref zd)=some (.type "type"))
  (zev:N8 K zd Str.empty=true) (zfu:Mb K zd=true) (zf7:Mf K zd=true) (zfs:Nv K (.ref zd) "__setattr__"=some (some (.builtin "object.__setattr__"))) (zex:Mc K zd=true) (zfl:NH K (.ref zd)=true) (zel:Nv K (.ref zd) "__class__"=some (some (.builtin "object.__class__")))
  (z7a:Nv K (.ref zd) "owners"=some none)
  (z79:Nv K (.ref zd) "prices"=some none)
  (z5j:Nv K (.ref zd) "carriage"=some none)
  (z76:Nv K (.ref zd) "marked"=some none)
  (z9y:MthT K zd "__init__" "Standing.__init__" kb4 ["self","basket"] z3y z41)
  (z90:MthT K zd "whole" "Standing.whole" kbO ["self"] z31 z3h)
  (zjz:NM K mainGlobals "Way"=some (some (.ref zo)))
  (zjw:NA K zo (.type "object")=some true) (zjv:NA K zo (.ref zo)=some true) (zjx:N9 K (.ref zo)=some (.type "type"))
  (zjr:N8 K zo Str.empty=true) (zjh:Mb K zo=true) (zjg:Mf K zo=true) (zjd:Nv K (.ref zo) "__setattr__"=some (some (.builtin "object.__setattr__"))) (zja:Mc K zo=true) (zji:NH K (.ref zo)=true) (zjl:Nv K (.ref zo) "__class__"=some (some (.builtin "object.__class__")))
  (zgj:Nv K (.ref zo) "till"=some none)
  (zcr:Nv K (.ref zo) "basket"=some none)
  (zg3:Nv K (.ref zo) "hand"=some none)
  (zgp:Nv K (.ref zo) "used"=some none)
  (zar:Nv K (.ref zo) "standing"=some none)
  (zgd:MthT K zo "__init__" "Way.__init__" kdK ["self","till","basket","hand"] za7 zac)
  (zaq:MthT K zo "word_for" "Way.word_for" kco ["self","number"] z4u z4p)
  (zdy:MthT K zo "behind" "Way.behind" kcO ["self","number"] z6e z6v)
  (z9w:MthT K zo "followers" "Way.followers" kbs ["self"] z48 z3r)
  (za0:MthT K zo "is_let_by" "Way.is_let_by" kb3 ["self"] z3n z46)
  (zju:NM K mainGlobals "Bill"=some (some (.ref zk)))
  (zj5:NA K zk (.type "object")=some true) (ziz:NA K zk (.ref zk)=some true) (ziy:N9 K (.ref zk)=some (.type "type"))
  (zis:N8 K zk Str.empty=true) (zie:Mb K zk=true) (zj2:Mf K zk=true) (zii:Nv K (.ref zk) "__setattr__"=some (some (.builtin "object.__setattr__"))) (ziw:Mc K zk=true) (zij:NH K (.ref zk)=true) (zit:Nv K (.ref zk) "__class__"=some (some (.builtin "object.__class__")))
  (zdb:Nv K (.ref zk) "order"=some none)
  (zd3:Nv K (.ref zk) "steps"=some none)
  (zce:Nv K (.ref zk) "prices"=some none)
  (z9s:Nv K (.ref zk) "carriage"=some none)
  (zcp:Nv K (.ref zk) "total"=some none)
  (zek:MthT K zk "__init__" "Bill.__init__" kdg ["self","order","steps","standing"] z8t z88)
  (zjy:NM K mainGlobals "Till"=some (some (.ref zq)))
  (zio:NA K zq (.type "object")=some true) (zid:NA K zq (.ref zq)=some true) (zia:N9 K (.ref zq)=some (.type "type"))
  (zik:N8 K zq Str.empty=true) (zil:Mb K zq=true) (zj1:Mf K zq=true) (zj9:Nv K (.ref zq) "__setattr__"=some (some (.builtin "object.__setattr__"))) (zj0:Mc K zq=true) (zj4:NH K (.ref zq)=true) (zir:Nv K (.ref zq) "__class__"=some (some (.builtin "object.__class__")))
  (zaj:Nv K (.ref zq) "parents"=some none)
  (z9m:Nv K (.ref zq) "vouchers"=some none)
  (zdw:Nv K (.ref zq) "rules"=some none)
  (zff:Nv K (.ref zq) "back"=some none)
  (zeu:Nv K (.ref zq) "__init__"=some (some (.ref z1k))) (zfn:Me K (.ref z1k)=true) (zf1:K.lookup z1k=some ⟨zcn,zd1, .func (NI "__init__" "Till.__init__" (kaD ka7) (kaB ka7) (kag ka7) (.ref z4d) z5z z6i z6f z60 z3m z6s),zcg⟩) (zed:N3 K z3m "Till.__init__"=true) (zet:NH K (.ref z1k)=true) (z8i:K.lookup z4d=some ⟨zd5,zcl, .seq #[.str "again" z3w] zd6,zdc⟩)
  (za3:PySem.W.readsIn K zg (.type "type")=true) (z9q:Ee K (.ref zg) "__getattribute__"=some (some (.builtin "type.__getattribute__"))) (z9v:PySem.W.findCls K (.ref zg) (.type "type") "__init__"=some (.val (.ref zr)))
  (z4k:NA K zl (.ref zb)=some false)
  (z3g:NA K ze (.ref zb)=some false)
  (z1u:NA K za (.ref zb)=some false)
  (z2q:NA K zc (.ref zb)=some false)
  (z8q:NA K ze (.ref zl)=some false)
  (z4j:NA K za (.ref zl)=some false)
  (z6t:NA K zc (.ref zl)=some false)
  (z52:NA K zb (.ref zl)=some false)
  (z8f:NA K zl (.ref ze)=some false)
  (z33:NA K za (.ref ze)=some false)
  (z4y:NA K zc (.ref ze)=some false)
  (z37:NA K zb (.ref ze)=some false)
  (z54:NA K zl (.ref za)=some false)
  (z3e:NA K ze (.ref za)=some false)
  (z2o:NA K zc (.ref za)=some false)
  (z1q:NA K zb (.ref za)=some false)
  (z69:NA K zl (.ref zc)=some false)
  (z4x:NA K ze (.ref zc)=some false)
  (z2j:NA K za (.ref zc)=some false)
  (z2p:NA K zb (.ref zc)=some false)
  (z7b:zw=.ref zn)
  (z7l:K.lookup zn=some ⟨z1y,z5x, .fields zf,z5y⟩)
  (z7f:z1y=.type "code")
  (z7m:zf[11]?=some (.ref zh))
  (z7c:zf.getD 11 .none=.ref zh)
  (z7d:zf.getD 18 .none=.str z2n z26)
  (z7k:zf.getD 7 .none=.int z2g z2s)
  (z74:zf.getD 9 .none=.bool z2r)
  (z75:zf.getD 10 .none=.int z29 z2c)
  (z7h:zn≠zh)
  (z7e:K.lookup zh=none)
  (z7j:zh∈ts)
  (zdx:z1p=.ref z1a)
  (zdo:K.lookup z1a=some ⟨z5o,zbm, .fields zm,zbg⟩)
  (zd2:z5o=.type "code")
  (zdl:zm[11]?=some (.ref zt))
  (zdn:zm.getD 11 .none=.ref zt)
  (zdv:zm.getD 18 .none=.str z63 z6g)
  (zds:zm.getD 7 .none=.int z6n z6y)
  (zd4:zm.getD 9 .none=.bool z6j)
  (zd0:zm.getD 10 .none=.int z6k z6r)
  (zdf:z1a≠zt)
  (zcx:K.lookup zt=none)
  (zde:zt∈ts)
  (z1:NM K mainGlobals "range"=some none)
  (z2:NM K mainGlobals "len"=some none)
  (z3:NM K mainGlobals "min"=some none)
  (z4:NM K mainGlobals "max"=some none)
  (z5:NM K mainGlobals "isinstance"=some none)
  (z6:NM K mainGlobals "bool"=some none)
  (z7:NM K mainGlobals "int"=some none)
  (z8:NM K mainGlobals "list"=some none)
  (z9:NM K mainGlobals "sum"=some none)
  (z10:NM K mainGlobals "enumerate"=some none)
  (z11:NM K mainGlobals "any"=some none)
  (z12:NM K mainGlobals "all"=some none)
  (z13:NM K mainGlobals "reversed"=some none)
  (z14:NM K mainGlobals "zip"=some none)
  (z15:NM K mainGlobals "abs"=some none)
  (z16:NM K mainGlobals "sorted"=some none)
  (z17:NM K mainGlobals "tuple"=some none)
  (z18:NM K mainGlobals "str"=some none)
  :∃(fd:FuncData)(tP c0 tR c1:Addr),tP∈ts/\CodeK K c0 tP/\K.lookup tP=none/\tR∈ts/\CodeK K c1 tR/\K.lookup tR=none/\(∀(s:Shared)(v:Value),BindsTo s fd ⟨[v],[]⟩ [("_law_script",v)])/\∀base:Heap,K.In base->base.Ns mainGlobals mg->BltM mg base->FnOk l.prog w K mg base CX0 22 fa fd ["_law_script"] (kes K tP tR):=by
 have e:=hfa.symm.trans (NZ X G zix)
 have hf:zc0=fa:=by
  injection e with e
  injection e with e
  exact e.symm
 subst hf
 have B:TxtB mg:=⟨N7 X G z1,N7 X G z2,N7 X G z3,N7 X G z4,N7 X G z5,N7 X G z6,N7 X G z7,N7 X G z8,N7 X G z9,N7 X G z10,N7 X G z11,N7 X G z12,N7 X G z13,N7 X G z14,N7 X G z15,N7 X G z16,N7 X G z17,N7 X G z18⟩
 have W:Wld K mg ⟨(zgs),(zfy),(zfw),(zg6),(z38),(z39),(zg4),(zfz),(zhl),(zhf),(z7x),(z81),(zhg),(zhk),(zgr),(zgq),(z2x),(z2u),(z27),(z2a),(z5g),(z5c),(z32),(z2w),(zx),(NI "falling_groups" "falling_groups" (kaD kaF) (kaB kaF) (kag kaF) .none z2e z2m z2l z24 zw z2f),(z44),(z3x),(z97),(z8h),(z3u),(z42),(zbh),(zc1),(zg7),(zgc),(ze2),(ze1),(z3z),(z47),(z4r),(z4w),(z4h),(z56),(z28),(z20),(z8g),(z7r),(z1z),(NI "first_use" "first_use" (kaD ka1) (kaB ka1) (kag ka1) .none z72 z6w z6p z65 z1p z6z),(z4t),(z4n),(z5e),(z5t),(z5f),(z5k),(z71),(z68),(z4a),(z45),(z1r),(z1t),(z2t),(z2z),(ze4),(ze5),(ze6),(ze7),(z6q),(z6x),(zad),(za9),(z7z),(z8v),(z51),(z4v),(z62),(z61),(z4z),(z4i),(z67),(z6u),(z96),(z95),(z80),(z8x),(z4g),(z4s),(z8c),(z8p),(za6),(za5),(z6m),(z6o),(z6d),(z70),(z6l),(z66),(z5b),(z5s),(z7y),(z86),(zbw),(zbd),(z94),(z84),(zc0),(NI "law" "law" (kaD s_law) (kaB s_law) (kag s_law) .none zhh zhd zhi zhj ze9 zhe),(zj),(z19),(NI "__init__" "Marks.__init__" (kaD ka0) (kaB ka0) (kag ka0) (.ref z3i) z5w z5v z5d z5n z22 z5a),(z3a),(zg),(zr),(NI "__init__" "Voucher.__init__" (kaD kaS) (kaB kaS) (kag kaS) (.ref z1v) z40 z43 z3s z3q z1o z3o),(zl),(z1s),(NI "__init__" "Off.__init__" (kaD kbn) (kaB kbn) (kag kbn) (.ref z5u) z7w z92 z8u z93 z4e z8z),(ze),(z1b),(NI "__init__" "Share.__init__" (kaD kaZ) (kaB kaZ) (kag kaZ) (.ref z3k) z5i z5m z5p z5q z2b z5l),(za),(zv),(NI "__init__" "Cheapest.__init__" (kaD kaL) (kaB kaL) (kag kaL) (.ref z1n) z3c z3d z34 z3f z1c z2y),(zc),(zy),(NI "__init__" "Bundle.__init__" (kaD kaV) (kaB kaV) (kag kaV) (.ref z21) z4l z58 z4f z4m z1x z53),(zb),(zu),(NI "__init__" "Carriage.__init__" (kaD kaM) (kaB kaM) (kag kaM) (.ref z1m) z30 z35 z3b z2v z1h z36),(zp),(z1j),(NI "__init__" "Line.__init__" (kaD ka8) (kaB ka8) (kag ka8) (.ref z4c) z64 z6a z6c z6h z3j z6b),(zi),(zz),(NI "__init__" "Basket.__init__" (kaD kaW) (kaB kaW) (kag kaW) (.ref z2h) z57 z50 z4q z55 z1w z4o),(z23),(zd),(z3y),(z41),(z31),(z3h),(zo),(za7),(zac),(z4u),(z4p),(z6e),(z6v),(z48),(z3r),(z3n),(z46),(zk),(z8t),(z88),(zq),(z1k),(NI "__init__" "Till.__init__" (kaD ka7) (kaB ka7) (kag ka7) (.ref z4d) z5z z6i z6f z60 z3m z6s),(z3w),(zn),(zh),(z1a),(zt)⟩:=⟨B,zi8,zib,z8a,zim,zjb,zfq,zjn,zif,z98,z7g,zbz,z8l,⟨(kbm z8r z91 z7t),(Binds.all (nL3 fun _ _ _=>rfl)),NZ X G z85⟩,z9r,zfi,z9k,zgy,ziv,zi6,z9p,zag,zax,z77,zfe,⟨(kbm zeb zf8 zfo),(Binds.all (nL3 fun _ _ _=>rfl)),NZ X G zfp⟩,zau,zbc,zc3,zch,z99,z5r,z7v,zhp,zi3,zdd,zgm,zeq,zb3,zco,zaf,zcm,zea,zfc,zao,zez,zgg,zcq,zdh,zda,zca,zew,zgx,zf3,⟨(kbm zk2 zk1 zk0),(Binds.all (nL1 fun _=>rfl)),NZ X G zix⟩,⟨⟨zi1,zhr,zhv,zhy⟩,NZ X G zig,⟨zi2,inX,itX,zhu⟩,zhs,zhx,zhz,zi4⟩,zdr,zbk,zdk,zb5,zdt,zdi,⟨zdm,zcs,(kbm zdg zcw zd7),(bd_mk (n:=7) rfl fun _ KX=>nL7 fun _ _ _ _ _ _ _=>BindsTo.of_defaults rfl (KX _ _ zs) rfl rfl rfl)⟩,(bd_mk (n:=6) rfl fun _ KX=>nL6 fun _ _ _ _ _ _=>BindsTo.of_defaults rfl (KX _ _ zs) rfl rfl rfl),(bd_mk (n:=5) rfl fun _ KX=>nL5 fun _ _ _ _ _=>BindsTo.of_defaults rfl (KX _ _ zs) rfl rfl rfl),(bd_mk (n:=4) rfl fun _ KX=>nL4 fun _ _ _ _=>BindsTo.of_defaults rfl (KX _ _ zs) rfl rfl rfl),(bd_mk (n:=3) rfl fun _ KX=>nL3 fun _ _ _=>BindsTo.of_defaults rfl (KX _ _ zs) rfl rfl rfl),(bd_mk (n:=2) rfl fun _ KX=>nL2 fun _ _=>BindsTo.of_defaults rfl (KX _ _ zs) rfl rfl rfl),(bd_mk (n:=1) rfl fun _ KX=>nL1 fun _=>BindsTo.of_defaults rfl (KX _ _ zs) rfl rfl rfl),⟨⟨zgb,zga,zg0,zgf⟩,NZ X G zgt,⟨zge,inX,itX,zg5⟩,zgl,zgh,zg1,zfx⟩,⟨zba,zb7,(kbm zb8 zas zan),(bd_mk (n:=2) rfl fun _ KX=>nL2 fun _ _=>BindsTo.of_defaults rfl (KX _ _ z59) rfl rfl rfl)⟩,(bd_mk (n:=1) rfl fun _ KX=>nL1 fun _=>BindsTo.of_defaults rfl (KX _ _ z59) rfl rfl rfl),NZ X G zj8,⟨⟨zjc,zjm,zjk,zjj⟩,NZ X G zj8,⟨zjt,inX,itX,z8b⟩,z87,z8s,zjf,zjo⟩,zdq,zf6,⟨zg8,zg2,(kbm zgi zg9 zgn),(bd_mk (n:=3) rfl fun _ KX=>nL3 fun _ _ _=>BindsTo.of_defaults rfl (KX _ _ zaa) rfl rfl rfl)⟩,(bd_mk (n:=2) rfl fun _ KX=>nL2 fun _ _=>BindsTo.of_defaults rfl (KX _ _ zaa) rfl rfl rfl),NZ X G zgo,⟨⟨zhn,zhw,zhq,zht⟩,NZ X G zgo,⟨zhm,inX,itX,z3p⟩,z49,z3t,zho,zi0⟩,zbj,z9i,zbv,⟨zci,zdj,(kbm zd8 zcu zck),(bd_mk (n:=4) rfl fun _ KX=>nL4 fun _ _ _ _=>BindsTo.of_defaults rfl (KX _ _ z3l) rfl rfl rfl)⟩,(bd_mk (n:=3) rfl fun _ KX=>nL3 fun _ _ _=>BindsTo.of_defaults rfl (KX _ _ z3l) rfl rfl rfl),(bd_mk (n:=2) rfl fun _ KX=>nL2 fun _ _=>BindsTo.of_defaults rfl (KX _ _ z3l) rfl rfl rfl),NZ X G zab,⟨⟨zeg,zem,zej,zfj⟩,NZ X G zab,⟨zey,inX,itX,z1f⟩,z1d,z1i,zf5,zfg⟩,za4,z8y,⟨z9g,z9a,(kbm z9x z9d z9f),(bd_mk (n:=3) rfl fun _ KX=>nL3 fun _ _ _=>BindsTo.of_defaults rfl (KX _ _ z4b) rfl rfl rfl)⟩,(bd_mk (n:=2) rfl fun _ KX=>nL2 fun _ _=>BindsTo.of_defaults rfl (KX _ _ z4b) rfl rfl rfl),NZ X G ze3,⟨⟨zh7,zhb,zh3,zh9⟩,NZ X G ze3,⟨zh4,inX,itX,z2k⟩,z2i,z25,zgz,zgu⟩,zc7,zai,zb1,⟨zbs,zbo,(kbm zbx zbi zby),(bd_mk (n:=4) rfl fun _ KX=>nL4 fun _ _ _ _=>BindsTo.of_defaults rfl (KX _ _ z5h) rfl rfl rfl)⟩,(bd_mk (n:=3) rfl fun _ KX=>nL3 fun _ _ _=>BindsTo.of_defaults rfl (KX _ _ z5h) rfl rfl rfl),NZ X G za8,⟨⟨zef,zfb,zec,zfh⟩,NZ X G za8,⟨zf4,inX,itX,z1g⟩,z1l,z1e,zf2,zfv⟩,z82,⟨za1,z9t,(kbm z9c za2 z9h),(bd_mk (n:=2) rfl fun _ KX=>nL2 fun _ _=>BindsTo.of_defaults rfl (KX _ _ z3v) rfl rfl rfl)⟩,(bd_mk (n:=1) rfl fun _ KX=>nL1 fun _=>BindsTo.of_defaults rfl (KX _ _ z3v) rfl rfl rfl),⟨⟨ziq,zic,zj7,zih⟩,NZ X G zjp,⟨ziu,inX,itX,zi7⟩,zj3,zi9,zj6,zin⟩,zfd,zdu,zer,zaz,⟨zf0,zfa,(kbm zee zft zfm),(bd_mk (n:=5) rfl fun _ KX=>nL5 fun _ _ _ _ _=>BindsTo.of_defaults rfl (KX _ _ z7p) rfl rfl rfl)⟩,(bd_mk (n:=4) rfl fun _ KX=>nL4 fun _ _ _ _=>BindsTo.of_defaults rfl (KX _ _ z7p) rfl rfl rfl),⟨⟨zh1,zgv,zh5,zh0⟩,NZ X G zi5,⟨zh8,inX,itX,zh2⟩,zha,zh6,zhc,zgw⟩,zak,z78,z9n,⟨zbu,zbl,(kbm zbb zc4 zbr),(bd_mk (n:=4) rfl fun _ KX=>nL4 fun _ _ _ _=>BindsTo.of_defaults rfl (KX _ _ z2d) rfl rfl rfl)⟩,(bd_mk (n:=3) rfl fun _ KX=>nL3 fun _ _ _=>BindsTo.of_defaults rfl (KX _ _ z2d) rfl rfl rfl),(bd_mk (n:=2) rfl fun _ KX=>nL2 fun _ _=>BindsTo.of_defaults rfl (KX _ _ z2d) rfl rfl rfl),⟨⟨zev,zfu,zf7,zfs⟩,NZ X G zgk,⟨zel,inX,itX,zeh⟩,zep,zen,zex,zfl⟩,z7a,z79,z5j,z76,z9y,z90,⟨⟨zjr,zjh,zjg,zjd⟩,NZ X G zjz,⟨zjl,inX,itX,zjw⟩,zjv,zjx,zja,zji⟩,zgj,zcr,zg3,zgp,zar,zgd,zaq,zdy,z9w,za0,⟨⟨zis,zie,zj2,zii⟩,NZ X G zju,⟨zit,inX,itX,zj5⟩,ziz,ziy,ziw,zij⟩,zdb,zd3,zce,z9s,zcp,zek,⟨⟨zik,zil,zj1,zj9⟩,NZ X G zjy,⟨zir,inX,itX,zio⟩,zid,zia,zj0,zj4⟩,zaj,z9m,zdw,zff,⟨zeu,zfn,(kbm zf1 zed zet),(bd_mk (n:=5) rfl fun _ KX=>nL5 fun _ _ _ _ _=>BindsTo.of_defaults rfl (KX _ _ z8i) rfl rfl rfl)⟩,(bd_mk (n:=4) rfl fun _ KX=>nL4 fun _ _ _ _=>BindsTo.of_defaults rfl (KX _ _ z8i) rfl rfl rfl),⟨za3,z9q,z9v⟩,kaO z4k z1g z1e (kbp z4k z87),kaO z3g z1g z1e (kbp z3g z49),kaO z1u z1g z1e (kbp z1u z1d),kaO z2q z1g z1e (kbp z2q z2i),kaO z8q z8b z8s (kbp z8q z49),kaO z4j z8b z8s (kbp z4j z1d),kaO z6t z8b z8s (kbp z6t z2i),kaO z52 z8b z8s (kbp z52 z1l),kaO z8f z3p z3t (kbp z8f z87),kaO z33 z3p z3t (kbp z33 z1d),kaO z4y z3p z3t (kbp z4y z2i),kaO z37 z3p z3t (kbp z37 z1l),kaO z54 z1f z1i (kbp z54 z87),kaO z3e z1f z1i (kbp z3e z49),kaO z2o z1f z1i (kbp z2o z2i),kaO z1q z1f z1i (kbp z1q z1l),kaO z69 z2k z25 (kbp z69 z87),kaO z4x z2k z25 (kbp z4x z49),kaO z2j z2k z25 (kbp z2j z1d),kaO z2p z2k z25 (kbp z2p z1l),z7b,⟨_,zf,z2n,z26,z2g,z2s,z2r,z29,z2c,z7l,z7f,rfl,z7m,z7c,z7d,z7k,z74,z75,z7h⟩,zdx,⟨_,zm,z63,z6g,z6n,z6y,z6j,z6k,z6r,zdo,zd2,rfl,zdl,zdn,zdv,zds,zd4,zd0,zdf⟩⟩
 exact⟨_,zh,zn,zt,z1a,z7j,W.ck_falling_groups,z7e,zde,W.ck_first_use,zcx,fun s v=>.of_eq rfl,fun base _ _ hB=>knj ⟨W,hB⟩⟩
end Vs
end Lake
open Lake
namespace PySem.W.Fast
def tw9695479321574596737:=Nat
def tw9443508935250124417:=Nat
def tw9283649814631782787:=Nat
def tw17802990490483196451:=Nat
def tw13026081962364650628:=Nat
def tw13341723526186250436:=Nat
def tw17463099636061702372:=Nat
def tw589450211643133317:=Nat
def tw16658913099272646790:=Nat
def tw8803403487484124870:=Nat
def tw18002682971773763591:=Nat
def tw6684207779920229575:=Nat
def tw9004210716936776455:=Nat
def tw13716124003772638826:=Nat
def tw7593173408018052043:=Nat
def tw12311242183953788078:=Nat
def tw15144757535247119854:=Nat
def tw3833738694610823631:=Nat
def tw10263910389096473103:=Nat
def tw15910716691874860176:=Nat
def tw9595901610419543856:=Nat
def tw2412328898686221329:=Nat
def tw12171327316000461201:=Nat
def tw5434656291373994385:=Nat
def tw9064413955558232977:=Nat
def tw7365630143451647058:=Nat
def tw2733157335218284114:=Nat
def tw17259646149716044370:=Nat
def tw5831193284126222451:=Nat
def tw12652625777551066771:=Nat
def tw1427980938364778452:=Nat
def tw6838446869816237173:=Nat
def tw16477904499201048405:=Nat
def tw15117879794274167703:=Nat
def tw14679881512828727737:=Nat
def tw16084053433557911385:=Nat
def tw9711853180805477274:=Nat
def tw11278654273406606651:=Nat
def tw15052711314457561180:=Nat
def tw16669035746135604988:=Nat
def tw7616445771048382238:=Nat
def tw4798623414779616543:=Nat
def tw13203693868392432160:=Nat
def tw5443919840596059574:=Nat
def tw11289718908758800564:=Nat
def tw12992366906514757651:=Nat
def tw8014301193361641212:=Nat
def tw10565129860888565236:=Nat
def tw2672908755831495129:=Nat
def tw14640208041556593548:=Nat
def tw1732181099301208827:=Nat
def tw8916126379972024329:=Nat
def tw9689736055754035659:=Nat
def tw13712115736209606169:=Nat
def tw17820584266527054573:=Nat
def tw8312514139518751623:=Nat
def tw17475917239021489051:=Nat
def tw8706239037967483589:=Nat
def tw16461260221003156034:=Nat
def tw16154305917694406760:=Nat
def tw5807898609900398317:=Nat
def tw9312336518528756688:=Nat
def tw3018352860384291921:=Nat
def tw9771220207288989268:=Nat
def tw3823755310702999354:=Nat
def tw9310918514257428214:=Nat
def tw8148991109443391004:=Nat
def tw7028701415402207081:=Nat
def tw10948347451372956104:=Nat
def tw259216986018486776:=Nat
def tw693662621724948998:=Nat
def tw15238121195138444806:=Nat
def tw3862360448206626928:=Nat
def tw13535976977030520334:=Nat
def tw16248107957490648118:=Nat
def tw5737196137595959773:=Nat
def tw4129713190419891397:=Nat
def tw15624094365825846541:=Nat
def tw3969888019364352726:=Nat
def tw11153275091821713467:=Nat
def tw8619312252614160000:=Nat
def tw7665012189183374849:=Nat
def tw4006265338565956293:=Nat
def tw1443506087066545567:=Nat
def tw14914612443343981116:=Nat
def tw9645808041323612465:=Nat
def tw13032450541341856696:=Nat
def tw5237225373658909598:=Nat
def tw14680023495365952549:=Nat
def tw16160827807381277467:=Nat
def tw3153458688800706227:=Nat
def tw5411128381016109760:=Nat
def tw6199261796474809616:=Nat
def tw17120185518876286564:=Nat
def tw5341940125690813106:=Nat
def tw14173290505043173800:=Nat
def tw10750818851266500856:=Nat
def tw12484526078109857022:=Nat
def tw11959337625762553187:=Nat
def tw9398104555134539896:=Nat
def tw18022076403031308754:=Nat
def tw18027691997370158001:=Nat
def tw924385586012529488:=Nat
def tw12399275485016872145:=Nat
def tw11539138445368846186:=Nat
def tw6035937916764063237:=Nat
def tw1930482640073122475:=Nat
def tw5614605163986761047:=Nat
def tw13887795421255644920:=Nat
def tw16887492605519864515:=Nat
def tw5300075683695832633:=Nat
def tw15332763415076486030:=Nat
def tw7562063954208212907:=Nat
def tw9975651980282400527:=Nat
def tw13136579458116682092:=Nat
def tw13217951092351058755:=Nat
def tw2815071037703333413:=Nat
def tw13063105231730888163:=Nat
def tw1072233961853465260:=Nat
def tw16269090495164828040:=Nat
def tw6125310129227172641:=Nat
def tw18021279545565423652:=Nat
def tw8836248473220146309:=Nat
def tw2175339692687468536:=Nat
def tw13089183686635778262:=Nat
def tw11859960191382462830:=Nat
def tw17702341718774871120:=Nat
def tw14138935576322060090:=Nat
def tw12424666296458944417:=Nat
def tw6290456363348632732:=Nat
def tw7478339400310486808:=Nat
def tw1268258316415731353:=Nat
def tw5297327709124446552:=Nat
def tw6637513083729008106:=Nat
def tw9343895398179894126:=Nat
def tw6975973460155709193:=Nat
def tw4095247529818934701:=Nat
def tw7252150478484035150:=Nat
def tw14868661216984366290:=Nat
def tw18185336112688538391:=Nat
def tw8671489753325318316:=Nat
def tw6558509938223381264:=Nat
def tw13197225512057215777:=Nat
def tw7072704488016682284:=Nat
def tw7823468932926049693:=Nat
def tw15802065043378442754:=Nat
def tw4126288611273327389:=Nat
def tw759869176795152402:=Nat
def tw16449750933722794739:=Nat
def tw10176473893169367816:=Nat
def tw8140508057300342892:=Nat
def tw2263585513725762495:=Nat
def tw2470869802946262116:=Nat
def tw2272214331454381841:=Nat
def tw15645932444524861526:=Nat
def tw3877282143059325550:=Nat
def tw612464808235446124:=Nat
def tw16620846294527973409:=Nat
def tw10096888931758172205:=Nat
def tw17024000456753866928:=Nat
def tw17640777255102992664:=Nat
def tw13896667254916354623:=Nat
def tw2486627014908831561:=Nat
def tw15188637655332926312:=Nat
def tw83495613014247524:=Nat
def tw3791472986085304775:=Nat
def tw5993565926740204549:=Nat
def tw1055433681508542118:=Nat
def tw7697725158866606606:=Nat
def tw3851036744972274869:=Nat
def tw15427169494677825232:=Nat
def tw14102465338667895648:=Nat
def tw4022980296171383707:=Nat
def tw2208904477288055007:=Nat
def tw6367537424915722052:=Nat
def tw4598750139571032237:=Nat
def tw16172586920249539418:=Nat
def tw7543674839294887998:=Nat
def tw1303911709928356052:=Nat
def tw16533636416958427402:=Nat
def tw1443445260921329743:=Nat
def tw6952983053697475601:=Nat
def tw6469477038278998159:=Nat
def tw13156846860847905590:=Nat
def tw3723040500975263041:=Nat
def tw11018081721520229768:=Nat
def tw9406149852475292135:=Nat
def tw10587482235035049840:=Nat
def tw16094723342490915937:=Nat
def tw16209761019011831835:=Nat
def tw8498961711331249400:=Nat
def tw1436849544470495008:=Nat
def tw6961942884535659876:=Nat
def tw15568307126835708427:=Nat
def tw579186252966571655:=Nat
def tw14929744637646758339:=Nat
def tw9213943679153429932:=Nat
def tw16086094152900629427:=Nat
def tw14068599706891158997:=Nat
def tw1369252628092161629:=Nat
def tw13281191942577802409:=Nat
def tw1923143610371001193:=Nat
def tw2956945593567143749:=Nat
def tw1360538316868114093:=Nat
def tw18115167902965698452:=Nat
def tw14748399849302575065:=Nat
def tw8291607836190487072:=Nat
def tw16388776471220486561:=Nat
def tw13755568777403438014:=Nat
def tw2321859419966232769:=Nat
def tw8631471071458207981:=Nat
def tw6424099206855273443:=Nat
def tw10492235610290892898:=Nat
def tw8894779986432029263:=Nat
def tw11862027022745761973:=Nat
def tw4295549011072242594:=Nat
def tw6027373650690473718:=Nat
def tw12265203764018474400:=Nat
def tw10345603465916036286:=Nat
def tw16575753370935788444:=Nat
def tw4893730270066299757:=Nat
def tw17374388791840184694:=Nat
def tw3401209365388890231:=Nat
def tw4933935660472781744:=Nat
def tw12131870725007125960:=Nat
def tw7813335775812451179:=Nat
def tw14289911855460601007:=Nat
def tw10916843113117619938:=Nat
def tw13919874797298124633:=Nat
def tw3451111450033541477:=Nat
def tw4861341036509285222:=Nat
def tw7943310338745678676:=Nat
def tw15005597531004118994:=Nat
def tw18220031328578150979:=Nat
def tw16021450786674229716:=Nat
def tw6329291869213012353:=Nat
def tw18234800569575719225:=Nat
def tw4415630482006398809:=Nat
def tw16925874093622945977:=Nat
def tw11093148227827939246:=Nat
def tw3812544063204444812:=Nat
def tw12944960360044474315:=Nat
def tw674287638324943718:=Nat
def tw1015344163831304555:=Nat
def tw2125990663619508340:=Nat
def tw16292494444090209939:=Nat
def tw4466532693999441506:=Nat
def tw12738156731808512405:=Nat
def tw3532689138267255794:=Nat
def tw9871095378674327855:=Nat
def tw16485643886221573588:=Nat
def tw15793500246879909204:=Nat
def tw2458145812887576582:=Nat
def tw7750314805318277558:=Nat
def tw7204136254963041107:=Nat
def tw11481954945574166575:=Nat
def tw3478090022624115351:=Nat
end PySem.W.Fast
open PySem PySem.W PyProof.Rows
set_option maxRecDepth 100000 in
set_option maxHeartbeats 0 in
theorem PySem.Challenge.cw_voucherstack_k55_whole_looks_against_all_holds : PySem.Challenge.rw_voucherstack_k55_whole_looks_against_all.Holds := by
 w_on;o_law;k_head;(case hw=>w_witness2)
 k_fill
 refine L2.walkT2_of (l:=PySem.Challenge.rw_voucherstack_k55_whole_looks_against_all) (k:=22) (x:="_law_script") rfl rfl ⟨rfl,by decide,by decide⟩ (fun w h Y=>PySem.W.km_in_of Y) (fun w h Y=>PySem.W.km_tabs_of Y) ?F
 case F=>
  intro w mg fa h KX G hmg
  refine' Vs.all_mk KX G hmg ?Nj ?Ni ?Ju ?Nk ?Np ?J5 ?Nm ?Nl ?Js ?Jp ?JJ ?Jr ?afalling_groups ?lfalling_groups ?cfalling_groups ?kfalling_groups ?JB ?J7 ?Jv ?Nb ?Nh ?Nd ?Jx ?JC ?JH ?Jo ?J4 ?afirst_use ?lfirst_use ?cfirst_use ?kfirst_use ?JI ?JM ?JL ?JS ?Jy ?Jn ?Jt ?Nf ?Ng ?JN ?Na ?JZ ?JE ?JQ ?JD ?JO ?JW ?JV ?JG ?J0 ?J9 ?JU ?JR ?JT ?JK ?JX ?Nc ?J6 ?alaw ?llaw ?claw ?klaw ?aMarks ?imMarks ?isMarks ?iyMarks ?inX ?itX ?pgMarks ?hdMarks ?poMarks ?saMarks ?mkMarks ?kcMarks ?iaMarks ?nMarks_kind ?nMarks_needs ?nMarks_most ?nMarks_member ?nMarks_once ?nMarks_lone ?hMarks_init ?iMarks_init ?lMarks_init ?cMarks_init ?kMarks_init ?tMarks_init ?aVoucher ?imVoucher ?isVoucher ?iyVoucher ?pgVoucher ?hdVoucher ?poVoucher ?saVoucher ?mkVoucher ?kcVoucher ?iaVoucher ?hVoucher_init ?iVoucher_init ?lVoucher_init ?cVoucher_init ?kVoucher_init ?tVoucher_init ?aOff ?imOff ?isOff ?iyOff ?pgOff ?hdOff ?poOff ?saOff ?mkOff ?kcOff ?iaOff ?nOff_amount ?nOff_marks ?hOff_init ?iOff_init ?lOff_init ?cOff_init ?kOff_init ?tOff_init ?aShare ?imShare ?isShare ?iyShare ?pgShare ?hdShare ?poShare ?saShare ?mkShare ?kcShare ?iaShare ?nShare_share ?nShare_by_line ?nShare_marks ?hShare_init ?iShare_init ?lShare_init ?cShare_init ?kShare_init ?tShare_init ?aCheapest ?imCheapest ?isCheapest ?iyCheapest ?pgCheapest ?hdCheapest ?poCheapest ?saCheapest ?mkCheapest ?kcCheapest ?iaCheapest ?nCheapest_many ?nCheapest_marks ?hCheapest_init ?iCheapest_init ?lCheapest_init ?cCheapest_init ?kCheapest_init ?tCheapest_init ?aBundle ?imBundle ?isBundle ?iyBundle ?pgBundle ?hdBundle ?poBundle ?saBundle ?mkBundle ?kcBundle ?iaBundle ?nBundle_many ?nBundle_price ?nBundle_marks ?hBundle_init ?iBundle_init ?lBundle_init ?cBundle_init ?kBundle_init ?tBundle_init ?aCarriage ?imCarriage ?isCarriage ?iyCarriage ?pgCarriage ?hdCarriage ?poCarriage ?saCarriage ?mkCarriage ?kcCarriage ?iaCarriage ?nCarriage_marks ?hCarriage_init ?iCarriage_init ?lCarriage_init ?cCarriage_init ?kCarriage_init ?tCarriage_init ?aLine ?imLine ?isLine ?iyLine ?pgLine ?hdLine ?poLine ?saLine ?mkLine ?kcLine ?iaLine ?nLine_kind ?nLine_price ?nLine_many ?nLine_special ?hLine_init ?iLine_init ?lLine_init ?cLine_init ?kLine_init ?tLine_init ?aBasket ?imBasket ?isBasket ?iyBasket ?pgBasket ?hdBasket ?poBasket ?saBasket ?mkBasket ?kcBasket ?iaBasket ?nBasket_lines ?nBasket_carriage ?nBasket_member ?hBasket_init ?iBasket_init ?lBasket_init ?cBasket_init ?kBasket_init ?tBasket_init ?aStanding ?imStanding ?isStanding ?iyStanding ?pgStanding ?hdStanding ?poStanding ?saStanding ?mkStanding ?kcStanding ?iaStanding ?nStanding_owners ?nStanding_prices ?nStanding_carriage ?nStanding_marked ?Jw ?Jq ?aWay ?imWay ?isWay ?iyWay ?pgWay ?hdWay ?poWay ?saWay ?mkWay ?kcWay ?iaWay ?nWay_till ?nWay_basket ?nWay_hand ?nWay_used ?nWay_standing ?J8 ?JF ?JP ?Jz ?JA ?aBill ?imBill ?isBill ?iyBill ?pgBill ?hdBill ?poBill ?saBill ?mkBill ?kcBill ?iaBill ?nBill_order ?nBill_steps ?nBill_prices ?nBill_carriage ?nBill_total ?JY ?aTill ?imTill ?isTill ?iyTill ?pgTill ?hdTill ?poTill ?saTill ?mkTill ?kcTill ?iaTill ?nTill_parents ?nTill_vouchers ?nTill_rules ?nTill_back ?hTill_init ?iTill_init ?lTill_init ?cTill_init ?kTill_init ?tTill_init ?rdVoucher_init ?gaVoucher_init ?fcVoucher_init ?qOff_Carriage ?qShare_Carriage ?qCheapest_Carriage ?qBundle_Carriage ?qShare_Off ?qCheapest_Off ?qBundle_Off ?qCarriage_Off ?qOff_Share ?qCheapest_Share ?qBundle_Share ?qCarriage_Share ?qOff_Cheapest ?qShare_Cheapest ?qBundle_Cheapest ?qCarriage_Cheapest ?qOff_Bundle ?qShare_Bundle ?qCheapest_Bundle ?qCarriage_Bundle ?qafalling_groups ?qbfalling_groups ?qcfalling_groups ?qdfalling_groups ?qefalling_groups ?qffalling_groups ?qgfalling_groups ?qhfalling_groups ?qifalling_groups ?qjfalling_groups ?qkfalling_groups ?qlfalling_groups ?qafirst_use ?qbfirst_use ?qcfirst_use ?qdfirst_use ?qefirst_use ?qffirst_use ?qgfirst_use ?qhfirst_use ?qifirst_use ?qjfirst_use ?qkfirst_use ?qlfirst_use ?z1 ?z2 ?z3 ?z4 ?z5 ?z6 ?z7 ?z8 ?z9 ?z10 ?z11 ?z12 ?z13 ?z14 ?z15 ?z16 ?z17 ?z18
  any_goals k_is
  exists Nj,Vs.nL2 fun _ _=>rfl,0,0,0
  exists Ni,Vs.nL3 fun _ _ _=>rfl,0,0,0
  exists Ju,Vs.nL2 fun _ _=>rfl,0,0,0
  exists Nk,Vs.nL4 fun _ _ _ _=>rfl,0,0,0
  exists Np,Vs.nL4 fun _ _ _ _=>rfl,0,0,0
  exists J5,Vs.nL4 fun _ _ _ _=>rfl,0,0,0
  exists Nm,Vs.nL4 fun _ _ _ _=>rfl,0,0,0
  exists Nl,Vs.nL4 fun _ _ _ _=>rfl,0,0,0
  exists Js,Vs.nL4 fun _ _ _ _=>rfl,0,0,0
  exists Jp,Vs.nL2 fun _ _=>rfl,0,0,0
  exists JJ,Vs.nL3 fun _ _ _=>rfl,0,0,0
  exists Jr,Vs.nL2 fun _ _=>rfl,0,0,0
  exists JB,Vs.nL3 fun _ _ _=>rfl,0,0,0
  exists J7,Vs.nL2 fun _ _=>rfl,0,0,0
  exists Jv,Vs.nL2 fun _ _=>rfl,0,0,0
  exists Nb,Vs.nL2 fun _ _=>rfl,0,0,0
  exists Nh,Vs.nL4 fun _ _ _ _=>rfl,0,0,0
  exists Nd,Vs.nL4 fun _ _ _ _=>rfl,0,0,0
  exists Jx,Vs.nL4 fun _ _ _ _=>rfl,0,0,0
  exists JC,Vs.nL3 fun _ _ _=>rfl,0,0,0
  exists JH,Vs.nL3 fun _ _ _=>rfl,0,0,0
  exists Jo,Vs.nL2 fun _ _=>rfl,0,0,0
  exists J4,Vs.nL1 fun _=>rfl,0,0,0
  exists JI,Vs.nL2 fun _ _=>rfl,0,0,0
  exists JM,Vs.nL2 fun _ _=>rfl,0,0,0
  exists JL,Vs.nL3 fun _ _ _=>rfl,0,0,0
  exists JS,Vs.nL2 fun _ _=>rfl,0,0,0
  exists Jy,Vs.nL1 fun _=>rfl,0,0,0
  exists Jn,Vs.nL1 fun _=>rfl,0,0,0
  exists Jt,Vs.nL1 fun _=>rfl,0,0,0
  exists Nf,Vs.nL2 fun _ _=>rfl,0,0,0
  exists Ng,Vs.nL4 fun _ _ _ _=>rfl,0,0,0
  exists JN,Vs.nL1 fun _=>rfl,0,0,0
  exists Na,Vs.nL3 fun _ _ _=>rfl,0,0,0
  exists JZ,Vs.nL1 fun _=>rfl,0,0,0
  exists JE,Vs.nL1 fun _=>rfl,0,0,0
  exists JQ,Vs.nL2 fun _ _=>rfl,0,0,0
  exists JD,Vs.nL2 fun _ _=>rfl,0,0,0
  exists JO,Vs.nL2 fun _ _=>rfl,0,0,0
  exists JW,Vs.nL2 fun _ _=>rfl,0,0,0
  exists JV,Vs.nL2 fun _ _=>rfl,0,0,0
  exists JG,Vs.nL3 fun _ _ _=>rfl,0,0,0
  exists J0,Vs.nL2 fun _ _=>rfl,0,0,0
  exists J9,Vs.nL2 fun _ _=>rfl,0,0,0
  exists JU,Vs.nL3 fun _ _ _=>rfl,0,0,0
  exists JR,Vs.nL5 fun _ _ _ _ _=>rfl,0,0,0
  exists JT,Vs.nL3 fun _ _ _=>rfl,0,0,0
  exists JK,Vs.nL3 fun _ _ _=>rfl,0,0,0
  exists JX,Vs.nL2 fun _ _=>rfl,0,0,0
  exists Nc,Vs.nL2 fun _ _=>rfl,0,0,0
  exists J6,Vs.nL2 fun _ _=>rfl,0,0,0
  exists Jw,Vs.nL2 fun _ _=>rfl,0,0,0,0,0
  exists Jq,Vs.nL1 fun _=>rfl,0,0,0,0,0
  exists J8,Vs.nL4 fun _ _ _ _=>rfl,0,0,0,0,0
  exists JF,Vs.nL2 fun _ _=>rfl,0,0,0,0,0
  exists JP,Vs.nL2 fun _ _=>rfl,0,0,0,0,0
  exists Jz,Vs.nL1 fun _=>rfl,0,0,0,0,0
  exists JA,Vs.nL1 fun _=>rfl,0,0,0,0,0
  exists JY,Vs.nL4 fun _ _ _ _=>rfl,0,0,0,0,0
  (try case qafalling_groups=>first|rfl|decide|k_is)
  (try case qbfalling_groups=>k_is)
  (try case qcfalling_groups=>first|rfl|decide|k_is)
  (try case qdfalling_groups=>first|rfl|decide|k_is)
  (try case qefalling_groups=>first|rfl|decide|k_is)
  (try case qffalling_groups=>first|rfl|decide|k_is)
  (try case qgfalling_groups=>first|rfl|decide|k_is)
  (try case qhfalling_groups=>first|rfl|decide|k_is)
  (try case qifalling_groups=>first|rfl|decide|k_is)
  (try case qjfalling_groups=>first|rfl|decide|k_is)
  (try case qkfalling_groups=>first|k_is|rfl|decide|decide +kernel)
  (try case qlfalling_groups=>decide)
  (try case qafirst_use=>first|rfl|decide|k_is)
  (try case qbfirst_use=>k_is)
  (try case qcfirst_use=>first|rfl|decide|k_is)
  (try case qdfirst_use=>first|rfl|decide|k_is)
  (try case qefirst_use=>first|rfl|decide|k_is)
  (try case qffirst_use=>first|rfl|decide|k_is)
  (try case qgfirst_use=>first|rfl|decide|k_is)
  (try case qhfirst_use=>first|rfl|decide|k_is)
  (try case qifirst_use=>first|rfl|decide|k_is)
  (try case qjfirst_use=>first|rfl|decide|k_is)
  (try case qkfirst_use=>first|k_is|rfl|decide|decide +kernel)
  (try case qlfirst_use=>decide)
